import PyProof.Rows.All
import Wide.All
import OpenK.AllK
import Wide.FinOn
import Lean
import PyProof.EqAt
import PyProof.EqKinds
import PyProof.TupleCall
import PyProof.EnumMake
import PyProof.AttrMissHeap
import KE.KDictOf
import KE.KEqDict
import KE.KSortTup
import PySem.SetOps
import PyProof.SetKind
import PyProof.TupleKey
import PyProof.SetNew
import PyProof.Rows.SetFrom
import KE.KDictSum
import PySem.Challenge.RW_namewell_k03_ordered
set_option Elab.async false
set_option linter.all false
set_option compiler.extract_closed false
set_option maxRecDepth 100000
namespace TH
open PySem PySem.W
noncomputable def topT (p : Program) (w : World) (m : Nat) (ann : Option Value) : Nat → SharedT → Thread → Option SharedT
  | 0, _, _ => none
  | n + 1, s, t =>
    match through t with
    | true => some s
    | false =>
      match stepOk m ann t with
      | false => none
      | true =>
        match stepT (denote treeTable) p w s t with
        | none => none
        | some (s', t') => topT p w m ann n s' t'
theorem topT_of {p : Program} {w : World} {m : Nat} {ann : Option Value} : ∀ {n : Nat} {s r : SharedT} {t : Thread},
    topT p w m ann n s t = some r → topRun treeTable p w m ann n s.abs t = some r.abs
  | 0, _, _, _, h => by cases h
  | n + 1, s, r, t, h => by
    unfold topT at h
    unfold topRun
    cases ht : through t with
    | true => rw [ht] at h; cases h; rfl
    | false =>
      rw [ht] at h
      cases hk : stepOk m ann t with
      | false => rw [hk] at h; cases h
      | true =>
        rw [hk] at h
        cases hs : stepT (denote treeTable) p w s t with
        | none => rw [hs] at h; cases h
        | some x =>
          obtain ⟨s₂, t₂⟩ := x
          rw [hs] at h
          rw [stepT_spec hs]
          exact topT_of h
noncomputable def treeL (l : List Obj) : Nat → Nat → Nat → BT
  | 0, _, _ => .nil
  | f + 1, a, b =>
    match l[b]? with
    | some o => .node o (treeL l f (2 * a) (a + b)) (treeL l f (2 * a) (2 * a + b))
    | none => .nil
noncomputable def bootT (P : Params) : BT := treeL (boot_heap P).objs.toList 5 1 0
theorem bootT_abs (P : Params) : absHeap (bootT P) 11 (boot_heap P).life = boot_heap P := by kernel_rfl
theorem boot_size (P : Params) : ((boot_heap P).isNs mainGlobals, (boot_heap P).objs.size, (boot_heap P).nsMap mainGlobals "__annotations__") = (true, 11, some (.ref 6)) := by kernel_rfl
noncomputable def beginT (w : World) (os : OsState) : SharedT := ⟨bootT w.params, 11, (boot_heap w.params).life, Array.mk [], boot_drawn, boot_toks, os⟩
noncomputable def runT (p : Program) (N : Nat) (w : World) (os : OsState) : Option SharedT := topT p w 11 (some (.ref 6)) N (beginT w os) (topStub p)
theorem left_of {p q : Program} {loose : List Str} {Xt : Shared → Bool} {α : Type} {Yf : Shared → α} {Ya : World → α} {N : Nat} {g0 : Bool}
    (e : opening p = plainProg p.main.scope.names) (hN : Nat.ble 600 N = true) (f : ∀ s, fenceModules? p s = some s)
    (c1 : ∀ (w : World) (os : OsState), (runT p N w os).map (fun s => staticsOk (importedModules p.main.body) (boot_heap w.params) s.abs.heap && namesBound p s.abs.heap && gensDone s.abs && laidKept (boot_heap w.params) s.abs.heap) = some true)
    (c2 : ∀ (w : World) (os : OsState), (runT p N w os).map (fun s => openSeen q loose (importedModules p.main.body) Xt g0 s.abs) = some (openGood q loose))
    (c3 : ∀ (w : World) (os : OsState), (runT p N w os).map (fun s => Yf s.abs) = some (Ya w)) : LeftO p q loose Xt Yf Ya N g0 := fun w => by
  obtain ⟨⟨h, gs, d, k, os⟩, e1, e2⟩ := Option.map_eq_some_iff.mp (boot_open e hN f w)
  obtain ⟨rfl, rfl, rfl, rfl⟩ : h = boot_heap w.params ∧ gs = Array.mk [] ∧ d = boot_drawn ∧ k = boot_toks := by simpa using e2
  obtain ⟨r, r1, l1⟩ := Option.map_eq_some_iff.mp (c1 w os)
  have l2 := c2 w os
  have l3 := c3 w os
  rw [r1] at l2 l3
  replace l2 := Option.some.inj l2
  replace l3 := Option.some.inj l3
  obtain ⟨z1, z2, z3⟩ : _ ∧ _ ∧ _ := by simpa only [Prod.mk.injEq] using boot_size w.params
  have t0 := topT_of r1
  have ab : (beginT w os).abs = ⟨boot_heap w.params, Array.mk [], boot_drawn, boot_toks, os⟩ := by
    show Shared.mk (absHeap (bootT w.params) 11 (boot_heap w.params).life) _ _ _ _ = _
    rw [bootT_abs]
    rfl
  rw [ab] at t0
  have t : topFrom treeTable p w N ⟨boot_heap w.params, Array.mk [], boot_drawn, boot_toks, os⟩ = some r.abs := by
    unfold topFrom
    dsimp only
    rw [z1, z2, z3, t0]
    show (match staticsOk (importedModules p.main.body) (boot_heap w.params) r.abs.heap && namesBound p r.abs.heap && gensDone r.abs && laidKept (boot_heap w.params) r.abs.heap with | true => _ | false => _) = _
    rw [l1]
  unfold openEnds
  rw [e1]
  show Option.map _ (topFrom treeTable p w N _) = _
  rw [t]
  refine congrArg some ?_
  exact Prod.ext l2 l3
end TH

set_option Elab.async false
set_option linter.all false
set_option maxRecDepth 100000
namespace TH
open PySem PySem.W
noncomputable abbrev pp : Program := PySem.Challenge.pw_namewell_k03_ordered
noncomputable def qq : Program := view pp ((List.range 8).filter fun i => !([0, 2].contains i))
noncomputable abbrev ll : List Str := []
noncomputable def xt (s : Shared) : Bool := xlAt qq [] s && recOk (RowW.records (OpenRow.toRowW (OpenLaw.row PySem.Challenge.rw_namewell_k03_ordered))) s
theorem left2 (w : World) (os : OsState) : (runT pp 880 w os).map (fun s => openSeen qq ll (importedModules pp.main.body) xt true s.abs) = some (openGood qq ll) := by kernel_rfl
theorem left1 (w : World) (os : OsState) : (runT pp 880 w os).map (fun s => staticsOk (importedModules pp.main.body) (boot_heap w.params) s.abs.heap && namesBound pp s.abs.heap && gensDone s.abs && laidKept (boot_heap w.params) s.abs.heap) = some true := by kernel_rfl
local macro_rules | `(tactic| o_head $H) => `(tactic| (
  refine holds_open (r := OpenLaw.row PySem.Challenge.rw_namewell_k03_ordered) (q := qq) (loose := ll) (N := 880) (Xt := xt) (XP := XL qq [])
    (Ya := Hook.val $H) (Yf := Hook.obs $H) (YP := Hook.says $H) ?hl (Hook.of $H) (Hook.keeps $H)
    (fun s e => xl_of s (Bool.and_eq_true_iff.mp e).1) XL.keeps (by rfl) (by rfl) (by rfl) (fun s e => recFacts_of (Bool.and_eq_true_iff.mp e).2)
    (by rfl) (by assumption) (by decide +kernel) ⟨rfl, rfl, rfl, rfl, rfl, by decide +kernel⟩ ?hw ?hc
  (case hl => exact left_of (by kernel_rfl) (by rfl) (fun s => by kernel_rfl) left1 left2 (fun w os => by kernel_rfl))))
set_option maxHeartbeats 0 in
theorem said0 : OpenLaw.wellSaid PySem.Challenge.rw_namewell_k03_ordered = true := by kernel_rfl
set_option maxHeartbeats 0 in
noncomputable def pack : { A : Prop // A → PySem.Challenge.rw_namewell_k03_ordered.Holds } := by
  refine ⟨?_, ?_⟩; rotate_left
  · intro hA; w_on; refine holds_law said0 fun said => ?_; k_head; (case hw => w_witness2); exact hA
end TH

set_option Elab.async false
set_option linter.all false
set_option maxRecDepth 100000
namespace NK
open PySem PySem.Spec
section
variable {K : Type} [DecidableEq K] {prog : Program} {w : World}
noncomputable abbrev Key3 (K : Type) := K × List K × List K
noncomputable def partOk (kd : KeyKind prog w K) (h : Heap) : K ⊕ List K → Value → Prop
  | .inl k, v => kd.is k v = true
  | .inr ks, v => ∃ b, v = .ref b ∧ IsTupleKey kd h ks b
inductive PartsOk (kd : KeyKind prog w K) (h : Heap) : List (K ⊕ List K) → List Value → Prop
  | nil : PartsOk kd h [] []
  | cons {p : K ⊕ List K} {v : Value} {ps : List (K ⊕ List K)} {vs : List Value} : partOk kd h p v → PartsOk kd h ps vs → PartsOk kd h (p :: ps) (v :: vs)
noncomputable def NestAt (kd : KeyKind prog w K) (h : Heap) (ps : List (K ⊕ List K)) (a : Addr) : Prop :=
  ∃ o xs n, h.get? a = some o ∧ o.cls = .type "tuple" ∧ o.data = .seq xs n ∧ PartsOk kd h ps xs.toList
inductive Alike : List (K ⊕ List K) → List (K ⊕ List K) → Prop
  | nilL {q} : Alike [] q
  | nilR {p} : Alike p []
  | l {a b : K} {p q} : Alike p q → Alike (.inl a :: p) (.inl b :: q)
  | r {a b : List K} {p q} : Alike p q → Alike (.inr a :: p) (.inr b :: q)
noncomputable def pHash (kd : KeyKind prog w K) : K ⊕ List K → Int
  | .inl k => kd.hash k
  | .inr ks => tupleKeyHash kd ks
noncomputable def pDraws : K ⊕ List K → Nat
  | .inl _ => 1
  | .inr ks => ks.length + 1
noncomputable def pSum (ps : List (K ⊕ List K)) : Nat := (ps.map pDraws).foldr (· + ·) 0
variable {kd : KeyKind prog w K}
theorem pSum_snoc (ps : List (K ⊕ List K)) (p : K ⊕ List K) : pSum (ps ++ [p]) = pSum ps + pDraws p := by
  induction ps with
  | nil => simp [pSum]
  | cons q r ih => simp only [pSum, List.cons_append, List.map_cons, List.foldr_cons] at ih ⊢; omega
theorem part_inj {h : Heap} {p q : K ⊕ List K} {v : Value} (x : partOk kd h p v) (y : partOk kd h q v) : p = q := by
  cases p with
  | inl a =>
    cases q with
    | inl b => exact congrArg Sum.inl (kd.inj _ _ _ x y)
    | inr b =>
      obtain ⟨c, rfl, _⟩ := y
      have := kd.byValue _ _ x
      simp [carriedByValue] at this
  | inr a =>
    obtain ⟨c, rfl, z⟩ := x
    cases q with
    | inl b =>
      have := kd.byValue _ _ y
      simp [carriedByValue] at this
    | inr b =>
      obtain ⟨c', e, z'⟩ := y
      cases e
      exact congrArg Sum.inr (z.inj z')
theorem parts_inj {h : Heap} {p q : List (K ⊕ List K)} {vs : List Value} (x : PartsOk kd h p vs) (y : PartsOk kd h q vs) : p = q := by
  induction x generalizing q with
  | nil => cases y; rfl
  | cons a _ ih =>
    cases y with
    | cons b c => rw [part_inj a b, ih c]
theorem nest_inj {h : Heap} {p q : List (K ⊕ List K)} {a : Addr} (x : NestAt kd h p a) (y : NestAt kd h q a) : p = q := by
  obtain ⟨o, xs, n, h1, _, h2, h3⟩ := x
  obtain ⟨o', xs', n', g1, _, g2, g3⟩ := y
  have e : o = o' := Option.some.inj (h1.symm.trans g1)
  subst e
  rw [h2] at g2
  injection g2 with e1 _
  subst e1
  exact parts_inj h3 g3
theorem part_keeps {h h' : Heap} {d : Addr} {o : Obj} {es ep} (ho : h.get? d = some o) (hd : o.data = .dict es ep) (hs : Heap.SameBut d h h') {p : K ⊕ List K} {v : Value} (x : partOk kd h p v) : partOk kd h' p v := by
  cases p with
  | inl a => exact x
  | inr a => obtain ⟨c, rfl, z⟩ := x; exact ⟨c, rfl, z.keeps ho hd hs⟩
theorem parts_keeps {h h' : Heap} {d : Addr} {o : Obj} {es ep} (ho : h.get? d = some o) (hd : o.data = .dict es ep) (hs : Heap.SameBut d h h') {p : List (K ⊕ List K)} {vs : List Value} (x : PartsOk kd h p vs) : PartsOk kd h' p vs := by
  induction x with
  | nil => exact .nil
  | cons a _ ih => exact .cons (part_keeps ho hd hs a) ih
theorem nest_keeps {h h' : Heap} {d : Addr} {o : Obj} {es ep} (ho : h.get? d = some o) (hd : o.data = .dict es ep) (hs : Heap.SameBut d h h') {p : List (K ⊕ List K)} {a : Addr} (x : NestAt kd h p a) : NestAt kd h' p a := by
  obtain ⟨o', xs, n, h1, hc, h2, h3⟩ := x
  have ne : a ≠ d := by
    rintro rfl
    have e : o' = o := Option.some.inj (h1.symm.trans ho)
    subst e
    rw [hd] at h2
    exact nomatch h2
  exact ⟨o', xs, n, (hs.2 a ne).trans h1, hc, h2, parts_keeps ho hd hs h3⟩
theorem nest_type {s : Shared} {p : List (K ⊕ List K)} {a : Addr} (x : NestAt kd s.heap p a) : s.TypeIs (.ref a) "tuple" := let ⟨o, _, _, h1, hc, _⟩ := x; ⟨o, h1, hc⟩
variable {A : Around} {E : Value → Shared → Prop}
noncomputable def nHash (kd : KeyKind prog w K) (ps : List (K ⊕ List K)) : Int := reduceHash (Builtin.Tuple.tupleHashOf (ps.map (pHash kd)))
section walks
variable {s : Shared} {a : Addr} {ob : Obj} {xs : Array Value} {n : Nat}
theorem quiet_parts {m : Nat} {Q : Bool → Shared → Prop} (ho : s.heap.get? a = some ob) (hc : ob.cls = .type "tuple") (hd : ob.data = .seq xs n)
    (each : ∀ v ∈ xs.toList, ∀ Z : Bool → Shared → Prop, Z true s → wpAny (model prog w) A (eqIsQuiet m v) Z E s) (h : Q true s) : wpAny (model prog w) A (eqIsQuiet (m + 1) (.ref a)) Q E s := by
  have ty : s.TypeIs (.ref a) "tuple" := ⟨ob, ho, hc⟩
  unfold eqIsQuiet
  refine wpAny_bind (wpAny_specialOf ty F.slot_tuple_eq.lookup (wpAny_bind (wpAny_isInstance ty isSubtype_tuple_tuple (wpAny_bind (wpAny_seqItems ho hd (wpAny_bind ?_))))))
  show wpAny _ _ (forIn xs _ _) _ _ s
  rw [← Array.forIn_toList]
  refine wpAny_forIn_list _ (fun rest r s' => r.1 = none ∧ s' = s ∧ rest ⊆ xs.toList) _ (fun v rest r s' => ?_) (fun r s' => ?_) _ _ ⟨rfl, rfl, List.Subset.refl _⟩
  · rintro ⟨_, rfl, sub⟩
    exact wpAny_bind (each v (sub List.mem_cons_self) _ (wpAny_pure ⟨rfl, rfl, fun u hu => sub (List.mem_cons_of_mem _ hu)⟩))
  · obtain ⟨r1, r2⟩ := r
    rintro ⟨hr, rfl, _⟩
    cases hr
    exact wpAny_pure h
theorem reduced_is {z : Int} {Q : Int → Shared → Prop} {s : Shared} (h : Q (reduceHash z) s) : wpAny (model prog w) A (pyHashByItsType.reduced z) Q E s := by
  unfold pyHashByItsType.reduced
  unfold reduceHash at h
  split
  · rename_i c
    rw [if_pos c] at h
    exact wpAny_pure h
  · rename_i c
    rw [if_neg c] at h
    refine wpAny_bind (wpAny_rule ?_)
    exact wpAny_pure h
theorem hash_parts {ps : List (K ⊕ List K)} {Q : Int → Shared → Prop} (hu : A.units + 1 < cLine) (ho : s.heap.get? a = some ob) (hc : ob.cls = .type "tuple") (hd : ob.data = .seq xs n) (hl : PartsOk kd s.heap ps xs.toList)
    (each : ∀ (p : K ⊕ List K) (v : Value) (A' : Around) (E' : Value → Shared → Prop) (k : Nat) (Z : Int → Shared → Prop), A'.units ≤ A.units + 1 → partOk kd s.heap p v → Z (pHash kd p) { s with toks := s.toks + k + pDraws p } →
      wpAny (model prog w) A' (pyHash v) Z E' { s with toks := s.toks + k })
    (h : Q (nHash kd ps) { s with toks := s.toks + (pSum ps + 1) }) : wpAny (model prog w) A (pyHash (.ref a)) Q E s := by
  have ty : s.TypeIs (.ref a) "tuple" := ⟨ob, ho, hc⟩
  unfold pyHash pyHashByItsType
  refine wpAny_bind (wpAny_cRoomFor_or (.inr (by omega)) (wpAny_bind (wpAny_specialOf ty F.slot_tuple_hash.lookup ?_)))
  refine Eq.mpr (congrArg (fun x => wpAny (model prog w) A x Q E s) (if_neg (by rw [beq_builtin_none]; decide))) ?_
  refine wpAny_bind (wpAny_specialOf ty F.slot_tuple_hash.lookup (wpAny_bind (wpAny_callSpecialIfBoundUnlessNone?_slot ty F.slot_tuple_hash (wpAny_call_entry F.slot_tuple_hash ty F.entry_tuple_hash ?tree (F.args_tuple_hash_1 _)))))
  refine (show wpAny (model prog w) A.in1 (Builtin.Tuple.tupleItemsOf (.ref a) >>= _) _ _ s from wpAny_bind (wpAny_tupleItemsOf ho hd (wpAny_bind ?_)))
  rw [← Array.forIn_toList]
  refine wpAny_forIn_list _ (fun rest (b : Array Int) s' => ∃ pre post, ps = pre ++ post ∧ PartsOk kd s.heap post rest ∧ b.toList = pre.map (pHash kd) ∧ s' = { s with toks := s.toks + pSum pre }) _ (fun v rest b s' z => ?_) (fun b s' z => ?_) _ _ ⟨[], ps, rfl, hl, rfl, rfl⟩
  · obtain ⟨pre, post, rfl, hp, hb, rfl⟩ := z
    cases hp with
    | @cons p _ ps' _ g1 g2 =>
      refine wpAny_bind (each p v _ _ (pSum pre) _ (Nat.le_refl _) g1 ?_)
      have nxt : ∃ pre' post', pre ++ p :: ps' = pre' ++ post' ∧ PartsOk kd s.heap post' rest ∧ (b.push (pHash kd p)).toList = pre'.map (pHash kd) ∧ ({ s with toks := s.toks + pSum pre + pDraws p } : Shared) = { s with toks := s.toks + pSum pre' } :=
        ⟨pre ++ [p], ps', by simp, g2, by simp [hb], by rw [pSum_snoc, Nat.add_assoc]⟩
      first
        | exact wpAny_pure nxt
        | exact wpAny_bind (wpAny_pure (wpAny_pure nxt))
  · obtain ⟨pre, post, rfl, hp, hb, rfl⟩ := z
    cases hp
    rw [List.append_nil] at h
    dsimp only
    rw [hb]
    exact wpAny_ret_mkInt (reduced_is (by rw [Nat.add_assoc]; exact h))
end walks
theorem nest_hash {s : Shared} {a : Addr} {ps : List (K ⊕ List K)} {Q : Int → Shared → Prop} (hu : A.units + 1 < cLine) (hk : NestAt kd s.heap ps a) (h : Q (nHash kd ps) { s with toks := s.toks + (pSum ps + 1) }) : wpAny (model prog w) A (pyHash (.ref a)) Q E s := by
  obtain ⟨o, xs, n, ho, hc, hd, hi⟩ := hk
  refine hash_parts hu ho hc hd hi (fun p v A' E' k Z hA hp hz => ?_) h
  cases p with
  | inl b => exact kd.pyHash hp hz
  | inr b => obtain ⟨c, rfl, z⟩ := hp; exact wpAny_pyHash_tuple (by omega) z hz
theorem nest_quiet {s : Shared} {a : Addr} {m : Nat} {ps : List (K ⊕ List K)} {Q : Bool → Shared → Prop} (hk : NestAt kd s.heap ps a) (h : Q true s) : wpAny (model prog w) A (eqIsQuiet (m + 2) (.ref a)) Q E s := by
  obtain ⟨o, xs, n, ho, hc, hd, hi⟩ := hk
  have val : ∀ (j : Nat) (v : Value) (Z : Bool → Shared → Prop), carriedByValue v = true → Z true s → wpAny (model prog w) A (eqIsQuiet j v) Z E s := fun j v Z hv hz => by rw [eqIsQuiet_byValue _ hv]; exact wpAny_pure hz
  refine quiet_parts ho hc hd (fun v hv Z hz => ?_) h
  clear ho hd h
  generalize xs.toList = l at hi hv
  induction hi with
  | nil => cases hv
  | @cons p u _ _ g1 g2 ih =>
    rcases List.mem_cons.mp hv with e | e
    · subst e
      cases p with
      | inl b => exact val _ _ _ (kd.byValue _ _ g1) hz
      | inr b =>
        obtain ⟨c, rfl, o', ys, n', h1, h2, h3, h4⟩ := g1
        exact quiet_parts h1 h2 h3 (fun x hx Y hy => val _ _ _ (h4.byValue x hx) hy) hz
    · exact ih e
theorem part_eq {s : Shared} {p q : K ⊕ List K} {u v : Value} {Q : Bool → Shared → Prop} (hu : A.units < cLine) (hp : partOk kd s.heap p u) (hq : partOk kd s.heap q v) (al : Alike [p] [q]) (h : Q (decide (p = q)) s) : wpAny (model prog w) A (eqBool u v) Q E s := by
  cases al with
  | l _ => exact kd.eqBool hp hq (by simpa using h)
  | r _ =>
    obtain ⟨b, rfl, z⟩ := hp
    obtain ⟨c, rfl, z'⟩ := hq
    exact wpAny_eqBool_tuple hu z z' (by simpa using h)
theorem parts_len {h : Heap} {ps : List (K ⊕ List K)} {vs : List Value} (x : PartsOk kd h ps vs) : ps.length = vs.length := by
  induction x with
  | nil => rfl
  | cons _ _ hi => simp only [List.length_cons, hi]
theorem eq_walk {s : Shared} {x y : List (K ⊕ List K)} {a b : Addr} {P : Fin → Shared → Prop} (hu : A.units < cLine) (al : Alike x y) (hx : NestAt kd s.heap x a) (hy : NestAt kd s.heap y b) (h : P (.done (.ret (.bool (decide (x = y))))) s) :
    wpAny (model prog w) A (Builtin.«tuple.__eq__» { pos := [.ref a, .ref b], kw := [] }) P E s := by
  have tb := nest_type hy
  obtain ⟨o1, xs, n1, g1, -, g2, px⟩ := hx
  obtain ⟨o2, ys, n2, k1, -, k2, py⟩ := hy
  refine (show wpAny (model prog w) A (isInstance (Value.ref b) (Value.type "tuple") >>= _) P E s from wpAny_bind (wpAny_isInstance tb isSubtype_tuple_tuple (wpAny_bind (wpAny_tupleItemsOf g1 g2 (wpAny_bind (wpAny_tupleItemsOf k1 k2 (wpAny_bind ?_)))))))
  have lx := parts_len px
  have ly := parts_len py
  refine wpAny_forIn_list _ (fun rest r s' => r.1 = none ∧ s' = s ∧ ∃ c x2 y2 us vs, x = c ++ x2 ∧ y = c ++ y2 ∧ Alike x2 y2 ∧ PartsOk kd s.heap x2 us ∧ PartsOk kd s.heap y2 vs ∧ rest = List.zip us vs) _ (fun uv rest r s' z => ?_) (fun r s' z => ?_) _ _
    ⟨rfl, rfl, [], x, y, _, _, rfl, rfl, al, px, py, rfl⟩
  · obtain ⟨_, rfl, c, x2, y2, us, vs, ex, ey, al2, p2, q2, ez⟩ := z
    cases p2 with
    | nil => cases ez
    | @cons p u x3 us' h1 p3 =>
      cases q2 with
      | nil => cases ez
      | @cons q v y3 vs' h2 q3 =>
        rw [List.zip_cons_cons] at ez
        injection ez with e1 e2
        subst e1 e2
        have both : Alike [p] [q] ∧ Alike x3 y3 := by
          cases al2 with
          | l z => exact ⟨.l .nilL, z⟩
          | r z => exact ⟨.r .nilL, z⟩
        refine wpAny_bind (part_eq hu h1 h2 both.1 ?_)
        by_cases e : p = q
        · subst e
          rw [decide_eq_true rfl]
          exact wpAny_pure ⟨rfl, rfl, c ++ [p], x3, y3, us', vs', by rw [ex]; simp, by rw [ey]; simp, both.2, p3, q3, rfl⟩
        · rw [decide_eq_false e]
          have ne : ¬ x = y := by
            rw [ex, ey]
            intro z
            have := List.append_cancel_left z
            injection this with z1 _
            exact e z1
          rw [decide_eq_false ne] at h
          refine wpAny_bind (wpAny_pure ?_)
          refine wpAny_pure (wpAny_pure h)
  · obtain ⟨rn, rfl, c, x2, y2, us, vs, ex, ey, -, p2, q2, ez⟩ := z
    obtain ⟨r1, r2⟩ := r
    cases rn
    have sz : (xs.size == ys.size) = decide (x = y) := by
      have a1 : xs.size = c.length + x2.length := by rw [← Array.length_toList, ← lx, ex, List.length_append]
      have a2 : ys.size = c.length + y2.length := by rw [← Array.length_toList, ← ly, ey, List.length_append]
      cases p2 with
      | nil =>
        cases q2 with
        | nil => rw [ex, ey, a1, a2]; simp
        | cons _ _ =>
          rw [a1, a2, ex, ey]
          simp
      | cons _ _ =>
        cases q2 with
        | nil =>
          rw [a1, a2, ex, ey]
          simp
        | cons _ _ => cases ez
    refine wpAny_pure ?_
    have fin : P (Fin.done (Flow.ret (Value.bool (xs.size == ys.size)))) s' := by rw [sz]; exact h
    exact fin
theorem nest_eq {s : Shared} {x y : List (K ⊕ List K)} {a b : Addr} {Q : Bool → Shared → Prop} (hu : A.units + 1 < cLine) (al : Alike x y) (hx : NestAt kd s.heap x a) (hy : NestAt kd s.heap y b) (h : Q (decide (x = y)) s) : wpAny (model prog w) A (eqBool (.ref a) (.ref b)) Q E s := by
  unfold eqBool
  try with_reducible refine wpAny_holding ?_
  dsimp only
  split
  · rename_i c
    have e : a = b := Value.ref.inj (eq_of_beq c)
    subst e
    have e2 := nest_inj hx hy
    subst e2
    rw [decide_eq_true rfl] at h
    refine wpAny_bind (wpAny_rule ?_)
    exact wpAny_pure h
  · have tree := fun P hP => eq_walk (P := P) (E := E) (A := A.in1) (s := s) hu al hx hy hP
    refine wpAny_bind ?_
    refine wpAny_richCompare_same_room (op := .Eq) (nest_type hx) (nest_type hy) F.slot_tuple_eq (wpAny_call_entry F.slot_tuple_eq (nest_type hx) F.entry_tuple_eq ?_ (F.args_tuple_eq_2 _ _)) (by omega)
    exact tree _ ⟨_, rfl, (fun e => nomatch e), wpAny_truthy_bool h⟩
noncomputable def parts3 (k : Key3 K) : List (K ⊕ List K) := .inl k.1 :: .inr k.2.1 :: k.2.2.map .inl
theorem inl_inj : ∀ {a b : List K}, a.map (Sum.inl (β := List K)) = b.map Sum.inl → a = b
  | [], [], _ => rfl
  | [], _ :: _, e => nomatch e
  | _ :: _, [], e => nomatch e
  | x :: a, y :: b, e => by
    simp only [List.map_cons, List.cons.injEq, Sum.inl.injEq] at e
    rw [e.1, inl_inj e.2]
theorem parts3_inj {a b : Key3 K} (e : parts3 a = parts3 b) : a = b := by
  obtain ⟨a1, a2, a3⟩ := a
  obtain ⟨b1, b2, b3⟩ := b
  simp only [parts3, List.cons.injEq, Sum.inl.injEq, Sum.inr.injEq] at e
  obtain ⟨rfl, rfl, e⟩ := e
  rw [inl_inj e]
theorem alike_map : ∀ (a b : List K), Alike (a.map (Sum.inl (β := List K))) (b.map Sum.inl)
  | [], _ => .nilL
  | _ :: _, [] => .nilR
  | _ :: a, _ :: b => .l (alike_map a b)
theorem alike3 (a b : Key3 K) : Alike (parts3 a) (parts3 b) := .l (.r (alike_map _ _))
end
noncomputable def nestKind {prog : Program} {w : World} {K : Type} [DecidableEq K] (kd : KeyKind prog w K) : HeapKind prog w (Key3 K) where
  is := fun h k a => NestAt kd h (parts3 k) a
  hash := fun k => nHash kd (parts3 k)
  draws := fun k => pSum (parts3 k) + 1
  room := fun A => A.units + 1 < cLine
  inj := fun hx hy => parts3_inj (nest_inj hx hy)
  keeps := fun x ho hd hs => nest_keeps ho hd hs x
  pyHash := fun hu hk h => nest_hash hu hk h
  eqBool := fun {A E s x y a b Q} hu hx hy h => nest_eq hu (alike3 x y) hx hy (by
    have e : decide (parts3 x = parts3 y) = decide (x = y) := by
      by_cases q : x = y
      · subst q; simp
      · rw [decide_eq_false q, decide_eq_false (fun z => q (parts3_inj z))]
    rw [e]; exact h)
  quiet := fun hk h => nest_quiet hk h
end NK

set_option Elab.async false
set_option linter.all false
set_option maxRecDepth 100000
namespace L2
open PySem PySem.Spec PyProof.Rows

noncomputable abbrev Key := Sum Int Str
noncomputable def keyIs : Key → Value → Bool
  | .inl k, v => Value.isInt k v
  | .inr x, v => Value.isStrOf x v
noncomputable def keyH (w : World) : Key → Int
  | .inl k => hashInt k
  | .inr x => hashStr w x
theorem keyIs_shape : ∀ {k : Key} {v : Value}, keyIs k v = true → (∃ i t, k = Sum.inl i ∧ v = Value.int i t) ∨ (∃ x t, k = Sum.inr x ∧ v = Value.str x t)
  | .inl i, v, h => by
    obtain ⟨t, e⟩ := Value.isInt_shape (k := i) (v := v) h
    exact .inl ⟨i, t, rfl, e⟩
  | .inr x, v, h => by
    obtain ⟨t, e⟩ := Value.isStrOf_shape (x := x) (v := v) h
    exact .inr ⟨x, t, rfl, e⟩
theorem key_ll (a b : Int) : decide ((Sum.inl a : Key) = Sum.inl b) = (a == b) := by
  by_cases e : a = b
  · subst e; simp
  · have h : ¬ (Sum.inl a : Key) = Sum.inl b := fun q => e (Sum.inl.inj q)
    rw [decide_eq_false h]
    exact (beq_eq_false_iff_ne.mpr e).symm
theorem key_rr (a b : Str) : decide ((Sum.inr a : Key) = Sum.inr b) = decide (a = b) := by
  by_cases e : a = b
  · subst e; simp
  · have h : ¬ (Sum.inr a : Key) = Sum.inr b := fun q => e (Sum.inr.inj q)
    rw [decide_eq_false h, decide_eq_false e]
theorem key_lr (a : Int) (b : Str) : decide ((Sum.inl a : Key) = Sum.inr b) = false := decide_eq_false (fun q => nomatch q)
theorem key_rl (a : Str) (b : Int) : decide ((Sum.inr a : Key) = Sum.inl b) = false := decide_eq_false (fun q => nomatch q)

noncomputable def mixKind (prog : Program) (w : World) : PySem.KeyKind prog w Key where
  is := keyIs
  hash := keyH w
  inj := fun v a b ha hb => by
    rcases keyIs_shape ha with ⟨i, t, rfl, rfl⟩ | ⟨x, t, rfl, rfl⟩
    · rcases keyIs_shape hb with ⟨j, u, rfl, e⟩ | ⟨y, u, rfl, e⟩
      · injection e with e1 _; rw [e1]
      · exact nomatch e
    · rcases keyIs_shape hb with ⟨j, u, rfl, e⟩ | ⟨y, u, rfl, e⟩
      · exact nomatch e
      · injection e with e1 _; rw [e1]
  byValue := fun k v h => by
    rcases keyIs_shape h with ⟨i, t, rfl, rfl⟩ | ⟨x, t, rfl, rfl⟩ <;> rfl
  pyHash := fun hv h => by
    rcases keyIs_shape hv with ⟨i, t, rfl, rfl⟩ | ⟨x, t, rfl, rfl⟩
    · exact wpAny_pyHash_int h
    · exact wpAny_pyHash_str h
  eqBool := fun hu hv h => by
    rcases keyIs_shape hu with ⟨i, t, rfl, rfl⟩ | ⟨x, t, rfl, rfl⟩
    · rcases keyIs_shape hv with ⟨j, u, rfl, rfl⟩ | ⟨y, u, rfl, rfl⟩
      · rw [key_ll] at h; exact wpAny_eqBool_int h
      · rw [key_lr] at h; exact SeqAt.EqAt.int_str i t y u _ _ _ _ h
    · rcases keyIs_shape hv with ⟨j, u, rfl, rfl⟩ | ⟨y, u, rfl, rfl⟩
      · rw [key_rl] at h; exact SeqAt.EqAt.str_int x t j u _ _ _ _ h
      · rw [key_rr] at h; exact wpAny_eqBool_str h
  «strs» := fun k x t v h => by
    rcases keyIs_shape h with ⟨i, u, rfl, e⟩ | ⟨y, u, rfl, e⟩
    · exact nomatch e
    · injection e with e1 _
      subst e1
      cases v <;> rfl

end L2

namespace L2
open PySem PySem.Spec PyProof.Rows

inductive V where
  | non | bl (b : Bool) | int (i : Int) | str (x : Str) | byt (b : Array UInt8) | flt (b : UInt64) | ref (a : Addr) | ty (n : String)
  deriving DecidableEq

noncomputable def RelV : V → Value → Prop
  | .non, u => u = Value.none
  | .bl b, u => u = Value.bool b
  | .int i, u => ∃ t, u = Value.int i t
  | .str x, u => ∃ t, u = Value.str x t
  | .byt b, u => ∃ t, u = Value.bytes b t
  | .flt b, u => ∃ t, u = Value.float b t
  | .ref a, u => u = Value.ref a
  | .ty n, u => u = Value.type n

noncomputable abbrev Vals : List V → List Value → Prop := Paired RelV
theorem Vals.length {xs : List V} {us : List Value} (r : Vals xs us) : xs.length = us.length := Paired.length r
theorem Vals.get : ∀ {xs : List V} {us : List Value} {i : Nat} {x : V}, Vals xs us → xs[i]? = some x → ∃ u, us[i]? = some u ∧ RelV x u
  | _, _, _, _, .nil, e => by simp at e
  | _, _, 0, _, .cons r _, e => by simp at e; subst e; exact ⟨_, rfl, r⟩
  | _, _, i + 1, x, .cons _ t, e => by
    obtain ⟨u, h1, h2⟩ := Vals.get (i := i) (x := x) t (by simpa using e)
    exact ⟨u, by simpa using h1, h2⟩
theorem Vals.set {x : V} {u : Value} (r : RelV x u) : ∀ {xs : List V} {us : List Value} (i : Nat), Vals xs us → Vals (xs.set i x) (us.set i u)
  | _, _, _, .nil => .nil
  | _, _, 0, .cons _ t => .cons r t
  | _, _, i + 1, .cons q t => .cons q (Vals.set r i t)
theorem Vals.append : ∀ {xs ys : List V} {us ws : List Value}, Vals xs us → Vals ys ws → Vals (xs ++ ys) (us ++ ws)
  | _, _, _, _, .nil, s => s
  | _, _, _, _, .cons r t, s => .cons r (Vals.append t s)
theorem Vals.take : ∀ {xs : List V} {us : List Value} (n : Nat), Vals xs us → Vals (xs.take n) (us.take n)
  | _, _, 0, _ => .nil
  | _, _, _ + 1, .nil => .nil
  | _, _, n + 1, .cons r t => .cons r (Vals.take n t)
theorem Vals.drop : ∀ {xs : List V} {us : List Value} (n : Nat), Vals xs us → Vals (xs.drop n) (us.drop n)
  | _, _, 0, r => r
  | _, _, _ + 1, .nil => .nil
  | _, _, n + 1, .cons _ t => Vals.drop n t
noncomputable def RelO : Option V → Option Value → Prop
  | some v, some u => RelV v u
  | none, none => True
  | _, _ => False
noncomputable def KV {κ : Type} : List (κ × V) → List (κ × Value) → Prop := Paired fun (p : κ × V) (q : κ × Value) => p.1 = q.1 ∧ RelV p.2 q.2

noncomputable def kV : Key → V
  | .inl i => .int i
  | .inr x => .str x

inductive HO where
  /-- a list -/
  | lst (xs : List V)
  /-- a tuple (never changes) -/
  | tup (xs : List V)
  /-- a dict whose keys are ints and texts; one whose keys are tuples of ints and texts (the empty one is both) -/
  | dK (kvs : List (Key × V)) | dT (kvs : List (List Key × V))
  /-- a set of ints: its members, its size -/
  | dN (ep : Nat) (kvs : List (NK.Key3 Key × V)) --N
  | set (S : Int → Bool) (n : Nat)
  /-- an instance of the class at C, its dict at dx, its attributes -/
  | ins (C dx : Addr) (fs : List (Str × V))
  /-- the dict of the instance at x -/
  | own (x : Addr)
  /-- the dict of an exception -/
  | xd (fs : List (Str × V))
  /-- a bound method, f of x -/
  | met (f x : Addr)
  /-- a range object lo, lo + 1, .. below hi -/
  | rng (lo hi : Int)
  /-- a thing that is known to the object (the script; a dict while a loop walks it): read, never written while it is so -/
  | frz (o : Obj) (u : HO)
  /-- a code object's table -/
  | tbl (ps : Array Value)
  /-- any other thing, by what is true of its one object (a def of one's own: SetO a S n := HO.ext fun h => ..) -/
  | ext (φ : Heap → Prop)

noncomputable abbrev Hp := Addr → Option HO
noncomputable def K3At (H : Hp) (k : NK.Key3 Key) (b : Addr) : Prop := ∃ n, H b = some (.tup (kV k.1 :: .ref n :: k.2.2.map kV)) ∧ H n = some (.tup (k.2.1.map kV)) --N
noncomputable def upd (H : Hp) (a : Addr) (o : HO) : Hp := fun b => if b = a then some o else H b
theorem upd_same {H : Hp} {a : Addr} {o : HO} : upd H a o a = some o := by unfold upd; rw [if_pos rfl]
theorem upd_ne {H : Hp} {a b : Addr} {o : HO} (h : b ≠ a) : upd H a o b = H b := by unfold upd; rw [if_neg h]
theorem upd_upd {H : Hp} {a : Addr} {o u : HO} : upd (upd H a o) a u = upd H a u := by
  funext b; unfold upd; split <;> rfl
theorem ne_of_none {H : Hp} {a b : Addr} {o : HO} (h : H a = some o) (h' : H b = none) : a ≠ b := by
  intro e; subst e; rw [h] at h'; cases h'

section
variable (P : Program) (w : World)
noncomputable def ObjOk (H : Hp) (h : Heap) (a : Addr) : HO → Prop
  | .lst xs => xs.length ≤ sizeLine ∧ ∃ (its : List Value) (n : Nat), Vals xs its ∧ h.get? a = some { cls := .type "list", data := .seq its.toArray n }
  | .tup xs => xs.length ≤ sizeLine ∧ ∃ its : List Value, Vals xs its ∧ IsTup h a its.toArray
  | .dK kvs => kvs.length ≤ sizeLine ∧ (a == sysModules) = false ∧ ∃ vs, KV kvs vs ∧ h.DictOf (mixKind P w) a vs
  | .dT kvs => kvs.length ≤ sizeLine ∧ (a == sysModules) = false ∧ ∃ xs : List (List Key × Addr × Value),
      Paired (fun (p : List Key × V) (q : List Key × Addr × Value) => p.1 = q.1 ∧ H q.2.1 = some (.tup (p.1.map kV)) ∧ RelV p.2 q.2.2) kvs xs ∧
      ∃ o es ep, h.get? a = some o ∧ o.ExactDict ∧ o.data = .dict es ep ∧ es.toList = xs.map (entryOfKey (tupleKind (mixKind P w))) ∧ (xs.map (·.1)).Nodup
  | .dN ep kvs => kvs.length ≤ sizeLine ∧ (a == sysModules) = false ∧ ∃ xs : List (NK.Key3 Key × Addr × Value), Paired (fun (p : NK.Key3 Key × V) (q : NK.Key3 Key × Addr × Value) => p.1 = q.1 ∧ K3At H p.1 q.2.1 ∧ RelV p.2 q.2.2) kvs xs ∧ ∃ o es, h.get? a = some o ∧ o.ExactDict ∧ o.data = .dict es ep ∧ es.toList = xs.map (entryOfKey (NK.nestKind (mixKind P w))) ∧ (xs.map (·.1)).Nodup --N
  | .set S n => h.SetOf (intKind P w) a S n
  | .ins C dx fs => H dx = some (.own a) ∧ fs.length ≤ 1000 ∧ dx ≠ a ∧ h.get? a = some (PySem.W.instObj C dx) ∧
      ∃ mA, h.Ns1 dx mA ∧ (∀ f, RelO (fs.lookup f) (mA f)) ∧ PySem.Within mA (fs.map (·.1))
  | .own _ => ∃ o, h.get? a = some o
  | .xd fs => ∃ mA, h.Ns1 a mA ∧ ∀ f, RelO (fs.lookup f) (mA f)
  | .rng lo hi => ∃ t u v, h.get? a = some { cls := .type "range", data := .fields #[.int lo t, .int hi u, .int 1 v] }
  | .frz o u => h.get? a = some o ∧ ObjOk H h a u
  | .tbl ps => h.get? a = some { cls := .none, data := .fields ps }
  | .met f x => h.get? a = some (PySem.W.methodObj (.ref f) (.ref x))
  | .ext φ => φ h ∧ (∃ o, h.get? a = some o) ∧ ∀ h1 h2 : Heap, φ h1 → (∀ o, h1.get? a = some o → h2.get? a = some o) → φ h2
noncomputable def HOk (H : Hp) (h : Heap) : Prop := ∀ a o, H a = some o → ObjOk P w H h a o
end

section
variable {P : Program} {w : World} {H H' : Hp} {h h' : Heap} {a : Addr} {o : HO}
theorem ObjOk.lt (x : ObjOk P w H h a o) : a < h.objs.size := by
  cases o with
  | lst xs => obtain ⟨_, _, _, _, e⟩ := x; exact Heap.lt_size e
  | tup xs => obtain ⟨_, _, _, p⟩ := x; exact p.lt
  | dK kvs => obtain ⟨_, _, _, _, o, _, _, e, _⟩ := x; exact Heap.lt_size e
  | dT kvs => obtain ⟨_, _, _, _, o, _, _, e, _⟩ := x; exact Heap.lt_size e
  | dN ep kvs => obtain ⟨_, _, _, _, o, _, e, _⟩ := x; exact Heap.lt_size e --N
  | set S n => obtain ⟨o, _, _, _, e, _⟩ := x; exact Heap.lt_size e
  | ins C dx fs => obtain ⟨_, _, _, e, _⟩ := x; exact Heap.lt_size e
  | own y => obtain ⟨_, e⟩ := x; exact Heap.lt_size e
  | xd fs => obtain ⟨_, ⟨_, _, _, e, _⟩, _⟩ := x; exact Heap.lt_size e
  | rng lo hi => obtain ⟨_, _, _, e⟩ := x; exact Heap.lt_size e
  | frz ob u => obtain ⟨e, _⟩ := x; exact Heap.lt_size e
  | tbl ps => exact Heap.lt_size (show h.get? a = some _ from x)
  | met f y => exact Heap.lt_size (show h.get? a = some _ from x)
  | ext φ => obtain ⟨_, ⟨_, e⟩, _⟩ := x; exact Heap.lt_size e
theorem Paired.mapP {α β : Type} {F G : α → β → Prop} : ∀ {l₁ : List α} {l₂ : List β}, Paired F l₁ l₂ → (∀ a b, F a b → G a b) → Paired G l₁ l₂
  | _, _, .nil, _ => .nil
  | _, _, .cons r t, f => .cons (f _ _ r) (Paired.mapP t f)
theorem ObjOk.stay (x : ObjOk P w H h a o) (k : ∀ b u, (b = a ∨ H b = some (.own a)) → h.get? b = some u → h'.get? b = some u)
    (ho : ∀ b, H b = some (.own a) → H' b = some (.own a)) (ht : ∀ b xs, H b = some (.tup xs) → H' b = some (.tup xs)) : ObjOk P w H' h' a o := by
  induction o with
  | lst xs => obtain ⟨z, its, n, r, e⟩ := x; exact ⟨z, its, n, r, k _ _ (.inl rfl) e⟩
  | tup xs => obtain ⟨z, its, r, ob, e, c⟩ := x; exact ⟨z, its, r, ob, k _ _ (.inl rfl) e, c⟩
  | dK kvs => obtain ⟨z, y, vs, r, ob, es, ep, e, c⟩ := x; exact ⟨z, y, vs, r, ob, es, ep, k _ _ (.inl rfl) e, c⟩
  | dT kvs =>
    obtain ⟨z, y, xs, r, ob, es, ep, e, c⟩ := x
    exact ⟨z, y, xs, Paired.mapP r fun p q z => ⟨z.1, ht _ _ z.2.1, z.2.2⟩, ob, es, ep, k _ _ (.inl rfl) e, c⟩
  | dN ep kvs => obtain ⟨z, y, xs, r, ob, es, e, c⟩ := x; exact ⟨z, y, xs, Paired.mapP r fun p q z => ⟨z.1, (let ⟨n, e1, e2⟩ := z.2.1; ⟨n, ht _ _ e1, ht _ _ e2⟩), z.2.2⟩, ob, es, k _ _ (.inl rfl) e, c⟩ --N
  | set S n => obtain ⟨ob, es, ep, t, e, c⟩ := x; exact ⟨ob, es, ep, t, k _ _ (.inl rfl) e, c⟩
  | ins C dx fs =>
    obtain ⟨d, z, ne, e, mA, ⟨od, es, ep, e2, c⟩, r⟩ := x
    exact ⟨ho _ d, z, ne, k _ _ (.inl rfl) e, mA, ⟨od, es, ep, k _ _ (.inr d) e2, c⟩, r⟩
  | own y => obtain ⟨ob, e⟩ := x; exact ⟨ob, k _ _ (.inl rfl) e⟩
  | xd fs => obtain ⟨mA, ⟨od, es, ep, e, c⟩, r⟩ := x; exact ⟨mA, ⟨od, es, ep, k _ _ (.inl rfl) e, c⟩, r⟩
  | rng lo hi => obtain ⟨t, u, v, e⟩ := x; exact ⟨t, u, v, k _ _ (.inl rfl) e⟩
  | frz ob u ih => obtain ⟨e, q⟩ := x; exact ⟨k _ _ (.inl rfl) e, ih q⟩
  | tbl ps =>
    have e : h.get? a = some { cls := .none, data := .fields ps } := x
    show h'.get? a = some { cls := .none, data := .fields ps }
    exact k a _ (.inl rfl) e
  | met f y =>
    have e : h.get? a = some (PySem.W.methodObj (.ref f) (.ref y)) := x
    show h'.get? a = some (PySem.W.methodObj (.ref f) (.ref y))
    exact k a _ (.inl rfl) e
  | ext φ => obtain ⟨p, ⟨o, e⟩, st⟩ := x; exact ⟨st _ _ p fun o q => k _ _ (.inl rfl) q, ⟨o, k _ _ (.inl rfl) e⟩, st⟩
theorem HOk.lt (x : HOk P w H h) (e : H a = some o) : a < h.objs.size := (x a o e).lt
theorem HOk.fresh (x : HOk P w H h) (e : h.objs.size ≤ a) : H a = none := by
  cases q : H a with
  | none => rfl
  | some u => exact absurd (Nat.lt_of_lt_of_le (x.lt q) e) (Nat.lt_irrefl _)
theorem HOk.kept (x : HOk P w H h) (k : ∀ b u, h.get? b = some u → h'.get? b = some u) : HOk P w H h' := fun a o e =>
  (x a o e).stay (fun b u _ q => k b u q) (fun _ q => q) fun _ _ q => q
theorem HOk.laid (x : HOk P w H h) (k : ∀ b u, h.get? b = some u → h'.get? b = some u) (hp : h.objs.size ≤ a) (new : ObjOk P w (upd H a o) h' a o) : HOk P w (upd H a o) h' := fun b u e => by
  have hn := x.fresh hp
  by_cases hb : b = a
  · subst hb; rw [upd_same] at e; cases e; exact new
  · rw [upd_ne hb] at e
    exact (x b u e).stay (fun c v _ q => k c v q) (fun c q => by rw [upd_ne (ne_of_none q hn)]; exact q) fun c xs q => by rw [upd_ne (ne_of_none q hn)]; exact q
end

noncomputable def Rd (H : Hp) (a : Addr) (u : HO) : Prop := H a = some u ∨ ∃ o, H a = some (.frz o u)
theorem Rd.of {H : Hp} {a : Addr} {u : HO} (h : H a = some u) : Rd H a u := .inl h
theorem Rd.ok {P : Program} {w : World} {H : Hp} {h : Heap} {a : Addr} {u : HO} (r : Rd H a u) (x : HOk P w H h) : ObjOk P w H h a u := by
  rcases r with r | ⟨o, r⟩
  · exact x a u r
  · obtain ⟨_, q⟩ := x a _ r
    exact q
noncomputable def Mut : Option HO → Prop
  | some (.lst _) => True
  | some (.dK _) => True
  | some (.dT _) => True
  | some (.dN _ _) => True --N
  | some (.set _ _) => True
  | some (.ins _ _ _) => True
  | some (.ext _) => True
  | _ => False
section
variable {P : Program} {w : World} {H : Hp} {h h' : Heap} {x e : Addr} {o' : HO}
theorem HOk.write (ok : HOk P w H h) (mu : Mut (H x)) (he : e = x ∨ H e = some (.own x)) (k : ∀ b u, b ≠ e → h.get? b = some u → h'.get? b = some u) (heo : ∃ u, h'.get? e = some u)
    (new : ObjOk P w (upd H x o') h' x o') : HOk P w (upd H x o') h' := fun b u q => by
  have nown : ∀ c y, H c = some (.own y) → c ≠ x := fun c y r z => by subst z; rw [r] at mu; exact mu
  have ntup : ∀ c xs, H c = some (.tup xs) → c ≠ x := fun c xs r z => by subst z; rw [r] at mu; exact mu
  by_cases hb : b = x
  · subst hb; rw [upd_same] at q; cases q; exact new
  · rw [upd_ne hb] at q
    by_cases hbe : b = e
    · have q' : H b = some (.own x) := by
        rcases he with z | z
        · exact absurd (hbe.trans z) hb
        · rw [hbe]; exact z
      rw [q] at q'; cases q'
      obtain ⟨v, hv⟩ := heo
      exact ⟨v, by rw [hbe]; exact hv⟩
    · refine (ok b u q).stay (fun c v hc r => k c v ?_ r) (fun c r => by rw [upd_ne (nown c b r)]; exact r) fun c xs r => by rw [upd_ne (ntup c xs r)]; exact r
      rcases hc with rfl | hc
      · exact hbe
      · rintro rfl
        rcases he with z | z
        · exact nown c b hc z
        · rw [hc] at z; cases z; exact hb rfl
end

structure Un (fs ex : List Addr) (H H' : Hp) (h h' : Heap) : Prop where
  keep : ∀ b o, h.get? b = some o → H b = none → b ∉ fs → b ∉ ex → h'.get? b = some o
  slot : ∀ b o, h.get? b = some o → H b = none → b ∈ fs → b ∉ ex → ∃ sl, h'.get? b = some { o with slots := sl }
  free : ∀ b o, h.get? b = some o → H b = none → b ∉ ex → H' b = none
  there : ∀ b o, h.get? b = some o → b ∉ ex → ∃ o', h'.get? b = some o'
  tups : ∀ b xs, H b = some (.tup xs) → H' b = some (.tup xs)
  frzs : ∀ b o u, H b = some (.frz o u) → H' b = some (.frz o u)
  tbls : ∀ b ps, H b = some (.tbl ps) → ∃ more, H' b = some (.tbl (ps ++ more))
section
variable {fs fs' ex ex' : List Addr} {H H1 H2 : Hp} {h h1 h2 h' : Heap} {a x e : Addr} {o : HO}
theorem Un.any (u : Un fs ex H H1 h h1) {b : Addr} {ob : Obj} (q : h.get? b = some ob) (n : H b = none) (hx : b ∉ ex) : ∃ sl, h1.get? b = some { ob with slots := sl } := by
  by_cases hb : b ∈ fs
  · exact u.slot b ob q n hb hx
  · exact ⟨ob.slots, u.keep b ob q n hb hx⟩
theorem Un.trans (a : Un fs ex H H1 h h1) (b : Un fs ex H1 H2 h1 h2) : Un fs ex H H2 h h2 where
  keep := fun c ob q n hc hx => b.keep c ob (a.keep c ob q n hc hx) (a.free c ob q n hx) hc hx
  slot := fun c ob q n hc hx => by
    obtain ⟨sl, e1⟩ := a.slot c ob q n hc hx
    obtain ⟨sl', e2⟩ := b.slot c _ e1 (a.free c ob q n hx) hc hx
    exact ⟨sl', e2⟩
  free := fun c ob q n hx => by
    obtain ⟨o', e1⟩ := a.there c ob q hx
    exact b.free c o' e1 (a.free c ob q n hx) hx
  there := fun c ob q hx => by
    obtain ⟨o', e1⟩ := a.there c ob q hx
    exact b.there c o' e1 hx
  tups := fun c xs q => b.tups c xs (a.tups c xs q)
  frzs := fun c ob xs q => b.frzs c ob xs (a.frzs c ob xs q)
  tbls := fun c ps q => by
    obtain ⟨m1, e1⟩ := a.tbls c ps q
    obtain ⟨m2, e2⟩ := b.tbls c _ e1
    exact ⟨m1 ++ m2, by rw [e2, Array.append_assoc]⟩
theorem Un.kept (k : ∀ b u, h.get? b = some u → h'.get? b = some u) : Un fs ex H H h h' :=
  ⟨fun b ob q _ _ _ => k b ob q, fun b ob q _ _ _ => ⟨ob.slots, k b ob q⟩, fun _ _ _ n _ => n, fun b ob q _ => ⟨ob, k b ob q⟩, fun _ _ q => q, fun _ _ _ q => q, fun _ ps q => ⟨#[], by rw [q]; simp⟩⟩
theorem Un.refl : Un fs ex H H h h := Un.kept fun _ _ q => q
theorem Un.laid (k : ∀ b u, h.get? b = some u → h'.get? b = some u) (hp : h.objs.size ≤ a) (hn : H a = none) : Un fs ex H (upd H a o) h h' where
  keep := fun b u q _ _ _ => k b u q
  slot := fun b u q _ _ _ => ⟨u.slots, k b u q⟩
  free := fun b u q n _ => by rw [upd_ne (Nat.ne_of_lt (Nat.lt_of_lt_of_le (Heap.lt_size q) hp))]; exact n
  there := fun b u q _ => ⟨u, k b u q⟩
  tups := fun b xs q => by rw [upd_ne (ne_of_none q hn)]; exact q
  frzs := fun b u xs q => by rw [upd_ne (ne_of_none q hn)]; exact q
  tbls := fun b ps q => ⟨#[], by rw [upd_ne (ne_of_none q hn), q]; simp⟩
theorem Un.write (mu : Mut (H x)) (he : e = x ∨ H e = some (.own x)) (k : ∀ b u, b ≠ e → h.get? b = some u → h'.get? b = some u) (heo : ∃ u, h'.get? e = some u) : Un fs ex H (upd H x o) h h' := by
  have hx : ∀ b, H b = none → b ≠ x := fun b n z => by subst z; rw [n] at mu; exact mu
  have hb : ∀ b, H b = none → b ≠ e := fun b n z => by
    subst z
    rcases he with r | r
    · exact hx b n r
    · rw [n] at r; cases r
  have hm : ∀ b u, H b = some u → ¬ Mut (some u) → b ≠ x := fun b u q nm z => by subst z; rw [q] at mu; exact nm mu
  refine ⟨fun b u q n _ _ => k b u (hb b n) q, fun b u q n _ _ => ⟨u.slots, k b u (hb b n) q⟩, fun b u q n _ => by rw [upd_ne (hx b n)]; exact n, fun b u q _ => ?_,
    fun b xs q => by rw [upd_ne (hm b _ q fun z => z)]; exact q, fun b u xs q => by rw [upd_ne (hm b _ q fun z => z)]; exact q, fun b ps q => ⟨#[], by rw [upd_ne (hm b _ q fun z => z), q]; simp⟩⟩
  by_cases hbe : b = e
  · subst hbe; exact heo
  · exact ⟨u, k b u hbe q⟩
theorem Un.mono (u : Un fs ex H H1 h h1) (hs : ∀ b ∈ fs, b ∈ fs') (hx : ∀ b ∈ ex, b ∈ ex') : Un fs' ex' H H1 h h1 :=
  ⟨fun b ob q n hb he => u.keep b ob q n (fun z => hb (hs b z)) fun z => he (hx b z), fun _ _ q n _ he => u.any q n fun z => he (hx _ z), fun b ob q n he => u.free b ob q n fun z => he (hx b z), fun b ob q he => u.there b ob q fun z => he (hx b z), u.tups, u.frzs, u.tbls⟩
end

noncomputable def trk (h : Heap) (H : Hp) : List Addr := (List.range h.objs.size).filter fun a => (H a).isSome
noncomputable def hidT (h : Heap) (H : Hp) : Heap := PySem.W.hideAll h (trk h H)
theorem hidT_size (h : Heap) (H : Hp) : (hidT h H).objs.size = h.objs.size := PySem.W.hideAll_size _ _
theorem hidT_get {h : Heap} {H : Hp} {b : Addr} {o : Obj} (e : h.get? b = some o) (n : H b = none) : (hidT h H).get? b = some o :=
  PySem.W.hideAll_get _ e fun hm => by
    have q : (H b).isSome = true := (List.mem_filter.mp hm).2
    rw [n] at q; simp at q
theorem of_hidT {h : Heap} {H : Hp} {b : Addr} {o : Obj} (e : (hidT h H).get? b = some o) : h.get? b = some o ∧ H b = none := by
  have e' : h.get? b = some o := PySem.W.of_hideAll (trk h H) e
  refine ⟨e', ?_⟩
  cases q : H b with
  | none => rfl
  | some x =>
    have hm : b ∈ trk h H := List.mem_filter.mpr ⟨List.mem_range.mpr (Heap.lt_size e'), by simp [q]⟩
    have z : (hidT h H).get? b = none := PySem.W.hideAll_none (trk h H) hm
    rw [z] at e; cases e

noncomputable def allNews (g h : Heap) (L : Addr) : List (Addr × Obj) := (List.range h.objs.size).filterMap fun a => if a = L ∨ (g.get? a).isSome = true then none else (h.get? a).map fun o => (a, o)
noncomputable def rest (g h : Heap) (L d : Addr) : List (Addr × Obj) := (allNews g h L).filter fun p => decide (p.1 ≠ d)
end L2

namespace L2
open PySem PySem.Spec PyProof.Rows

structure Mod (K : PySem.W.Frag) (mg : Str → Option Value) (base : Heap) : Prop where
  kin : K.In base
  glob : base.Ns mainGlobals mg
  blt : ∃ mb, base.Ns builtinsNs mb ∧ ∀ x : Str, x ≠ "__name__" → mb x = bootBuiltins x
  nolimit : base.NoLimit

structure Cx where
  prog : Program
  w : World
  K : PySem.W.Frag
  mg : Str → Option Value
  base : Heap
  A : Around
  N : List Str
  s₀ : Shared
  H₀ : Hp
  env : Env
  outer : List Env
  stack : List Env
  ex : List Addr
  fn : Str → Bool
  calm : Bool
  pn : List (Addr × Obj)
  xe : Value → Shared → Prop
noncomputable def frs (l : List Env) : List Addr := l.filterMap (·.frame)
noncomputable abbrev Cx.fs (X : Cx) : List Addr := frs X.outer

noncomputable def Vis (sc : Scope) (x : Str) : Prop := sc.names.lookup x = some .local ∨ sc.names.lookup x = some .cell ∨ sc.names.lookup x = some .free
noncomputable def Loc (sc : Scope) (x : Str) : Prop := sc.names.lookup x = some .local ∨ sc.names.lookup x = some .cell
noncomputable def Look (env : Env) (h : Heap) (m : Str → Option Value) (x : Str) (u : Value) : Prop :=
  (env.kindOf x = some .local ∧ m x = some u) ∨ ((env.kindOf x = some .cell ∨ env.kindOf x = some .free) ∧ ∃ c, env.cells.lookup x = some c ∧ h.IsCell c (some u))

structure Cx.Ok (X : Cx) : Prop where
  mod : Mod X.K X.mg X.base
  kind : X.env.scope.kind = .function
  glob : X.env.globals = mainGlobals
  blt : X.env.builtins = builtinsNs
  above : X.s₀.heap.objs.size ≤ X.env.locals
  inj : ∀ x y c, X.env.cells.lookup x = some c → X.env.cells.lookup y = some c → x = y
  has : ∀ x, (X.env.kindOf x = some .cell ∨ X.env.kindOf x = some .free) → ∃ c, X.env.cells.lookup x = some c
  cab : ∀ x c, X.fn x = true → X.env.cells.lookup x = some c → X.s₀.heap.objs.size ≤ c
  hd : X.calm = true → X.A.handled = none
  frames : X.A.frames = some X.stack
  stk : X.stack = X.outer ∨ (X.stack = X.env :: X.outer ∧ X.env.frame = some X.env.locals)
  exf : ∀ b ∈ X.ex, b ≠ X.env.locals ∧ ∀ x c, X.env.cells.lookup x = some c → c ≠ b
  bs : ∀ b o, X.base.get? b = some o → X.s₀.heap.get? b = some o ∧ X.H₀ b = none
  bsz : X.base.objs.size ≤ X.s₀.heap.objs.size
  noex : ∀ b o, X.base.get? b = some o → b ∉ X.ex
  exfs : ∀ b ∈ X.ex, b ∉ X.fs
  funs : X.s₀.heap.FunFrames X.base X.outer
  frf : ∀ b ∈ X.fs, X.H₀ b = none

structure Inv (X : Cx) (pins : List (Addr × Obj)) (σ : List (Option V)) (H : Hp) (s : Shared) : Prop where
  ok : X.Ok
  os : s.os = X.s₀.os
  bare : AllBare s.gens
  base : Un X.fs X.ex X.H₀ H X.s₀.heap s.heap
  loc : ∃ m, s.heap.Ns X.env.locals m ∧ ∀ (i : Nat) (x : Str) (v : V), X.N[i]? = some x → σ[i]? = some (some v) → Vis X.env.scope x → ∃ u, RelV v u ∧ Look X.env s.heap m x u
  cell : ∀ x c, X.env.cells.lookup x = some c → ∃ v, s.heap.IsCell c v
  free : H X.env.locals = none
  freeC : ∀ x c, X.env.cells.lookup x = some c → H c = none
  pin : ∀ p ∈ X.pn ++ pins, s.heap.get? p.1 = some p.2 ∧ H p.1 = none ∧ p.1 ≠ X.env.locals ∧ p.1 ∉ X.fs ∧ ∀ v, p.2.data ≠ .cell v
  hok : HOk X.prog X.w H s.heap
  len : σ.length = X.N.length

section
variable {X : Cx} {pins : List (Addr × Obj)} {σ : List (Option V)} {H H' : Hp} {s : Shared} {h' : Heap}

theorem Cx.Ok.nofr (ok : X.Ok) {b : Addr} {o : Obj} (e : X.base.get? b = some o) : b ∉ X.fs := fun hb => by
  have := (ok.funs.mem hb).1
  rw [e] at this; cases this
theorem Inv.bs (I : Inv X pins σ H s) : ∀ b o, X.base.get? b = some o → s.heap.get? b = some o ∧ H b = none := fun b o e =>
  ⟨I.base.keep b o (I.ok.bs b o e).1 (I.ok.bs b o e).2 (I.ok.nofr e) (I.ok.noex b o e), I.base.free b o (I.ok.bs b o e).1 (I.ok.bs b o e).2 (I.ok.noex b o e)⟩
theorem Inv.bk (I : Inv X pins σ H s) : ∀ b o, X.base.get? b = some o → s.heap.get? b = some o := fun b o e => (I.bs b o e).1
theorem Inv.mod (I : Inv X pins σ H s) : Mod X.K X.mg X.base := I.ok.mod
theorem Inv.kIn (I : Inv X pins σ H s) : X.K.In s.heap := I.ok.mod.kin.keeps I.bk
theorem Inv.nolimit (I : Inv X pins σ H s) : s.heap.NoLimit := I.ok.mod.nolimit.keeps I.bk
theorem Inv.fr (I : Inv X pins σ H s) : ∃ m, Fr X.base X.env.locals s.heap m :=
  let ⟨m, hn, _⟩ := I.loc
  ⟨m, hn, I.bk, Nat.le_trans I.ok.bsz I.ok.above⟩
theorem Inv.lt (I : Inv X pins σ H s) : X.env.locals < s.heap.objs.size := let ⟨_, hn, _⟩ := I.loc; hn.lt
theorem Inv.sz (I : Inv X pins σ H s) : X.s₀.heap.objs.size ≤ s.heap.objs.size := Nat.le_trans I.ok.above (Nat.le_of_lt I.lt)
theorem Inv.nofs (I : Inv X pins σ H s) {a : Addr} (h : s.heap.objs.size ≤ a) : a ∉ X.fs := fun hb => by
  obtain ⟨_, o, ho, _⟩ := I.ok.funs.mem hb
  exact absurd (Nat.lt_of_lt_of_le (Heap.lt_size ho) (Nat.le_trans I.sz h)) (Nat.lt_irrefl _)
theorem Inv.cne (I : Inv X pins σ H s) : ∀ x c, X.env.cells.lookup x = some c → c ≠ X.env.locals := fun x c e z => by
  obtain ⟨v, o, ho, hd⟩ := I.cell x c e
  obtain ⟨m, ⟨o', es, ep, ho', hd', _⟩, _⟩ := I.loc
  rw [z, ho'] at ho; cases ho; rw [hd'] at hd; cases hd
theorem Inv.funs (I : Inv X pins σ H s) : s.heap.FunFrames X.base X.outer := by
  have all : ∀ (l : List Env), (∀ b ∈ frs l, b ∈ X.fs) → X.s₀.heap.FunFrames X.base l → s.heap.FunFrames X.base l := by
    intro l
    induction l with
    | nil => intro _ _; trivial
    | cons env r ih =>
      intro hs hl
      obtain ⟨hk, ⟨L, o, hf, hn, ho, hd⟩, hr⟩ := hl
      have hL : L ∈ X.fs := hs L (by unfold frs; rw [List.filterMap_cons, hf]; exact List.mem_cons_self)
      obtain ⟨sl, e⟩ := I.base.slot L o ho (I.ok.frf L hL) hL fun z => I.ok.exfs L z hL
      exact ⟨hk, ⟨L, _, hf, hn, e, hd⟩, ih (fun b hb => hs b (by unfold frs; rw [List.filterMap_cons, hf]; exact List.mem_cons_of_mem _ hb)) hr⟩
  exact all X.outer (fun _ hb => hb) I.ok.funs

theorem Inv.stack (I : Inv X pins σ H s) : s.heap.FunFrames X.base X.stack := by
  rcases I.ok.stk with e | ⟨e, hf⟩
  · rw [e]; exact I.funs
  · rw [e]
    obtain ⟨m, hn, _⟩ := I.loc
    refine .cons (by rw [I.ok.kind]; decide) hf hn ?_ I.funs
    exact Heap.get?_none_of_le (Nat.le_trans I.ok.bsz I.ok.above)
theorem Inv.stkSub (I : Inv X pins σ H s) : ∀ b ∈ frs X.stack, b ∈ X.env.locals :: X.fs := fun b hb => by
  rcases I.ok.stk with e | ⟨e, hf⟩
  · rw [e] at hb; exact List.mem_cons_of_mem _ hb
  · rw [e] at hb
    unfold frs at hb
    rw [List.filterMap_cons, hf] at hb
    exact hb
theorem Inv.stkFree (I : Inv X pins σ H s) : ∀ b ∈ frs X.stack, H b = none := fun b hb => by
  rcases List.mem_cons.mp (I.stkSub b hb) with e | hb
  · rw [e]; exact I.free
  · obtain ⟨_, o, ho, _⟩ := I.ok.funs.mem hb
    exact I.base.free b o ho (I.ok.frf b hb) fun z => I.ok.exfs b z hb

theorem Inv.step {g' : Array GenState} {t' : Nat} {d' : Drawn} {ch : List Addr} (I : Inv X pins σ H s)
    (hch : ∀ b ∈ ch, (b ∈ X.ex ∨ X.s₀.heap.objs.size ≤ b) ∧ b ≠ X.env.locals ∧ (∀ x c, X.env.cells.lookup x = some c → c ≠ b) ∧ ∀ p ∈ X.pn ++ pins, p.1 ≠ b)
    (keep : ∀ b o, b ≠ X.env.locals → b ∉ X.fs → b ∉ ch → s.heap.get? b = some o → H b = none → h'.get? b = some o)
    (slot : ∀ b o, b ≠ X.env.locals → b ∈ X.fs → b ∉ ch → s.heap.get? b = some o → H b = none → ∃ sl, h'.get? b = some { o with slots := sl }) (free : ∀ b o, b ∉ ch → s.heap.get? b = some o → H b = none → H' b = none)
    (there : ∀ b o, b ∉ ch → s.heap.get? b = some o → ∃ o', h'.get? b = some o')
    (tups : ∀ b xs, H b = some (.tup xs) → H' b = some (.tup xs)) (frzs : ∀ b o u, H b = some (.frz o u) → H' b = some (.frz o u)) (tbls : ∀ b ps, H b = some (.tbl ps) → ∃ more, H' b = some (.tbl (ps ++ more)))
    (ns : ∀ m, s.heap.Ns X.env.locals m → h'.Ns X.env.locals m) (hok : HOk X.prog X.w H' h') (hg : AllBare g') :
    Inv X pins σ H' { s with heap := h', gens := g', drawn := d', toks := t' } := by
  have neL : ∀ b o, X.s₀.heap.get? b = some o → b ≠ X.env.locals := fun b o e => Nat.ne_of_lt (Nat.lt_of_lt_of_le (Heap.lt_size e) I.ok.above)
  have neC : ∀ b o, X.s₀.heap.get? b = some o → b ∉ X.ex → b ∉ ch := fun b o e hx hb => by
    rcases (hch b hb).1 with z | z
    · exact hx z
    · exact absurd (Nat.lt_of_lt_of_le (Heap.lt_size e) z) (Nat.lt_irrefl _)
  have cellK : ∀ x c, X.env.cells.lookup x = some c → ∀ v, s.heap.IsCell c v → h'.IsCell c v := fun x c e v ⟨o, ho, hd⟩ => by
    have nch : c ∉ ch := fun z => (hch c z).2.2.1 x c e rfl
    by_cases hc : c ∈ X.fs
    · obtain ⟨sl, q⟩ := slot c o (I.cne x c e) hc nch ho (I.freeC x c e)
      exact ⟨_, q, hd⟩
    · exact ⟨o, keep c o (I.cne x c e) hc nch ho (I.freeC x c e), hd⟩
  refine ⟨I.ok, I.os, hg, ⟨fun b o e n hb hx => ?_, fun b o e n hb hx => ?_, fun b o e n hx => ?_, fun b o e hx => ?_, fun b xs e => tups b xs (I.base.tups b xs e), fun b o xs e => frzs b o xs (I.base.frzs b o xs e), fun b ps e => ?_⟩, ?_, fun x c e => ?_, ?_, fun x c e => ?_, fun p hp => ?_, hok, I.len⟩
  · exact keep b o (neL b o e) hb (neC b o e hx) (I.base.keep b o e n hb hx) (I.base.free b o e n hx)
  · obtain ⟨sl, e1⟩ := I.base.slot b o e n hb hx
    obtain ⟨sl', e2⟩ := slot b _ (neL b o e) hb (neC b o e hx) e1 (I.base.free b o e n hx)
    exact ⟨sl', e2⟩
  · obtain ⟨o', e1⟩ := I.base.there b o e hx
    exact free b o' (neC b o e hx) e1 (I.base.free b o e n hx)
  · obtain ⟨o', e1⟩ := I.base.there b o e hx
    exact there b o' (neC b o e hx) e1
  · obtain ⟨m1, e1⟩ := I.base.tbls b ps e
    obtain ⟨m2, e2⟩ := tbls b _ e1
    exact ⟨m1 ++ m2, by rw [e2, Array.append_assoc]⟩
  · obtain ⟨m, hn, hl⟩ := I.loc
    refine ⟨m, ns m hn, fun i x v e1 e2 e3 => ?_⟩
    obtain ⟨u, r, l⟩ := hl i x v e1 e2 e3
    refine ⟨u, r, ?_⟩
    rcases l with l | ⟨k, c, e, z⟩
    · exact .inl l
    · exact .inr ⟨k, c, e, cellK x c e _ z⟩
  · obtain ⟨v, z⟩ := I.cell x c e
    exact ⟨v, cellK x c e v z⟩
  · obtain ⟨m, ⟨o, _, _, ho, _⟩, _⟩ := I.loc
    exact free _ o (fun z => (hch _ z).2.1 rfl) ho I.free
  · obtain ⟨v, o, ho, hd⟩ := I.cell x c e
    exact free c o (fun z => (hch c z).2.2.1 x c e rfl) ho (I.freeC x c e)
  · obtain ⟨e, n, ne, nf, d⟩ := I.pin p hp
    have nch : p.1 ∉ ch := fun z => (hch p.1 z).2.2.2 p hp rfl
    exact ⟨keep p.1 p.2 ne nf nch e n, free p.1 p.2 nch e n, ne, nf, d⟩
theorem Inv.un {t' : Nat} (I : Inv X pins σ H s) (u : Un X.fs [] H H' s.heap h') (hok : HOk X.prog X.w H' h') : Inv X pins σ H' { s with heap := h', toks := t' } := by
  obtain ⟨m, ⟨o, es, ep, ho, r⟩, _⟩ := id I.loc
  obtain ⟨sl, hL⟩ := u.any ho I.free (by simp)
  exact I.step (g' := s.gens) (d' := s.drawn) (ch := []) (fun _ z => nomatch z) (fun b o _ hb _ e n => u.keep b o e n hb (by simp)) (fun b o _ hb _ e n => u.slot b o e n hb (by simp)) (fun b o _ e n => u.free b o e n (by simp)) (fun b o _ e => u.there b o e (by simp)) u.tups u.frzs u.tbls (fun m' hm => by
    obtain ⟨o', es', ep', ho', r'⟩ := hm
    rw [ho] at ho'; cases ho'
    exact ⟨_, es', ep', hL, r'⟩) hok I.bare
theorem Inv.call {g' : Array GenState} {t' : Nat} {d' : Drawn} {ch : List Addr} (I : Inv X pins σ H s) (u : Un (frs X.stack) ch H H' s.heap h') (hok : HOk X.prog X.w H' h') (hg : AllBare g')
    (hch : ∀ b ∈ ch, (b ∈ X.ex ∨ X.s₀.heap.objs.size ≤ b) ∧ b ≠ X.env.locals ∧ (∀ x c, X.env.cells.lookup x = some c → c ≠ b) ∧ ∀ p ∈ X.pn ++ pins, p.1 ≠ b) :
    Inv X pins σ H' { s with heap := h', gens := g', drawn := d', toks := t' } := by
  obtain ⟨m, ⟨o, es, ep, ho, r⟩, _⟩ := id I.loc
  obtain ⟨sl, hL⟩ := u.any ho I.free fun z => (hch _ z).2.1 rfl
  exact I.step (ch := ch) hch (fun b o hL hb hc e n => u.keep b o e n (fun z => (List.mem_cons.mp (I.stkSub b z)).elim hL hb) hc) (fun b o _ _ hc e n => u.any e n hc) (fun b o hc e n => u.free b o e n hc) (fun b o hc e => u.there b o e hc) u.tups u.frzs u.tbls (fun m' hm => by
    obtain ⟨o', es', ep', ho', r'⟩ := hm
    rw [ho] at ho'; cases ho'
    exact ⟨_, es', ep', hL, r'⟩) hok hg
theorem Inv.turned {t' : Nat} {it : Addr} (I : Inv X pins σ H s) (k : ∀ b o, b ≠ it → s.heap.get? b = some o → h'.get? b = some o) (hn : H it = none) (hL : it ≠ X.env.locals)
    (h1 : it ∈ X.ex ∨ X.s₀.heap.objs.size ≤ it) (h2 : ∀ x c, X.env.cells.lookup x = some c → c ≠ it) (h3 : ∀ p ∈ X.pn ++ pins, p.1 ≠ it) : Inv X pins σ H { s with heap := h', toks := t' } := by
  have nit : ∀ b u, H b = some u → b ≠ it := fun b u e z => by rw [z, hn] at e; cases e
  refine I.step (g' := s.gens) (d' := s.drawn) (ch := [it]) (fun b hb => ?_) (fun b o _ _ hc e _ => k b o (fun z => hc (by simp [z])) e) (fun b o _ _ hc e _ => ⟨o.slots, k b o (fun z => hc (by simp [z])) e⟩) (fun _ _ _ _ n => n)
    (fun b o hc e => ⟨o, k b o (fun z => hc (by simp [z])) e⟩) (fun _ _ e => e) (fun _ _ _ e => e) (fun b ps e => ⟨#[], by rw [e]; simp⟩) (fun m hm => ?_) (fun b u e => ?_) I.bare
  · have e : b = it := by simpa using hb
    subst e
    exact ⟨h1, hL, h2, h3⟩
  · obtain ⟨o, es, ep, ho, r⟩ := hm
    exact ⟨o, es, ep, k _ o (Ne.symm hL) ho, r⟩
  · refine (I.hok b u e).stay (fun c v hc q => k c v ?_ q) (fun _ q => q) fun _ _ q => q
    rcases hc with z | z
    · rw [z]; exact nit b u e
    · exact nit c _ z
theorem Inv.tok (I : Inv X pins σ H s) (t : Nat) : Inv X pins σ H { s with toks := t } := I.un (h' := s.heap) (t' := t) Un.refl I.hok
theorem Inv.kept {t' : Nat} (I : Inv X pins σ H s) (k : ∀ b u, s.heap.get? b = some u → h'.get? b = some u) : Inv X pins σ H { s with heap := h', toks := t' } := I.un (Un.kept k) (I.hok.kept k)
theorem Inv.laid {a : Addr} {o : HO} {t' : Nat} (I : Inv X pins σ H s) (k : ∀ b u, s.heap.get? b = some u → h'.get? b = some u) (hp : s.heap.objs.size ≤ a) (new : ObjOk X.prog X.w (upd H a o) h' a o) :
    Inv X pins σ (upd H a o) { s with heap := h', toks := t' } := I.un (Un.laid k hp (I.hok.fresh hp)) (I.hok.laid k hp new)
theorem Inv.write {x e : Addr} {o : HO} {t' : Nat} (I : Inv X pins σ H s) (mu : Mut (H x)) (he : e = x ∨ H e = some (.own x)) (k : ∀ b u, b ≠ e → s.heap.get? b = some u → h'.get? b = some u) (heo : ∃ u, h'.get? e = some u)
    (new : ObjOk X.prog X.w (upd H x o) h' x o) : Inv X pins σ (upd H x o) { s with heap := h', toks := t' } := I.un (Un.write mu he k heo) (I.hok.write mu he k heo new)
theorem Inv.weak {σ' : List (Option V)} (I : Inv X pins σ H s) (hl : σ'.length = σ.length) (w : ∀ (i : Nat) v, σ'[i]? = some (some v) → σ[i]? = some (some v)) : Inv X pins σ' H s :=
  ⟨I.ok, I.os, I.bare, I.base, let ⟨m, hn, hl'⟩ := I.loc; ⟨m, hn, fun i x v e1 e2 e3 => hl' i x v e1 (w i v e2) e3⟩, I.cell, I.free, I.freeC, I.pin, I.hok, hl.trans I.len⟩
theorem Inv.pins_of {pins' : List (Addr × Obj)} (I : Inv X pins σ H s) (h : ∀ p ∈ pins', s.heap.get? p.1 = some p.2 ∧ H p.1 = none ∧ p.1 ≠ X.env.locals ∧ p.1 ∉ X.fs ∧ ∀ v, p.2.data ≠ .cell v) : Inv X pins' σ H s :=
  ⟨I.ok, I.os, I.bare, I.base, I.loc, I.cell, I.free, I.freeC, fun p hp => (List.mem_append.mp hp).elim (fun z => I.pin p (List.mem_append_left _ z)) (h p), I.hok, I.len⟩

theorem nodup_ix {N : List Str} (hN : N.Nodup) {i j : Nat} {x : Str} (a : N[i]? = some x) (b : N[j]? = some x) : i = j := by
  obtain ⟨h1, e1⟩ := List.getElem?_eq_some_iff.mp a
  obtain ⟨h2, e2⟩ := List.getElem?_eq_some_iff.mp b
  exact (List.getElem_inj hN).mp (e1.trans e2.symm)

theorem store_ok2 {M : Model} {A : Around} {E : Value → Shared → Prop} {i : Nat} {x : Str} {v : V} {u : Value} {Q : Unit → Shared → Prop} (I : Inv X pins σ H s) (hN : X.N.Nodup) (hi : X.N[i]? = some x) (hx : Loc X.env.scope x) (r : RelV v u)
    (h : ∀ s', Inv X pins (σ.set i (some v)) H s' → (∃ a, Heap.SameBut a s.heap s'.heap ∧ (a = X.env.locals ∨ X.env.cells.lookup x = some a)) → Q () s') (hf : X.fn x = true ∨ X.env.scope.names.lookup x = some .local := by first | exact .inl rfl | exact .inr rfl | assumption) : wpAny M A (storeName X.env x u) Q E s := by
  obtain ⟨m, hn, hl⟩ := id I.loc
  have hcls : (X.env.scope.kind == .class || (X.env.scope.kind == .module && X.env.locals != X.env.globals)) = false := by rw [I.ok.kind]; rfl
  have hiσ : i < σ.length := by rw [I.len]; exact (List.getElem?_eq_some_iff.mp hi).1
  have cne := I.cne
  have tracked : ∀ {a : Addr} {h' : Heap}, (∃ o, s.heap.get? a = some o ∧ H a = none) → Heap.SameBut a s.heap h' → HOk X.prog X.w H h' := fun {a h'} ha hs b ob e => by
    obtain ⟨_, _, hfree⟩ := ha
    refine (I.hok b ob e).stay (fun c w' hc q => (hs.2 c ?_).trans q) (fun _ q => q) fun _ _ q => q
    rintro rfl
    rcases hc with rfl | hc
    · rw [hfree] at e; cases e
    · rw [hfree] at hc; cases hc
  rcases hx with hk | hk
  · refine wpAny_storeName_local hk hn (fun h' hn' hs => ?_) hcls
    obtain ⟨oL, _, _, hoL, _⟩ := id hn
    refine h _ ⟨I.ok, I.os, I.bare, ⟨fun b o e n hb hx => ?_, fun b o e n hb hx => ?_, I.base.free, fun b o e hx => ?_, I.base.tups, I.base.frzs, I.base.tbls⟩, ⟨_, hn', fun j y v' e1 e2 e3 => ?_⟩, fun y c e => ?_, I.free, I.freeC, fun p hp => ?_, tracked ⟨oL, hoL, I.free⟩ hs, by simpa using I.len⟩ ⟨_, hs, .inl rfl⟩
    · exact (hs.2 b (Nat.ne_of_lt (Nat.lt_of_lt_of_le (Heap.lt_size e) I.ok.above))).trans (I.base.keep b o e n hb hx)
    · obtain ⟨sl, e1⟩ := I.base.slot b o e n hb hx
      exact ⟨sl, (hs.2 b (Nat.ne_of_lt (Nat.lt_of_lt_of_le (Heap.lt_size e) I.ok.above))).trans e1⟩
    · obtain ⟨o', e1⟩ := I.base.there b o e hx
      exact ⟨o', (hs.2 b (Nat.ne_of_lt (Nat.lt_of_lt_of_le (Heap.lt_size e) I.ok.above))).trans e1⟩
    · by_cases hj : j = i
      · subst hj
        rw [hi] at e1; cases e1
        rw [List.getElem?_set_self hiσ] at e2
        cases e2
        exact ⟨u, r, .inl ⟨hk, by simp⟩⟩
      · rw [List.getElem?_set_ne (Ne.symm hj)] at e2
        obtain ⟨u', r', q⟩ := hl j y v' e1 e2 e3
        refine ⟨u', r', ?_⟩
        rcases q with ⟨k, e⟩ | ⟨k, c, e, z⟩
        · refine .inl ⟨k, ?_⟩
          have : y ≠ x := fun e => hj (nodup_ix hN e1 (e ▸ hi))
          simp [this, e]
        · exact .inr ⟨k, c, e, z.sameBut hs (cne y c e)⟩
    · obtain ⟨w', z⟩ := I.cell y c e
      exact ⟨w', z.sameBut hs (cne y c e)⟩
    · obtain ⟨e, n, ne, nf, d⟩ := I.pin p hp
      exact ⟨(hs.2 p.1 ne).trans e, n, ne, nf, d⟩
  · have hfn : X.fn x = true := by
      rcases hf with z | z
      · exact z
      · rw [z] at hk; cases hk
    obtain ⟨c, hc⟩ := I.ok.has x (.inl hk)
    obtain ⟨w', z⟩ := I.cell x c hc
    refine wpAny_storeName_cell I.ok.kind hk hc z (fun h' hc' hs => ?_)
    obtain ⟨oc, hoc, hocd⟩ := id z
    refine h { s with heap := h' } ⟨I.ok, I.os, I.bare, ⟨fun b o e n hb hx => ?_, fun b o e n hb hx => ?_, I.base.free, fun b o e hx => ?_, I.base.tups, I.base.frzs, I.base.tbls⟩, ⟨m, hn.sameBut hs (Ne.symm (cne x c hc)), fun j y v' e1 e2 e3 => ?_⟩, fun y c' e => ?_, I.free, I.freeC, fun p hp => ?_, tracked ⟨oc, hoc, I.freeC x c hc⟩ hs, by simpa using I.len⟩ ⟨c, hs, .inr hc⟩
    · exact (hs.2 b (Nat.ne_of_lt (Nat.lt_of_lt_of_le (Heap.lt_size e) (I.ok.cab x c hfn hc)))).trans (I.base.keep b o e n hb hx)
    · obtain ⟨sl, e1⟩ := I.base.slot b o e n hb hx
      exact ⟨sl, (hs.2 b (Nat.ne_of_lt (Nat.lt_of_lt_of_le (Heap.lt_size e) (I.ok.cab x c hfn hc)))).trans e1⟩
    · obtain ⟨o', e1⟩ := I.base.there b o e hx
      exact ⟨o', (hs.2 b (Nat.ne_of_lt (Nat.lt_of_lt_of_le (Heap.lt_size e) (I.ok.cab x c hfn hc)))).trans e1⟩
    · by_cases hj : j = i
      · subst hj
        rw [hi] at e1; cases e1
        rw [List.getElem?_set_self hiσ] at e2
        cases e2
        exact ⟨u, r, .inr ⟨.inl hk, c, hc, hc'⟩⟩
      · rw [List.getElem?_set_ne (Ne.symm hj)] at e2
        obtain ⟨u', r', q⟩ := hl j y v' e1 e2 e3
        refine ⟨u', r', ?_⟩
        rcases q with q | ⟨k, c', e, z'⟩
        · exact .inl q
        · refine .inr ⟨k, c', e, z'.sameBut hs ?_⟩
          rintro rfl
          exact hj (nodup_ix hN e1 (I.ok.inj _ _ _ e hc ▸ hi))
    · by_cases hcc : c' = c
      · subst hcc; exact ⟨_, hc'⟩
      · obtain ⟨w2, z2⟩ := I.cell y c' e
        exact ⟨w2, z2.sameBut hs hcc⟩
    · obtain ⟨e, n, ne, nf, d⟩ := I.pin p hp
      refine ⟨(hs.2 p.1 ?_).trans e, n, ne, nf, d⟩
      intro q
      rw [q, hoc] at e
      have q' : oc = p.2 := Option.some.inj e
      exact d w' (by rw [← q']; exact hocd)
theorem store_ok {M : Model} {A : Around} {E : Value → Shared → Prop} {i : Nat} {x : Str} {v : V} {u : Value} {Q : Unit → Shared → Prop} (I : Inv X pins σ H s) (hN : X.N.Nodup) (hi : X.N[i]? = some x) (hx : Loc X.env.scope x) (r : RelV v u)
    (h : ∀ s', Inv X pins (σ.set i (some v)) H s' → Q () s') (hf : X.fn x = true ∨ X.env.scope.names.lookup x = some .local := by first | exact .inl rfl | exact .inr rfl | assumption) : wpAny M A (storeName X.env x u) Q E s :=
  store_ok2 I hN hi hx r (fun s' I' _ => h s' I') hf
theorem Inv.call' {s' : Shared} {ch : List Addr} (I : Inv X pins σ H s) (ho : s'.os = s.os) (u : Un (frs X.stack) ch H H' s.heap s'.heap) (hok : HOk X.prog X.w H' s'.heap) (hg : AllBare s'.gens)
    (hch : ∀ b ∈ ch, (b ∈ X.ex ∨ X.s₀.heap.objs.size ≤ b) ∧ b ≠ X.env.locals ∧ (∀ x c, X.env.cells.lookup x = some c → c ≠ b) ∧ ∀ p ∈ X.pn ++ pins, p.1 ≠ b) : Inv X pins σ H' s' := by
  obtain ⟨h', g', d', t', o'⟩ := s'
  have e : o' = s.os := ho
  subst e
  exact I.call (g' := g') (t' := t') (d' := d') u hok hg hch
end

noncomputable abbrev XK := Value → Option Addr → Hp → Prop
noncomputable abbrev St := List (Option V)
noncomputable abbrev VK := V → Hp → Prop
noncomputable abbrev TE := St → Hp → VK → Prop
noncomputable abbrev TT := St → Hp → (Bool → Hp → Prop) → Prop
noncomputable abbrev TA := St → Hp → (List V → Hp → Prop) → Prop
structure Ends where
  nx : St → Hp → Prop
  rt : VK
  bk : St → Hp → Prop := fun _ _ => False
  ct : St → Hp → Prop := fun _ _ => False
noncomputable abbrev TS := Ends → St → Hp → Prop

noncomputable def EP (X : Cx) (pins : List (Addr × Obj)) (σ : St) (Q : VK) (u : Value) (s' : Shared) : Prop := ∃ v H', Inv X pins σ H' s' ∧ RelV v u ∧ Q v H'
noncomputable def TP (X : Cx) (pins : List (Addr × Obj)) (σ : St) (Q : Bool → Hp → Prop) (b : Bool) (s' : Shared) : Prop := ∃ H', Inv X pins σ H' s' ∧ Q b H'
noncomputable def AP (X : Cx) (pins : List (Addr × Obj)) (σ : St) (Q : List V → Hp → Prop) (us : List Value) (s' : Shared) : Prop := ∃ vs H', Inv X pins σ H' s' ∧ Vals vs us ∧ Q vs H'
noncomputable def SP (X : Cx) (pins : List (Addr × Obj)) (D : Ends) (f : Flow) (s' : Shared) : Prop :=
  match f with
  | .next => ∃ σ' H', Inv X pins σ' H' s' ∧ D.nx σ' H'
  | .brk => ∃ σ' H', Inv X pins σ' H' s' ∧ D.bk σ' H'
  | .cont => ∃ σ' H', Inv X pins σ' H' s' ∧ D.ct σ' H'
  | .ret u => ∃ v σ' H', Inv X pins σ' H' s' ∧ RelV v u ∧ D.rt v H'

noncomputable def PE (X : Cx) (e : Expr) (t : TE) : Prop :=
  ∀ (pins : List (Addr × Obj)) (s : Shared) (σ : St) (H : Hp) (Q : VK), Inv X pins σ H s → t σ H Q → wpAny (model X.prog X.w) X.A (eval e X.env) (EP X pins σ Q) X.xe s
noncomputable def PT (X : Cx) (e : Expr) (t : TT) : Prop :=
  ∀ (pins : List (Addr × Obj)) (s : Shared) (σ : St) (H : Hp) (Q : Bool → Hp → Prop), Inv X pins σ H s → t σ H Q → wpAny (model X.prog X.w) X.A (isTrue e X.env (eval e X.env)) (TP X pins σ Q) X.xe s
noncomputable def PW (X : Cx) (e : Expr) (t : TT) : Prop :=
  ∀ (whole : Sem Value) (pins : List (Addr × Obj)) (s : Shared) (σ : St) (H : Hp) (Q : Bool → Hp → Prop), Inv X pins σ H s → t σ H Q → wpAny (model X.prog X.w) X.A (isTrue e X.env whole) (TP X pins σ Q) X.xe s
theorem PW.pt {X : Cx} {e : Expr} {t : TT} (h : PW X e t) : PT X e t := h _
noncomputable def PA (X : Cx) (es : List Expr) (t : TA) : Prop :=
  ∀ (pos : Pos) (pins : List (Addr × Obj)) (s : Shared) (σ : St) (H : Hp) (Q : List V → Hp → Prop), Inv X pins σ H s → t σ H Q → wpAny (model X.prog X.w) X.A (spliced (backTo pos (starEach es X.env))) (AP X pins σ Q) X.xe s
noncomputable def PS (X : Cx) (st : Stmt) (t : TS) : Prop :=
  ∀ (pins : List (Addr × Obj)) (s : Shared) (σ : St) (H : Hp) (D : Ends), Inv X pins σ H s → t D σ H → wpAny (model X.prog X.w) X.A (exec st X.env) (SP X pins D) X.xe s
noncomputable def PSs (X : Cx) (st : List Stmt) (t : TS) : Prop :=
  ∀ (pins : List (Addr × Obj)) (s : Shared) (σ : St) (H : Hp) (D : Ends), Inv X pins σ H s → t D σ H → wpAny (model X.prog X.w) X.A (execs st X.env) (SP X pins D) X.xe s
theorem thn {α : Type} {t : Sem α} {Q Q' : α → Shared → Prop} {M : Model} {A : Around} {E : Value → Shared → Prop} {s : Shared} (h : wpAny M A t Q E s) (hQ : ∀ a s, Q a s → Q' a s) : wpAny M A t Q' E s := wpAny_mono h hQ fun _ _ x => x
end L2

namespace L2
open PySem PySem.Spec PyProof.Rows
section
variable {X : Cx}

theorem bin {a b : Expr} {ta tb : TE} (ha : PE X a ta) (hb : PE X b tb) {pins : List (Addr × Obj)} {s : Shared} {σ : St} {H : Hp} {R : V → V → Hp → Prop} (I : Inv X pins σ H s) (h : ta σ H fun x H1 => tb σ H1 fun y H2 => R x y H2)
    {α : Type} {Q : α → Shared → Prop} {f : Value → Value → Sem α}
    (hf : ∀ v u s2 x y H2, Inv X pins σ H2 s2 → RelV x v → RelV y u → R x y H2 → wpAny (model X.prog X.w) X.A (f v u) Q X.xe s2) :
    wpAny (model X.prog X.w) X.A (eval a X.env) (fun v s₁ => wpAny (model X.prog X.w) X.A (eval b X.env) (fun u s₂ => wpAny (model X.prog X.w) X.A (f v u) Q X.xe s₂) X.xe s₁) X.xe s := by
  refine thn (ha pins s σ H _ I h) fun v s1 ⟨x, H1, I1, r1, q1⟩ => ?_
  refine thn (hb pins s1 σ H1 _ I1 q1) fun u s2 ⟨y, H2, I2, r2, q2⟩ => ?_
  exact hf v u s2 x y H2 I2 r1 r2 q2

noncomputable def tVar (i : Nat) : TE := fun σ H Q => ∃ v, σ[i]? = some (some v) ∧ Q v H
noncomputable def tC (v : V) : TE := fun _ H Q => Q v H
theorem pe_var {i : Nat} {x : Str} {pos : Pos} (hN : X.N[i]? = some x) (hv : Vis X.env.scope x) (hd : (x == ("__debug__" : Str)) = false := by decide) (hcd : (x == ("__classdict__" : Str)) = false := by decide) : PE X (.Name x pos) (tVar i) := by
  intro pins s σ H Q I h
  obtain ⟨v, e, h⟩ := h
  obtain ⟨m, hn, hl⟩ := I.loc
  obtain ⟨u, r, l⟩ := hl i x v hN e hv
  have fin : EP X pins σ Q u s := ⟨v, H, I, r, h⟩
  rcases l with ⟨hk, hm⟩ | ⟨hk, c, hc, hcell⟩
  · exact wpAny_Name (wpAny_loadName_local I.ok.kind hk hn hm fin) hd
  · rcases hk with hk | hk
    · exact wpAny_Name (wpAny_loadName_cell I.ok.kind hk hc hcell fin) hd
    · exact wpAny_Name (wpAny_loadName_free I.ok.kind hk hc hcell fin hcd) hd
theorem pe_int {i j pos} : PE X (.Constant (.int i) j pos) (tC (.int i)) := fun _ _ _ H _ I h => wpAny_Constant_int ⟨.int i, H, I.tok _, ⟨_, rfl⟩, h⟩
theorem pe_bl {b j pos} : PE X (.Constant (.bool b) j pos) (tC (.bl b)) := fun _ _ _ H _ I h => Constant_bool ⟨.bl b, H, I, rfl, h⟩
theorem pe_non {j pos} : PE X (.Constant .none j pos) (tC .non) := fun _ _ _ H _ I h => Constant_none ⟨.non, H, I, rfl, h⟩
theorem pe_str {x j pos} : PE X (.Constant (.str x) j pos) (tC (.str x)) := fun _ _ _ H _ I h => Calls.Constant_str ⟨.str x, H, I.tok _, ⟨_, rfl⟩, h⟩

noncomputable def Gl (X : Cx) (x : Str) : Prop := X.env.kindOf x = some .globalImplicit
theorem ld_glob {E : Value → Shared → Prop} {pins : List (Addr × Obj)} {s : Shared} {σ : St} {H : Hp} {x : Str} {u : Value} {pos : Pos} {Q : Value → Shared → Prop} (I : Inv X pins σ H s) (hg : Gl X x) (hm : X.mg x = some u) (h : Q u s)
    (hd : (x == ("__debug__" : Str)) = false := by decide) : wpAny (model X.prog X.w) X.A (eval (.Name x pos) X.env) Q E s :=
  Calls.Name_function_global I.ok.kind hg (Calls.loadGlobal_global (by rw [I.ok.glob]; exact I.mod.glob.keeps I.bk) hm h) hd
theorem ld_blt {E : Value → Shared → Prop} {pins : List (Addr × Obj)} {s : Shared} {σ : St} {H : Hp} {x : Str} {u : Value} {pos : Pos} {Q : Value → Shared → Prop} (I : Inv X pins σ H s) (hg : Gl X x) (hm : X.mg x = none) (hv : bootBuiltins x = some u) (h : Q u s)
    (hn : x ≠ "__name__" := by decide) (hd : (x == ("__debug__" : Str)) = false := by decide) : wpAny (model X.prog X.w) X.A (eval (.Name x pos) X.env) Q E s := by
  obtain ⟨mb, h1, h2⟩ := I.mod.blt
  exact Calls.Name_function_global I.ok.kind hg (Calls.loadGlobal_builtin (by rw [I.ok.glob]; exact I.mod.glob.keeps I.bk) hm (by rw [I.ok.blt]; exact h1.keeps I.bk) ((h2 x hn).trans hv) h) hd
theorem pe_bltn {x : Str} {v : V} {u : Value} {pos : Pos} (hg : Gl X x) (hm : X.mg x = none) (hv : bootBuiltins x = some u) (r : RelV v u) (hn : x ≠ "__name__" := by decide) (hd : (x == ("__debug__" : Str)) = false := by decide) : PE X (.Name x pos) (tC v) :=
  fun _ _ _ H _ I h => ld_blt I hg hm hv ⟨v, H, I, r, h⟩ hn hd

variable {a b : Expr} {ta tb : TE} {pos : Pos}
noncomputable def tB (t : TE) : TT := fun σ H Q => t σ H fun x H1 => ∃ c, x = .bl c ∧ Q c H1
theorem pt_val {e : Expr} {t : TE} (h : PE X e t) (he : ∀ whole, isTrue e X.env whole = (do let v ← whole; standAt e.pos; holding [v] (truthy v)) := by intro _; rfl) : PT X e (tB t) := by
  intro pins s σ H Q I hw
  refine isTrue_plain (thn (h pins s σ H _ I hw) fun v s1 ⟨x, H1, I1, r1, q1⟩ => ?_) (he _)
  obtain ⟨d, rfl, q⟩ := q1
  cases r1
  exact wpAny_truthy_bool ⟨H1, I1, q⟩

variable {tA tB' : TT} {rest : List Expr}
noncomputable def tAnd (t u : TT) : TT := fun σ H Q => t σ H fun c H1 => if c = true then u σ H1 Q else Q false H1
noncomputable def tOr (t u : TT) : TT := fun σ H Q => t σ H fun c H1 => if c = true then Q true H1 else u σ H1 Q
noncomputable def tNot (t : TT) : TT := fun σ H Q => t σ H fun c H1 => Q (!c) H1
theorem pw_and1 (ha : PT X a tA) : PW X (.BoolOp .And [a] pos) tA := by
  intro wh pins s σ H Q I h
  refine isTrue_and (thn (ha pins s σ H Q I h) fun c s1 e => ?_)
  cases c with
  | true => exact isTrue_and_nil e
  | false => exact e
theorem pw_or1 (ha : PT X a tA) : PW X (.BoolOp .Or [a] pos) tA := by
  intro wh pins s σ H Q I h
  refine isTrue_or (thn (ha pins s σ H Q I h) fun c s1 e => ?_)
  cases c with
  | false => exact isTrue_or_nil e
  | true => exact e
theorem pw_and (ha : PT X a tA) (hb : PW X (.BoolOp .And (b :: rest) pos) tB') : PW X (.BoolOp .And (a :: b :: rest) pos) (tAnd tA tB') := by
  intro wh pins s σ H Q I h
  refine isTrue_and (thn (ha pins s σ H _ I h) fun c s1 ⟨H1, I1, q1⟩ => ?_)
  cases c with
  | true => exact hb wh pins s1 σ H1 Q I1 q1
  | false => exact ⟨H1, I1, q1⟩
theorem pw_or (ha : PT X a tA) (hb : PW X (.BoolOp .Or (b :: rest) pos) tB') : PW X (.BoolOp .Or (a :: b :: rest) pos) (tOr tA tB') := by
  intro wh pins s σ H Q I h
  refine isTrue_or (thn (ha pins s σ H _ I h) fun c s1 ⟨H1, I1, q1⟩ => ?_)
  cases c with
  | true => exact ⟨H1, I1, q1⟩
  | false => exact hb wh pins s1 σ H1 Q I1 q1
theorem pt_not (ha : PT X a tA) : PT X (.UnaryOp .Not a pos) (tNot tA) := by
  intro pins s σ H Q I h
  exact isTrue_not (ha pins s σ H (fun c H1 => Q (!c) H1) I h)
noncomputable def tAndV (ta tb : TE) : TE := fun σ H Q => ta σ H fun x H1 => ∃ c, x = .bl c ∧ if c = true then tb σ H1 Q else Q (.bl false) H1
noncomputable def tOrV (ta tb : TE) : TE := fun σ H Q => ta σ H fun x H1 => ∃ c, x = .bl c ∧ if c = true then Q (.bl true) H1 else tb σ H1 Q
noncomputable def tNotV (ta : TE) : TE := fun σ H Q => ta σ H fun x H1 => ∃ c, x = .bl c ∧ Q (.bl (!c)) H1
theorem pe_one {op} {t : TE} (h : PE X a t) : PE X (.BoolOp op [a] pos) t := fun pins s σ H Q I hw => BoolOp_one (h pins s σ H Q I hw)
theorem pe_and (ha : PE X a ta) (hb : PE X (.BoolOp .And (b :: rest) pos) tb) : PE X (.BoolOp .And (a :: b :: rest) pos) (tAndV ta tb) := by
  intro pins s σ H Q I h
  refine BoolOp_and (thn (ha pins s σ H _ I h) fun v s1 ⟨x, H1, I1, r1, q1⟩ => ?_)
  obtain ⟨c, rfl, q1⟩ := q1
  cases r1
  refine wpAny_truthy_bool ?_
  cases c with
  | true => exact hb pins s1 σ H1 Q I1 q1
  | false => exact ⟨.bl false, H1, I1, rfl, q1⟩
theorem pe_or (ha : PE X a ta) (hb : PE X (.BoolOp .Or (b :: rest) pos) tb) : PE X (.BoolOp .Or (a :: b :: rest) pos) (tOrV ta tb) := by
  intro pins s σ H Q I h
  refine BoolOp_or (thn (ha pins s σ H _ I h) fun v s1 ⟨x, H1, I1, r1, q1⟩ => ?_)
  obtain ⟨c, rfl, q1⟩ := q1
  cases r1
  refine wpAny_truthy_bool ?_
  cases c with
  | false => exact hb pins s1 σ H1 Q I1 q1
  | true => exact ⟨.bl true, H1, I1, rfl, q1⟩
theorem pe_not (ha : PE X a ta) : PE X (.UnaryOp .Not a pos) (tNotV ta) := by
  intro pins s σ H Q I h
  refine UnaryOp_ (thn (ha pins s σ H _ I h) fun v s1 ⟨x, H1, I1, r1, q1⟩ => ?_)
  obtain ⟨c, rfl, q1⟩ := q1
  cases r1
  exact not_of (wpAny_truthy_bool ⟨.bl (!c), H1, I1, rfl, q1⟩)
noncomputable def tIf (t : TT) (ta tb : TE) : TE := fun σ H Q => t σ H fun c H1 => if c = true then ta σ H1 Q else tb σ H1 Q
theorem pe_ifExp {c : Expr} (hc : PT X c tA) (ha : PE X a ta) (hb : PE X b tb) : PE X (.IfExp c a b pos) (tIf tA ta tb) := by
  intro pins s σ H Q I h
  refine wpAny_IfExp (thn (hc pins s σ H _ I h) fun d s1 ⟨H1, I1, q1⟩ => ?_)
  cases d with
  | true => exact ha pins s1 σ H1 Q I1 q1
  | false => exact hb pins s1 σ H1 Q I1 q1
end
end L2

namespace L2
open PySem PySem.Spec PyProof.Rows

noncomputable def SqL (K : PySem.W.Frag) (H : Hp) (a : Addr) (xs : List V) : Prop :=
  Rd H a (.lst xs) ∨
    ∃ (o : Obj) (its : Array Value) (n : Nat), K.lookup a = some o ∧ o.cls = .type "list" ∧ o.dict = none ∧ o.data = .seq its n ∧ its.size ≤ sizeLine ∧ Vals xs its.toList
noncomputable def SqT (K : PySem.W.Frag) (H : Hp) (a : Addr) (xs : List V) : Prop :=
  Rd H a (.tup xs) ∨
    ∃ (o : Obj) (its : Array Value) (n : Nat), K.lookup a = some o ∧ o.cls = .type "tuple" ∧ o.data = .seq its n ∧ its.size ≤ sizeLine ∧ Vals xs its.toList
noncomputable def absV : Value → Option V
  | .none => some .non
  | .bool b => some (.bl b)
  | .int i _ => some (.int i)
  | .str x _ => some (.str x)
  | .bytes b _ => some (.byt b)
  | .float b _ => some (.flt b)
  | .ref a => some (.ref a)
  | .type n => some (.ty n)
  | _ => none
theorem RelV.abs {x : V} {u : Value} (r : RelV x u) : absV u = some x := by
  cases x with
  | non => cases r; rfl
  | bl _ => cases r; rfl
  | int _ => obtain ⟨t, rfl⟩ := r; rfl
  | str _ => obtain ⟨t, rfl⟩ := r; rfl
  | byt _ => obtain ⟨t, rfl⟩ := r; rfl
  | flt _ => obtain ⟨t, rfl⟩ := r; rfl
  | ref _ => cases r; rfl
  | ty _ => cases r; rfl
theorem RelV.inj {x y : V} {u : Value} (r : RelV x u) (q : RelV y u) : x = y := Option.some.inj (r.abs.symm.trans q.abs)
theorem Vals.inj : ∀ {xs ys : List V} {us : List Value}, Vals xs us → Vals ys us → xs = ys
  | _, _, _, .nil, .nil => rfl
  | _, _, _, .cons r t, .cons r' t' => by rw [r.inj r', Vals.inj t t']
section
variable {X : Cx} {pins : List (Addr × Obj)} {σ : St} {H : Hp} {s : Shared} {a : Addr} {xs ys : List V}
theorem SqL.of {K : PySem.W.Frag} (h : H a = some (.lst xs)) : SqL K H a xs := .inl (.inl h)
theorem SqT.of {K : PySem.W.Frag} (h : H a = some (.tup xs)) : SqT K H a xs := .inl (.inl h)
theorem Inv.list (I : Inv X pins σ H s) (h : SqL X.K H a xs) : ∃ its : List Value, Vals xs its ∧ PlainL s.heap a its.toArray ∧ xs.length ≤ sizeLine := by
  rcases h with h | ⟨o, its, n, hk, hc, hd, hs, hz, r⟩
  · obtain ⟨z, its, n, r, e⟩ := h.ok I.hok
    exact ⟨its, r, ⟨_, n, e, rfl, rfl, rfl⟩, z⟩
  · refine ⟨its.toList, r, ⟨o, n, I.kIn a o hk, hc, hd, by simpa using hs⟩, ?_⟩
    have e := r.length
    simp only [Array.length_toList] at e
    omega
theorem Inv.tuple (I : Inv X pins σ H s) (h : SqT X.K H a xs) : ∃ its : List Value, Vals xs its ∧ IsTup s.heap a its.toArray ∧ xs.length ≤ sizeLine := by
  rcases h with h | ⟨o, its, n, hk, hc, hs, hz, r⟩
  · obtain ⟨z, its, r, p⟩ := h.ok I.hok
    exact ⟨its, r, p, z⟩
  · refine ⟨its.toList, r, ⟨o, I.kIn a o hk, hc, n, by simpa using hs⟩, ?_⟩
    have e := r.length
    simp only [Array.length_toList] at e
    omega
theorem Inv.list_inj (I : Inv X pins σ H s) (h : SqL X.K H a xs) (h' : SqL X.K H a ys) : xs = ys := by
  obtain ⟨its, r, ⟨o, n, e, _, _, d⟩, _⟩ := I.list h
  obtain ⟨its', r', ⟨o', n', e', _, _, d'⟩, _⟩ := I.list h'
  rw [e] at e'; cases e'
  rw [d] at d'
  injection d' with d1 _
  have : its = its' := by simpa using congrArg Array.toList d1
  subst this
  exact r.inj r'
theorem Inv.tuple_inj (I : Inv X pins σ H s) (h : SqT X.K H a xs) (h' : SqT X.K H a ys) : xs = ys := by
  obtain ⟨its, r, ⟨o, e, _, n, d⟩, _⟩ := I.tuple h
  obtain ⟨its', r', ⟨o', e', _, n', d'⟩, _⟩ := I.tuple h'
  rw [e] at e'; cases e'
  rw [d] at d'
  injection d' with d1 _
  have : its = its' := by simpa using congrArg Array.toList d1
  subst this
  exact r.inj r'
end

noncomputable abbrev Cx.wish (X : Cx) (E : Value → Shared → Prop) : Cx := { X with xe := E }
noncomputable abbrev Cx.nox (X : Cx) : Cx := X.wish fun _ _ => False
theorem Cx.Ok.wish {X : Cx} (ok : X.Ok) (E : Value → Shared → Prop) : (X.wish E).Ok :=
  ⟨ok.mod, ok.kind, ok.glob, ok.blt, ok.above, ok.inj, ok.has, ok.cab, ok.hd, ok.frames, ok.stk, ok.exf, ok.bs, ok.bsz, ok.noex, ok.exfs, ok.funs, ok.frf⟩
theorem Cx.Ok.unwish {X : Cx} {E : Value → Shared → Prop} (ok : (X.wish E).Ok) : X.Ok :=
  ⟨ok.mod, ok.kind, ok.glob, ok.blt, ok.above, ok.inj, ok.has, ok.cab, ok.hd, ok.frames, ok.stk, ok.exf, ok.bs, ok.bsz, ok.noex, ok.exfs, ok.funs, ok.frf⟩
section
variable {X : Cx} {pins : List (Addr × Obj)} {σ : St} {H : Hp} {s : Shared} {E : Value → Shared → Prop}
theorem Inv.wish (I : Inv X pins σ H s) (E : Value → Shared → Prop) : Inv (X.wish E) pins σ H s := ⟨I.ok.wish E, I.os, I.bare, I.base, I.loc, I.cell, I.free, I.freeC, I.pin, I.hok, I.len⟩
theorem Inv.unwish (I : Inv (X.wish E) pins σ H s) : Inv X pins σ H s := ⟨I.ok.unwish, I.os, I.bare, I.base, I.loc, I.cell, I.free, I.freeC, I.pin, I.hok, I.len⟩
theorem SP.unwish {D : Ends} {f : Flow} {s' : Shared} (h : SP (X.wish E) pins D f s') : SP X pins D f s' := by
  cases f with
  | next => obtain ⟨σ', H', I, q⟩ := h; exact ⟨σ', H', I.unwish, q⟩
  | brk => obtain ⟨σ', H', I, q⟩ := h; exact ⟨σ', H', I.unwish, q⟩
  | cont => obtain ⟨σ', H', I, q⟩ := h; exact ⟨σ', H', I.unwish, q⟩
  | ret u => obtain ⟨v, σ', H', I, r, q⟩ := h; exact ⟨v, σ', H', I.unwish, r, q⟩
theorem PE.nox {e : Expr} {t : TE} (h : PE X.nox e t) : PE X e t := fun pins s σ H Q I hw =>
  wpAny_mono (h pins s σ H Q (I.wish _) hw) (fun _ _ ⟨v, H', I', r, q⟩ => ⟨v, H', I'.unwish, r, q⟩) fun _ _ z => False.elim z
theorem PT.nox {e : Expr} {t : TT} (h : PT X.nox e t) : PT X e t := fun pins s σ H Q I hw =>
  wpAny_mono (h pins s σ H Q (I.wish _) hw) (fun _ _ ⟨H', I', q⟩ => ⟨H', I'.unwish, q⟩) fun _ _ z => False.elim z
theorem PSs.nox {st : List Stmt} {t : TS} (h : PSs X.nox st t) : PSs X st t := fun pins s σ H D I hw =>
  wpAny_mono (h pins s σ H D (I.wish _) hw) (fun _ _ q => q.unwish) fun _ _ z => False.elim z
end

section
variable {X : Cx} {st : Stmt} {rest : List Stmt} {t u : TS} {e : Expr} {te : TE} {pos : Pos}
noncomputable def tNext : TS := fun D σ H => D.nx σ H
noncomputable def tSeq (t u : TS) : TS := fun D σ H => t { D with nx := u D } σ H
theorem pss_nil : PSs X [] tNext := fun _ _ σ H _ I h => wpAny_execs_nil ⟨σ, H, I, h⟩
theorem pss_cons (h1 : PS X st t) (h2 : PSs X rest u) : PSs X (st :: rest) (tSeq t u) := by
  intro pins s σ H D I h
  refine wpAny_execs_cons (thn (h1 pins s σ H { D with nx := u D } I h) fun f s1 q => ?_)
  cases f with
  | next =>
    obtain ⟨σ', H', I', q⟩ := q
    exact h2 pins s1 σ' H' D I' q
  | ret v => exact q
  | brk => exact q
  | cont => exact q
noncomputable def tBreak : TS := fun D σ H => D.bk σ H
noncomputable def tCont : TS := fun D σ H => D.ct σ H
theorem Inv.quiet {pins : List (Addr × Obj)} {σ : St} {H : Hp} {s : Shared} (I : Inv X pins σ H s) : interactive X.env = false := by simp [interactive, I.ok.kind]
noncomputable def tDrop (te : TE) : TS := fun D σ H => te σ H fun _ H1 => D.nx σ H1
theorem ps_expr (he : PE X e te) (hs : swapsWith e none pos.line X.env = pure false := by rfl) : PS X (.Expr e pos) (tDrop te) := by
  intro pins s σ H D I h
  exact wpAny_Expr_any (thn (he pins s σ H _ I h) fun v s1 ⟨x, H1, I1, r1, q1⟩ => ⟨σ, H1, I1, q1⟩) I.quiet hs
noncomputable def tRet (te : TE) : TS := fun D σ H => te σ H D.rt
theorem ps_ret (he : PE X e te) : PS X (.Return (some e) pos) (tRet te) := by
  intro pins s σ H D I h
  exact wpAny_Return_some (thn (he pins s σ H _ I h) fun v s1 ⟨x, H1, I1, r1, q1⟩ => ⟨x, σ, H1, I1, r1, q1⟩)
noncomputable def tRetN : TS := fun D _ H => D.rt .non H
noncomputable def tIfS (c : TT) (t u : TS) : TS := fun D σ H => c σ H fun b H1 => if b = true then t D σ H1 else u D σ H1
theorem ps_if {c : Expr} {a b : List Stmt} {tc : TT} (hc : PT X c tc) (ha : PSs X a t) (hb : PSs X b u) : PS X (.If c a b pos) (tIfS tc t u) := by
  intro pins s σ H D I h
  refine wpAny_If (thn (hc pins s σ H _ I h) fun d s1 ⟨H1, I1, q1⟩ => ?_)
  cases d with
  | true => exact ha pins s1 σ H1 D I1 q1
  | false => exact hb pins s1 σ H1 D I1 q1
end

noncomputable abbrev TG := V → St → Hp → (St → Hp → Prop) → Prop
noncomputable abbrev TGs := List V → St → Hp → (St → Hp → Prop) → Prop
noncomputable def PG (X : Cx) (target : Expr) (t : TG) : Prop :=
  ∀ (pins : List (Addr × Obj)) (s : Shared) (σ : St) (H : Hp) (v : V) (u : Value) (Q : St → Hp → Prop), Inv X pins σ H s → RelV v u → t v σ H Q →
    wpAny (model X.prog X.w) X.A (assign target X.env u) (fun _ s' => ∃ σ' H', Inv X pins σ' H' s' ∧ Q σ' H') X.xe s
noncomputable def PGs (X : Cx) (ts : List Expr) (t : TGs) : Prop :=
  ∀ (pins : List (Addr × Obj)) (s : Shared) (σ : St) (H : Hp) (vs : List V) (us : List Value) (Q : St → Hp → Prop), Inv X pins σ H s → Vals vs us → t vs σ H Q →
    wpAny (model X.prog X.w) X.A (assignInOrder ((assignEach ts X.env).map (·.2)) us) (fun _ s' => ∃ σ' H', Inv X pins σ' H' s' ∧ Q σ' H') X.xe s
noncomputable abbrev TSet := V → V → V → Hp → (Hp → Prop) → Prop
noncomputable def PSet (X : Cx) (t : TSet) : Prop :=
  ∀ (pins : List (Addr × Obj)) (s : Shared) (σ : St) (H : Hp) (o i v : V) (ov iv u : Value) (Q : Hp → Prop), Inv X pins σ H s → RelV o ov → RelV i iv → RelV v u → t o i v H Q →
    wpAny (model X.prog X.w) X.A (setItem ov iv u) (fun _ s' => ∃ H', Inv X pins σ H' s' ∧ Q H') X.xe s
section
variable {X : Cx} {pos : Pos}
noncomputable def gName (i : Nat) : TG := fun v σ H Q => Q (σ.set i (some v)) H
theorem pg_name {i : Nat} {x : Str} (hN : X.N.Nodup) (hi : X.N[i]? = some x) (hx : Loc X.env.scope x) (hf : X.fn x = true ∨ X.env.scope.names.lookup x = some .local := by first | exact .inl rfl | exact .inr rfl | assumption) : PG X (.Name x pos) (gName i) := by
  intro pins s σ H v u Q I r h
  exact wpAny_assign_Name (store_ok I hN hi hx r (fun s' I' => ⟨_, H, I', h⟩) hf)
noncomputable def gNil : TGs := fun vs σ H Q => vs = [] ∧ Q σ H
noncomputable def gCons (t : TG) (u : TGs) : TGs := fun vs σ H Q => ∃ v r, vs = v :: r ∧ t v σ H fun σ' H' => u r σ' H' Q
theorem pgs_nil : PGs X [] gNil := by
  intro pins s σ H vs us Q I r h
  obtain ⟨e, h⟩ := h
  subst e
  cases r
  exact assignInOrder_nil ⟨σ, H, I, h⟩
theorem pgs_cons {e : Expr} {es : List Expr} {t : TG} {u : TGs} (h1 : PG X e t) (h2 : PGs X es u)
    (hs : (assignEach (e :: es) X.env).map (·.2) = assign e X.env :: (assignEach es X.env).map (·.2) := by rfl) : PGs X (e :: es) (gCons t u) := by
  intro pins s σ H vs us Q I r h
  obtain ⟨v, vr, e1, h⟩ := h
  subst e1
  cases r with
  | cons r rr =>
    rw [hs]
    refine assignInOrder_cons (thn (h1 pins s σ H _ _ _ I r h) fun _ s1 ⟨σ1, H1, I1, q1⟩ => ?_)
    exact h2 pins s1 σ1 H1 _ _ Q I1 rr q1
noncomputable def gTup (K : PySem.W.Frag) (n : Nat) (t : TGs) : TG := fun v σ H Q => ∃ a xs, v = .ref a ∧ SqT K H a xs ∧ xs.length = n ∧ t xs σ H Q
theorem pg_tup {es : List Expr} {k : Nat} {t : TGs} {n : Nat} (hc : X.calm = true) (h : PGs X es t)
    (hn : (assignEach es X.env).length = n := by rfl) (hst : (assignEach es X.env).findIdx? (·.1) = none := by rfl) : PG X (.Tuple es k pos) (gTup X.K n t) := by
  intro pins s σ H v u Q I r hw
  obtain ⟨a, xs, e1, hq, hl, hw⟩ := hw
  subst e1
  cases r
  obtain ⟨its, rv, ht, hz⟩ := I.tuple hq
  refine assign_Tuple_tuple (I.ok.hd hc) ht (by simp [hn, ← hl, rv.length]) hst fun h' hx => ?_
  have I1 : Inv X pins σ H { s with heap := h' } := I.kept (t' := s.toks) fun b o e => hx b o (Nat.ne_of_lt (Heap.lt_size e)) e
  exact h pins _ σ H xs _ Q I1 (by simpa using rv) hw
noncomputable def tAsg (te : TE) (g : TG) : TS := fun D σ H => te σ H fun x H1 => g x σ H1 D.nx
theorem ps_set {i : Nat} {x : Str} {e : Expr} {te : TE} {pos' : Pos} (hN : X.N.Nodup) (hi : X.N[i]? = some x) (hx : Loc X.env.scope x) (he : PE X e te) (hs : swapsWith e (some (.Name x pos')) pos.line X.env = pure false := by rfl) (hf : X.fn x = true ∨ X.env.scope.names.lookup x = some .local := by first | exact .inl rfl | exact .inr rfl | assumption) :
    PS X (.Assign [.Name x pos'] e pos) (tAsg te (gName i)) := by
  intro pins s σ H D I h
  refine wpAny_Assign_Name (thn (he pins s σ H _ I h) fun v s1 ⟨y, H1, I1, r1, q1⟩ => ?_) hs
  exact store_ok I1 hN hi hx r1 (fun s2 I2 => ⟨_, H1, I2, q1⟩) hf
end

section
variable {X : Cx} {pos : Pos}
noncomputable def tWhile (c : TT) (tb : TS) : TS := fun D σ H => ∃ W : Nat → St → Hp → Prop, (∃ m, W m σ H) ∧ ∀ m σ H, W m σ H →
  c σ H fun b H1 => if b = true then ∃ N : St → Hp → Prop, (∀ σ' H', N σ' H' → ∃ m', m' < m ∧ W m' σ' H') ∧ tb { D with nx := N, ct := N, bk := D.nx } σ H1 else D.nx σ H1
end

structure It where
  go : Nat → Hp → Prop
  yld : Nat → Hp → V → Hp → Prop
  stop : Nat → Hp → Prop
noncomputable def FpOk (X : Cx) (pins : List (Addr × Obj)) (H : Hp) (b : Addr) : Prop :=
  H b = none ∧ b ≠ X.env.locals ∧ b ∉ X.fs ∧ (b ∈ X.ex ∨ X.s₀.heap.objs.size ≤ b) ∧ (∀ x c, X.env.cells.lookup x = some c → c ≠ b) ∧ ∀ p ∈ X.pn ++ pins, p.1 ≠ b
theorem Inv.fpOk {X : Cx} {pins : List (Addr × Obj)} {σ : St} {H H' : Hp} {s : Shared} {b : Addr} (I : Inv X pins σ H s) (hb : s.heap.objs.size ≤ b) (hn : H' b = none) : FpOk X pins H' b := by
  refine ⟨hn, Nat.ne_of_gt (Nat.lt_of_lt_of_le I.lt hb), I.nofs hb, .inr (Nat.le_trans I.sz hb), fun x c e z => ?_, fun p hp z => ?_⟩
  · obtain ⟨v, q⟩ := I.cell x c e
    exact absurd (Nat.lt_of_lt_of_le q.lt (by rw [z]; exact hb)) (Nat.lt_irrefl _)
  · exact absurd (Nat.lt_of_lt_of_le (Heap.lt_size (I.pin p hp).1) (by rw [z]; exact hb)) (Nat.lt_irrefl _)
structure Turn (P : Program) (w : World) (K : PySem.W.Frag) (tg : Expr) (J : It) (fp : List Addr) (it : Addr) (tn : Nat → Heap → Prop) : Prop where
  mem : it ∈ fp
  obj : ∀ i h, tn i h → ∀ b ∈ fp, ∃ o, h.get? b = some o ∧ ∀ v, o.data ≠ .cell v
  keep : ∀ i h h', tn i h → (∀ b ∈ fp, ∀ o, h.get? b = some o → h'.get? b = some o) → tn i h'
  item : ∀ (X : Cx), X.prog = P → X.w = w → X.K = K → X.calm = true → ∀ (i : Nat) (pins : List (Addr × Obj)) (s : Shared) (σ : St) (H : Hp) (E : Value → Shared → Prop), Inv X pins σ H s → (∀ b ∈ fp, FpOk X pins H b) → tn i s.heap → J.go i H →
    wpAny (model P w) X.A (pyNext (.ref it)) (fun r s1 => ∃ u, r = some u ∧
      wpAny (model P w) X.A (letOwnedTupleGo tg (.ref it) u) (fun _ s2 => ∃ x H', Inv X pins σ H' s2 ∧ RelV x u ∧ J.yld i H x H' ∧ tn (i + 1) s2.heap ∧ ∀ b ∈ fp, H' b = none) E s1) E s
  done : ∀ (X : Cx), X.prog = P → X.w = w → X.K = K → X.calm = true → ∀ (i : Nat) (pins : List (Addr × Obj)) (s : Shared) (σ : St) (H : Hp) (E : Value → Shared → Prop), Inv X pins σ H s → (∀ b ∈ fp, FpOk X pins H b) → tn i s.heap → J.stop i H →
    wpAny (model P w) X.A (pyNext (.ref it)) (fun r s1 => r = none ∧ Inv X pins σ H s1) E s
  self : ∀ (A : Around) (i : Nat) (s : Shared) (Q : Value → Shared → Prop) (E : Value → Shared → Prop), tn i s.heap → Q (.ref it) s → wpAny (model P w) A (pyIter (.ref it)) Q E s
noncomputable abbrev TI := St → Hp → (It → Hp → Prop) → Prop
noncomputable def PIE (X : Cx) (pins : List (Addr × Obj)) (σ : St) (tg : Expr) (R : It → Hp → Prop) (itv : Value) (s2 : Shared) : Prop :=
  ∃ (it : Addr) (fp : List Addr) (tn : Nat → Heap → Prop) (J : It) (H' : Hp), itv = .ref it ∧ Inv X pins σ H' s2 ∧ Turn X.prog X.w X.K tg J fp it tn ∧ tn 0 s2.heap ∧ (∀ b ∈ fp, FpOk X pins H' b) ∧ R J H'
noncomputable def PI (X : Cx) (tg iter : Expr) (wi : TI) : Prop :=
  ∀ (pins : List (Addr × Obj)) (s : Shared) (σ : St) (H : Hp) (R : It → Hp → Prop), Inv X pins σ H s → wi σ H R →
    wpAny (model X.prog X.w) X.A (eval iter X.env) (fun v s1 => wpAny (model X.prog X.w) X.A (pyIter v) (PIE X pins σ tg R) X.xe s1) X.xe s

theorem go_of {M : Model} {A : Around} {E : Value → Shared → Prop} {s : Shared} {tg : Expr} {it : Addr} {u : Value} {o : Obj} {n : String} {vs : Array Value} {Q : Unit → Shared → Prop} (ho : s.heap.get? it = some o) (hc : o.cls = .type n) (hd : o.data = .fields vs)
    (hn : ["enumerate", "zip", "dict_itemiterator", "dict_reverseitemiterator", "odict_iterator", "itertools.zip_longest", "itertools.pairwise"].contains n = false) (hQ : Q () s) : wpAny M A (letOwnedTupleGo tg (.ref it) u) Q E s := by
  unfold letOwnedTupleGo
  cases tg <;> first
    | exact wpAny_pure hQ
    | (cases u <;> first
        | exact wpAny_pure hQ
        | (refine wpAny_bind (wpAny_load ho ?_)
           rw [hc, hd]
           show wpAny M A (if (["enumerate", "zip", "dict_itemiterator", "dict_reverseitemiterator", "odict_iterator", "itertools.zip_longest", "itertools.pairwise"].contains n && vs[0]? == some (rawInt _)) = true then _ else _) Q E s
           rw [if_neg (by intro h; rw [hn, Bool.false_and] at h; cases h)]
           exact wpAny_pure hQ))

noncomputable def Itl (K : PySem.W.Frag) (a : Addr) : It :=
  ⟨fun i H => ∃ xs x, SqL K H a xs ∧ xs[i]? = some x, fun i H x H' => H' = H ∧ ∀ xs, SqL K H a xs → xs[i]? = some x, fun i H => ∃ xs, SqL K H a xs ∧ xs.length ≤ i⟩
noncomputable def Itt (K : PySem.W.Frag) (a : Addr) : It :=
  ⟨fun i H => ∃ xs x, SqT K H a xs ∧ xs[i]? = some x, fun i H x H' => H' = H ∧ ∀ xs, SqT K H a xs → xs[i]? = some x, fun i H => ∃ xs, SqT K H a xs ∧ xs.length ≤ i⟩
noncomputable def Itr (lo : Int) (n : Nat) : It := ⟨fun i _ => i < n, fun i H x H' => H' = H ∧ x = .int (lo + i), fun i _ => n ≤ i⟩
theorem turn_list {P : Program} {w : World} {K : PySem.W.Frag} {tg : Expr} (a it : Addr) : Turn P w K tg (Itl K a) [it] it (fun i h => h.IsListIter it a i) where
  mem := by simp
  obj := fun i h st b hb => by
    have e : b = it := by simpa using hb
    subst e
    obtain ⟨o, e, c, d⟩ := st
    exact ⟨o, e, fun v z => by rw [d] at z; cases z⟩
  keep := fun i h h' st k => st.at fun o e => k it (by simp) o e
  item := by
    intro X hP hw hK hc i pins s σ H E I hf st hg
    subst hP hw hK
    obtain ⟨xs, x, hq, hx⟩ := hg
    obtain ⟨its, rv, p, hz⟩ := I.list hq
    obtain ⟨u, hu, ru⟩ := rv.get hx
    obtain ⟨f0, f1, f2, f3, f4, f5⟩ := hf it (by simp)
    refine wpAny_pyNext_list_item st p.isList (x := u) (by simpa using hu) fun h' st' sb => ?_
    have I1 : Inv X pins σ H { s with heap := h' } := I.turned (t' := s.toks) (fun b o hb e => (sb.2 b hb).trans e) f0 f1 f3 f4 f5
    obtain ⟨o, e, c, d⟩ := id st'
    exact ⟨u, rfl, go_of (s := { s with heap := h' }) e c d (by decide) ⟨x, H, I1, ru, ⟨rfl, fun ys hy => by rw [I.list_inj hy hq]; exact hx⟩, st', fun b hb => (hf b hb).1⟩⟩
  done := by
    intro X hP hw hK hc i pins s σ H E I hf st hg
    subst hP hw hK
    obtain ⟨xs, hq, hx⟩ := hg
    obtain ⟨its, rv, p, hz⟩ := I.list hq
    obtain ⟨f0, f1, f2, f3, f4, f5⟩ := hf it (by simp)
    have hl := rv.length
    exact wpAny_pyNext_list_end (I.ok.hd hc) st p.isList (by simp; omega) fun h' eb => ⟨rfl, I.turned (t' := s.toks) (fun b o hb e => eb b o hb e) f0 f1 f3 f4 f5⟩
  self := fun _ _ _ _ _ st h => wpAny_pyIter_listiter st h
theorem turn_tuple {P : Program} {w : World} {K : PySem.W.Frag} {tg : Expr} (a it : Addr) : Turn P w K tg (Itt K a) [it] it (fun i h => h.IsTupleIter it a i) where
  mem := by simp
  obj := fun i h st b hb => by
    have e : b = it := by simpa using hb
    subst e
    obtain ⟨o, e, c, d⟩ := st
    exact ⟨o, e, fun v z => by rw [d] at z; cases z⟩
  keep := fun i h h' st k => st.at fun o e => k it (by simp) o e
  item := by
    intro X hP hw hK hc i pins s σ H E I hf st hg
    subst hP hw hK
    obtain ⟨xs, x, hq, hx⟩ := hg
    obtain ⟨its, rv, p, hz⟩ := I.tuple hq
    obtain ⟨u, hu, ru⟩ := rv.get hx
    obtain ⟨f0, f1, f2, f3, f4, f5⟩ := hf it (by simp)
    refine wpAny_pyNext_tuple_item st (show s.heap.IsTuple a its.toArray from p) (x := u) (by simpa using hu) fun h' st' sb => ?_
    have I1 : Inv X pins σ H { s with heap := h' } := I.turned (t' := s.toks) (fun b o hb e => (sb.2 b hb).trans e) f0 f1 f3 f4 f5
    obtain ⟨o, e, c, d⟩ := id st'
    exact ⟨u, rfl, go_of (s := { s with heap := h' }) e c d (by decide) ⟨x, H, I1, ru, ⟨rfl, fun ys hy => by rw [I.tuple_inj hy hq]; exact hx⟩, st', fun b hb => (hf b hb).1⟩⟩
  done := by
    intro X hP hw hK hc i pins s σ H E I hf st hg
    subst hP hw hK
    obtain ⟨xs, hq, hx⟩ := hg
    obtain ⟨its, rv, p, hz⟩ := I.tuple hq
    obtain ⟨f0, f1, f2, f3, f4, f5⟩ := hf it (by simp)
    have hl := rv.length
    exact wpAny_pyNext_tuple_end (I.ok.hd hc) st (show s.heap.IsTuple a its.toArray from p) (by simp; omega) fun h' eb => ⟨rfl, I.turned (t' := s.toks) (fun b o hb e => eb b o hb e) f0 f1 f3 f4 f5⟩
  self := fun _ _ _ _ _ st h => wpAny_pyIter_tupleiter st h
theorem turn_range {P : Program} {w : World} {K : PySem.W.Frag} {tg : Expr} (it : Addr) (lo : Int) (n : Nat) : Turn P w K tg (Itr lo n) [it] it (fun i h => IsRangeIter h it (lo + (i : Nat) * 1) ((n : Int) - (i : Nat)) 1) where
  mem := by simp
  obj := fun i h st b hb => by
    have e : b = it := by simpa using hb
    subst e
    exact ⟨_, st, fun v z => by
      have z' : Data.fields _ = Data.cell v := z
      cases z'⟩
  keep := fun i h h' st k => k it (by simp) _ st
  item := by
    intro X hP hw hK hc i pins s σ H E I hf st hg
    subst hP hw hK
    obtain ⟨f0, f1, f2, f3, f4, f5⟩ := hf it (by simp)
    have W := Walks.range (prog := X.prog) (w := X.w) (I.ok.hd hc) it lo 1 n
    refine W.item i s _ _ hg st fun v h' tk hv st' kk => ?_
    obtain ⟨t, rfl⟩ := hv
    have I1 : Inv X pins σ H { s with heap := h', toks := tk } := I.turned (fun b o hb e => kk b o (by simpa using hb) e) f0 f1 f3 f4 f5
    refine ⟨_, rfl, go_of (s := { s with heap := h', toks := tk }) (n := "range_iterator") st' rfl rfl (by decide) ⟨.int (lo + i), H, I1, ⟨t, ?_⟩, ⟨rfl, rfl⟩, st', fun b hb => (hf b hb).1⟩⟩
    rw [Int.mul_one]
  done := by
    intro X hP hw hK hc i pins s σ H E I hf st hg
    subst hP hw hK
    obtain ⟨f0, f1, f2, f3, f4, f5⟩ := hf it (by simp)
    exact wpAny_pyNext_range_end (I.ok.hd hc) st (by have : n ≤ i := hg; omega) fun h' eb => ⟨rfl, I.turned (t' := s.toks) (fun b o hb e => eb b o hb e) f0 f1 f3 f4 f5⟩
  self := fun _ _ _ _ _ st h => wpAny_pyIter_rangeiter st h
end L2

namespace L2
open PySem PySem.Spec PyProof.Rows
section
variable {X : Cx} {tg : Expr}
theorem range_it {pins : List (Addr × Obj)} {σ : St} {H : Hp} {s : Shared} {R : It → Hp → Prop} {E : Value → Shared → Prop} {lo hi : Int} {t u v : Tok} {tk : Nat} (I : Inv X pins σ H s) (h1 : -(2 ^ 62) ≤ lo) (h2 : lo < 2 ^ 62) (h3 : -(2 ^ 62) ≤ hi) (h4 : hi < 2 ^ 62)
    (q : R (Itr lo (hi - lo).toNat) H) : wpAny (model X.prog X.w) X.A (pyIter (.ref s.heap.objs.size)) (PIE X pins σ tg R) E { s with heap := s.heap.push { cls := .type "range", data := .fields #[.int lo t, .int hi u, .int 1 v] }, toks := tk } := by
  refine wpAny_pyIter_range (IsRange.new ..) (small_one h1 h2 h3 h4) ?_
  have I1 : Inv X pins σ H { s with heap := s.heap.push { cls := .type "range", data := .fields #[.int lo t, .int hi u, .int 1 v] }, toks := tk } := I.kept fun b o e => Heap.get?_push_of_some _ e
  refine ⟨(s.heap.push { cls := .type "range", data := .fields #[.int lo t, .int hi u, .int 1 v] }).objs.size, [(s.heap.push { cls := .type "range", data := .fields #[.int lo t, .int hi u, .int 1 v] }).objs.size], _, _, H, rfl,
    I1.kept (t' := tk) fun b o e => Heap.get?_push_of_some _ e, turn_range _ lo (hi - lo).toNat, ?_, fun b hb => ?_, q⟩
  · have e1 : lo + ((0 : Nat) : Int) * 1 = lo := by simp
    have e2 : (((hi - lo).toNat : Nat) : Int) - ((0 : Nat) : Int) = Builtin.Range.rangeSize lo hi 1 := by rw [rangeSize_one]; split <;> omega
    show IsRangeIter _ _ (lo + ((0 : Nat) : Int) * 1) ((((hi - lo).toNat : Nat) : Int) - ((0 : Nat) : Int)) 1
    rw [e1, e2]
    exact Heap.get?_push_size _ rfl
  · have e : b = (s.heap.push { cls := .type "range", data := .fields #[.int lo t, .int hi u, .int 1 v] }).objs.size := by simpa using hb
    subst e
    exact I1.fpOk (Nat.le_refl _) (I1.hok.fresh (Nat.le_refl _))
noncomputable def iRng1 (ta : TA) : TI := fun σ H R => ta σ H fun vs H1 => ∃ j : Int, vs = [.int j] ∧ -(2 ^ 62) ≤ j ∧ j < 2 ^ 62 ∧ R (Itr 0 j.toNat) H1
noncomputable def iRng2 (ta : TA) : TI := fun σ H R => ta σ H fun vs H1 => ∃ i j : Int, vs = [.int i, .int j] ∧ (-(2 ^ 62) ≤ i ∧ i < 2 ^ 62 ∧ -(2 ^ 62) ≤ j ∧ j < 2 ^ 62) ∧ R (Itr i (j - i).toNat) H1
theorem pi_range1 {a : Expr} {ta : TA} {p pos : Pos} (hg : Gl X "range") (hm : X.mg "range" = none) (ha : PA X [a] ta) (hs : starEach [a] X.env = [(false, eval a X.env)] := by rfl) : PI X tg (.Call (.Name "range" p) [a] [] pos) (iRng1 ta) := by
  intro pins s σ H R I h
  refine Call_ (ld_blt I hg hm boot_range (PyProof.Rows.callWith_type1 (thn (ha pos pins s σ H _ I h) fun us s1 ⟨vs, H1, I1, r1, q1⟩ => ?_) hs rfl))
  obtain ⟨j, e, q1, q2, q⟩ := q1
  subst e
  cases r1 with
  | cons r rr =>
    cases rr
    obtain ⟨t, rfl⟩ := r
    exact call_range_1 (range_it I1 (by omega) (by omega) q1 q2 (by simpa using q))
noncomputable def tFor (wi : TI) (g : TG) (tb : TS) : TS := fun D σ H => wi σ H fun J H1 => ∃ W : Nat → Nat → St → Hp → Prop, (∃ m, W 0 m σ H1) ∧ ∀ i m σ H, W i m σ H →
  (J.stop i H ∧ D.nx σ H) ∨ (J.go i H ∧ ∃ N : St → Hp → Prop, (∀ σ' H', N σ' H' → ∃ m', m' < m ∧ W (i + 1) m' σ' H') ∧ ∀ x H', J.yld i H x H' → g x σ H' fun σ2 H2 => tb { D with nx := N, ct := N, bk := D.nx } σ2 H2)
noncomputable def pinsAt (fp : List Addr) (h : Heap) : List (Addr × Obj) := fp.filterMap fun b => (h.get? b).map fun o => (b, o)
theorem mem_pinsAt {fp : List Addr} {h : Heap} {b : Addr} {o : Obj} (hb : b ∈ fp) (e : h.get? b = some o) : (b, o) ∈ pinsAt fp h := List.mem_filterMap.mpr ⟨b, hb, by rw [e]; rfl⟩
theorem of_pinsAt {fp : List Addr} {h : Heap} {p : Addr × Obj} (hp : p ∈ pinsAt fp h) : p.1 ∈ fp ∧ h.get? p.1 = some p.2 := by
  obtain ⟨b, hb, e⟩ := List.mem_filterMap.mp hp
  cases q : h.get? b with
  | none => rw [q] at e; cases e
  | some o =>
    rw [q] at e
    have e' : (b, o) = p := Option.some.inj e
    subst e'
    exact ⟨hb, q⟩
theorem Inv.pinned {pins : List (Addr × Obj)} {σ : St} {H : Hp} {s : Shared} {fp : List Addr} (I : Inv X pins σ H s) (hf : ∀ b ∈ fp, FpOk X pins H b) (ho : ∀ b ∈ fp, ∃ o, s.heap.get? b = some o ∧ ∀ v, o.data ≠ .cell v) : Inv X (pins ++ pinsAt fp s.heap) σ H s :=
  I.pins_of fun p hp => (List.mem_append.mp hp).elim (fun z => I.pin p (List.mem_append_right _ z)) fun z => by
    obtain ⟨hb, e⟩ := of_pinsAt z
    obtain ⟨f0, f1, f2, _⟩ := hf p.1 hb
    obtain ⟨o, e', d⟩ := ho p.1 hb
    rw [e] at e'; cases e'
    exact ⟨e, f0, f1, f2, d⟩
theorem Inv.unpinned {pins pl : List (Addr × Obj)} {σ : St} {H : Hp} {s : Shared} (I : Inv X (pins ++ pl) σ H s) : Inv X pins σ H s := I.pins_of fun p hp => I.pin p (List.mem_append_right _ (List.mem_append_left _ hp))
theorem ps_for {iter : Expr} {body : List Stmt} {wi : TI} {g : TG} {tb : TS} {pos : Pos} (hp : PassesOwn (model X.prog X.w) X.A X.env X.xe) (hc : X.calm = true) (hi : PI X tg iter wi) (hg : PG X tg g) (hb : PSs X body tb)
    (hs : ∀ x, foldedSetIterable iter X.env x = pure x := by intro _; rfl) : PS X (.For tg iter body [] pos) (tFor wi g tb) := by
  intro pins s σ H D I h
  refine wpAny_For (thn (hi pins s σ H _ I h) fun v s1 h1 => thn h1 fun itv s2 h2 => ?_) hs
  obtain ⟨it, fp, tn, J, H2, e, I2, T, st2, f2, W, ⟨m0, w0⟩, turn⟩ := h2
  subst e
  -- what stays true of the iterator's objects through the loop
  have stat : ∀ {H' : Hp}, (∀ b ∈ fp, H' b = none) → ∀ b ∈ fp, FpOk X pins H' b := fun hn b hb => ⟨hn b hb, (f2 b hb).2⟩
  refine codeAny_forLoop_any (fun n s' => ∃ i σ' H', Inv X pins σ' H' s' ∧ tn i s'.heap ∧ (∀ b ∈ fp, H' b = none) ∧ W i n σ' H') ?_ m0 ⟨0, σ, H2, I2, st2, fun b hb => (f2 b hb).1, w0⟩
  rintro n s3 ⟨i, σ3, H3, I3, st3, fr3, w3⟩
  rcases turn i n σ3 H3 w3 with ⟨stop, qn⟩ | ⟨go, N, hN, step⟩
  · refine wpAny_passesOwn hp (thn (T.done X rfl rfl rfl hc i pins s3 σ3 H3 X.xe I3 (stat fr3) st3 stop) fun r s4 ⟨hr, I4⟩ => ?_)
    subst hr
    exact wpAny_execs_nil ⟨σ3, H3, I4, qn⟩
  · refine wpAny_passesOwn hp (thn (T.item X rfl rfl rfl hc i pins s3 σ3 H3 X.xe I3 (stat fr3) st3 go) fun r s4 ⟨u, hr, h4⟩ => ?_)
    subst hr
    refine wpAny_passesOwn hp (thn h4 fun _ s5 ⟨x, H5, I5, r5, y5, st5, fr5⟩ => ?_)
    have I5' := I5.pinned (stat fr5) (T.obj _ _ st5)
    refine wpAny_passesOwn hp (thn (hg _ s5 σ3 H5 x u _ I5' r5 (step x H5 y5)) fun _ s6 ⟨σ6, H6, I6, q6⟩ => ?_)
    refine wpAny_passesOwn hp (thn (hb _ s6 σ6 H6 _ I6 q6) fun f s7 q7 => ?_)
    have again : ∀ {σ7 : St} {H7 : Hp}, Inv X (pins ++ pinsAt fp s5.heap) σ7 H7 s7 → N σ7 H7 → ∃ m, m < n ∧ ∃ i σ' H', Inv X pins σ' H' s7 ∧ tn i s7.heap ∧ (∀ b ∈ fp, H' b = none) ∧ W i m σ' H' := fun {σ7 H7} I7 n7 => by
      obtain ⟨m', hm, w7⟩ := hN σ7 H7 n7
      refine ⟨m', hm, i + 1, σ7, H7, I7.unpinned, T.keep _ _ _ st5 fun b hb o e => (I7.pin (b, o) (List.mem_append_right _ (List.mem_append_right _ (mem_pinsAt hb e)))).1, fun b hb => ?_, w7⟩
      obtain ⟨o, e, d⟩ := T.obj _ _ st5 b hb
      exact (I7.pin (b, o) (List.mem_append_right _ (List.mem_append_right _ (mem_pinsAt hb e)))).2.1
    cases f with
    | next => obtain ⟨σ7, H7, I7, n7⟩ := q7; exact again I7 n7
    | cont => obtain ⟨σ7, H7, I7, n7⟩ := q7; exact again I7 n7
    | brk => obtain ⟨σ7, H7, I7, q7⟩ := q7; exact ⟨σ7, H7, I7.unpinned, q7⟩
    | ret v => obtain ⟨x7, σ7, H7, I7, r7, q7⟩ := q7; exact ⟨x7, σ7, H7, I7.unpinned, r7, q7⟩
end

end L2

namespace L2
open PySem PySem.Spec PyProof.Rows

noncomputable abbrev R2 := V → V → Hp → VK → Prop
noncomputable def OpR (X : Cx) (f : Value → Value → Sem Value) (r : R2) : Prop :=
  ∀ (pins : List (Addr × Obj)) (s : Shared) (σ : St) (H : Hp) (x y : V) (v u : Value) (Q : VK), Inv X pins σ H s → RelV x v → RelV y u → r x y H Q →
    wpAny (model X.prog X.w) X.A (f v u) (EP X pins σ Q) X.xe s
noncomputable def UnR (X : Cx) (f : Value → Sem Value) (r : V → Hp → VK → Prop) : Prop :=
  ∀ (pins : List (Addr × Obj)) (s : Shared) (σ : St) (H : Hp) (x : V) (v : Value) (Q : VK), Inv X pins σ H s → RelV x v → r x H Q →
    wpAny (model X.prog X.w) X.A (f v) (EP X pins σ Q) X.xe s
noncomputable def CallR (X : Cx) (f : Value) (r : List V → Hp → VK → Prop) : Prop :=
  ∀ (pins : List (Addr × Obj)) (s : Shared) (σ : St) (H : Hp) (xs : List V) (us : List Value) (Q : VK), Inv X pins σ H s → Vals xs us → r xs H Q →
    wpAny (model X.prog X.w) X.A (call f us) (EP X pins σ Q) X.xe s
noncomputable def tOp (r : R2) (ta tb : TE) : TE := fun σ H Q => ta σ H fun x H1 => tb σ H1 fun y H2 => r x y H2 Q
noncomputable def tUn (r : V → Hp → VK → Prop) (ta : TE) : TE := fun σ H Q => ta σ H fun x H1 => r x H1 Q
noncomputable def rI (C : Int → Int → Prop) (g : Int → Int → V) : R2 := fun x y H Q => ∃ i j, x = .int i ∧ y = .int j ∧ C i j ∧ Q (g i j) H
noncomputable def rI0 (g : Int → Int → V) : R2 := fun x y H Q => ∃ i j, x = .int i ∧ y = .int j ∧ Q (g i j) H
noncomputable def rU (g : Int → V) : V → Hp → VK → Prop := fun x H Q => ∃ i, x = .int i ∧ Q (g i) H

section
variable {X : Cx} {a b c : Expr} {ta tb tc : TE} {pos : Pos}

theorem binT (ha : PE X a ta) (hb : PE X b tb) {pins : List (Addr × Obj)} {s : Shared} {σ : St} {H : Hp} {R : V → V → Hp → Prop} (I : Inv X pins σ H s)
    (h : ta σ H fun x H1 => tb σ H1 fun y H2 => R x y H2) {Q : Value → Shared → Prop} {f : Value → Value → Sem Value}
    (hf : ∀ v u s2 x y H2, Inv X pins σ H2 s2 → RelV x v → RelV y u → R x y H2 → wpAny (model X.prog X.w) X.A (f v u) Q X.xe s2) :
    wpAny (model X.prog X.w) X.A (eval a X.env) (fun v s₁ => wpAny (model X.prog X.w) X.A (eval b X.env) (fun u s₂ => wpAny (model X.prog X.w) X.A (f v u) Q X.xe s₂) X.xe s₁) X.xe s := by
  refine thn (ha pins s σ H _ I h) fun v s1 ⟨x, H1, I1, r1, q1⟩ => ?_
  refine thn (hb pins s1 σ H1 _ I1 q1) fun u s2 ⟨y, H2, I2, r2, q2⟩ => ?_
  exact hf v u s2 x y H2 I2 r1 r2 q2

theorem pe_op {op : Operator} {r : R2} (ho : OpR X (binaryOp op) r) (ha : PE X a ta) (hb : PE X b tb) : PE X (.BinOp a op b pos) (tOp r ta tb) := by
  intro pins s σ H Q I h
  exact wpAny_BinOp (binT ha hb I h fun v u s2 x y H2 I2 rx ry q => ho pins s2 σ H2 x y v u Q I2 rx ry q)
theorem opI {f : Value → Value → Sem Value} {C : Int → Int → Prop} {g : Int → Int → Int}
    (rule : ∀ (i j : Int) (t u : Tok) (s : Shared) (Q : Value → Shared → Prop) (E : Value → Shared → Prop), C i j → Q (.int (g i j) s.toks) { s with toks := s.toks + 1 } → wpAny (model X.prog X.w) X.A (f (.int i t) (.int j u)) Q E s) :
    OpR X f (rI C fun i j => .int (g i j)) := by
  intro pins s σ H x y v u Q I rx ry h
  obtain ⟨i, j, rfl, rfl, hc, q⟩ := h
  obtain ⟨t, rfl⟩ := rx
  obtain ⟨t', rfl⟩ := ry
  exact rule i j t t' s _ _ hc ⟨.int (g i j), H, I.tok _, ⟨_, rfl⟩, q⟩
theorem opI0 {f : Value → Value → Sem Value} {g : Int → Int → Int}
    (rule : ∀ (i j : Int) (t u : Tok) (s : Shared) (Q : Value → Shared → Prop) (E : Value → Shared → Prop), Q (.int (g i j) s.toks) { s with toks := s.toks + 1 } → wpAny (model X.prog X.w) X.A (f (.int i t) (.int j u)) Q E s) :
    OpR X f (rI0 fun i j => .int (g i j)) := by
  intro pins s σ H x y v u Q I rx ry h
  obtain ⟨i, j, rfl, rfl, q⟩ := h
  obtain ⟨t, rfl⟩ := rx
  obtain ⟨t', rfl⟩ := ry
  exact rule i j t t' s _ _ ⟨.int (g i j), H, I.tok _, ⟨_, rfl⟩, q⟩
theorem opB0 {f : Value → Value → Sem Value} {g : Int → Int → Bool}
    (rule : ∀ (i j : Int) (t u : Tok) (s : Shared) (Q : Value → Shared → Prop) (E : Value → Shared → Prop), Q (.bool (g i j)) s → wpAny (model X.prog X.w) X.A (f (.int i t) (.int j u)) Q E s) :
    OpR X f (rI0 fun i j => .bl (g i j)) := by
  intro pins s σ H x y v u Q I rx ry h
  obtain ⟨i, j, rfl, rfl, q⟩ := h
  obtain ⟨t, rfl⟩ := rx
  obtain ⟨t', rfl⟩ := ry
  exact rule i j t t' s _ _ ⟨.bl (g i j), H, I, rfl, q⟩

noncomputable def CDiv (i j : Int) : Prop := 0 < j ∧ j < 1073741824
noncomputable def CPow (i j : Int) : Prop := 0 ≤ j ∧ j ≤ 1000000 ∧ i.natAbs < 2 ^ 64
noncomputable def CMul (i j : Int) : Prop := (-(2 ^ 64) < i ∧ i < 2 ^ 64) ∨ (-(2 ^ 64) < j ∧ j < 2 ^ 64)
theorem CMul.ok {i j : Int} (h : CMul i j) : IntMulOk i j := by
  rcases h with ⟨h1, h2⟩ | ⟨h1, h2⟩
  · exact .of_left (intBits_le_64 h1 h2)
  · exact .of_right (intBits_le_64 h1 h2)
theorem op_add : OpR X (binaryOp .Add) (rI0 fun i j => .int (i + j)) := opI0 fun _ _ _ _ _ _ _ q => add_int q
theorem op_sub : OpR X (binaryOp .Sub) (rI0 fun i j => .int (i - j)) := opI0 fun _ _ _ _ _ _ _ q => sub_int q
theorem op_mul : OpR X (binaryOp .Mult) (rI CMul fun i j => .int (i * j)) := opI fun _ _ _ _ _ _ _ hc q => mul_int q hc.ok
theorem op_fdiv : OpR X (binaryOp .FloorDiv) (rI CDiv fun i j => .int (i / j)) := opI fun i j _ _ _ _ _ hc q => by
  have h1 : (0 : Int) < j := hc.1
  have h2 : j < 1073741824 := hc.2
  exact floordiv_int (by omega) (by rw [Int.fdiv_eq_ediv_of_nonneg i (by omega)]; exact q) (.inl (PyProof.noPylong_small (by omega)))
theorem op_mod : OpR X (binaryOp .Mod) (rI (fun _ j => 0 < j) fun i j => .int (i % j)) := opI fun i j _ _ _ _ _ hc q => by
  have h1 : (0 : Int) < j := hc
  exact mod_int' (by omega) (by rw [Int.fmod_eq_emod_of_nonneg i (by omega)]; exact q)
end

section
variable {X : Cx} {a b c : Expr} {ta tb tc : TE} {pos : Pos}
theorem fin_bl {pins : List (Addr × Obj)} {σ : St} {H : Hp} {s : Shared} {Q : VK} {k k' : Bool} (I : Inv X pins σ H s) (q : Q (.bl k) H) (e : k = k') : EP X pins σ Q (.bool k') s := by
  subst e
  exact ⟨.bl k, H, I, rfl, q⟩
theorem op_lt : OpR X (compareOp .Lt) (rI0 fun i j => .bl (decide (i < j))) := opB0 fun _ _ _ _ _ _ _ q => lt_int q
theorem op_lt_str : OpR X (compareOp .Lt) (fun x y H Q => ∃ i j, x = .str i ∧ y = .str j ∧ Q (.bl (decide (i.cps.toList < j.cps.toList))) H) := by
  intro pins s σ H x y v u Q I rx ry h
  obtain ⟨i, j, rfl, rfl, q⟩ := h
  obtain ⟨t, rfl⟩ := rx
  obtain ⟨t', rfl⟩ := ry
  exact lt_str (fin_bl I q rfl)
theorem OpR.or {f : Value → Value → Sem Value} {r r' : R2} (h : OpR X f r) (h' : OpR X f r') : OpR X f (fun x y H Q => r x y H Q ∨ r' x y H Q) := by
  intro pins s σ H x y v u Q I rx ry q
  rcases q with q | q
  · exact h pins s σ H x y v u Q I rx ry q
  · exact h' pins s σ H x y v u Q I rx ry q

theorem pe_cmpR {op : CmpOp} {r : R2} (ho : OpR X (compareOp op) r) (ha : PE X a ta) (hb : PE X b tb) (hm : behindInMarks op b = false) : PE X (.Compare a [op] [b] pos) (tOp r ta tb) := by
  intro pins s σ H Q I h
  exact wpAny_Compare1 (binT ha hb I h fun v u s2 x y H2 I2 rx ry q => ho pins s2 σ H2 x y v u Q I2 rx ry q) hm
noncomputable def tTest (t : TE) : TT := fun σ H Q => t σ H fun x H' => ∃ k, x = .bl k ∧ Q k H'
theorem pt_cmpR {op : CmpOp} {r : R2} (ho : OpR X (compareOp op) r) (ha : PE X a ta) (hb : PE X b tb) (hm : behindInMarks op b = false) : PT X (.Compare a [op] [b] pos) (tTest (tOp r ta tb)) := by
  intro pins s σ H Q I h
  refine wpAny_isTrue_Compare1 (thn (ha pins s σ H _ I h) fun v s1 ⟨x, H1, I1, r1, q1⟩ => thn (hb pins s1 σ H1 _ I1 q1) fun u s2 ⟨y, H2, I2, r2, q2⟩ =>
    thn (ho pins s2 σ H2 x y v u _ I2 r1 r2 q2) fun c s3 ⟨z, H3, I3, r3, k, e, q3⟩ => ?_) hm
  subst e
  cases r3
  exact wpAny_truthy_bool ⟨H3, I3, q3⟩
noncomputable def tChain (r r' : R2) (ta tb tc : TE) : TE := fun σ H Q => ta σ H fun x H1 => tb σ H1 fun y H2 => r x y H2 fun z H3 => ∃ k, z = .bl k ∧
  (if k = true then tc σ H3 fun w' H4 => r' y w' H4 Q else Q (.bl false) H3)
theorem line63 : (sizeLine : Nat) < 2 ^ 63 := by rw [sizeLine_eq]; decide
theorem op_add_str : OpR X (binaryOp .Add) (fun x y H Q => ∃ i j, x = .str i ∧ y = .str j ∧ i.length + j.length ≤ sizeLine ∧ Q (.str (i ++ j)) H) := by
  intro pins s σ H x y v u Q I rx ry h
  obtain ⟨i, j, rfl, rfl, hz, q⟩ := h
  obtain ⟨t, rfl⟩ := rx
  obtain ⟨t', rfl⟩ := ry
  exact add_str (fun t' tk => ⟨.str (i ++ j), H, I.tok _, ⟨_, rfl⟩, q⟩) hz
theorem vals1 {x : V} {us : List Value} (r : Vals [x] us) : ∃ u, us = [u] ∧ RelV x u := by
  cases r with
  | cons r1 r2 => cases r2; exact ⟨_, rfl, r1⟩
theorem vals2 {x y : V} {us : List Value} (r : Vals [x, y] us) : ∃ u w', us = [u, w'] ∧ RelV x u ∧ RelV y w' := by
  cases r with
  | cons r1 r2 =>
    cases r2 with
    | cons r3 r4 => cases r4; exact ⟨_, _, rfl, r1, r3⟩
theorem call_min2 (hc : X.calm = true) : CallR X (.builtin "min") (fun xs H Q => ∃ i j, xs = [.int i, .int j] ∧ Q (.int (if j < i then j else i)) H) := by
  intro pins s σ H xs us Q I r h
  obtain ⟨i, j, rfl, q⟩ := h
  obtain ⟨u, w', rfl, ⟨t, rfl⟩, ⟨t', rfl⟩⟩ := vals2 r
  refine min_two_ints (I.ok.hd hc) fun h' tk k => ⟨_, H, I.kept k, ?_, q⟩
  by_cases hj : j < i
  · rw [if_pos hj, if_pos hj]; exact ⟨_, rfl⟩
  · rw [if_neg hj, if_neg hj]; exact ⟨_, rfl⟩
end
end L2

namespace L2
open PySem PySem.Spec PyProof.Rows

structure ObjM (h : Heap) (x dx C : Addr) (mA : Str → Option Value) : Prop where
  obj : h.get? x = some (PySem.W.instObj C dx)
  ns : h.Ns1 dx mA
  ne : dx ≠ x

theorem lookIn_ns {h : Heap} {dx : Addr} {mA : Str → Option Value} (n : h.Ns1 dx mA) : ∃ od, h.get? dx = some od ∧ ∀ name, PySem.W.lookIn name od = some (mA name) := by
  obtain ⟨o, es, ep, ho, hd, hk, _, hm⟩ := n
  refine ⟨o, ho, fun name => ?_⟩
  have e := hm name
  unfold nsFind findBy at e
  rw [← Array.find?_toList] at e
  unfold PySem.W.lookIn
  rw [hd]
  dsimp only
  split
  · rename_i y q
    rw [q] at e
    exact congrArg some e
  · rename_i q
    rw [q] at e
    have a : es.toList.any (·.refKey) = false := by
      rw [List.any_eq_false]
      intro y hy
      obtain ⟨z, t, hkey⟩ := hk y (Array.mem_toList_iff.mp hy)
      simp [DictEntry.refKey, hkey]
    have a' : ¬ es.toList.any (·.refKey) = true := by rw [a]; exact Bool.false_ne_true
    rw [if_neg a']
    exact congrArg some e

theorem ObjM.look {h : Heap} {x dx C : Addr} {mA : Str → Option Value} (I : ObjM h x dx C mA) : ∃ od, PySem.W.InstAt h x (PySem.W.instObj C dx) C (some od) ∧ ∀ name, PySem.W.lookIn name od = some (mA name) :=
  let ⟨od, ho, hl⟩ := lookIn_ns I.ns
  ⟨od, ⟨I.obj, rfl, rfl, ho⟩, hl⟩

section
variable {prog : Program} {w : World} {A : Around} {E : Value → Shared → Prop} {s : Shared} {K : PySem.W.Frag} {x dx C f : Addr} {mA : Str → Option Value} {name : Str} {v : Value}

end

noncomputable def putF (f : Str) (v : V) : List (Str × V) → List (Str × V)
  | [] => [(f, v)]
  | (g, x) :: r => if g = f then (g, v) :: r else (g, x) :: putF f v r
section
variable {P : Program} {w : World} {H H' : Hp} {h h' : Heap} {a C dx : Addr} {fs fs' : List (Str × V)}
theorem ins_get (hok : HOk P w H h) (e : H a = some (.ins C dx fs)) : ∃ mA, ObjM h a dx C mA ∧ (∀ f, RelO (fs.lookup f) (mA f)) ∧ PySem.Within mA (fs.map (·.1)) ∧ fs.length ≤ 1000 ∧ H dx = some (.own a) := by
  obtain ⟨d, z, ne, ob, mA, n, r, q⟩ := (show ObjOk P w H h a (.ins C dx fs) from hok a _ e)
  exact ⟨mA, ⟨ob, n, ne⟩, r, q, z, d⟩
end

structure Cls (K : PySem.W.Frag) (C : Addr) : Prop where
  pg : PySem.W.plainGet K C Str.empty = true
  hd : PySem.W.hasDictIn K C = true
  po : PySem.W.plainOver K C = true
  sa : PySem.W.findIn K (.ref C) "__setattr__" = some (some (.builtin "object.__setattr__"))
theorem Cls.get {K : PySem.W.Frag} {C : Addr} (c : Cls K C) (f : Str) : PySem.W.plainGet K C f = true := c.pg
noncomputable def NoAttr (K : PySem.W.Frag) (C : Addr) (f : Str) : Prop := PySem.W.findIn K (.ref C) f = some none
structure Meth (K : PySem.W.Frag) (C : Addr) (m : Str) (f : Addr) : Prop where
  at_ : PySem.W.findIn K (.ref C) m = some (some (.ref f))
  fn : PySem.W.isFn K (.ref f) = true
  kp : PySem.W.keepIn K (.ref f) = true

section
variable {X : Cx} {pins : List (Addr × Obj)} {σ : St} {H : Hp} {s : Shared} {a C dx : Addr} {fs : List (Str × V)} {f : Str} {v : V} {A : Around} {E : Value → Shared → Prop}

theorem Inv.made (I : Inv X pins σ H s) : Inv X pins σ (upd (upd H s.heap.objs.size (.own (s.heap.objs.size + 1))) (s.heap.objs.size + 1) (.ins C s.heap.objs.size []))
    { s with heap := (s.heap.push PySem.W.emptyDict).push (PySem.W.instObj C s.heap.objs.size) } := by
  have e1 : (s.heap.push PySem.W.emptyDict).get? s.heap.objs.size = some PySem.W.emptyDict := Heap.get?_push_size s.heap rfl
  have e2 : ((s.heap.push PySem.W.emptyDict).push (PySem.W.instObj C s.heap.objs.size)).get? (s.heap.objs.size + 1) = some (PySem.W.instObj C s.heap.objs.size) := by
    have := Heap.get?_push_size (s.heap.push PySem.W.emptyDict) (o := PySem.W.instObj C s.heap.objs.size) rfl
    rwa [Heap.size_push] at this
  have e3 : (s.heap.push PySem.W.emptyDict).Ns s.heap.objs.size (fun _ => none) := ⟨PySem.W.emptyDict, #[], _, e1, rfl, (fun e he => absurd he (by simp)), fun _ => rfl⟩
  have I1 := I.laid (a := s.heap.objs.size) (o := .own (s.heap.objs.size + 1)) (h' := s.heap.push PySem.W.emptyDict) (t' := s.toks) (fun b u q => Heap.get?_push_of_some _ q) (Nat.le_refl _) ⟨_, e1⟩
  refine I1.laid (a := s.heap.objs.size + 1) (o := .ins C s.heap.objs.size []) (t' := s.toks) (fun b u q => Heap.get?_push_of_some _ q) (Nat.le_of_eq (Heap.size_push _ _)) ?_
  have ne : s.heap.objs.size ≠ s.heap.objs.size + 1 := Nat.ne_of_lt (Nat.lt_succ_self _)
  refine ⟨by rw [upd_ne ne, upd_same], Nat.zero_le _, ne, e2, fun _ => none, (Heap.Ns1.of_empty e3).at fun o q => Heap.get?_push_of_some _ q, fun _ => True.intro, fun y hy => absurd rfl hy⟩

end

noncomputable def tFld (K : PySem.W.Frag) (ta : TE) (f : Str) : TE := fun σ H Q => ta σ H fun x H1 => ∃ a C dx fs v, x = .ref a ∧ H1 a = some (.ins C dx fs) ∧ Cls K C ∧ NoAttr K C f ∧ fs.lookup f = some v ∧ Q v H1
noncomputable def sFld (K : PySem.W.Frag) (ta tv : TE) (f : Str) : TS := fun D σ H => tv σ H fun y H1 => ta σ H1 fun x H2 => ∃ a C dx fs, x = .ref a ∧ H2 a = some (.ins C dx fs) ∧ Cls K C ∧ NoAttr K C f ∧ fs.length < 1000 ∧
  D.nx σ (upd H2 a (.ins C dx (putF f y fs)))
noncomputable def InOp (X : Cx) (op : Operator) (rd : V → V → Hp → VK → Prop) : Prop :=
  ∀ (pins : List (Addr × Obj)) (s : Shared) (σ : St) (H : Hp) (x y : V) (u v : Value) (Q : VK), Inv X pins σ H s → RelV x u → RelV y v → rd x y H Q → wpAny (model X.prog X.w) X.A (inplaceOp op u v) (EP X pins σ Q) X.xe s
noncomputable def sFldAug (K : PySem.W.Frag) (ta tv : TE) (rd : V → V → Hp → VK → Prop) (f : Str) : TS := fun D σ H => ta σ H fun x H1 => ∃ a C dx fs v, x = .ref a ∧ H1 a = some (.ins C dx fs) ∧ Cls K C ∧ NoAttr K C f ∧ fs.lookup f = some v ∧
  tv σ H1 fun y H2 => rd v y H2 fun z H3 => ∃ dx' fs', H3 a = some (.ins C dx' fs') ∧ fs'.length < 1000 ∧ D.nx σ (upd H3 a (.ins C dx' (putF f z fs')))

section
variable {X : Cx} {o e value : Expr} {f : Str} {pos pos' tpos : Pos} {ta tv : TE}
noncomputable def rAdd : V → V → Hp → VK → Prop := fun x y H Q => ∃ i j, x = .int i ∧ y = .int j ∧ Q (.int (i + j)) H
end

section
variable {X : Cx} {pins : List (Addr × Obj)} {σ : St} {H : Hp} {s : Shared} {A : Around} {E : Value → Shared → Prop} {Q : Value → Shared → Prop} {c : Value} {b : Bool}
inductive TyOf (K : PySem.W.Frag) (H : Hp) : V → Value → Prop where
  | non : TyOf K H .non (.type "NoneType")
  | bl (x : Bool) : TyOf K H (.bl x) (.type "bool")
  | int (i : Int) : TyOf K H (.int i) (.type "int")
  | str (x : Str) : TyOf K H (.str x) (.type "str")
  | flt (x : UInt64) : TyOf K H (.flt x) (.type "float")
  | lst {a : Addr} {xs : List V} (e : H a = some (.lst xs)) : TyOf K H (.ref a) (.type "list")
  | frz {a : Addr} {o : Obj} {xs : List V} (e : H a = some (.frz o (.lst xs))) : TyOf K H (.ref a) (.type "list")
  | tup {a : Addr} {xs : List V} (e : H a = some (.tup xs)) : TyOf K H (.ref a) (.type "tuple")
  | dK {a : Addr} {kvs : List (Key × V)} (e : H a = some (.dK kvs)) : TyOf K H (.ref a) (.type "dict")
  | dT {a : Addr} {kvs : List (List Key × V)} (e : H a = some (.dT kvs)) : TyOf K H (.ref a) (.type "dict")
  | ins {a C dx : Addr} {fs : List (Str × V)} (e : H a = some (.ins C dx fs)) (cl : Cls K C) (ha : PySem.W.findIn K (.ref C) "__class__" = some (some (.builtin "object.__class__")))
      (hn : PySem.W.specialIn K (.builtin "object.__class__") "__get__" = some (some (.builtin "getset_descriptor.__get__"))) (htk : PySem.W.takesIn K (.builtin "object.__class__") = some true)
      (hm : PySem.W.mroIn K C (.type "object") = some true) : TyOf K H (.ref a) (.ref C)
theorem isinst_ok {x : V} {u t : Value} (I : Inv X pins σ H s) (rx : RelV x u) (ty : TyOf X.K H x t) (e : PySem.W.kitOne X.K t c = some b) (h : ∀ tk, Q (.bool b) { s with toks := tk }) :
    wpAny (model X.prog X.w) A (call (.builtin "isinstance") [u, c]) Q E s := by
  cases ty with
  | non => cases (show u = Value.none from rx); exact PySem.W.kia_one PySem.W.kitx_none I.kIn True.intro e (fun z => nomatch z) h
  | bl y => cases (show u = Value.bool y from rx); exact PySem.W.kia_one PySem.W.kitx_bool I.kIn True.intro e (fun z => nomatch z) h
  | int i => obtain ⟨t, q⟩ := (show ∃ t, u = Value.int i t from rx); cases q; exact PySem.W.kia_one PySem.W.kitx_int I.kIn True.intro e (fun z => nomatch z) h
  | str y => obtain ⟨t, q⟩ := (show ∃ t, u = Value.str y t from rx); cases q; exact PySem.W.kia_one PySem.W.kitx_str I.kIn True.intro e (fun z => nomatch z) h
  | flt y => obtain ⟨t, q⟩ := (show ∃ t, u = Value.float y t from rx); cases q; exact PySem.W.kia_one PySem.W.kitx_float I.kIn True.intro e (fun z => nomatch z) h
  | @lst a xs ea =>
    cases (show u = Value.ref a from rx)
    obtain ⟨_, _, n, _, h1⟩ := (show ObjOk X.prog X.w H s.heap a (.lst xs) from I.hok a _ ea)
    exact PySem.W.kia_one PySem.W.kitx_list I.kIn ⟨_, h1, rfl⟩ e (fun z => nomatch z) h
  | @frz a ob xs ea =>
    cases (show u = Value.ref a from rx)
    obtain ⟨_, _, _, n, _, h1⟩ := (show ObjOk X.prog X.w H s.heap a (.frz ob (.lst xs)) from I.hok a _ ea)
    exact PySem.W.kia_one PySem.W.kitx_list I.kIn ⟨_, h1, rfl⟩ e (fun z => nomatch z) h
  | @tup a xs ea =>
    cases (show u = Value.ref a from rx)
    obtain ⟨_, _, _, p⟩ := (show ObjOk X.prog X.w H s.heap a (.tup xs) from I.hok a _ ea)
    obtain ⟨o, h1, h2, _⟩ := p
    exact PySem.W.kia_one PySem.W.kitx_tuple I.kIn ⟨o, h1, h2⟩ e (fun z => nomatch z) h
  | @dK a kvs ea =>
    cases (show u = Value.ref a from rx)
    obtain ⟨_, _, vs, _, p⟩ := (show ObjOk X.prog X.w H s.heap a (.dK kvs) from I.hok a _ ea)
    obtain ⟨o, es, ep, h1, h2, _⟩ := p
    exact PySem.W.kia_one PySem.W.kitx_dict I.kIn ⟨o, h1, h2.1⟩ e (fun z => nomatch z) h
  | @dT a kvs ea =>
    cases (show u = Value.ref a from rx)
    obtain ⟨_, _, xs, _, o, es, ep, h1, h2, _⟩ := (show ObjOk X.prog X.w H s.heap a (.dT kvs) from I.hok a _ ea)
    exact PySem.W.kia_one PySem.W.kitx_dict I.kIn ⟨o, h1, h2.1⟩ e (fun z => nomatch z) h
  | @ins a C dx fs ea cl ha hn htk hm =>
    cases (show u = Value.ref a from rx)
    obtain ⟨mA, O, _⟩ := ins_get I.hok ea
    obtain ⟨od, J, _⟩ := O.look
    exact PySem.W.kia_one (PySem.W.kitx_own (cl.get _) cl.hd ha hn htk hm) I.kIn J e (fun z => nomatch z) h
end
end L2

namespace L2
open PySem PySem.Spec PyProof.Rows

structure Room (k : Nat) (A : Around) : Prop where
  hd : A.handled = none
  dp : A.depth + 3 * k + 5 < recursionLimit
  un : A.units + 16 * k + 200 < cLine
theorem Room.mono {j k : Nat} {A : Around} (r : Room k A) (h : j ≤ k) : Room j A := ⟨r.hd, by have := r.dp; omega, by have := r.un; omega⟩
theorem Room.deeper {k : Nat} {A : Around} (r : Room (k + 1) A) (env : Env) : Room k (A.deeper env) :=
  ⟨r.hd, by have := r.dp; show A.depth + 1 + 3 * k + 5 < _; omega, by have := r.un; show A.units + 3 + 16 * k + 200 < _; omega⟩
theorem Room.in1 {k : Nat} {A : Around} (r : Room (k + 1) A) : Room k A.in1 :=
  ⟨r.hd, by have := r.dp; show A.depth + 3 * k + 5 < _; omega, by have := r.un; show A.units + 1 + 16 * k + 200 < _; omega⟩
theorem Room.depth {k : Nat} {A : Around} (r : Room k A) : A.depth < recursionLimit := by have := r.dp; omega
theorem Room.units {k : Nat} {A : Around} (r : Room k A) : A.units + 64 < cLine := by have := r.un; omega
noncomputable def tNil : TA := fun _ H Q => Q [] H
noncomputable def tCons (ta : TE) (tr : TA) : TA := fun σ H Q => ta σ H fun x H1 => tr σ H1 fun xs H2 => Q (x :: xs) H2
section
variable {X : Cx} {e : Expr} {es : List Expr} {te : TE} {t : TA} {pos : Pos}
theorem pa_nil : PA X [] tNil := fun _ _ _ _ H Q I h => Calls.spliced_nil ⟨[], H, I, .nil, h⟩
theorem pa_cons (ha : PE X e te) (hr : PA X es t) (hs : starEach (e :: es) X.env = (false, eval e X.env) :: starEach es X.env := by rfl) : PA X (e :: es) (tCons te t) := by
  intro pos pins s σ H Q I h
  rw [hs]
  show wpAny _ _ (spliced ((false, eval e X.env) :: backTo pos (starEach es X.env))) _ _ s
  refine Calls.spliced_cons (thn (ha pins s σ H _ I h) fun u s1 ⟨x, H1, I1, r1, q1⟩ => ?_)
  exact thn (hr pos pins s1 σ H1 _ I1 q1) fun us s2 ⟨xs, H2, I2, r2, q2⟩ => ⟨x :: xs, H2, I2, .cons r1 r2, q2⟩

noncomputable def tTup (t : TA) : TE := fun σ H Q => t σ H fun xs H1 => xs.length ≤ sizeLine ∧ ∀ p, H1 p = none → Q (.ref p) (upd H1 p (.tup xs))
noncomputable def tLst (t : TA) : TE := fun σ H Q => t σ H fun xs H1 => xs.length ≤ sizeLine ∧ ∀ p, H1 p = none → Q (.ref p) (upd H1 p (.lst xs))
theorem pe_tup {x1} (h : PA X es t) : PE X (.Tuple es x1 pos) (tTup t) := by
  intro pins s σ H Q I hq
  refine wpAny_Tuple_spliced (thn (h pos pins s σ H _ I hq) fun us s1 ⟨xs, H1, I1, r, z, q⟩ => ⟨by rw [← r.length]; exact z, ?_⟩)
  have hf : H1 s1.heap.objs.size = none := I1.hok.fresh (Nat.le_refl _)
  refine ⟨.ref s1.heap.objs.size, upd H1 s1.heap.objs.size (.tup xs), I1.laid (t' := s1.toks) (fun b u e => Heap.get?_push_of_some _ e) (Nat.le_refl _) ?_, rfl, q _ hf⟩
  exact ⟨z, us, r, ⟨_, Heap.get?_push_size _ rfl, rfl, _, rfl⟩⟩
theorem pe_lst (h : PA X es t) : PE X (.List es pos) (tLst t) := by
  intro pins s σ H Q I hq
  refine wpAny_List_spliced (thn (h pos pins s σ H _ I hq) fun us s1 ⟨xs, H1, I1, r, z, q⟩ => ⟨by rw [← r.length]; exact z, ?_⟩)
  have hf : H1 s1.heap.objs.size = none := I1.hok.fresh (Nat.le_refl _)
  refine ⟨.ref s1.heap.objs.size, upd H1 s1.heap.objs.size (.lst xs), I1.laid (t' := s1.toks) (fun b u e => Heap.get?_push_of_some _ e) (Nat.le_refl _) ?_, rfl, q _ hf⟩
  exact ⟨z, us, 0, r, Heap.get?_push_size _ rfl⟩
end

noncomputable abbrev Sp := List V → Hp → VK → XK → Prop
noncomputable abbrev CXT := List Env → Hp → Shared → XK → Value → Shared → Prop

structure Env0 (P : Program) (w : World) (K : PySem.W.Frag) (mg : Str → Option Value) (base : Heap) (A : Around) (outer : List Env) (s : Shared) (H : Hp) : Prop where
  frames : A.frames = some outer
  mod : Mod K mg base
  bs : ∀ b o, base.get? b = some o → s.heap.get? b = some o ∧ H b = none
  bsz : base.objs.size ≤ s.heap.objs.size
  funs : s.heap.FunFrames base outer
  frf : ∀ b ∈ frs outer, H b = none
  hok : HOk P w H s.heap
  bare : AllBare s.gens
noncomputable def CE (outer : List Env) (P : Program) (w : World) (H : Hp) (s : Shared) (Q : VK) (u : Value) (s' : Shared) : Prop :=
  ∃ v H', s'.os = s.os ∧ AllBare s'.gens ∧ Un (frs outer) [] H H' s.heap s'.heap ∧ HOk P w H' s'.heap ∧ RelV v u ∧ Q v H'
noncomputable def CR (CX : CXT) (outer : List Env) (P : Program) (w : World) (H : Hp) (s : Shared) (Q : VK) (E : XK) (r : Result) (s' : Shared) : Prop :=
  match r with
  | .ok (.ret u) => CE outer P w H s Q u s'
  | .ok _ => False
  | .error e => CX outer H s E e s'
structure FnOk (P : Program) (w : World) (K : PySem.W.Frag) (mg : Str → Option Value) (base : Heap) (CX : CXT) (k : Nat) (f : Addr) (fd : FuncData) (ps : List Str) (sp : Sp) : Prop where
  len : ∀ vs H Q E, sp vs H Q E → vs.length = ps.length
  run : ∀ (A : Around) (outer : List Env) (s : Shared) (H : Hp) (args : Args) (us : List Value) (vs : List V) (Q : VK) (E : XK), Room k A → Env0 P w K mg base A outer s H → BindsTo s fd args (ps.zip us) → Vals vs us → sp vs H Q E →
    codeAny (model P w) A (.call (.ref f) args) (CR CX outer P w H s Q E) s
theorem FnOk.mono {P : Program} {w : World} {K : PySem.W.Frag} {mg : Str → Option Value} {base : Heap} {CX : CXT} {j k : Nat} {f : Addr} {fd : FuncData} {ps : List Str} {sp : Sp} (F : FnOk P w K mg base CX j f fd ps sp) (h : j ≤ k) :
    FnOk P w K mg base CX k f fd ps sp := ⟨F.len, fun A outer s H args us vs Q E hr => F.run A outer s H args us vs Q E (hr.mono h)⟩
theorem FnOk.imp {P : Program} {w : World} {K : PySem.W.Frag} {mg : Str → Option Value} {base : Heap} {CX : CXT} {k : Nat} {f : Addr} {fd : FuncData} {ps : List Str} {sp sp' : Sp} (F : FnOk P w K mg base CX k f fd ps sp)
    (h : ∀ vs H Q E, sp' vs H Q E → sp vs H Q E) : FnOk P w K mg base CX k f fd ps sp' :=
  ⟨fun vs H Q E q => F.len vs H Q E (h _ _ _ _ q), fun A outer s H args us vs Q E hr he hb hv hs => F.run A outer s H args us vs Q E hr he hb hv (h _ _ _ _ hs)⟩

theorem Env0.in1 {P : Program} {w : World} {K : PySem.W.Frag} {mg : Str → Option Value} {base : Heap} {A : Around} {outer : List Env} {s : Shared} {H : Hp} (e : Env0 P w K mg base A outer s H) :
    Env0 P w K mg base A.in1 outer s H := ⟨e.frames, e.mod, e.bs, e.bsz, e.funs, e.frf, e.hok, e.bare⟩

section
variable {X : Cx} {pins : List (Addr × Obj)} {σ : St} {H : Hp} {s s' : Shared}
theorem Inv.env0 (I : Inv X pins σ H s) : Env0 X.prog X.w X.K X.mg X.base X.A X.stack s H :=
  ⟨I.ok.frames, I.ok.mod, I.bs, Nat.le_trans I.ok.bsz I.sz, I.stack, I.stkFree, I.hok, I.bare⟩
theorem Inv.after {Q : VK} {u : Value} (I : Inv X pins σ H s) (h : CE X.stack X.prog X.w H s Q u s') : EP X pins σ Q u s' := by
  obtain ⟨v, H', os, bare, un, hok, r, q⟩ := h
  obtain ⟨hh, g, d, t, os'⟩ := s'
  obtain rfl : os' = s.os := os
  exact ⟨v, H', I.call (h' := hh) (g' := g) (d' := d) (t' := t) (ch := []) un hok bare (fun b z => absurd z (by simp)), r, q⟩
end

noncomputable def tCall (sp : Sp) (dvs : List V) (E : XK) (t : TA) : TE := fun σ H Q => t σ H fun vs H1 => sp (vs ++ dvs) H1 Q E
noncomputable def tMeth (C : Addr) (m : Str) (sp : Sp) (dvs : List V) (E : XK) (ta : TE) (t : TA) : TE := fun σ H Q => ta σ H fun x H1 => ∃ a dx fs, x = .ref a ∧ H1 a = some (.ins C dx fs) ∧ fs.lookup m = none ∧
  t σ H1 fun vs H2 => sp (x :: (vs ++ dvs)) H2 Q E
noncomputable def tMake (C : Addr) (sp : Sp) (dvs : List V) (E : XK) (t : TA) : TE := fun σ H Q => t σ H fun vs H1 => ∀ x dx, H1 x = none → H1 dx = none → dx ≠ x →
  sp (.ref x :: (vs ++ dvs)) (upd (upd H1 dx (.own x)) x (.ins C dx [])) (fun v H2 => v = .non ∧ Q (.ref x) H2) E

noncomputable def Binds (K : PySem.W.Frag) (fd : FuncData) (ps : List Str) (ds : List Value) : Prop :=
  ∀ (s : Shared) (us : List Value), K.In s.heap → (us ++ ds).length = ps.length → BindsTo s fd ⟨us, []⟩ (ps.zip (us ++ ds))
theorem Binds.all {K : PySem.W.Frag} {fd : FuncData} {ps : List Str} (h : ∀ us : List Value, us.length = ps.length → bindArgs fd ⟨us, []⟩ = pure (ps.zip us)) : Binds K fd ps [] := fun s us _ hl => by
  rw [List.append_nil] at hl ⊢
  exact .of_eq (h us hl)

noncomputable def Passes (CX : CXT) (X : Cx) (E : XK) : Prop := ∀ (pins : List (Addr × Obj)) (σ : St) (H : Hp) (s : Shared) (e : Value) (s' : Shared), Inv X pins σ H s → CX X.stack H s E e s' → X.xe e s'

section
variable {X : Cx} {CX : CXT} {k : Nat} {f C : Addr} {fd : FuncData} {ps : List Str} {sp : Sp} {dvs : List V} {ds : List Value} {E : XK} {x m : Str} {p pos apos : Pos} {e o : Expr} {es : List Expr} {ta : TE} {t : TA}

theorem run_fn {pins : List (Addr × Obj)} {σ : St} {H : Hp} {s : Shared} {Q : VK} {us : List Value} {vs : List V} (F : FnOk X.prog X.w X.K X.mg X.base CX k f fd ps sp) (hr : Room k X.A) (hb : Binds X.K fd ps ds) (hd : Vals dvs ds) (hx : Passes CX X E)
    (I : Inv X pins σ H s) (r : Vals vs us) (h : sp (vs ++ dvs) H Q E) : wpAny (model X.prog X.w) X.A (call (.ref f) us) (EP X pins σ Q) X.xe s := by
  have r2 : Vals (vs ++ dvs) (us ++ ds) := r.append hd
  have hl : (us ++ ds).length = ps.length := by rw [← r2.length]; exact F.len _ _ _ _ h
  refine wpAny_call (codeAny_mono (F.run X.A X.stack s H ⟨us, []⟩ (us ++ ds) (vs ++ dvs) Q E hr I.env0 (hb s us I.kIn hl) r2 h) fun r s' hq => ?_)
  cases r with
  | error e => exact hx pins σ H s e s' I hq
  | ok fl =>
    cases fl with
    | ret u => exact I.after hq
    | next => exact False.elim hq
    | brk => exact False.elim hq
    | cont => exact False.elim hq

theorem pe_call (F : FnOk X.prog X.w X.K X.mg X.base CX k f fd ps sp) (hr : Room k X.A) (hg : Gl X x) (hm : X.mg x = some (.ref f)) (hk : PySem.W.keepIn X.K (.ref f) = true) (hb : Binds X.K fd ps ds) (hd : Vals dvs ds) (hx : Passes CX X E)
    (ha : PA X (e :: es) t) (hdb : (x == ("__debug__" : Str)) = false := by decide) (he : starEach (e :: es) X.env = (false, eval e X.env) :: starEach es X.env := by rfl) (hpl : (backTo pos (starEach es X.env)).any (·.1) = false := by rfl) :
    PE X (.Call (.Name x p) (e :: es) [] pos) (tCall sp dvs E t) := by
  intro pins s σ H Q I h
  refine wpAny_Call_Name_kw (ld_glob I hg hm ?_ hdb)
  refine PySem.W.callWith_K (h₀ := X.base) I.ok.mod.kin hk (thn (ha pos pins s σ H _ I h) fun us s1 ⟨vs, H1, I1, r, q⟩ => ⟨I1.kIn, ?_⟩) he hpl
  exact run_fn F hr hb hd hx I1 r q
structure Mk (K : PySem.W.Frag) (C f : Addr) : Prop where
  makes : PySem.W.makesIn K C = true
  init : PySem.W.findIn K (.ref C) "__init__" = some (some (.ref f))
  fn : PySem.W.isFn K (.ref f) = true
  kp : PySem.W.keepIn K (.ref C) = true

end

noncomputable def PK (X : Cx) (kws : List Keyword) (t : TA) : Prop :=
  ∀ (pos : Pos) (pins : List (Addr × Obj)) (s : Shared) (σ : St) (H : Hp) (Q : List V → Hp → Prop), Inv X pins σ H s → t σ H Q → wpAny (model X.prog X.w) X.A (evalAll ((backToKw pos (keywordEach kws X.env)).map (·.2))) (AP X pins σ Q) X.xe s
section
variable {X : Cx} {CX : CXT} {k : Nat} {f C : Addr} {fd : FuncData} {ps ks : List Str} {sp : Sp} {E : XK} {x m : Str} {p pos apos kpos : Pos} {e o : Expr} {es : List Expr} {kws : List Keyword} {te ta : TE} {t tk : TA} {nm : Option Str}
theorem pk_nil : PK X [] tNil := fun _ _ _ _ H Q I h => wpAny_evalAll_nil ⟨[], H, I, .nil, h⟩
theorem pk_cons (ha : PE X e te) (hr : PK X kws t) : PK X (⟨nm, e, kpos⟩ :: kws) (tCons te t) := by
  intro pos pins s σ H Q I h
  show wpAny _ _ (evalAll ((do let v ← eval e X.env; standAt pos; pure v) :: (backToKw pos (keywordEach kws X.env)).map (·.2))) _ _ s
  refine wpAny_evalAll_cons (wpAny_bind (thn (ha pins s σ H _ I h) fun u s1 ⟨x, H1, I1, r1, q1⟩ => wpAny_bind (wpAny_standAt (wpAny_pure ?_))))
  exact thn (hr pos pins s1 σ H1 _ I1 q1) fun us s2 ⟨xs, H2, I2, r2, q2⟩ => ⟨x :: xs, H2, I2, .cons r1 r2, q2⟩

structure KBinds (K : PySem.W.Frag) (fd : FuncData) (ps ks : List Str) (g : List Value → List Value → List Value) (gV : List V → List V → List V) : Prop where
  to : ∀ (s : Shared) (us ws : List Value), K.In s.heap → (g us ws).length = ps.length → BindsTo s fd ⟨us, ks.zip ws⟩ (ps.zip (g us ws))
  rel : ∀ {vs : List V} {us : List Value} {zs : List V} {ws : List Value}, Vals vs us → Vals zs ws → Vals (gV vs zs) (g us ws)
noncomputable def tCallK (sp : Sp) (gV : List V → List V → List V) (E : XK) (t tk : TA) : TE := fun σ H Q => t σ H fun vs H1 => tk σ H1 fun zs H2 => sp (gV vs zs) H2 Q E
variable {g : List Value → List Value → List Value} {gV : List V → List V → List V}
end

structure FnScope (N P : List Str) (sc : Scope) : Prop where
  kind : sc.kind = .function
  co : sc.isCoroutine = false
  gen : sc.isGenerator = false
  nd : N.Nodup
  pre : N.take P.length = P
  par : ∀ x ∈ P, sc.names.lookup x = some .local ∨ sc.names.lookup x = some .cell
  nofree : ∀ y ∈ sc.names, y.2 ≠ .free

theorem bindL_out {kindOf : Str → Option NameKind} {x : Str} : ∀ {binds : List (Str × Value)} {m : Str → Option Value}, (∀ v, (x, v) ∉ binds) → bindL kindOf binds m x = m x
  | [], _, _ => rfl
  | (n, v) :: r, m, h => by
    unfold bindL
    rw [bindL_out fun w hw => h w (List.mem_cons_of_mem _ hw)]
    split
    · have : x ≠ n := by rintro rfl; exact h v List.mem_cons_self
      simp [this]
    · rfl
theorem bindC_out {kindOf : Str → Option NameKind} {x : Str} : ∀ {binds : List (Str × Value)} {m : Str → Option Value}, (∀ v, (x, v) ∉ binds) → bindC kindOf binds m x = m x
  | [], _, _ => rfl
  | (n, v) :: r, m, h => by
    unfold bindC
    rw [bindC_out fun w hw => h w (List.mem_cons_of_mem _ hw)]
    split
    · rfl
    · have : x ≠ n := by rintro rfl; exact h v List.mem_cons_self
      simp [this]
theorem bindL_get {kindOf : Str → Option NameKind} {x : Str} {v : Value} : ∀ {P : List Str} {vs : List Value} {i : Nat} {m : Str → Option Value}, P.Nodup → P[i]? = some x → vs[i]? = some v → kindOf x = some .local →
    bindL kindOf (P.zip vs) m x = some v
  | [], _, _, _, _, h, _, _ => by simp at h
  | _ :: _, [], _, _, _, _, h, _ => by simp at h
  | p :: P, w :: vs, 0, m, nd, h1, h2, hk => by
    simp at h1 h2; subst h1; subst h2
    show bindL kindOf ((p, w) :: P.zip vs) m p = _
    unfold bindL
    rw [bindL_out fun v hv => (List.nodup_cons.mp nd).1 (List.of_mem_zip hv).1, if_pos hk]
    simp
  | p :: P, w :: vs, i + 1, m, nd, h1, h2, hk => by
    show bindL kindOf ((p, w) :: P.zip vs) m x = _
    unfold bindL
    exact bindL_get (i := i) (List.nodup_cons.mp nd).2 (by simpa using h1) (by simpa using h2) hk
theorem bindC_get {kindOf : Str → Option NameKind} {x : Str} {v : Value} : ∀ {P : List Str} {vs : List Value} {i : Nat} {m : Str → Option Value}, P.Nodup → P[i]? = some x → vs[i]? = some v → kindOf x ≠ some .local →
    bindC kindOf (P.zip vs) m x = some v
  | [], _, _, _, _, h, _, _ => by simp at h
  | _ :: _, [], _, _, _, _, h, _ => by simp at h
  | p :: P, w :: vs, 0, m, nd, h1, h2, hk => by
    simp at h1 h2; subst h1; subst h2
    show bindC kindOf ((p, w) :: P.zip vs) m p = _
    unfold bindC
    rw [bindC_out fun v hv => (List.nodup_cons.mp nd).1 (List.of_mem_zip hv).1, if_neg hk]
    simp
  | p :: P, w :: vs, i + 1, m, nd, h1, h2, hk => by
    show bindC kindOf ((p, w) :: P.zip vs) m x = _
    unfold bindC
    exact bindC_get (i := i) (List.nodup_cons.mp nd).2 (by simpa using h1) (by simpa using h2) hk

noncomputable def start (N : List Str) (vs : List V) : St := vs.map some ++ List.replicate (N.length - vs.length) none

noncomputable def cxOf (CX : CXT) (P : Program) (w : World) (K : PySem.W.Frag) (mg : Str → Option Value) (base : Heap) (N : List Str) (qual : Str) (scope : Scope) (f : Addr) (cd : Value) (A : Around) (outer : List Env) (s : Shared) (H : Hp) (E : XK) : Cx where
  prog := P
  w := w
  K := K
  mg := mg
  base := base
  A := A.deeper (envOfC qual scope s.heap.objs.size f cd)
  N := N
  s₀ := s
  H₀ := H
  env := envOfC qual scope s.heap.objs.size f cd
  outer := outer
  stack := envOfC qual scope s.heap.objs.size f cd :: outer
  ex := []
  calm := true
  fn := fun _ => true
  pn := []
  xe := fun e s' => wpAny (model P w) (A.deeper (envOfC qual scope s.heap.objs.size f cd)) (leaving (envOfC qual scope s.heap.objs.size f cd) e) (fun _ s'' => CX outer H s E e s'') (fun e' s'' => CX outer H s E e' s'') s'

theorem cell_has {sc : Scope} {n : Nat} {x : Str} (h : sc.names.lookup x = some .cell) : ∃ c, (cellsFrom n sc.names []).lookup x = some c := by
  have q := PySem.W.cellsFrom_some sc.names n [] (.inl h)
  exact Option.isSome_iff_exists.mp q

theorem inv_start {CX : CXT} {P : Program} {w : World} {K : PySem.W.Frag} {mg : Str → Option Value} {base : Heap} {N ps : List Str} {qual : Str} {scope : Scope} {f : Addr} {cd : Value} {A : Around} {outer : List Env} {s s1 : Shared} {H : Hp} {E : XK} {us : List Value} {vs : List V}
    (S : FnScope N ps scope) (hd : A.handled = none) (e0 : Env0 P w K mg base A outer s H) (hl : vs.length = ps.length) (r : Vals vs us)
    (x : InCallC s s.heap.objs.size (bindL (envOfC qual scope s.heap.objs.size f cd).kindOf (ps.zip us) fun _ => none) (cellsFrom (s.heap.objs.size + 1) scope.names []) (bindC (envOfC qual scope s.heap.objs.size f cd).kindOf (ps.zip us) fun _ => none) s1) :
    Inv (cxOf CX P w K mg base N qual scope f cd A outer s H E) [] (start N vs) H s1 := by
  have hpl : ps.length ≤ N.length := by have := congrArg List.length S.pre; rw [List.length_take] at this; omega
  obtain ⟨h1, tk, rfl, hk⟩ := x.done
  have noA : ∀ b : Addr, b ∉ (cxOf CX P w K mg base N qual scope f cd A outer s H E).ex := fun b z => absurd (show b ∈ ([] : List Addr) from z) (by simp)
  refine ⟨⟨e0.mod, S.kind, rfl, rfl, Nat.le_refl _, fun y z c h1 h2 => ?_, fun y hy => ?_, fun y c _ h => ?_, fun _ => hd, Around.frames_deeper e0.frames, .inr ⟨rfl, rfl⟩, fun b z => absurd z (noA b), e0.bs, e0.bsz, fun b _ _ => noA b, fun b z => absurd z (noA b), e0.funs, e0.frf⟩,
    rfl, e0.bare, Un.kept hk, ⟨_, x.toInCall.ns, fun i y v h1 h2 h3 => ?_⟩, fun y c h => ⟨_, x.cell y c h⟩, e0.hok.fresh (Nat.le_refl _), fun y c h => ?_, fun p hp => absurd (show p ∈ ([] : List (Addr × Obj)) from hp) (by simp), e0.hok.kept hk, ?_⟩
  · exact name_of_addr x.apart (PySem.mem_of_lookup h1) (PySem.mem_of_lookup h2)
  · have hy : scope.names.lookup y = some .cell ∨ scope.names.lookup y = some .free := hy
    rcases hy with hy | hy
    · exact cell_has hy
    · exact absurd rfl (S.nofree _ (PySem.mem_of_lookup hy))
  · exact Nat.le_of_lt (x.above y c (PySem.mem_of_lookup h))
  · have hi : i < vs.length := by
      unfold start at h2
      by_cases hi : i < vs.length
      · exact hi
      · rw [List.getElem?_append_right (by simpa using hi)] at h2
        rw [List.getElem?_replicate] at h2
        split at h2 <;> cases h2
    have ha : vs[i]? = some v := by
      unfold start at h2
      rw [List.getElem?_append_left (by simpa using hi), List.getElem?_map] at h2
      cases e : vs[i]? with
      | none => rw [e] at h2; cases h2
      | some a => rw [e] at h2; cases h2; rfl
    obtain ⟨u, hu, rv⟩ := r.get ha
    have hp : ps[i]? = some y := by
      rw [← S.pre, List.getElem?_take_of_lt (by omega)]; exact h1
    have ndP : ps.Nodup := by rw [← S.pre]; exact S.nd.sublist (List.take_sublist _ _)
    refine ⟨u, rv, ?_⟩
    rcases S.par y (List.mem_of_getElem? hp) with k | k
    · exact .inl ⟨k, bindL_get ndP hp hu k⟩
    · obtain ⟨c, e⟩ := cell_has (n := s.heap.objs.size + 1) k
      refine .inr ⟨.inl k, c, e, ?_⟩
      have q := x.cell y c e
      rw [bindC_get ndP hp hu (by show scope.names.lookup y ≠ _; rw [k]; decide)] at q
      exact q
  · exact e0.hok.fresh (Nat.le_of_lt (x.above y c (PySem.mem_of_lookup h)))
  · unfold start
    show _ = N.length
    rw [List.length_append, List.length_map, List.length_replicate]
    omega

theorem fn_of {CX : CXT} {P : Program} {w : World} {K : PySem.W.Frag} {mg : Str → Option Value} {base : Heap} {k : Nat} {f : Addr} {name qual : Str} {params : Arguments} {body : List Stmt} {scope : Scope} {dV kV doc pm cdv ct oc : Value} {an od : Option Addr}
    {osl : Array (Option Value)} {N ps : List Str} {sp : Sp} (lk : K.lookup f = some ⟨oc, od, .func (PySem.W.fnOf name qual params body scope dV kV doc pm an cdv ct), osl⟩) (hcd : PySem.W.codeIn K cdv qual = true) (S : FnScope N ps scope)
    (len : ∀ vs H Q E, sp vs H Q E → vs.length = ps.length)
    (hbody : ∀ (A : Around) (outer : List Env) (s : Shared) (H : Hp) (vs : List V) (Q : VK) (E : XK), Room k (A.deeper (envOfC qual scope s.heap.objs.size f cdv)) → sp vs H Q E →
      ∃ t, PSs (cxOf CX P w K mg base N qual scope f cdv A outer s H E) body t ∧ t { nx := fun _ H' => Q .non H', rt := Q } (start N vs) H) :
    FnOk P w K mg base CX (k + 1) f (PySem.W.fnOf name qual params body scope dV kV doc pm an cdv ct) ps sp := by
  refine ⟨len, fun A outer s H args us vs Q E hr e0 hb r hsp => ?_⟩
  have hl := len _ _ _ _ hsp
  have KX : K.In s.heap := e0.mod.kin.keeps fun b o e => (e0.bs b o e).1
  have lim : s.heap.NoLimit := e0.mod.nolimit.keeps fun b o e => (e0.bs b o e).1
  have hkind : ∀ y ∈ ps.zip us, scope.names.lookup y.1 = some .local ∨ (scope.names.lookup y.1 = some .cell ∧ ((cellsFrom (s.heap.objs.size + 1) scope.names []).lookup y.1).isSome = true) := fun ⟨n, v⟩ hy => by
    rcases S.par n (List.of_mem_zip hy).1 with q | q
    · exact .inl q
    · exact .inr ⟨q, PySem.W.cellsFrom_some _ _ _ (.inl q)⟩
  refine codeAny_call_function hr.depth (KX _ _ lk) rfl S.co S.gen rfl (PySem.W.codeRec_of KX hcd) (hb _ _ _ _ ?_)
  refine wpAny_newFunctionEnv_cells S.kind hkind fun env he s1 x => ?_
  subst he
  refine ⟨lim.keeps x.toInCall.keep, codeAny_func ?_⟩
  obtain ⟨t, ht, hq⟩ := hbody A outer s H vs Q E (hr.deeper _) hsp
  have I : Inv (cxOf CX P w K mg base N qual scope f cdv A outer s H E) [] (start N vs) H s1 := inv_start S hr.hd e0 hl r x
  refine wpAny_mono (ht [] s1 (start N vs) H _ I hq) (fun fl s' hs => ?_) fun e s' hs => hs
  have fin : ∀ {σ' : St} {H' : Hp} {v : V} {u : Value}, Inv (cxOf CX P w K mg base N qual scope f cdv A outer s H E) [] σ' H' s' → RelV v u → Q v H' → CE outer P w H s Q u s' :=
    fun {σ' H' v u} J rv q => ⟨v, H', J.os, J.bare, J.base, J.hok, rv, q⟩
  cases fl with
  | ret u =>
    obtain ⟨v, σ', H', J, rv, q⟩ := hs
    exact fin J rv q
  | next =>
    obtain ⟨σ', H', J, q⟩ := hs
    exact fin (v := V.non) (u := Value.none) J rfl q
  | brk =>
    obtain ⟨_, _, _, q⟩ := hs
    exact False.elim q
  | cont =>
    obtain ⟨_, _, _, q⟩ := hs
    exact False.elim q
end L2

namespace L2
open PySem PySem.Spec PyProof.Rows
section
variable {X : Cx} {x : Str} {p pos : Pos} {e : Expr} {es : List Expr} {t : TA} {id T : String} {r : List V → Hp → VK → Prop}

noncomputable def tCB (r : List V → Hp → VK → Prop) (t : TA) : TE := fun σ H Q => t σ H fun vs H1 => r vs H1 Q
theorem pe_callB (hc : CallR X (.builtin id) r) (hg : Gl X x) (hm : X.mg x = none) (hv : bootBuiltins x = some (.builtin id)) (ha : PA X (e :: es) t) (hn : x ≠ "__name__" := by decide) (hdb : (x == ("__debug__" : Str)) = false := by decide)
    (he : starEach (e :: es) X.env = (false, eval e X.env) :: starEach es X.env := by rfl) (hpl : (backTo pos (starEach es X.env)).any (·.1) = false := by rfl) : PE X (.Call (.Name x p) (e :: es) [] pos) (tCB r t) := by
  intro pins s σ H Q I h
  refine wpAny_Call_Name_kw (ld_blt I hg hm hv ?_ hn hdb)
  exact PyProof.Rows.callWith_builtin1 (thn (ha pos pins s σ H _ I h) fun us s1 ⟨vs, H1, I1, r1, q1⟩ => hc pins s1 σ H1 vs us Q I1 r1 q1) he hpl
theorem pe_callTy (hc : CallR X (.type T) r) (hg : Gl X x) (hm : X.mg x = none) (hv : bootBuiltins x = some (.type T)) (ha : PA X (e :: es) t) (hn : x ≠ "__name__" := by decide) (hdb : (x == ("__debug__" : Str)) = false := by decide)
    (he : starEach (e :: es) X.env = (false, eval e X.env) :: starEach es X.env := by rfl) (hpl : (backTo pos (starEach es X.env)).any (·.1) = false := by rfl) : PE X (.Call (.Name x p) (e :: es) [] pos) (tCB r t) := by
  intro pins s σ H Q I h
  refine wpAny_Call_Name_kw (ld_blt I hg hm hv ?_ hn hdb)
  exact PyProof.Rows.callWith_type1 (thn (ha pos pins s σ H _ I h) fun us s1 ⟨vs, H1, I1, r1, q1⟩ => hc pins s1 σ H1 vs us Q I1 r1 q1) he hpl
end
end L2

namespace HT
open PySem PyProof.Rows

section
open PySem.SeqAt
open PySem.AutoSeq1 (wpAny_loadPart')
open PySem.MeetsSeq PySem.MeetsSeq2 PySem.MeetsSeq3

end

section
variable {prog : Program} {w : World} {A : Around} {E : Value → Shared → Prop} {s : Shared}

noncomputable def sIx (n d : Nat) : Option Int → Nat
  | none => d
  | some v => if v < 0 then (v + (n : Int)).toNat else min v.toNat n
theorem sIx_nat (n d k : Nat) : sIx n d (some (k : Int)) = min k n := by
  show (if (k : Int) < 0 then ((k : Int) + (n : Int)).toNat else min (k : Int).toNat n) = min k n
  rw [if_neg (by omega), Int.toNat_natCast]
theorem sIx_le (n d : Nat) (hd : d ≤ n) (o : Option Int) : sIx n d o ≤ n := by
  cases o with
  | none => exact hd
  | some v =>
    show (if v < 0 then (v + (n : Int)).toNat else min v.toNat n) ≤ n
    by_cases hv : v < 0
    · rw [if_pos hv]; omega
    · rw [if_neg hv]; exact Nat.min_le_right _ _
theorem clip_eq (v : Int) (n d : Nat) : (if v < 0 then max (v + (n : Int)) 0 else min v (n : Int)) = ((sIx n d (some v) : Nat) : Int) := by
  show (if v < 0 then max (v + (n : Int)) 0 else min v (n : Int)) = (((if v < 0 then (v + (n : Int)).toNat else min v.toNat n) : Nat) : Int)
  by_cases hv : v < 0
  · simp only [if_pos hv]; omega
  · simp only [if_neg hv]; omega
theorem adjust_gen (lo hi : Option Int) (n : Nat) : Builtin.Slice.sliceAdjust lo hi 1 (n : Int) = (((sIx n 0 lo : Nat) : Int), ((sIx n n hi : Nat) : Int)) := by
  have h1 : ¬ ((1 : Int) < 0) := by omega
  unfold Builtin.Slice.sliceAdjust
  simp only [h1, if_false]
  refine Prod.ext ?_ ?_
  · cases lo with
    | none => rfl
    | some v => exact clip_eq v n 0
  · cases hi with
    | none => rfl
    | some v => exact clip_eq v n n
theorem places_gen (i j : Nat) : Builtin.Slice.slicePlaces (i : Int) (j : Int) 1 = j - i := by
  unfold Builtin.Slice.slicePlaces
  have h1 : (1 : Int) > 0 := by omega
  simp only [h1, if_true, Int.ediv_one]
  split <;> omega
theorem slicePart_ {v : Value} {o : Option Int} {Q : Option Int → Shared → Prop} (p : IsPart v o) (h : Q o s) : wpAny (model prog w) A (Builtin.Slice.slicePartIndex v) Q E s := by
  cases p with
  | none => exact slicePart_none h
  | int i t => exact slicePart_int h
theorem sliceApplied_gen {sl : Addr} {vl vu : Value} {lo hi : Option Int} {n : Nat} {Q : Int × Int × Nat → Shared → Prop} (hs : s.heap.IsSliceOf sl vl vu .none) (pl : IsPart vl lo) (pu : IsPart vu hi)
    (h : Q (((sIx n 0 lo : Nat) : Int), 1, sIx n n hi - sIx n 0 lo) s) : wpAny (model prog w) A (Builtin.Slice.sliceApplied (.ref sl) (pure (n : Int))) Q E s := by
  obtain ⟨os, hos, hcs, hds⟩ := id hs
  unfold Builtin.Slice.sliceApplied Builtin.Slice.sliceFields
  refine wpAny_bind (wpAny_bind (wpAny_field hos hds (x := vl) rfl (wpAny_bind (wpAny_field hos hds (x := vu) rfl (wpAny_bind (wpAny_field hos hds (x := .none) rfl (wpAny_pure ?_)))))))
  refine wpAny_bind (slicePart_none ?_)
  show wpAny _ _ (if ((1 : Int) == 0) = true then _ else _) _ _ s
  rw [if_neg (by decide)]
  refine wpAny_bind (slicePart_ pl (wpAny_bind (slicePart_ pu (wpAny_bind (wpAny_pure ?_)))))
  show wpAny _ _ (match Builtin.Slice.sliceAdjust lo hi 1 (n : Int) with | (lo, hi) => pure (lo, (1 : Int), Builtin.Slice.slicePlaces lo hi 1)) _ _ s
  rw [adjust_gen lo hi n]
  show wpAny _ _ (pure (((sIx n 0 lo : Nat) : Int), (1 : Int), Builtin.Slice.slicePlaces ((sIx n 0 lo : Nat) : Int) ((sIx n n hi : Nat) : Int) 1)) _ _ s
  rw [places_gen]
  exact wpAny_pure h
theorem pick_gen (xs : Array Value) (i k : Nat) : ((List.range k).filterMap fun (m : Nat) => xs[((i : Int) + (m : Int) * 1).toNat]?).toArray = ((xs.toList.drop i).take k).toArray := by
  have e : (fun (m : Nat) => xs[((i : Int) + (m : Int) * 1).toNat]?) = fun m => xs[i + m]? := by
    funext m
    have : ((i : Int) + (m : Int) * 1).toNat = i + m := by omega
    rw [this]
  rw [e]
  have := pick_run xs i k
  rw [List.filterMap_map] at this
  have e2 : ((fun x => xs[x]?) ∘ fun x => i + x) = fun m => xs[i + m]? := rfl
  rw [e2] at this
  rw [this]

theorem getItem_tuple_cut {t sl : Addr} {items : Array Value} {vl vu : Value} {lo hi : Option Int} {Q : Value → Shared → Prop} (ht : IsTup s.heap t items) (hs : s.heap.IsSliceOf sl vl vu .none) (pl : IsPart vl lo) (pu : IsPart vu hi)
    (hw : ¬ (sIx items.size 0 lo = 0 ∧ sIx items.size items.size hi = items.size))
    (h : Q (.ref s.heap.objs.size) { s with heap := s.heap.push { cls := .type "tuple", data := .seq ((items.toList.drop (sIx items.size 0 lo)).take (sIx items.size items.size hi - sIx items.size 0 lo)).toArray } })
    (hsz : items.size ≤ sizeLine) : wpAny (model prog w) A (getItem (.ref t) (.ref sl)) Q E s := by
  have htake : sizeOk (.seq ((items.toList.drop (sIx items.size 0 lo)).take (sIx items.size items.size hi - sIx items.size 0 lo)).toArray) := by
    show ((items.toList.drop (sIx items.size 0 lo)).take (sIx items.size items.size hi - sIx items.size 0 lo)).toArray.size ≤ sizeLine
    rw [List.size_toArray, List.length_take, List.length_drop, Array.length_toList]
    omega
  have hj : sIx items.size items.size hi ≤ items.size := sIx_le _ _ (Nat.le_refl _) hi
  obtain ⟨os, hos, hcs, hds⟩ := id hs
  have hTs : s.TypeIs (.ref sl) "slice" := ⟨os, hos, hcs⟩
  unfold getItem
  try with_reducible refine wpAny_holding ?_
  first | refine wpAny_bind (wpAny_pure ?_) | skip
  refine wpAny_bind (wpAny_sequenceKey ht.typeIs (by decide) ?_)
  refine wpAny_bind (wpAny_callSpecial?_slot (name := Str.ofString "__getitem__") ht.typeIs PyProof.Rows.slot_tuple_getitem
    (wpAny_call_entry PyProof.Rows.slot_tuple_getitem ht.typeIs entry_tuple_getitem ?_ (args_tuple_getitem _ _)))
  show wpAny _ _ (Builtin.Tuple.tupleItemsOf (.ref t) >>= _) _ _ s
  refine wpAny_bind (tupleItemsOf_ ht ?_)
  refine wpAny_bind (wpAny_typeOf hTs ?_)
  rw [if_pos (by decide)]
  refine wpAny_bind (sliceApplied_gen hs pl pu ?_)
  have hno : ¬ ((((sIx items.size 0 lo : Nat) : Int) == 0 && (1 : Int) == 1 && (sIx items.size items.size hi - sIx items.size 0 lo) == items.size) = true) := by
    intro q
    rw [Bool.and_eq_true, Bool.and_eq_true] at q
    have q1 : ((sIx items.size 0 lo : Nat) : Int) = 0 := eq_of_beq q.1.1
    have q2 : sIx items.size items.size hi - sIx items.size 0 lo = items.size := eq_of_beq q.2
    exact hw ⟨by omega, by omega⟩
  show wpAny _ _ (if (((sIx items.size 0 lo : Nat) : Int) == 0 && (1 : Int) == 1 && (sIx items.size items.size hi - sIx items.size 0 lo) == items.size) = true then _ else _) _ _ s
  rw [if_neg hno, pick_gen]
  first
    | exact wpAny_bind (m := Builtin.Tuple.tupleExact _) (wpAny_newObj_type (wpAny_pure ⟨_, rfl, wpAny_pure h⟩) htake)
    | exact wpAny_bind (m := Builtin.Tuple.tupleExact _) (wpAny_newObj_type (wpAny_bind (wpAny_pure (wpAny_pure ⟨_, rfl, wpAny_pure h⟩))) htake)
    | exact wpAny_bind (wpAny_bind (m := Builtin.Tuple.tupleExact _) (wpAny_newObj_type (wpAny_pure (wpAny_pure ⟨_, rfl, wpAny_pure h⟩)) htake))
    | exact wpAny_bind (wpAny_bind (m := Builtin.Tuple.tupleExact _) (wpAny_newObj_type (wpAny_pure ⟨_, rfl, wpAny_pure h⟩) htake))
end
end HT

namespace L2
open PySem PySem.Spec PyProof.Rows

noncomputable abbrev TO := St → Hp → (Option Int → Hp → Prop) → Prop
noncomputable def PO (X : Cx) (e : Option Expr) (t : TO) : Prop :=
  ∀ (pins : List (Addr × Obj)) (s : Shared) (σ : St) (H : Hp) (Q : Option Int → Hp → Prop), Inv X pins σ H s → t σ H Q →
    wpAny (model X.prog X.w) X.A (evalPart e X.env) (fun u s' => ∃ o H', Inv X pins σ H' s' ∧ IsPart u o ∧ Q o H') X.xe s
noncomputable def tNoPart : TO := fun _ H Q => Q none H
noncomputable def tPart (t : TE) : TO := fun σ H Q => t σ H fun x H1 => ∃ i, x = .int i ∧ Q (some i) H1

section
variable {X : Cx} {e : Expr} {te : TE} {lo hi : Option Expr} {tl th : TO} {pos p2 : Pos}

theorem po_none : PO X none tNoPart := by
  intro pins s σ H Q I h
  rw [evalPart_none]
  exact wpAny_pure ⟨none, H, I, .none, h⟩
theorem po_some (h : PE X e te) : PO X (some e) (tPart te) := by
  intro pins s σ H Q I hw
  rw [evalPart_some]
  refine thn (h pins s σ H _ I hw) fun u s1 ⟨x, H1, I1, r1, q1⟩ => ?_
  obtain ⟨i, rfl, q⟩ := q1
  obtain ⟨t, rfl⟩ := r1
  exact ⟨some i, H1, I1, .int i t, q⟩

noncomputable def SlR (X : Cx) (r : V → Option Int → Option Int → Hp → VK → Prop) : Prop :=
  ∀ (pins : List (Addr × Obj)) (s : Shared) (σ : St) (H : Hp) (x : V) (v vl vu : Value) (lo hi : Option Int) (sl : Addr) (Q : VK), Inv X pins σ H s → RelV x v → s.heap.IsSliceOf sl vl vu .none → IsPart vl lo → IsPart vu hi → r x lo hi H Q →
    ∃ T id, typeLookup (.type T) "__getitem__" = pure (some (.builtin id)) ∧ s.TypeIs v T ∧ wpAny (model X.prog X.w) X.A (getItem v (.ref sl)) (EP X pins σ Q) X.xe s
theorem SlR.or {r r' : V → Option Int → Option Int → Hp → VK → Prop} (h : SlR X r) (h' : SlR X r') : SlR X (fun x lo hi H Q => r x lo hi H Q ∨ r' x lo hi H Q) := by
  intro pins s σ H x v vl vu lo hi sl Q I rx hs pl pu q
  rcases q with q | q
  · exact h pins s σ H x v vl vu lo hi sl Q I rx hs pl pu q
  · exact h' pins s σ H x v vl vu lo hi sl Q I rx hs pl pu q
noncomputable def tSl (r : V → Option Int → Option Int → Hp → VK → Prop) (te : TE) (tl th : TO) : TE := fun σ H Q => te σ H fun x H1 => tl σ H1 fun l H2 => th σ H2 fun u H3 => r x l u H3 Q
theorem pe_slice {r : V → Option Int → Option Int → Hp → VK → Prop} (hr : SlR X r) (he : PE X e te) (hl : PO X lo tl) (hu : PO X hi th) : PE X (.Subscript e (.Slice lo hi none p2) pos) (tSl r te tl th) := by
  intro pins s σ H Q I h
  refine Subscript_ (thn (he pins s σ H _ I h) fun v s1 ⟨x, H1, I1, r1, q1⟩ => ?_)
  refine wpAny_Slice (thn (hl pins s1 σ H1 _ I1 q1) fun vl s2 ⟨l, H2, I2, pl, q2⟩ => thn (hu pins s2 σ H2 _ I2 q2) fun vu s3 ⟨u, H3, I3, pu, q3⟩ => ?_)
  rw [evalPart_none]
  refine wpAny_pure ?_
  have I4 : Inv X pins σ H3 { s3 with heap := s3.heap.push { cls := .type "slice", data := .fields #[vl, vu, .none] } } := I3.kept (t' := s3.toks) fun b ob q => Heap.get?_push_of_some _ q
  obtain ⟨T, id, hT, ht, hg⟩ := hr pins { s3 with heap := s3.heap.push { cls := .type "slice", data := .fields #[vl, vu, .none] } } σ H3 x v vl vu l u s3.heap.objs.size Q I4 r1 (Heap.IsSliceOf.new ..) pl pu q3
  show wpAny (model X.prog X.w) X.A (subscriptTail e (.Slice lo hi none p2) v (.ref s3.heap.objs.size)) (EP X pins σ Q) X.xe { s3 with heap := s3.heap.push { cls := .type "slice", data := .fields #[vl, vu, .none] } }
  exact tail_any (ops := [.ref s3.heap.objs.size, v]) ht hT hg (by with_unfolding_all rfl)

noncomputable def cutV (xs : List V) (lo hi : Option Int) : List V := (xs.drop (HT.sIx xs.length 0 lo)).take (HT.sIx xs.length xs.length hi - HT.sIx xs.length 0 lo)
theorem cutV_length (xs : List V) (lo hi : Option Int) : (cutV xs lo hi).length ≤ xs.length := by
  unfold cutV
  rw [List.length_take, List.length_drop]
  omega
noncomputable def rSlT (K : PySem.W.Frag) : V → Option Int → Option Int → Hp → VK → Prop := fun x lo hi H Q => ∃ a xs, x = .ref a ∧ SqT K H a xs ∧
  ¬ (HT.sIx xs.length 0 lo = 0 ∧ HT.sIx xs.length xs.length hi = xs.length) ∧ ∀ p, H p = none → Q (.ref p) (upd H p (.tup (cutV xs lo hi)))
theorem sl_tup : SlR X (rSlT X.K) := by
  intro pins s σ H x v vl vu lo hi sl Q I rx hs pl pu h
  obtain ⟨a, xs, rfl, hx, hw, q⟩ := h
  cases rx
  obtain ⟨its, r, ht, hz⟩ := I.tuple hx
  have hlen : its.toArray.size = xs.length := by rw [List.size_toArray]; exact r.length.symm
  refine ⟨"tuple", _, PyProof.Rows.slot_tuple_getitem.lookup, ht.typeIs, ?_⟩
  refine HT.getItem_tuple_cut ht hs pl pu (by rw [hlen]; exact hw) ?_ (by rw [hlen]; exact hz)
  rw [hlen]
  refine ⟨.ref s.heap.objs.size, _, I.laid (t' := s.toks) (o := .tup (cutV xs lo hi)) (fun b ob q => Heap.get?_push_of_some _ q) (Nat.le_refl _) ?_, rfl, q _ (I.hok.fresh (Nat.le_refl _))⟩
  exact ⟨Nat.le_trans (cutV_length xs lo hi) hz, _, (r.drop (HT.sIx xs.length 0 lo)).take (HT.sIx xs.length xs.length hi - HT.sIx xs.length 0 lo), IsTup.new _ _⟩

end
end L2

namespace L2
open PySem PySem.Spec PyProof.Rows

noncomputable def ixN (n : Nat) (i : Int) : Option Nat := if 0 ≤ i then (if i < n then some i.toNat else none) else if -(n : Int) ≤ i then some (i + n).toNat else none
noncomputable def atI {α : Type} (xs : List α) (i : Int) : Option α := (ixN xs.length i).bind fun j => xs[j]?
theorem ixN_seq {n : Nat} {i : Int} {j : Nat} (h : ixN n i = some j) : seqIndex? i n = some j ∧ j < n ∧ -(n : Int) ≤ i ∧ i < n := by
  unfold ixN at h
  by_cases h0 : 0 ≤ i
  · rw [if_pos h0] at h
    by_cases h1 : i < n
    · rw [if_pos h1] at h
      have e : i.toNat = j := Option.some.inj h
      exact ⟨by rw [seqIndex_of h0 h1, e], by omega, by omega, h1⟩
    · rw [if_neg h1] at h; cases h
  · rw [if_neg h0] at h
    by_cases h1 : -(n : Int) ≤ i
    · rw [if_pos h1] at h
      have e : (i + n).toNat = j := Option.some.inj h
      exact ⟨by rw [seqIndex_neg (by omega) h1, e], by omega, h1, by omega⟩
    · rw [if_neg h1] at h; cases h
theorem atI_get {α : Type} {xs : List α} {i : Int} {v : α} (h : atI xs i = some v) : ∃ j, seqIndex? i xs.length = some j ∧ xs[j]? = some v ∧ j < xs.length ∧ -(xs.length : Int) ≤ i ∧ i < xs.length := by
  unfold atI at h
  cases e : ixN xs.length i with
  | none => rw [e] at h; cases h
  | some j =>
    rw [e] at h
    obtain ⟨h1, h2, h3, h4⟩ := ixN_seq e
    exact ⟨j, h1, h, h2, h3, h4⟩
noncomputable def PlainIx (b : Expr) : Prop := ∀ o i, subscripted b false o i = operate [o, i] (getItem o i)
noncomputable def IxR (X : Cx) (r : R2) : Prop :=
  ∀ (value slice : Expr) (pins : List (Addr × Obj)) (s : Shared) (σ : St) (H : Hp) (x y : V) (v u : Value) (Q : VK), Inv X pins σ H s → RelV x v → RelV y u → r x y H Q →
    subscripted slice false v u = operate [v, u] (getItem v u) → wpAny (model X.prog X.w) X.A (subscriptTail value slice v u) (EP X pins σ Q) X.xe s
noncomputable def MtR (X : Cx) (id : String) (r : V → List V → Hp → VK → Prop) : Prop :=
  ∀ (pins : List (Addr × Obj)) (s : Shared) (σ : St) (H : Hp) (x : V) (xs : List V) (v : Value) (us : List Value) (Q : VK), Inv X pins σ H s → RelV x v → Vals xs us → r x xs H Q →
    wpAny (model X.prog X.w) X.A (call (.builtin id) (v :: us)) (EP X pins σ Q) X.xe s
section
variable {X : Cx} {a b : Expr} {ta tb : TE} {pos : Pos}
theorem IxR.or {r r' : R2} (h : IxR X r) (h' : IxR X r') : IxR X (fun x y H Q => r x y H Q ∨ r' x y H Q) := by
  intro value slice pins s σ H x y v u Q I rx ry q hs
  rcases q with q | q
  · exact h value slice pins s σ H x y v u Q I rx ry q hs
  · exact h' value slice pins s σ H x y v u Q I rx ry q hs
theorem MtR.or {id : String} {r r' : V → List V → Hp → VK → Prop} (h : MtR X id r) (h' : MtR X id r') : MtR X id (fun x xs H Q => r x xs H Q ∨ r' x xs H Q) := by
  intro pins s σ H x xs v us Q I rx rs q
  rcases q with q | q
  · exact h pins s σ H x xs v us Q I rx rs q
  · exact h' pins s σ H x xs v us Q I rx rs q
theorem pe_ix {r : R2} (hr : IxR X r) (ha : PE X a ta) (hb : PE X b tb) (hs : PlainIx b) : PE X (.Subscript a b pos) (tOp r ta tb) := by
  intro pins s σ H Q I h
  exact Subscript_ (binT ha hb I h fun v u s2 x y H2 I2 rx ry q => hr a b pins s2 σ H2 x y v u Q I2 rx ry q (hs _ _))

noncomputable def rIxL (K : PySem.W.Frag) : R2 := fun x y H Q => ∃ p xs i v, x = .ref p ∧ y = .int i ∧ SqL K H p xs ∧ atI xs i = some v ∧ Q v H
noncomputable def rIxT (K : PySem.W.Frag) : R2 := fun x y H Q => ∃ p xs i v, x = .ref p ∧ y = .int i ∧ SqT K H p xs ∧ atI xs i = some v ∧ Q v H
noncomputable def rIxS : R2 := fun x y H Q => ∃ z i c, x = .str z ∧ y = .int i ∧ z.length ≤ sizeLine ∧ atI z.cps.toList i = some c ∧ Q (.str ⟨#[c]⟩) H
theorem ix_list : IxR X (rIxL X.K) := by
  intro value slice pins s σ H x y v u Q I rx ry h hs
  obtain ⟨p, xs, i, z, rfl, rfl, hq, he, q⟩ := h
  cases rx
  obtain ⟨t, rfl⟩ := ry
  obtain ⟨its, r, pl, hz⟩ := I.list hq
  obtain ⟨j, h1, h2, h3, h4, h5⟩ := atI_get he
  obtain ⟨w, ew, rw'⟩ := r.get h2
  have hl := r.length
  have hn := line63
  have fin : EP X pins σ Q w s := ⟨z, H, I, rw', q⟩
  by_cases h0 : 0 ≤ i
  · have hj : i.toNat = j := by
      rw [seqIndex_of h0 h5] at h1
      exact Option.some.inj h1
    exact item_listR pl.isList h0 (by omega) (by rw [hj]; simpa using ew) fin hs
  · have hj : (i + (its.toArray.size : Int)).toNat = j := by
      rw [seqIndex_neg (by omega) h4] at h1
      rw [List.size_toArray, ← hl]
      exact Option.some.inj h1
    exact subscriptTail_builtinR (x := w) pl.isList.typeIs slot_list_getitem.lookup
      (wpAny_getItem_list_neg (Q := fun r s' => r = w ∧ EP X pins σ Q r s') pl.isList (by omega) (by rw [List.size_toArray] <;> omega) (by omega) (by rw [hj]; simpa using ew) ⟨rfl, fin⟩) hs
theorem ix_tup : IxR X (rIxT X.K) := by
  intro value slice pins s σ H x y v u Q I rx ry h hs
  obtain ⟨p, xs, i, z, rfl, rfl, hq, he, q⟩ := h
  cases rx
  obtain ⟨t, rfl⟩ := ry
  obtain ⟨its, r, pl, hz⟩ := I.tuple hq
  obtain ⟨j, h1, h2, h3, h4, h5⟩ := atI_get he
  obtain ⟨w, ew, rw'⟩ := r.get h2
  have hl := r.length
  have hn := line63
  have fin : EP X pins σ Q w s := ⟨z, H, I, rw', q⟩
  exact subscriptTail_builtinR (x := w) pl.typeIs slot_tuple_getitem.lookup
    (getItem_tuple (j := j) (Q := fun r s' => r = w ∧ EP X pins σ Q r s') pl (by omega) (by omega) (by rw [List.size_toArray, ← hl]; exact h1) (by simpa using ew) ⟨rfl, fin⟩) hs
theorem ix_str : IxR X rIxS := by
  intro value slice pins s σ H x y v u Q I rx ry h hs
  obtain ⟨z, i, c, rfl, rfl, hz, he, q⟩ := h
  obtain ⟨t, rfl⟩ := rx
  obtain ⟨t', rfl⟩ := ry
  obtain ⟨j, h1, h2, h3, h4, h5⟩ := atI_get he
  have hl : z.cps.toList.length = z.length := by simp [Str.length]
  rw [hl] at h1 h4 h5
  have hn := line63
  exact tail_any (typeIs_str s z t) slot_str_getitem.lookup (getItem_str (c := c) (by
    have e1 : decide (i < -(2 ^ 63 : Int)) = false := decide_eq_false (by omega)
    have e2 : decide (i ≥ 2 ^ 63) = false := decide_eq_false (by omega)
    rw [e1, e2, Bool.or_false]) (by rw [h1]; simpa using h2) ⟨.str ⟨#[c]⟩, H, I.tok _, ⟨_, rfl⟩, q⟩) hs
theorem Inv.lst {pins : List (Addr × Obj)} {σ : St} {H : Hp} {s : Shared} {p : Addr} {xs : List V} (I : Inv X pins σ H s) (h : H p = some (.lst xs)) :
    ∃ (its : List Value) (n : Nat), Vals xs its ∧ s.heap.get? p = some { cls := .type "list", data := .seq its.toArray n } ∧ xs.length ≤ sizeLine := by
  obtain ⟨z, its, n, r, e⟩ := I.hok p _ h
  exact ⟨its, n, r, e, z⟩
noncomputable def rSetL : V → V → V → Hp → (Hp → Prop) → Prop := fun o i v H Q => ∃ p xs k j, o = .ref p ∧ i = .int k ∧ H p = some (.lst xs) ∧ ixN xs.length k = some j ∧ Q (upd H p (.lst (xs.set j v)))
theorem slice_bounds (lo hi : Option Int) (n : Nat) : (sliceBounds lo hi none n).1 = ((HT.sIx n 0 lo : Nat) : Int) ∧ (sliceBounds lo hi none n).2.1 = ((HT.sIx n n hi : Nat) : Int) ∧ (sliceBounds lo hi none n).2.2 = 1 := by
  refine ⟨?_, ?_, rfl⟩
  · cases lo with
    | none => simp [sliceBounds, HT.sIx]
    | some i =>
      simp only [sliceBounds, HT.sIx, Option.getD_none, show (1 : Int) > 0 by decide, if_true]
      by_cases h : i < 0
      · simp only [h, if_true] <;> omega
      · simp only [h, if_false] <;> omega
  · cases hi with
    | none => simp [sliceBounds, HT.sIx]
    | some i =>
      simp only [sliceBounds, HT.sIx, Option.getD_none, show (1 : Int) > 0 by decide, if_true]
      by_cases h : i < 0
      · simp only [h, if_true] <;> omega
      · simp only [h, if_false] <;> omega
theorem slicePick_cut (its : List Value) (lo hi : Option Int) : slicePick its.toArray lo hi none = ((its.drop (HT.sIx its.length 0 lo)).take (HT.sIx its.length its.length hi - HT.sIx its.length 0 lo)).toArray := by
  obtain ⟨h1, h2, h3⟩ := slice_bounds lo hi its.toArray.size
  unfold slicePick
  rw [h1, h2, h3]
  simp only [sliceRange_one, pick_run, List.size_toArray] <;> rfl
noncomputable def rSlL (K : PySem.W.Frag) : V → Option Int → Option Int → Hp → VK → Prop := fun x lo hi H Q => ∃ a xs, x = .ref a ∧ SqL K H a xs ∧ ∀ p, H p = none → Q (.ref p) (upd H p (.lst (cutV xs lo hi)))
theorem sl_list : SlR X (rSlL X.K) := by
  intro pins s σ H x v vl vu lo hi sl Q I rx hs pl pu h
  obtain ⟨a, xs, rfl, hx, q⟩ := h
  cases rx
  obtain ⟨its, r, ht, hz⟩ := I.list hx
  have hlen := r.length
  refine ⟨"list", _, slot_list_getitem.lookup, ht.isList.typeIs, ?_⟩
  refine wpAny_getItem_list_slice ht.isList hs pl pu .none (by simp) ?_ (by rw [List.size_toArray] <;> omega)
  rw [slicePick_cut, ← hlen]
  refine ⟨.ref s.heap.objs.size, _, I.laid (t' := s.toks) (o := .lst (cutV xs lo hi)) (fun b ob q => Heap.get?_push_of_some _ q) (Nat.le_refl _) ?_, rfl, q _ (I.hok.fresh (Nat.le_refl _))⟩
  exact ⟨Nat.le_trans (cutV_length xs lo hi) hz, _, 0, (r.drop (HT.sIx xs.length 0 lo)).take (HT.sIx xs.length xs.length hi - HT.sIx xs.length 0 lo), Heap.get?_push_size _ rfl⟩

theorem call_len_seq : CallR X (.builtin "len") (fun xs H Q => ∃ p ys, xs = [.ref p] ∧ (SqL X.K H p ys ∨ SqT X.K H p ys) ∧ Q (.int ys.length) H) := by
  intro pins s σ H xs us Q I r h
  obtain ⟨p, ys, rfl, hq, q⟩ := h
  obtain ⟨u, rfl, rx⟩ := vals1 r
  cases rx
  have hn := line63
  rcases hq with hq | hq
  · obtain ⟨its, r', pl, hz⟩ := I.list hq
    have hlen := r'.length
    exact Calls.call_len_list pl.isList (by simp only [List.size_toArray] <;> omega) ⟨.int ys.length, H, I.tok _, ⟨s.toks + 1, by rw [List.size_toArray, hlen]⟩, q⟩
  · obtain ⟨its, r', pl, hz⟩ := I.tuple hq
    have hlen := r'.length
    exact len_tuple pl (by simp only [List.size_toArray] <;> omega) ⟨.int ys.length, H, I.tok _, ⟨s.toks + 1, by rw [List.size_toArray, hlen]⟩, q⟩
theorem call_len_str : CallR X (.builtin "len") (fun xs H Q => ∃ z, xs = [.str z] ∧ z.length ≤ sizeLine ∧ Q (.int z.length) H) := by
  intro pins s σ H xs us Q I r h
  obtain ⟨z, rfl, hz, q⟩ := h
  obtain ⟨u, rfl, t, rfl⟩ := vals1 r
  have hn := line63
  exact len_str (by omega) ⟨.int z.length, H, I.tok _, ⟨_, rfl⟩, q⟩
theorem CallR.or {f : Value} {r r' : List V → Hp → VK → Prop} (h : CallR X f r) (h' : CallR X f r') : CallR X f (fun xs H Q => r xs H Q ∨ r' xs H Q) := by
  intro pins s σ H xs us Q I rs q
  rcases q with q | q
  · exact h pins s σ H xs us Q I rs q
  · exact h' pins s σ H xs us Q I rs q
theorem call_list_of : CallR X (.type "list") (fun xs H Q => ∃ p ys, xs = [.ref p] ∧ (SqL X.K H p ys ∨ SqT X.K H p ys) ∧ ∀ l, H l = none → Q (.ref l) (upd H l (.lst ys))) := by
  intro pins s σ H xs us Q I r h
  obtain ⟨p, ys, rfl, hq, q⟩ := h
  obtain ⟨u, rfl, rx⟩ := vals1 r
  cases rx
  have fin : ∀ (its : List Value), Vals ys its → ys.length ≤ sizeLine → ∀ (h' : Heap) (c' : Nat), (∀ b o', s.heap.get? b = some o' → h'.get? b = some o') →
      h'.get? s.heap.objs.size = some { cls := .type "list", dict := none, data := .seq its.toArray c', slots := #[] } → EP X pins σ Q (.ref s.heap.objs.size) { s with heap := h' } := fun its r' hz h' c' kp e =>
    ⟨.ref s.heap.objs.size, _, I.laid (t' := s.toks) kp (Nat.le_refl _) (show ObjOk X.prog X.w _ h' _ (.lst ys) from ⟨hz, its, c', r', e⟩), rfl, q _ (I.hok.fresh (Nat.le_refl _))⟩
  rcases hq with hq | hq
  · obtain ⟨its, r', pl, hz⟩ := I.list hq
    have hlen := r'.length
    obtain ⟨o, ho, hc, n, hd⟩ := pl.isList
    exact call_list_seq p (.inl rfl) ho hc hd (fun h' c' kp e => fin its r' hz h' c' kp e) (by simp only [List.size_toArray] <;> omega)
  · obtain ⟨its, r', pl, hz⟩ := I.tuple hq
    have hlen := r'.length
    obtain ⟨o, ho, hc, n, hd⟩ := pl
    exact call_list_seq p (.inr rfl) ho hc hd (fun h' c' kp e => fin its r' hz h' c' kp e) (by simp only [List.size_toArray] <;> omega)
noncomputable def tyV (K : PySem.W.Frag) (T : String) (x : V) (H : Hp) : Prop := match x with
  | .str _ => T = "str"
  | .int _ => T = "int"
  | .ref p => (T = "list" ∧ ∃ xs, SqL K H p xs) ∨ (T = "tuple" ∧ ∃ o, K.lookup p = some o ∧ o.cls = .type "tuple" ∧ o.dict = none) ∨
      (T = "dict" ∧ ((∃ kvs, H p = some (.dK kvs)) ∨ ∃ kvs, H p = some (.dT kvs))) ∨ (T = "set" ∧ ∃ S n, H p = some (.set S n))
  | _ => False
theorem tyV_is {pins : List (Addr × Obj)} {σ : St} {H : Hp} {s : Shared} {T : String} {x : V} {v : Value} (I : Inv X pins σ H s) (r : RelV x v) (ty : tyV X.K T x H) :
    s.TypeIs v T ∧ ∀ a, v = .ref a → ∃ ob, s.heap.get? a = some ob ∧ ob.dict = none := by
  cases x with
  | str z =>
    obtain ⟨t, rfl⟩ := r
    cases (show T = "str" from ty)
    exact ⟨typeIs_str s z t, fun _ e => nomatch e⟩
  | int i =>
    obtain ⟨t, rfl⟩ := r
    cases (show T = "int" from ty)
    exact ⟨typeIs_int s i t, fun _ e => nomatch e⟩
  | ref p =>
    cases r
    rcases ty with ⟨rfl, xs, hq⟩ | ⟨rfl, o, hk, hc, hd⟩ | ⟨rfl, hk⟩ | ⟨rfl, S, n, hk⟩
    · obtain ⟨its, _, pl, _⟩ := I.list hq
      refine ⟨pl.isList.typeIs, fun a e => ?_⟩
      cases e
      obtain ⟨o, n, e, c, hd, _⟩ := pl
      exact ⟨o, e, hd⟩
    · refine ⟨⟨o, I.kIn p o hk, hc⟩, fun a e => ?_⟩
      cases e
      exact ⟨o, I.kIn _ o hk, hd⟩
    · have z : ∃ o, s.heap.get? p = some o ∧ o.ExactDict := by
        rcases hk with ⟨kvs, hk⟩ | ⟨kvs, hk⟩
        · obtain ⟨_, _, _, _, o, _, _, e, ex, _⟩ := I.hok p _ hk
          exact ⟨o, e, ex⟩
        · obtain ⟨_, _, _, _, o, _, _, e, ex, _⟩ := I.hok p _ hk
          exact ⟨o, e, ex⟩
      obtain ⟨o, e, ex⟩ := z
      refine ⟨⟨o, e, ex.1⟩, fun a e2 => ?_⟩
      cases e2
      exact ⟨o, e, ex.2.1⟩
    · obtain ⟨o, _, _, _, e, ex, _⟩ := I.hok p _ hk
      refine ⟨⟨o, e, ex.1⟩, fun a e2 => ?_⟩
      cases e2
      exact ⟨o, e, ex.2.1⟩
  | _ => exact False.elim ty
noncomputable def tBM0 (K : PySem.W.Frag) (T : String) (r : V → List V → Hp → VK → Prop) (to : TE) : TE := fun σ H Q => to σ H fun x H1 => tyV K T x H1 ∧ r x [] H1 Q
noncomputable def tBM (K : PySem.W.Frag) (T : String) (r : V → List V → Hp → VK → Prop) (to : TE) (t : TA) : TE := fun σ H Q => to σ H fun x H1 => tyV K T x H1 ∧ t σ H1 fun xs H2 => r x xs H2 Q
variable {o e : Expr} {es : List Expr} {to : TE} {t : TA} {name : Str} {apos cpos : Pos} {T id : String} {r : V → List V → Hp → VK → Prop}
theorem pe_bm0 (pa : PlainAttrs T) (slot : Slot T name id) (hty : typeOf (.builtin id) = pure (.type "method_descriptor")) (hm : MtR X id r) (ho : PE X o to)
    (hbase : attributeBase o name X.env (eval o X.env) = eval o X.env := by rfl) (hline : (apos.endLine == cpos.line) = true := by rfl) : PE X (.Call (.Attribute o name apos) [] [] cpos) (tBM0 X.K T r to) := by
  intro pins s σ H Q I h
  refine wpAny_Call_method0_late hbase hline (thn (ho pins s σ H _ I h) fun v s1 ⟨x, H1, I1, r1, ty, q1⟩ => ?_)
  obtain ⟨h1, h2⟩ := tyV_is I1 r1 ty
  exact ⟨T, id, pa, slot, hty, h1, h2, Calls.callWith_builtin rfl (PySem.evalArgs_none (hm pins s1 σ H1 x [] v [] Q I1 r1 .nil q1))⟩
theorem pe_bm (pa : PlainAttrs T) (slot : Slot T name id) (hty : typeOf (.builtin id) = pure (.type "method_descriptor")) (hm : MtR X id r) (ho : PE X o to) (ha : PA X (e :: es) t)
    (hbase : attributeBase o name X.env (eval o X.env) = eval o X.env := by rfl)
    (hfew : ((backTo cpos (starEach (e :: es) X.env)).all (fun x => !x.1) && (backToKw cpos (keywordEach [] X.env)).all (fun x => x.1.isSome)
      && decide ((e :: es).length + ([] : List Keyword).length + (if ([] : List Keyword).isEmpty then 0 else 1) < 30)) = true := by rfl)
    (hline : (apos.endLine == cpos.line) = true := by rfl) (hs : starEach (e :: es) X.env = (false, eval e X.env) :: starEach es X.env := by rfl) (hplain : (backTo cpos (starEach es X.env)).any (·.1) = false := by rfl) :
    PE X (.Call (.Attribute o name apos) (e :: es) [] cpos) (tBM X.K T r to t) := by
  intro pins s σ H Q I h
  refine wpAny_Call_method_late hbase hfew hline rfl (thn (ho pins s σ H _ I h) fun v s1 ⟨x, H1, I1, r1, ty, q1⟩ => ?_)
  obtain ⟨h1, h2⟩ := tyV_is I1 r1 ty
  refine ⟨T, id, pa, slot, hty, h1, h2, ?_⟩
  have hA := ha cpos pins s1 σ H1 _ I1 q1
  rw [hs] at hA ⊢
  refine Calls.callWith_builtin (by show (false || (backTo cpos (starEach es X.env)).any (·.1)) = false; rw [hplain] <;> rfl) (Calls.evalArgs_plain ?_)
  exact thn hA fun us s2 ⟨vs, H2, I2, r2, q2⟩ => hm pins s2 σ H2 x vs v us Q I2 r1 r2 q2
end
end L2

namespace L2
open PySem PySem.Spec PyProof.Rows

noncomputable def MtM (X : Cx) (id : String) (r : V → List V → Hp → VK → Prop) : Prop :=
  ∀ (pins : List (Addr × Obj)) (s : Shared) (σ : St) (H : Hp) (x : V) (xs : List V) (v : Value) (us : List Value) (Q : VK), Inv X pins σ H s → RelV x v → Vals xs us → r x xs H Q →
    wpAny (model X.prog X.w) X.A (call (.builtin id) (v :: us)) (EP X pins σ Q) X.xe s

theorem Vals.one {x : V} {us : List Value} (h : Vals [x] us) : ∃ u, us = [u] ∧ RelV x u := by
  cases h with | cons r t => cases t; exact ⟨_, rfl, r⟩
theorem Vals.two {x y : V} {us : List Value} (h : Vals [x, y] us) : ∃ u v, us = [u, v] ∧ RelV x u ∧ RelV y v := by
  cases h with | cons r t => cases t with | cons q t => cases t; exact ⟨_, _, rfl, r, q⟩
theorem Vals.zero : ∀ {us : List Value}, Vals [] us → us = []
  | _, .nil => rfl
theorem Vals.dropLast {xs : List V} {us : List Value} (h : Vals xs us) : Vals xs.dropLast us.dropLast := by
  induction h with
  | nil => exact .nil
  | cons r t ih =>
    cases t with
    | nil => exact .nil
    | cons q t' => exact .cons r ih
theorem Vals.eraseIdx : ∀ {xs : List V} {us : List Value} (i : Nat), Vals xs us → Vals (xs.eraseIdx i) (us.eraseIdx i)
  | _, _, _, .nil => .nil
  | _, _, 0, .cons _ t => t
  | _, _, i + 1, .cons r t => .cons r (Vals.eraseIdx i t)
theorem Vals.reverse {xs : List V} {us : List Value} (h : Vals xs us) : Vals xs.reverse us.reverse := by
  induction h with
  | nil => exact .nil
  | cons r t ih => rw [List.reverse_cons, List.reverse_cons]; exact Vals.append ih (.cons r .nil)
section
variable {X : Cx} {pins : List (Addr × Obj)} {σ : St} {H : Hp} {s : Shared} {l b : Addr} {xs ys zs : List V}

theorem Inv.lset {its its' : List Value} {n : Nat} {f : Array Value → Array Value} {t' : Nat} (I : Inv X pins σ H s) (hH : H l = some (.lst xs))
    (e : s.heap.get? l = some { cls := .type "list", data := .seq its.toArray n }) (hf : f its.toArray = its'.toArray) (hv : Vals ys its') (hz : ys.length ≤ sizeLine) :
    Inv X pins σ (upd H l (.lst ys)) { s with heap := s.heap.update l (Obj.mapSeq f), toks := t' } := by
  have q := PySem.IsL.update e f
  rw [hf] at q
  refine I.write (x := l) (e := l) (by rw [hH]; exact trivial) (.inl rfl) (fun b' u hb hu => (Heap.get?_update_other s.heap (Obj.mapSeq f) (Ne.symm hb)).trans hu) ⟨_, q⟩ ?_
  exact ⟨hz, its', _, hv, q⟩
theorem Inv.fresh (I : Inv X pins σ H s) : H s.heap.objs.size = none := I.hok.fresh (Nat.le_refl _)
theorem Inv.lstM (I : Inv X pins σ H s) (hH : H l = some (.lst xs)) : xs.length ≤ sizeLine ∧ ∃ (its : List Value) (n : Nat), Vals xs its ∧ xs.length = its.length ∧ s.heap.get? l = some { cls := .type "list", data := .seq its.toArray n } := by
  obtain ⟨z, its, n, r, e⟩ := I.hok l _ hH
  exact ⟨z, its, n, r, r.length, e⟩

end

section
variable {X : Cx}

noncomputable def rAppend : V → List V → Hp → VK → Prop := fun x vs H Q => ∃ l xs y, x = .ref l ∧ vs = [y] ∧ H l = some (.lst xs) ∧ xs.length < sizeLine ∧ Q .non (upd H l (.lst (xs ++ [y])))
theorem mt_append : MtM X "list.append" rAppend := by
  intro pins s σ H x vs v us Q I rx rv h
  obtain ⟨l, xs, y, rfl, rfl, hH, hz, q⟩ := h
  cases rx
  obtain ⟨u, rfl, ru⟩ := rv.one
  obtain ⟨z, its, n, r, hl, e⟩ := I.lstM hH
  refine call_meets F.slot_list_append ⟨_, e, rfl⟩ F.entry_list_append (F.args_list_append_2 _ _) (PySem.list_append l its.toArray n u (by rw [List.size_toArray]; omega)) ⟨e, ?_⟩
  refine ⟨.non, _, I.lset (its' := its ++ [u]) hH e (by simp) (r.append (.cons ru .nil)) ?_, rfl, q⟩
  rw [List.length_append, List.length_singleton]
  omega

noncomputable def rPop : V → List V → Hp → VK → Prop := fun x vs H Q => ∃ l xs y, x = .ref l ∧ vs = [] ∧ H l = some (.lst xs) ∧ xs[xs.length - 1]? = some y ∧ Q y (upd H l (.lst xs.dropLast))
noncomputable def rReverse : V → List V → Hp → VK → Prop := fun x vs H Q => ∃ l xs, x = .ref l ∧ vs = [] ∧ H l = some (.lst xs) ∧ Q .non (upd H l (.lst xs.reverse))
noncomputable def rClear : V → List V → Hp → VK → Prop := fun x vs H Q => ∃ l xs, x = .ref l ∧ vs = [] ∧ H l = some (.lst xs) ∧ Q .non (upd H l (.lst []))
end

section
variable {prog : Program} {w : World} {A : Around} {E : Value → Shared → Prop} {s : Shared}
end

section
variable {X : Cx}
end
end L2

namespace Att
open PySem PySem.W PySem.Calls PyProof.Rows

theorem ints_of_wellAll {P : Params} {h : Heap} : ∀ (ns : List Int) (vs : List Value), WellAll P h vs (ns.map WData.int) → IntsAre vs ns := by
  intro ns
  induction ns with
  | nil =>
    intro vs w
    rw [List.map_nil] at w
    cases w
    exact .nil
  | cons n ns ih =>
    intro vs w
    rw [List.map_cons] at w
    cases w with
    | cons a b =>
      cases a
      exact .cons _ _ (ih _ b)

theorem script_of {l : OpenLaw} {n : Nat} (hn : l.most = some n) {P : Params} {h : Heap} {args : List WData} {vals : List Value}
    (hpre : l.row.toRowW.claim.pre args = true) (hwl : WellAll P h vals args) :
    ∃ a vs ns, vals = [Value.ref a] ∧ args = [WData.list (ns.map WData.int)] ∧ h.get? a = some { cls := .type "list", data := .seq vs.toArray } ∧ IntsAre vs ns ∧ ns.length ≤ n := by
  have hsh : WShape.hasAll [] args [.list .int] = true := (pre_splitW hpre).1
  have hc : l.pre.holds [] { args := args } = true := (pre_splitW hpre).2
  obtain ⟨d, r, rfl, h1, h2⟩ := hasAllW_cons hsh
  obtain rfl := hasAllW_nil h2
  obtain ⟨xs, rfl, h3⟩ := hasW_list h1
  obtain ⟨ns, rfl⟩ := items_int h3
  have hlen : ns.length ≤ n := by
    unfold OpenLaw.pre at hc
    have h4 : (WTm.not (.lt (.lit (.int (n : Int))) (.len (.arg 0)))).holds [] { args := [.list (ns.map .int)] } = true := by
      have h4 := (holds_andW hc).1
      rw [hn] at h4
      exact h4
    have h5 := condW_of h4 (w_not (w_lt w_lit (w_len_list (w_arg rfl))))
    rw [List.length_map] at h5
    refine Nat.le_of_not_lt fun q => ?_
    have q' : (n : Int) < ((ns.length : Nat) : Int) := by omega
    first
      | (rw [decide_eq_true q'] at h5; exact absurd h5 (by decide))
      | (simp at h5; omega)
  cases hwl with
  | cons w1 w2 =>
    cases w2
    cases w1 with
    | list ho hall => exact ⟨_, _, ns, rfl, rfl, ho, ints_of_wellAll ns _ hall, hlen⟩

theorem post_true (l : OpenLaw) (args : List WData) : l.row.toRowW.claim.post args (.bool true) args = true :=
  postW_of (r := l.row.toRowW) (X := (true == true))
    (show WShape.has [] (.bool true) .bool = true by first | rfl | decide | simp [WShape.has, WShape.arms, WShape.armsAll])
    (show (WTm.eq .res (.lit (.bool true))).value [] { args := args, res := some (.bool true), after := args } = some (.bool (true == true)) from w_eq_bool (w_res rfl) w_lit) rfl

theorem attach_call {l : OpenLaw} {n : Nat} {q : Program} {loose : List Str} {XP : (Str → Option Value) → Heap → Prop} {YP : World → Heap → Prop} {d : DefRec}
    (hn : l.most = some n) (hdf : d.params.defaults = [])
    (call : ∀ (w : World) (s₀ s₁ : Shared) (mg mb : Str → Option Value) (fa : Addr) (o : Obj) (pm cd doc : Value) (a : Addr) (vs : List Value) (ns : List Int),
      Ground q loose [] XP w s₀ mg mb s₁.heap → YP w s₁.heap →
      s₁.heap.get? fa = some o → o.data = .func (docDef d.name d.params d.body d.scope pm cd doc) → s₁.heap.CodeRec cd d.name → mg d.name = some (.ref fa) →
      s₁.heap.get? a = some { cls := .type "list", data := .seq vs.toArray } → IntsAre vs ns → ns.length ≤ n → s₁.gens = #[] →
      codeAny (model l.prog w) callerA (.call (.ref fa) ⟨[.ref a], []⟩) (fun r s' => r = .ok (.ret (.bool true)) ∧ OldK s₁.heap s'.heap ∧ s'.os = s₁.os ∧ AllBare s'.gens) s₁) :
    WalkO q loose XP YP l.row.toRowW d [] (fun f vs => PySem.call f vs) := by
  intro w s₀ s₁ mg mb G Y fa o pm cd doc dV kV ho hd hcd hD hmg hg args vals as hpre hlay hrd hwl hlo
  obtain rfl : dV = .none := Dflts.none hD hdf
  obtain rfl : kV = .none := Dflts.noKw hD
  obtain ⟨a, vs, ns, rfl, rfl, hobj, hints, hlen⟩ := script_of hn hpre hwl
  refine enter_call (codeAny_mono (call w s₀ s₁ mg mb fa o pm cd doc a vs ns G Y ho (fd_plain hd) hcd hmg hobj hints hlen hg) fun r s' hq => ?_)
  obtain ⟨rfl, h2, h3, h4⟩ := hq
  exact ⟨.inl ⟨.bool true, .bool true, [], rfl, fun _ => rfl, .bool true, post_true l _, fun _ => ⟨List.Pairwise.nil, fun _ hm => (nomatch hm)⟩⟩, h2, h3, h4⟩

section
variable {prog : Program} {w : World} {A : Around} {E : Value → Shared → Prop} {s : Shared} {K : Frag}

end
end Att

namespace L2
open PySem PySem.Spec PyProof.Rows

theorem vals_ints : ∀ {vs : List Value} {ns : List Int}, IntsAre vs ns → Vals (ns.map V.int) vs
  | _, _, .nil => .nil
  | _, _, .cons n t h => .cons ⟨t, rfl⟩ (vals_ints h)

noncomputable def Only (H : Hp) : Prop := ∀ b, H b = none ∨ ∃ o xs, H b = some (.frz o (.lst xs))

theorem law_call {P : Program} {w : World} {K : PySem.W.Frag} {mg mb : Str → Option Value} {CX : CXT} {k : Nat} {fa a : Addr} {fd : FuncData} {x : Str} {sp : Sp} {s₁ : Shared} {vs : List Value} {ns : List Int}
    (KX : K.In s₁.heap) (hns : s₁.heap.Ns mainGlobals mg) (hb : s₁.heap.Ns builtinsNs mb) (hbb : ∀ x : Str, x ≠ "__name__" → mb x = bootBuiltins x) (hlim : s₁.heap.NoLimit) (hg : s₁.gens = #[])
    (ha : s₁.heap.get? a = some { cls := .type "list", data := .seq vs.toArray }) (hi : IntsAre vs ns) (hl : ns.length ≤ sizeLine) (hr : Room k callerA)
    (F : ∀ base : Heap, K.In base → base.Ns mainGlobals mg → FnOk P w K mg base CX k fa fd [x] sp) (hbind : ∀ (s : Shared) (u : Value), BindsTo s fd ⟨[u], []⟩ [(x, u)])
    (hsp : ∀ H : Hp, Only H → SqL K H a (ns.map V.int) → sp [.ref a] H (fun v _ => v = .bl true) fun _ _ _ => False)
    (hCX : ∀ H e s', CX [] H s₁ (fun _ _ _ => False) e s' → False) :
    codeAny (model P w) callerA (.call (.ref fa) ⟨[.ref a], []⟩) (fun r s' => r = .ok (.ret (.bool true)) ∧ OldK s₁.heap s'.heap ∧ s'.os = s₁.os ∧ AllBare s'.gens) s₁ := by
  have rv := vals_ints hi
  have lenV := hi.length
  -- from an abstract heap in which nothing but the script may be tracked
  have core : ∀ H : Hp, Only H → SqL K H a (ns.map V.int) → HOk P w H s₁.heap → (∀ b, H b ≠ none → b = a) → (H a ≠ none → K.lookup a = none) →
      codeAny (model P w) callerA (.call (.ref fa) ⟨[.ref a], []⟩) (fun r s' => r = .ok (.ret (.bool true)) ∧ OldK s₁.heap s'.heap ∧ s'.os = s₁.os ∧ AllBare s'.gens) s₁ := by
    intro H hO hS hok hA hK
    have base_of : ∀ {b : Addr} {o : Obj}, s₁.heap.get? b = some o → H b = none → (hidT s₁.heap H).get? b = some o := fun e n => hidT_get e n
    have noA : ∀ {b : Addr} {o : Obj} {es : Array DictEntry} {ep : Nat}, s₁.heap.get? b = some o → o.data = .dict es ep → H b = none := fun {b o es ep} e d => by
      cases q : H b with
      | none => rfl
      | some u =>
        have e' : b = a := hA b (by rw [q]; simp)
        subst e'
        rw [ha] at e; cases e
        have d' : Data.seq vs.toArray _ = Data.dict es ep := d
        cases d'
    have nsK : ∀ {b : Addr} {m : Str → Option Value}, s₁.heap.Ns b m → (hidT s₁.heap H).Ns b m := fun {b m} ⟨o, es, ep, e, d, r⟩ => ⟨o, es, ep, base_of e (noA e d), d, r⟩
    have hKb : K.In (hidT s₁.heap H) := fun b o e => base_of (KX b o e) (by
      cases q : H b with
      | none => rfl
      | some u =>
        have e' : b = a := hA b (by rw [q]; simp)
        subst e'
        rw [hK (by rw [q]; simp)] at e; cases e)
    have hM : Mod K mg (hidT s₁.heap H) := ⟨hKb, nsK hns, ⟨mb, nsK hb, hbb⟩, let ⟨mc, h1, h2⟩ := hlim; ⟨mc, nsK h1, h2⟩⟩
    have e0 : Env0 P w K mg (hidT s₁.heap H) callerA [] s₁ H := ⟨rfl, hM, fun b o e => of_hidT e, Nat.le_of_eq (hidT_size _ _), trivial, fun b hb => absurd (show b ∈ ([] : List Addr) from hb) (by simp), hok, .of_eq hg⟩
    refine codeAny_mono ((F _ hKb (nsK hns)).run callerA [] s₁ H ⟨[.ref a], []⟩ [.ref a] [.ref a] _ _ hr e0 (hbind s₁ (.ref a)) (.cons rfl .nil) (hsp H hO hS)) fun r s' h => ?_
    cases r with
    | error e => exact (hCX H e s' h).elim
    | ok fl =>
      cases fl with
      | next => exact False.elim h
      | brk => exact False.elim h
      | cont => exact False.elim h
      | ret u =>
        obtain ⟨v, H', os, bare, un, hok', r', q⟩ := h
        have q' : v = .bl true := q
        subst q'
        obtain rfl : u = Value.bool true := r'
        refine ⟨rfl, OldK.of_keep fun b o e => ?_, os, bare⟩
        cases q : H b with
        | none => exact un.keep b o e q (by intro z; exact absurd (show b ∈ ([] : List Addr) from z) (by simp)) (by simp)
        | some u =>
          rcases hO b with z | ⟨ob, xs, z⟩
          · rw [q] at z; cases z
          · have z2 := un.frzs b ob _ z
            obtain ⟨e1, _⟩ := hok b _ z
            obtain ⟨e2, _⟩ := hok' b _ z2
            rw [e] at e1; cases e1
            exact e2
  cases hk : K.lookup a with
  | some o =>
    -- the script is one of the module's own objects
    have e := KX a o hk
    rw [ha] at e
    cases e
    refine core (fun _ => none) (fun _ => .inl rfl) (.inr ⟨_, vs.toArray, _, hk, rfl, rfl, rfl, by rw [List.size_toArray, lenV]; exact hl, by simpa using rv⟩) (fun b u z => by have z' : (none : Option HO) = some u := z; cases z') (fun b z => absurd rfl z) fun z => absurd rfl z
  | none =>
    refine core (fun b => if b = a then some (.frz { cls := .type "list", data := .seq vs.toArray } (.lst (ns.map V.int))) else none) (fun b => ?_) (.inl (.inr ⟨{ cls := .type "list", data := .seq vs.toArray }, if_pos rfl⟩)) (fun b u z => ?_) (fun b z => ?_) fun _ => hk
    · by_cases hb : b = a
      · exact .inr ⟨_, _, if_pos hb⟩
      · exact .inl (if_neg hb)
    · by_cases hb : b = a
      · have z' := (if_pos hb).symm.trans z
        cases z'
        subst hb
        exact ⟨ha, by rw [List.length_map]; exact hl, vs, _, rv, ha⟩
      · have z' := (if_neg hb).symm.trans z
        cases z'
    · by_cases hb : b = a
      · exact hb
      · exact absurd (if_neg hb) z
end L2

namespace L2
open PySem PySem.Spec PyProof.Rows

noncomputable abbrev KOf {K : PySem.W.Frag} {h : Heap} (_ : K.In h) : PySem.W.Frag := K

theorem walk_of {l : PySem.W.OpenLaw} {n k : Nat} {q : Program} {loose : List Str} {XP : (Str → Option Value) → Heap → Prop} {YP : World → Heap → Prop} {d : DefRec} {K : Params → PySem.W.Frag} {CX : World → CXT} {sp : World → Sp} {x : Str}
    (hn : l.most = some n) (hn2 : n ≤ sizeLine) (hdf : d.params.defaults = []) (hr : Room k callerA)
    (hY : ∀ (w : World) (h : Heap), YP w h → (K w.params).In h)
    (F : ∀ (w : World) (mg : Str → Option Value) (fa : Addr) (h : Heap), (K w.params).In h → h.Ns mainGlobals mg → mg d.name = some (.ref fa) →
      ∃ fd : FuncData, (∀ (s : Shared) (u : Value), BindsTo s fd ⟨[u], []⟩ [(x, u)]) ∧
        ∀ base : Heap, (K w.params).In base → base.Ns mainGlobals mg → FnOk l.prog w (K w.params) mg base (CX w) k fa fd [x] (sp w))
    (hsp : ∀ (w : World) (H : Hp) (a : Addr) (ns : List Int), ns.length ≤ n → Only H → SqL (K w.params) H a (ns.map V.int) → sp w [.ref a] H (fun v _ => v = .bl true) fun _ _ _ => False)
    (hCX : ∀ (w : World) (H : Hp) (s : Shared) (e : Value) (s' : Shared), CX w [] H s (fun _ _ _ => False) e s' → False) :
    PySem.W.WalkO q loose XP YP l.row.toRowW d [] (fun f vs => PySem.call f vs) := by
  refine Att.attach_call hn hdf fun w s₀ s₁ mg mb fa o pm cd doc a vs ns G Y ho hd hcd hmg hobj hints hlen hg => ?_
  have KX := hY w _ Y
  obtain ⟨fd, hb, hF⟩ := F w mg fa _ KX G.T.g hmg
  exact law_call KX G.T.g G.T.b G.T.builtins G.T.nolimit hg hobj hints (Nat.le_trans hlen hn2) hr hF hb (fun H hO hS => hsp w H a ns hlen hO hS) fun H e s' => hCX w H s₁ e s'
end L2


namespace L2
open PySem PySem.Spec PyProof.Rows

noncomputable def inClass (s : Stmt) (j : Nat) : Stmt := match s with
  | .ClassDef _ _ _ body _ _ _ _ _ _ _ => body.getD j (.Pass ⟨0, 0, 0, 0⟩)
  | _ => .Pass ⟨0, 0, 0, 0⟩
noncomputable def defArgs (s : Stmt) : Arguments := match s with
  | .FunctionDef _ a _ _ _ _ _ _ _ _ => a
  | _ => { posonlyargs := [], args := [], vararg := none, kwonlyargs := [], kw_defaults := [], kwarg := none, defaults := [] }
noncomputable def defBody (s : Stmt) : List Stmt := match s with
  | .FunctionDef _ _ b _ _ _ _ _ _ _ => b
  | _ => []
noncomputable def defScope (s : Stmt) : Scope := match s with
  | .FunctionDef _ _ _ _ _ _ sc _ _ _ => sc
  | _ => { kind := .function, names := [], isGenerator := false, isCoroutine := false }

noncomputable abbrev CX0 : CXT := fun _ _ _ _ _ _ => False
noncomputable abbrev E0 : XK := fun _ _ _ => False
theorem pass0 {X : Cx} : Passes CX0 X E0 := fun _ _ _ _ _ _ _ h => h.elim

structure Fun (K : PySem.W.Frag) (x qual : Str) (st : Stmt) (f : Addr) (fd : FuncData) : Prop where
  ex : ∃ (oc : Value) (od : Option Addr) (kV doc pm : Value) (an : Option Addr) (cdv ct : Value) (osl : Array (Option Value)),
    fd = PySem.W.fnOf x qual (defArgs st) (defBody st) (defScope st) .none kV doc pm an cdv ct ∧ K.lookup f = some ⟨oc, od, .func fd, osl⟩ ∧ PySem.W.codeIn K cdv qual = true
  kp : PySem.W.keepIn K (.ref f) = true
section
variable {P : Program} {w : World} {K : PySem.W.Frag} {mg : Str → Option Value} {base : Heap}
theorem Fun.ok {x qual : Str} {st : Stmt} {f : Addr} {fd : FuncData} {N ps : List Str} {k : Nat} {sp : Sp} (F : Fun K x qual st f fd) (S : FnScope N ps (defScope st)) (len : ∀ vs H Q E, sp vs H Q E → vs.length = ps.length)
    (hbody : ∀ (cdv : Value) (A : Around) (outer : List Env) (s : Shared) (H : Hp) (vs : List V) (Q : VK) (E : XK), Room k (A.deeper (envOfC qual (defScope st) s.heap.objs.size f cdv)) → sp vs H Q E →
      ∃ t, PSs (cxOf CX0 P w K mg base N qual (defScope st) f cdv A outer s H E).nox (defBody st) t ∧ t { nx := fun _ H' => Q .non H', rt := Q } (start N vs) H) : FnOk P w K mg base CX0 (k + 1) f fd ps sp := by
  obtain ⟨oc, od, kV, doc, pm, an, cdv, ct, osl, rfl, lk, hcd⟩ := F.ex
  refine fn_of lk hcd S len fun A outer s H vs Q E hr hsp => ?_
  obtain ⟨t, h, q⟩ := hbody cdv A outer s H vs Q E hr hsp
  exact ⟨t, h.nox, q⟩
theorem Fun.binds {x qual : Str} {st : Stmt} {f : Addr} {fd : FuncData} {ps : List Str} (F : Fun K x qual st f fd)
    (h : ∀ (kV doc pm : Value) (an : Option Addr) (cdv ct : Value) (us : List Value), us.length = ps.length → bindArgs (PySem.W.fnOf x qual (defArgs st) (defBody st) (defScope st) .none kV doc pm an cdv ct) ⟨us, []⟩ = pure (ps.zip us)) : Binds K fd ps [] := by
  obtain ⟨oc, od, kV, doc, pm, an, cdv, ct, osl, rfl, lk, hcd⟩ := F.ex
  exact .all (h kV doc pm an cdv ct)
theorem fun_mk {x qual : Str} {st : Stmt} {f : Addr} {oc : Value} {od an : Option Addr} {osl : Array (Option Value)} {kV doc pm cdv ct : Value} (l : K.lookup f = some ⟨oc, od, .func (PySem.W.fnOf x qual (defArgs st) (defBody st) (defScope st) .none kV doc pm an cdv ct), osl⟩)
    (c : PySem.W.codeIn K cdv qual = true) (k : PySem.W.keepIn K (.ref f) = true) : Fun K x qual st f (PySem.W.fnOf x qual (defArgs st) (defBody st) (defScope st) .none kV doc pm an cdv ct) := ⟨⟨oc, od, kV, doc, pm, an, cdv, ct, osl, rfl, l, c⟩, k⟩
end
theorem small1000 {n : Nat} (h : n ≤ 1000) : n < sizeLine := Nat.lt_of_le_of_lt h (by decide)

section
variable {X : Cx}
end

theorem iteF {A B : Prop} (h : B) : if false = true then A else B := by
  rw [if_neg Bool.false_ne_true]
  exact h
theorem iteT {A B : Prop} (h : A) : if true = true then A else B := by
  rw [if_pos rfl]
  exact h
theorem ite2 {c A B : Prop} [Decidable c] (h1 : c → A) (h2 : ¬ c → B) : if c then A else B := by
  by_cases h : c
  · rw [if_pos h]
    exact h1 h
  · rw [if_neg h]
    exact h2 h
noncomputable def Same (H H' : Hp) : Prop := ∀ b o, H b = some o → H' b = some o
theorem Same.trans {H H1 H2 : Hp} (a : Same H H1) (b : Same H1 H2) : Same H H2 := fun c o h => b c o (a c o h)
theorem Same.free {H H' : Hp} (e : Same H H') {l : Addr} (h : H' l = Option.none) : H l = Option.none := by
  cases q : H l with
  | none => rfl
  | some o =>
    rw [e l o q] at h
    cases h
theorem Same.seq {K : PySem.W.Frag} {H H' : Hp} {a : Addr} {xs : List V} (e : Same H H') (h : SqL K H a xs) : SqL K H' a xs := by
  rcases h with (h | ⟨o, h⟩) | h
  · exact .inl (.inl (e _ _ h))
  · exact .inl (.inr ⟨o, e _ _ h⟩)
  · exact .inr h

end L2

set_option Elab.async false
set_option linter.all false
set_option maxRecDepth 100000
namespace L2
open PySem PySem.Spec PyProof.Rows

theorem PE.imp {X : Cx} {e : Expr} {T T' : TE} (h : PE X e T) (i : ∀ σ H Q, T' σ H Q → T σ H Q) : PE X e T' := fun pins s σ H Q I q => h pins s σ H Q I (i σ H Q q)
theorem PT.imp {X : Cx} {e : Expr} {T T' : TT} (h : PT X e T) (i : ∀ σ H Q, T' σ H Q → T σ H Q) : PT X e T' := fun pins s σ H Q I q => h pins s σ H Q I (i σ H Q q)
theorem PW.imp {X : Cx} {e : Expr} {T T' : TT} (h : PW X e T) (i : ∀ σ H Q, T' σ H Q → T σ H Q) : PW X e T' := fun wh pins s σ H Q I q => h wh pins s σ H Q I (i σ H Q q)
theorem PA.imp {X : Cx} {e : List Expr} {T T' : TA} (h : PA X e T) (i : ∀ σ H Q, T' σ H Q → T σ H Q) : PA X e T' := fun pos pins s σ H Q I q => h pos pins s σ H Q I (i σ H Q q)
theorem PS.imp {X : Cx} {st : Stmt} {T T' : TS} (h : PS X st T) (i : ∀ D σ H, T' D σ H → T D σ H) : PS X st T' := fun pins s σ H D I q => h pins s σ H D I (i D σ H q)
theorem PSs.imp {X : Cx} {st : List Stmt} {T T' : TS} (h : PSs X st T) (i : ∀ D σ H, T' D σ H → T D σ H) : PSs X st T' := fun pins s σ H D I q => h pins s σ H D I (i D σ H q)
theorem PI.imp {X : Cx} {tg it : Expr} {T T' : TI} (h : PI X tg it T) (i : ∀ σ H R, T' σ H R → T σ H R) : PI X tg it T' := fun pins s σ H R I q => h pins s σ H R I (i σ H R q)
theorem PG.imp {X : Cx} {tg : Expr} {T T' : TG} (h : PG X tg T) (i : ∀ v σ H R, T' v σ H R → T v σ H R) : PG X tg T' := fun pins s σ H v u R I r q => h pins s σ H v u R I r (i v σ H R q)
theorem OpR.imp {X : Cx} {f : Value → Value → Sem Value} {T T' : R2} (h : OpR X f T) (i : ∀ x y H Q, T' x y H Q → T x y H Q) : OpR X f T' := fun pins s σ H x y v u Q I a b q => h pins s σ H x y v u Q I a b (i x y H Q q)
theorem CallR.imp {X : Cx} {f : Value} {T T' : List V → Hp → VK → Prop} (h : CallR X f T) (i : ∀ x H Q, T' x H Q → T x H Q) : CallR X f T' := fun pins s σ H x v Q I a q => h pins s σ H x v Q I a (i x H Q q)

theorem Inv.frozen {X : Cx} {pins : List (Addr × Obj)} {σ : St} {H : Hp} {s : Shared} {a : Addr} {xs : List V} (I : Inv X pins σ H s) (h : H a = some (.lst xs)) :
    ∃ o, Inv X pins σ (upd H a (.frz o (.lst xs))) s := by
  obtain ⟨z, its, n, r, e⟩ := I.hok a _ h
  refine ⟨{ cls := .type "list", data := .seq its.toArray n }, I.un (h' := s.heap) (t' := s.toks) ⟨fun b u q _ _ _ => q, fun b u q _ _ _ => ⟨u.slots, q⟩, fun b u _ q _ => ?_, fun b u q _ => ⟨u, q⟩, fun b ys q => ?_, fun b u ys q => ?_, fun b ps q => ?_⟩ fun b u q => ?_⟩
  · rw [upd_ne fun w => by rw [w, h] at q; cases q]; exact q
  · rw [upd_ne fun w => by rw [w, h] at q; cases q]; exact q
  · rw [upd_ne fun w => by rw [w, h] at q; cases q]; exact q
  · exact ⟨#[], by rw [upd_ne (fun w => by rw [w, h] at q; cases q), q]; simp⟩
  · by_cases hb : b = a
    · subst hb
      rw [upd_same] at q
      cases q
      exact ⟨e, z, its, n, r, e⟩
    · rw [upd_ne hb] at q
      exact (I.hok b u q).stay (fun _ _ _ q => q) (fun c q => by rw [upd_ne fun w => by rw [w, h] at q; cases q]; exact q) fun c ys q => by rw [upd_ne fun w => by rw [w, h] at q; cases q]; exact q
noncomputable def tFrz (T : TE) : TE := fun σ H Q => T σ H fun v H' => ∃ a xs, v = .ref a ∧ H' a = some (.lst xs) ∧ ∀ o, Q v (upd H' a (.frz o (.lst xs)))
theorem pe_frz {X : Cx} {e : Expr} {T : TE} (h : PE X e T) : PE X e (tFrz T) := by
  intro pins s σ H Q I q
  refine thn (h pins s σ H _ I q) fun u s' ⟨v, H', I', r, a, xs, ev, ha, k⟩ => ?_
  obtain ⟨o, I2⟩ := I'.frozen ha
  exact ⟨v, _, I2, r, k o⟩

theorem clos_go (env : Env) : ∀ (names : List (Str × NameKind)) (cs : List (Str × Addr)), (∀ y ∈ names, y.2 = .free → ∃ c, env.cells.lookup y.1 = some c) → (∀ y c, cs.lookup y = some c → env.cells.lookup y = some c) →
    ∃ cl : List (Str × Addr), (forIn names cs (fun x r => match x with | (name, kind) => if (kind == .free) = true then (cellOf env name >>= fun c => pure (ForInStep.yield ((name, c) :: r)) : Sem _) else pure (ForInStep.yield r))) = (pure cl : Sem _) ∧
      (∀ y c, cl.lookup y = some c → env.cells.lookup y = some c) ∧ (∀ y ∈ names, y.2 = .free → ∃ c, cl.lookup y.1 = some c) ∧ (∀ y c, cs.lookup y = some c → ∃ c', cl.lookup y = some c')
  | [], cs, _, h2 => ⟨cs, rfl, h2, (fun _ h => absurd h List.not_mem_nil), fun y c h => ⟨c, h⟩⟩
  | (n, k) :: r, cs, h1, h2 => by
    have h1' : ∀ y ∈ r, y.2 = .free → ∃ c, env.cells.lookup y.1 = some c := fun y hy => h1 y (List.mem_cons_of_mem _ hy)
    by_cases hk : k = .free
    · subst hk
      obtain ⟨c, hc⟩ := h1 (n, .free) List.mem_cons_self rfl
      have h2' : ∀ y d, ((n, c) :: cs).lookup y = some d → env.cells.lookup y = some d := fun y d e => by
        rw [List.lookup_cons] at e
        cases hy : y == n with
        | true =>
          rw [hy] at e
          have : y = n := by simpa using hy
          subst this
          cases e
          exact hc
        | false => rw [hy] at e; exact h2 y d e
      obtain ⟨cl, e, p1, p2, p3⟩ := clos_go env r ((n, c) :: cs) h1' h2'
      refine ⟨cl, ?_, p1, fun y hy hf => ?_, fun y d hd => ?_⟩
      · rw [List.forIn_cons]
        have ec : cellOf env n = pure c := by unfold cellOf; rw [hc]
        simp only [beq_self_eq_true, if_true, ec, pure_bind]
        exact e
      · rcases List.mem_cons.mp hy with q | q
        · subst q
          exact p3 n c (by simp [List.lookup_cons])
        · exact p2 y q hf
      · by_cases hy : y = n
        · subst hy
          exact p3 y c (by simp [List.lookup_cons])
        · exact p3 y d (by rw [List.lookup_cons, show (y == n) = false by simpa using hy]; exact hd)
    · obtain ⟨cl, e, p1, p2, p3⟩ := clos_go env r cs h1' h2
      refine ⟨cl, ?_, p1, fun y hy hf => ?_, p3⟩
      · rw [List.forIn_cons]
        have ek : (k == NameKind.free) = false := by simpa using hk
        simp only [ek, Bool.false_eq_true, if_false, pure_bind]
        exact e
      · rcases List.mem_cons.mp hy with q | q
        · subst q; exact absurd hf hk
        · exact p2 y q hf
theorem clos_ok {env : Env} {scope : Scope} (h : ∀ y ∈ scope.names, y.2 = .free → ∃ c, env.cells.lookup y.1 = some c) :
    ∃ cl, closureFor scope env = pure cl ∧ (∀ y c, cl.lookup y = some c → env.cells.lookup y = some c) ∧ (∀ y ∈ scope.names, y.2 = .free → ∃ c, cl.lookup y.1 = some c) := by
  obtain ⟨cl, e, p1, p2, _⟩ := clos_go env scope.names [] h (fun y c q => by simp at q)
  refine ⟨cl, ?_, p1, p2⟩
  unfold closureFor
  simp only [bind_pure_comp, map_pure] at e ⊢
  first
    | exact e
    | (rw [e]; rfl)
    | (simp only [e]; rfl)
end L2

set_option Elab.async false
set_option linter.all false
set_option maxRecDepth 100000
namespace L2
open PySem PySem.Spec PyProof.Rows

theorem loop_gen {prog : Program} {w : World} {A : Around} {R : Result → Shared → Prop} {s : Shared} {elt target iter : Expr} {ifs : List Expr} {scope : Scope} {pos : Pos} {it acc : Value} {env : Env} (I : Nat → Shared → Prop) {EE : Value → Shared → Prop}
    (hE : ∀ e s', EE e s' → notedBy (model prog w) A env (fun e s' => R (.error e) s') e s')
    (turn : ∀ n s, I n s → wpAny (model prog w) A (pyNext it) (fun r s₁ => match r with
      | none => R (.ok .next) s₁
      | some v => wpAny (model prog w) A (letOwnedTupleGo target it v) (fun _ s₂ => wpAny (model prog w) A (assign target env v) (fun _ s₂ =>
          wpAny (model prog w) A (forIn ifs true fun c r => if r = true then do let ok ← isTrue c env (eval c env); pure (ForInStep.yield ok) else pure (ForInStep.yield r)) (fun ok s₃ =>
            if ok = true then wpAny (model prog w) A (eval elt env) (fun x s₄ =>
              wpAny (model prog w) A (call (.builtin "list.append") [acc, x]) (fun _ s₅ => ∃ m, m < n ∧ I m s₅) EE s₄) EE s₃
            else ∃ m, m < n ∧ I m s₃) EE s₂) EE s₂) EE s₁) EE s)
    (n : Nat) (h : I n s) :
    codeAny (model prog w) A (.compLoop (.ListComp elt [⟨target, iter, ifs, 0⟩] scope pos) 0 it acc env) R s := by
  refine codeAny_loop rfl I (fun n s hI => ?_) n h
  show wpAny _ A ((compTurn (.ListComp elt [⟨target, iter, ifs, 0⟩] scope pos) 0 it acc env).onRaise (fun x => do noteFrame x env; theTreesLotGoes x)) _ _ s
  refine wpAny_noted (wpAny_mono (E := EE) ?_ (fun _ _ q => q) fun e s' q => hE e s' q)
  rw [compTurn_list]
  refine wpAny_bind (wpAny_standAt (wpAny_bind (wpAny_mono (turn n s hI) (fun r s₁ h₁ => ?_) fun _ _ h' => h')))
  cases r with
  | none => exact wpAny_pure h₁
  | some v =>
    refine wpAny_bind (wpAny_mono h₁ (fun _ s₂ h₂ => wpAny_bind (wpAny_mono h₂ (fun _ s₃ h₃ => wpAny_bind (wpAny_mono h₃ (fun ok s₄ h₄ => ?_) fun _ _ h' => h')) fun _ _ h' => h')) fun _ _ h' => h')
    cases ok with
    | false => exact wpAny_pure ⟨rfl, h₄⟩
    | true =>
      exact wpAny_bind (wpAny_bind (wpAny_mono h₄ (fun x s₅ h₅ => wpAny_bind (wpAny_mono h₅ (fun _ s₆ h₆ => wpAny_pure (wpAny_pure ⟨rfl, h₆⟩)) fun _ _ h' => h')) fun _ _ h' => h'))

noncomputable def cxComp (X : Cx) (scope : Scope) (N : List Str) (cl : List (Str × Addr)) (C : Addr) (s₀ : Shared) (H₀ : Hp) (ex : List Addr) (E : Value → Shared → Prop) : Cx :=
  { X with N := N, s₀ := s₀, H₀ := H₀, env := compEnvC scope cl C X.env, outer := X.stack, ex := ex, fn := fun _ => false, pn := [], xe := E }

noncomputable def PIfs (X : Cx) (ifs : List Expr) (t : TT) : Prop :=
  ∀ (pins : List (Addr × Obj)) (s : Shared) (σ : St) (H : Hp) (Q : Bool → Hp → Prop), Inv X pins σ H s → t σ H Q →
    wpAny (model X.prog X.w) X.A (forIn ifs true fun c r => if r = true then do let ok ← isTrue c X.env (eval c X.env); pure (ForInStep.yield ok) else pure (ForInStep.yield r)) (TP X pins σ Q) X.xe s
theorem pifs_nil {X : Cx} : PIfs X [] (fun _ H Q => Q true H) := fun _ _ _ H _ I q => wpAny_tests_nil ⟨H, I, q⟩
theorem pifs_one {X : Cx} {c : Expr} {t : TT} (h : PT X c t) : PIfs X [c] t := fun pins s σ H Q I q => wpAny_tests_one (h pins s σ H Q I q)

structure CompOk (sc : Scope) (scope : Scope) (N : List Str) (k : Nat) (fn : List Str) : Prop where
  kind : scope.kind = .function
  cell : ∀ y ∈ scope.names, y.2 ≠ .cell
  names : ∀ y ∈ scope.names, y.2 = .local → scope.names.lookup y.1 = some .local
  free : ∀ y ∈ scope.names, y.2 = .free → sc.names.lookup y.1 = some .cell ∨ sc.names.lookup y.1 = some .free
  nd : N.Nodup
  tail : N.drop k = fn
  len : N.length = k + fn.length
  fnk : ∀ y ∈ fn, (sc.names.lookup y = some .cell ∨ sc.names.lookup y = some .free) ∧ scope.names.lookup y = some .free

theorem relabel_look {env : Env} : ∀ {names : List (Str × NameKind)} {x : Str} {k : NameKind},
    (names.map fun (n, k) => if (k == NameKind.free && env.scope.kind == .function && env.kindOf n == some .cell) then (n, NameKind.cell) else (n, k)).lookup x = some k → k = .cell ∨ k = .free → (∀ y ∈ names, y.2 ≠ .cell) → (x, NameKind.free) ∈ names
  | [], _, _, h, _, _ => by simp at h
  | (n, k) :: r, x, k', h, hk, hc => by
    have ih := @relabel_look env r x k'
    rw [List.map_cons, List.lookup_cons] at h
    by_cases hx : x = n
    · subst hx
      by_cases hcnd : (k == NameKind.free && env.scope.kind == .function && env.kindOf x == some .cell) = true
      · have : k = .free := by
          simp only [Bool.and_eq_true, beq_iff_eq] at hcnd
          exact hcnd.1.1
        subst this
        exact List.mem_cons_self
      · have e : (if (k == NameKind.free && env.scope.kind == .function && env.kindOf x == some .cell) = true then (x, NameKind.cell) else (x, k)) = (x, k) := if_neg hcnd
        rw [e] at h
        simp at h
        subst h
        rcases hk with rfl | rfl
        · exact absurd rfl (hc _ List.mem_cons_self)
        · exact List.mem_cons_self
    · have hne : (x == n) = false := by simpa using hx
      refine List.mem_cons_of_mem _ (ih ?_ hk fun y hy => hc y (List.mem_cons_of_mem _ hy))
      split at h
      · rename_i w; split at w <;> simp_all
      · exact h
theorem relabel_free {env : Env} : ∀ {names : List (Str × NameKind)} {x : Str}, names.lookup x = some .free →
    (names.map fun (n, k) => if (k == NameKind.free && env.scope.kind == .function && env.kindOf n == some .cell) then (n, NameKind.cell) else (n, k)).lookup x = some .cell ∨
    (names.map fun (n, k) => if (k == NameKind.free && env.scope.kind == .function && env.kindOf n == some .cell) then (n, NameKind.cell) else (n, k)).lookup x = some .free
  | [], _, h => by simp at h
  | (n, k) :: r, x, h => by
    have ih := @relabel_free env r x
    rw [List.map_cons]
    dsimp only
    rw [List.lookup_cons] at h
    by_cases hx : x = n
    · subst hx
      simp only [beq_self_eq_true] at h
      cases h
      by_cases hc : (NameKind.free == NameKind.free && env.scope.kind == .function && env.kindOf x == some .cell) = true
      · rw [if_pos hc]; left; simp [List.lookup_cons]
      · rw [if_neg hc]; right; simp [List.lookup_cons]
    · have hne : (x == n) = false := by simpa using hx
      rw [hne] at h
      have ih' := ih h
      by_cases hc : (k == NameKind.free && env.scope.kind == .function && env.kindOf n == some .cell) = true
      · rw [if_pos hc]; simp only [List.lookup_cons, hne]; exact ih'
      · rw [if_neg hc]; simp only [List.lookup_cons, hne]; exact ih'
theorem lookup_mem {x : Str} {k : NameKind} : ∀ {names : List (Str × NameKind)}, names.lookup x = some k → (x, k) ∈ names
  | [], h => by simp at h
  | (n, j) :: r, h => by
    rw [List.lookup_cons] at h
    by_cases hx : x = n
    · subst hx
      simp only [beq_self_eq_true] at h
      cases h
      exact List.mem_cons_self
    · have hne : (x == n) = false := by simpa using hx
      rw [hne] at h
      exact List.mem_cons_of_mem _ (lookup_mem h)

section
variable {X : Cx} {pins : List (Addr × Obj)} {σ : St} {H H' : Hp} {s s' : Shared} {scope : Scope} {N fn : List Str} {k : Nat} {cl : List (Str × Addr)} {C acc : Addr} {fp : List Addr} {E : Value → Shared → Prop} {h₁ : Heap} {tk : Nat}

noncomputable def frees (X : Cx) (σ : St) (ix : List Nat) : St := ix.map fun i => (σ[i]?).getD none

theorem Inv.comp (I : Inv X pins σ H s) (ok : CompOk X.env.scope scope N k fn) {ix : List Nat} (hix : ix.map (fun i => X.N[i]?) = fn.map some)
    (p1 : ∀ y c, cl.lookup y = some c → X.env.cells.lookup y = some c) (p2 : ∀ y ∈ scope.names, y.2 = .free → ∃ c, cl.lookup y.1 = some c)
    (hC : s.heap.objs.size ≤ C) (hns : h₁.Ns C fun _ => none) (old : ∀ b o, s.heap.get? b = some o → h₁.get? b = some o)
    (hfp : ∀ b ∈ fp, FpOk X pins H b) (hlt : ∀ b ∈ fp, b < s.heap.objs.size) :
    Inv (cxComp X scope N cl C s H fp E) [] (List.replicate k none ++ frees X σ ix) H { s with heap := h₁, toks := tk } := by
  have hlen : ix.length = fn.length := by
    have := congrArg List.length hix
    simpa using this
  refine ⟨⟨I.ok.mod, ok.kind, I.ok.glob, I.ok.blt, hC, fun x y c h1 h2 => I.ok.inj x y c (p1 x c h1) (p1 y c h2), fun x hx => ?_, fun x c h => (nomatch h), I.ok.hd, I.ok.frames, .inl rfl, fun b hb => ⟨Nat.ne_of_lt (Nat.lt_of_lt_of_le (hlt b hb) hC), fun x c h => (hfp b hb).2.2.2.2.1 x c (p1 x c h)⟩, I.bs, Nat.le_trans I.ok.bsz I.sz, fun b o e hb => ?_, fun b hb hs => ?_, I.stack, I.stkFree⟩,
    rfl, I.bare, Un.kept old, ⟨_, hns, fun i x v h1 h2 h3 => ?_⟩, fun x c h => ?_, I.hok.fresh hC, fun x c h => I.freeC x c (p1 x c h), fun p hp => absurd hp List.not_mem_nil, I.hok.kept old, ?_⟩
  · have hm : (x, NameKind.free) ∈ scope.names := by
      rcases hx with h | h
      · exact relabel_look h (.inl rfl) ok.cell
      · exact relabel_look h (.inr rfl) ok.cell
    exact p2 _ hm rfl
  · rcases (hfp b hb).2.2.2.1 with z | z
    · exact I.ok.noex b o e z
    · have h1 : b < X.base.objs.size := Heap.lt_size e
      have h2 := I.ok.bsz
      exact absurd (Nat.lt_of_lt_of_le h1 (Nat.le_trans h2 z)) (Nat.lt_irrefl _)
  · rcases List.mem_cons.mp (I.stkSub b hs) with z | z
    · exact (hfp b hb).2.1 z
    · exact (hfp b hb).2.2.1 z
  · -- the names from around
    have hi : k ≤ i := by
      refine Nat.le_of_not_lt fun q => ?_
      rw [List.getElem?_append_left (by simpa using q), List.getElem?_replicate_of_lt q] at h2
      cases h2
    rw [List.getElem?_append_right (by simpa using hi), List.length_replicate] at h2
    unfold frees at h2
    rw [List.getElem?_map] at h2
    cases hj : ix[i - k]? with
    | none => rw [hj] at h2; cases h2
    | some j =>
      rw [hj] at h2
      have h2' : (σ[j]?).getD none = some v := by simpa using h2
      have hσ : σ[j]? = some (some v) := by
        cases q : σ[j]? with
        | none => rw [q] at h2'; cases h2'
        | some o => rw [q] at h2'; simpa using h2'
      have hNi : fn[i - k]? = some x := by
        have e : (N.drop k)[i - k]? = N[i]? := by rw [List.getElem?_drop]; congr 1; omega
        rw [ok.tail] at e
        exact e.trans h1
      have hNj : X.N[j]? = some x := by
        have e := congrArg (fun l => l[i - k]?) hix
        simp only [List.getElem?_map, hj, hNi, Option.map_some] at e
        simpa using e
      obtain ⟨hk1, hk2⟩ := ok.fnk x (List.mem_of_getElem? hNi)
      obtain ⟨m, hm, hl⟩ := I.loc
      obtain ⟨u, r, l⟩ := hl j x v hNj hσ (by rcases hk1 with z | z; exact .inr (.inl z); exact .inr (.inr z))
      refine ⟨u, r, .inr ⟨relabel_free hk2, ?_⟩⟩
      rcases l with ⟨z, _⟩ | ⟨_, c, hc, hcell⟩
      · have z' : X.env.scope.names.lookup x = some .local := z
        rcases hk1 with q | q <;> (rw [q] at z'; cases z')
      · obtain ⟨c', hc'⟩ := p2 (x, .free) (lookup_mem hk2) rfl
        have e := p1 x c' hc'
        rw [hc] at e
        cases e
        obtain ⟨o, ho, hd⟩ := hcell
        exact ⟨c, hc', o, old c o ho, hd⟩
  · obtain ⟨v, o, ho, hd⟩ := I.cell x c (p1 x c h)
    exact ⟨v, o, old c o ho, hd⟩
  · rw [List.length_append, List.length_replicate]
    show k + (frees X σ ix).length = N.length
    unfold frees
    rw [List.length_map, ok.len, hlen]

theorem Inv.uncomp {pins' : List (Addr × Obj)} {σ' : St} {ys : List V} {its : List Value} (I : Inv X pins σ H s) (I' : Inv (cxComp X scope N cl C s H fp E) pins' σ' H' s') (hfp : ∀ b ∈ fp, FpOk X pins H b)
    (ha : s.heap.objs.size ≤ acc) (hn : H' acc = none) (hl : s'.heap.PlainList acc its.toArray) (hv : Vals ys its) (hz : ys.length ≤ sizeLine) : Inv X pins σ (upd H' acc (.lst ys)) s' := by
  have b0 : Un (frs X.stack) fp H H' s.heap s'.heap := I'.base
  have ne : ∀ {b : Addr} {o : Obj}, s.heap.get? b = some o → b ≠ acc := fun e => Nat.ne_of_lt (Nat.lt_of_lt_of_le (Heap.lt_size e) ha)
  have neH : ∀ {b : Addr} {o : HO}, H b = some o → b ≠ acc := fun e => Nat.ne_of_lt (Nat.lt_of_lt_of_le (I.hok.lt e) ha)
  obtain ⟨n, hget⟩ := hl
  refine I.call' I'.os ⟨b0.keep, b0.slot, fun b o e n hb => ?_, b0.there, fun b xs e => ?_, fun b o xs e => ?_, fun b ps e => ?_⟩ (fun b u e => ?_) I'.bare fun b hb => ⟨(hfp b hb).2.2.2.1, (hfp b hb).2.1, (hfp b hb).2.2.2.2.1, (hfp b hb).2.2.2.2.2⟩
  · rw [upd_ne (ne e)]; exact b0.free b o e n hb
  · rw [upd_ne (neH e)]; exact b0.tups b xs e
  · rw [upd_ne (neH e)]; exact b0.frzs b o xs e
  · rw [upd_ne (neH e)]; exact b0.tbls b ps e
  · by_cases hb : b = acc
    · subst hb
      rw [upd_same] at e
      cases e
      exact ⟨hz, its, n, hv, hget⟩
    · rw [upd_ne hb] at e
      exact (I'.hok b u e).stay (fun _ _ _ q => q) (fun c q => by rw [upd_ne (ne_of_none q hn)]; exact q) fun c xs q => by rw [upd_ne (ne_of_none q hn)]; exact q
end
end L2

set_option Elab.async false
set_option linter.all false
set_option maxRecDepth 100000
namespace L2
open PySem PySem.Spec PyProof.Rows
noncomputable abbrev XF : Value → Shared → Prop := fun _ _ => False
noncomputable def tComp (wi : TI) (k : Nat) (ix : List Nat) (g : TG) (tc : TT) (te : TE) : TE := fun σ H Q => wi σ H fun J H1 => ∃ W : Nat → Nat → List V → Hp → Prop, (∃ m, W 0 m [] H1) ∧ ∀ i m ys H, W i m ys H →
  (J.stop i H ∧ ys.length ≤ sizeLine ∧ ∀ a, H a = none → Q (.ref a) (upd H a (.lst ys))) ∨
  (J.go i H ∧ ∀ y H', J.yld i H y H' → g y (List.replicate k none ++ ix.map (fun i => (σ[i]?).getD none)) H' fun σ2 H2 => σ2.drop k = ix.map (fun i => (σ[i]?).getD none) ∧ σ2.length = k + ix.length ∧ tc σ2 H2 fun b H3 =>
    if b = true then te σ2 H3 fun z H4 => ys.length < sizeLine ∧ ∃ m', m' < m ∧ W (i + 1) m' (ys ++ [z]) H4 else ∃ m', m' < m ∧ W (i + 1) m' ys H3)

section
variable {X : Cx} {pins : List (Addr × Obj)} {σ : St} {H : Hp} {s : Shared} {scope : Scope} {N fn : List Str} {k : Nat} {ix : List Nat} {elt tg iter : Expr} {ifs : List Expr} {pos : Pos} {g : TG} {tc : TT} {te : TE}

theorem clos_of (I : Inv X pins σ H s) (ok : CompOk X.env.scope scope N k fn) :
    ∃ cl, closureFor scope X.env = pure cl ∧ (∀ y c, cl.lookup y = some c → X.env.cells.lookup y = some c) ∧ (∀ y ∈ scope.names, y.2 = .free → ∃ c, cl.lookup y.1 = some c) :=
  clos_ok fun y hy hf => I.ok.has y.1 (ok.free y hy hf)

end
end L2

set_option Elab.async false
set_option linter.all false
set_option maxRecDepth 100000
namespace L2
open PySem PySem.Spec PyProof.Rows
noncomputable def dropAt (h : Heap) (l : List Addr) : Heap := ⟨h.objs.mapIdx fun i o => if i ∈ l then { o with data := .freed } else o, h.life⟩
theorem dropAt_get (h : Heap) (l : List Addr) (b : Addr) : (dropAt h l).get? b = if b ∈ l then none else h.get? b := by
  unfold dropAt Heap.get?
  simp only [Array.getElem?_mapIdx]
  cases e : h.objs[b]? with
  | none => simp [e]
  | some o =>
    by_cases hb : b ∈ l
    · simp [hb]
    · simp [hb, e]
theorem dropAt_in {h : Heap} {l : List Addr} {b : Addr} (hb : b ∈ l) : (dropAt h l).get? b = none := by rw [dropAt_get, if_pos hb]
theorem dropAt_out {h : Heap} {l : List Addr} {b : Addr} (hb : b ∉ l) : (dropAt h l).get? b = h.get? b := by rw [dropAt_get, if_neg hb]
theorem funFrames_base {h b b' : Heap} : ∀ {l : List Env}, h.FunFrames b l → (∀ x ∈ frs l, b'.get? x = none) → h.FunFrames b' l
  | [], _, _ => trivial
  | env :: r, ⟨hk, ⟨L, o, hf, hn, ho, hd⟩, hr⟩, hb => by
    have hL : L ∈ frs (env :: r) := by unfold frs; rw [List.filterMap_cons, hf]; exact List.mem_cons_self
    refine ⟨hk, ⟨L, o, hf, hb L hL, ho, hd⟩, funFrames_base hr fun x hx => hb x ?_⟩
    unfold frs at hx ⊢
    rw [List.filterMap_cons, hf]
    exact List.mem_cons_of_mem _ hx
noncomputable def FlyT (B : Heap) (l : List Env) (a : Addr) (cls : Value) (h : Heap) : Prop := B.StaysIn h ∧ B.get? a = none ∧ h.FunFrames B l ∧ ∃ a0 fl, h.TracedAtW B a cls a0 fl
noncomputable def Fly (B : Heap) (l : List Env) (a : Addr) (cls : Value) (h : Heap) : Prop :=
  FlyT B l a cls h ∨ (B.StaysIn h ∧ B.get? a = none ∧ h.FunFrames B l ∧ ∃ oe vs a0, h.get? a = some oe ∧ oe.cls = cls ∧ oe.data = .fields vs ∧ vs[1]? = some .none ∧ vs[0]? = some a0)
theorem Fly.stays {B : Heap} {l : List Env} {a : Addr} {cls : Value} {h : Heap} (f : Fly B l a cls h) : B.StaysIn h := by
  rcases f with f | f
  · exact f.1
  · exact f.1
section
variable {M : Model} {A : Around} {E : Value → Shared → Prop} {s : Shared}
theorem note_same {e : Value} {env env' : Env} (h : env.frame = env'.frame) : noteFrame e env = noteFrame e env' := by
  unfold noteFrame PySem.frameOf
  rw [h]
theorem fly_note {B : Heap} {env e0 : Env} {outer : List Env} {L a : Addr} {cls : Value} {Q : Unit → Shared → Prop} (hfr : A.frames = some (e0 :: outer)) (hf : e0.frame = some L) (hf' : env.frame = some L) (x : Fly B (e0 :: outer) a cls s.heap)
    (hQ : ∀ h', FlyT B (e0 :: outer) a cls h' → s.heap.UpToSlots h' → Q () { s with heap := h' }) : wpAny M A (noteFrame (.ref a) env) Q E s := by
  rw [note_same (hf'.trans hf.symm)]
  rcases x with ⟨f1, f2, f3, a0, fl, oe, vs, T, oT, ts, he, ⟨hcls, h0⟩, hd, h1, hnT, hTe, hT, hdT, h3⟩ | ⟨f1, f2, f3, oe, vs, a0, he, hcls, hd, h1, h0⟩
  · by_cases hfl : fl = rawInt L
    · subst hfl
      exact wpAny_noteFrame_againW hf ⟨oe, vs, T, oT, ts, he, ⟨hcls, h0⟩, hd, h1, hnT, hTe, hT, hdT, h3⟩ (hQ s.heap ⟨f1, f2, f3, a0, _, oe, vs, T, oT, ts, he, ⟨hcls, h0⟩, hd, h1, hnT, hTe, hT, hdT, h3⟩ (.refl _))
    · subst hcls
      unfold noteFrame
      simp only [hf]
      refine wpAny_bind (wpAny_field he hd h1 ?_)
      rw [if_pos (show (Value.ref T != Value.none) = true from by simp)]
      refine wpAny_bind (wpAny_field hT hdT h3 ?_)
      rw [if_neg (show ¬ ((fl == rawInt L) = true) from by simpa using hfl)]
      refine wpAny_bind (wpAny_setField hT hdT (Array.getElem?_eq_some_iff.mp h3).1 ?_)
      have other : ∀ b, b ≠ T → (s.heap.update T (Obj.mapFields (·.setIfInBounds 3 Value.none))).get? b = s.heap.get? b := fun b hb => Heap.get?_update_other _ _ (Ne.symm hb)
      have rec' : ∀ b o, s.heap.get? b = some o → (∀ vs, o.data ≠ .fields vs) → b ≠ T := fun b o hb hnf q => by
        rw [q, hT] at hb; cases hb; exact hnf ts hdT
      refine wpAny_entryW hfr (f3.of_keeps fun b o hb hnf => ⟨o, (other b (rec' b o hb hnf)).trans hb, rfl⟩) hf ((other a (Ne.symm hTe)).trans he)
        (fun b o hbo => (other b fun q => by rw [q, hnT] at hbo; cases hbo).trans (f1 b o hbo)) f2 hd (Array.getElem?_eq_some_iff.mp h1).1 h0 fun h' ⟨x1, x2, x3, x4⟩ => ?_
      exact hQ h' ⟨x1, f2, x2, a0, _, x3⟩ fun b o hb hnf => x4 b o ((other b (rec' b o hb hnf)).trans hb) hnf
  · subst hcls
    unfold noteFrame
    simp only [hf]
    refine wpAny_bind (wpAny_field he hd h1 ?_)
    rw [if_neg (by decide)]
    refine wpAny_entryW hfr f3 hf he f1 f2 hd (Array.getElem?_eq_some_iff.mp h1).1 h0 fun h' ⟨x1, x2, x3, x4⟩ => ?_
    exact hQ h' ⟨x1, f2, x2, a0, _, x3⟩ x4
theorem fly_set {B : Heap} {l : List Env} {a : Addr} {cls : Value} {fr : Option Addr} {Q : Unit → Shared → Prop} (x : FlyT B l a cls s.heap) (hQ : ∀ h', FlyT B l a cls h' → s.heap.UpToSlots h' → Q () { s with heap := h' }) : wpAny M A (setFlight (.ref a) fr) Q E s := by
  obtain ⟨f1, f2, f3, a0, fl, oe, vs, T, oT, ts, he, hcls, hd, h1, hnT, hTe, hT, hdT, h3⟩ := x
  have hsz3 : 3 < ts.size := (Array.getElem?_eq_some_iff.mp h3).1
  have other : ∀ b, b ≠ T → (s.heap.update T (Obj.mapFields (·.setIfInBounds 3 (fr.elim Value.none fun f => rawInt f)))).get? b = s.heap.get? b := fun b hb => Heap.get?_update_other _ _ (Ne.symm hb)
  have rec' : ∀ b o, s.heap.get? b = some o → (∀ vs, o.data ≠ .fields vs) → b ≠ T := fun b o hb hnf q => by
    rw [q, hT] at hb; cases hb; exact hnf ts hdT
  unfold setFlight
  refine wpAny_bind (wpAny_field he hd h1 ?_)
  rw [if_pos (show (Value.ref T != Value.none) = true from by simp)]
  refine wpAny_setField hT hdT hsz3 (hQ _ ⟨fun b o hbo => (other b fun q => by rw [q, hnT] at hbo; cases hbo).trans (f1 b o hbo), f2, f3.of_keeps fun b o hb hnf => ⟨o, (other b (rec' b o hb hnf)).trans hb, rfl⟩, a0, (fr.elim Value.none fun f => rawInt f), ?_⟩ fun b o hb hnf => ⟨o.slots, (other b (rec' b o hb hnf)).trans hb⟩)
  exact ⟨oe, vs, T, _, _, (other a (Ne.symm hTe)).trans he, hcls, hd, h1, hnT, hTe, Heap.get?_update_self _ hT (Obj.isFreed_of_fields (Obj.data_mapFields hdT _)), Obj.data_mapFields hdT _, by simp [hsz3]⟩
theorem fly_field {B : Heap} {l : List Env} {a : Addr} {cls : Value} {Q : Value → Shared → Prop} (x : FlyT B l a cls s.heap) (hQ : ∀ T, Q (.ref T) s) : wpAny M A (field (.ref a) 1) Q E s := by
  obtain ⟨f1, f2, f3, a0, fl, oe, vs, T, oT, ts, he, hcls, hd, h1, r⟩ := x
  exact wpAny_field he hd h1 (hQ T)
end
noncomputable def OldIn (fs : List Addr) (H : Hp) (h B : Heap) : Prop := ∀ b o, h.get? b = some o → b ∉ fs → ∃ o', B.get? b = some o' ∧ (H b = none → o' = o)
noncomputable def CX1 (P : Program) (w : World) : CXT := fun outer H s E e s' => ∃ (a : Addr) (cls : Value) (H' : Hp) (B : Heap), e = .ref a ∧ s'.os = s.os ∧ AllBare s'.gens ∧ Un (frs outer) [] H H' s.heap s'.heap ∧ HOk P w H' B ∧
  FlyT B outer a cls s'.heap ∧ OldIn (frs outer) H s.heap B ∧ E cls none H'
structure XS (X : Cx) (pins : List (Addr × Obj)) (σ : St) (H : Hp) (s : Shared) (a : Addr) (cls : Value) : Prop where
  inv : Inv X pins σ H s
  ex : ∃ B, Fly B X.stack a cls s.heap ∧ HOk X.prog X.w H B ∧ OldIn (X.fs ++ X.ex) X.H₀ X.s₀.heap B ∧ ∀ p ∈ X.pn ++ pins, B.get? p.1 = some p.2
section
variable {X : Cx} {pins : List (Addr × Obj)} {σ : St} {H H' : Hp} {s s' : Shared} {a : Addr} {cls : Value} {E : XK}
theorem Inv.notStk (I : Inv X pins σ H s) {b : Addr} {o : Obj} (e : X.s₀.heap.get? b = some o) (hb : b ∉ X.fs) : b ∉ frs X.stack := fun z => by
  rcases List.mem_cons.mp (I.stkSub b z) with q | q
  · have h1 := Heap.lt_size e
    rw [q] at h1
    exact absurd (Nat.lt_of_lt_of_le h1 I.ok.above) (Nat.lt_irrefl _)
  · exact hb q
theorem Inv.stays (I : Inv X pins σ H s) {B h' : Heap} (hB : B.StaysIn h') (up : s.heap.UpToSlots h') (hok : HOk X.prog X.w H B) (old : OldIn (X.fs ++ X.ex) X.H₀ X.s₀.heap B) (hp : ∀ p ∈ X.pn ++ pins, B.get? p.1 = some p.2) : Inv X pins σ H { s with heap := h' } := by
  have keep : ∀ b o, X.s₀.heap.get? b = some o → X.H₀ b = none → b ∉ X.fs → b ∉ X.ex → h'.get? b = some o := fun b o e n h1 h2 => by
    obtain ⟨o', e', q⟩ := old b o e fun z => (List.mem_append.mp z).elim h1 h2
    rw [q n] at e'
    exact hB b o e'
  have slot : ∀ b o, X.s₀.heap.get? b = some o → X.H₀ b = none → b ∈ X.fs → b ∉ X.ex → ∃ sl, h'.get? b = some { o with slots := sl } := fun b o e n h1 h2 => by
    obtain ⟨sl, e1⟩ := I.base.slot b o e n h1 h2
    obtain ⟨_, o2, e2, nf⟩ := I.ok.funs.mem h1
    rw [e] at e2
    cases e2
    obtain ⟨sl', e3⟩ := up b _ e1 nf
    exact ⟨sl', e3⟩
  refine ⟨I.ok, I.os, I.bare, ⟨keep, slot, I.base.free, fun b o e hx => ?_, I.base.tups, I.base.frzs, I.base.tbls⟩, ?_, fun x c e => ?_, I.free, I.freeC, fun p q => ?_, hok.kept hB, I.len⟩
  · by_cases hf : b ∈ X.fs
    · by_cases n : X.H₀ b = none
      · obtain ⟨sl, e1⟩ := slot b o e n hf hx
        exact ⟨_, e1⟩
      · exact absurd (I.ok.frf b hf) n
    · obtain ⟨o', e', _⟩ := old b o e fun z => (List.mem_append.mp z).elim hf hx
      exact ⟨o', hB b o' e'⟩
  · obtain ⟨m, hn, hl⟩ := I.loc
    refine ⟨m, up.ns hn, fun i x v h1 h2 h3 => ?_⟩
    obtain ⟨u, r, hk⟩ := hl i x v h1 h2 h3
    refine ⟨u, r, ?_⟩
    rcases hk with hk | ⟨k1, c, k2, o, k3, k4⟩
    · exact .inl hk
    · obtain ⟨sl, e3⟩ := up c o k3 fun vs q => by rw [k4] at q; cases q
      exact .inr ⟨k1, c, k2, _, e3, k4⟩
  · obtain ⟨v, o, k3, k4⟩ := I.cell x c e
    obtain ⟨sl, e3⟩ := up c o k3 fun vs q => by rw [k4] at q; cases q
    exact ⟨v, _, e3, k4⟩
  · obtain ⟨p1, p2⟩ := I.pin p q
    exact ⟨hB _ _ (hp p q), p2⟩
theorem XS.pass {P : Program} {w : World} (hP : X.prog = P) (hw : X.w = w) (I : Inv X pins σ H s) {e : Value} (h : CX1 P w X.stack H s E e s') : ∃ a cls H', e = .ref a ∧ XS X pins σ H' s' a cls ∧ E cls none H' := by
  subst hP hw
  obtain ⟨a, cls, H', B, rfl, os, bare, un, hok, fly, old, hE⟩ := h
  have I2 : Inv X pins σ H' s' := I.call' os un (hok.kept fly.1) bare fun b z => absurd z (by simp)
  refine ⟨a, cls, H', rfl, ⟨I2, B, .inl fly, hok, fun b o e hb => ?_, fun p hp => ?_⟩, hE⟩
  · rw [List.mem_append] at hb
    obtain ⟨o1, e1⟩ := I.base.there b o e fun z => hb (.inr z)
    obtain ⟨o2, e2, h2⟩ := old b o1 e1 (I.notStk e fun z => hb (.inl z))
    refine ⟨o2, e2, fun hn => ?_⟩
    have k1 := I.base.keep b o e hn (fun z => hb (.inl z)) fun z => hb (.inr z)
    rw [e1] at k1
    cases k1
    exact h2 (I.base.free b o e hn fun z => hb (.inr z))
  · obtain ⟨p1, p2, p3, p4, p5⟩ := I.pin p hp
    obtain ⟨o2, e2, h2⟩ := old p.1 p.2 p1 fun z => by
      rcases List.mem_cons.mp (I.stkSub _ z) with q | q
      · exact p3 q
      · exact p4 q
    rw [e2, h2 p2]
theorem XS.made {h' : Heap} {vs : List Value} (I : Inv X pins σ H s) (mk : Heap.MadeExcOf s.heap h' a cls vs) : XS X pins σ H { s with heap := h' } a cls := by
  obtain ⟨t, he, ht, _⟩ := mk.there
  have st : (dropAt s.heap (frs X.stack)).StaysIn h' := fun b o e => by
    rw [dropAt_get] at e
    split at e
    · cases e
    · exact mk.keeps b o e
  refine ⟨I.kept (t' := s.toks) mk.keeps, dropAt s.heap (frs X.stack), .inr ⟨st, ?_, ?_, _, _, .ref t, he, rfl, rfl, rfl, rfl⟩, fun b u q => ?_, fun b o e hb => ?_, fun p hp => ?_⟩
  · rw [dropAt_get, mk.new]; simp
  · exact funFrames_base (I.kept (t' := s.toks) mk.keeps).stack fun x hx => dropAt_in hx
  · have out : ∀ {c : Addr} {v : HO}, H c = some v → c ∉ frs X.stack := fun {c v} e z => by rw [I.stkFree c z] at e; cases e
    refine (I.hok b u q).stay (fun c v hc e => ?_) (fun _ z => z) fun _ _ z => z
    rcases hc with rfl | hc
    · rw [dropAt_out (out q)]; exact e
    · rw [dropAt_out (out hc)]; exact e
  · rw [List.mem_append] at hb
    obtain ⟨o1, e1⟩ := I.base.there b o e fun z => hb (.inr z)
    refine ⟨o1, by rw [dropAt_out (I.notStk e fun z => hb (.inl z))]; exact e1, fun hn => ?_⟩
    have k1 := I.base.keep b o e hn (fun z => hb (.inl z)) fun z => hb (.inr z)
    rw [e1] at k1
    cases k1
    rfl
  · obtain ⟨p1, p2, p3, p4, p5⟩ := I.pin p hp
    rw [dropAt_out fun z => by
      rcases List.mem_cons.mp (I.stkSub _ z) with q | q
      · exact p3 q
      · exact p4 q]
    exact p1
structure XT (X : Cx) (pins : List (Addr × Obj)) (σ : St) (H : Hp) (s : Shared) (a : Addr) (cls : Value) : Prop where
  inv : Inv X pins σ H s
  ex : ∃ B, FlyT B X.stack a cls s.heap ∧ HOk X.prog X.w H B ∧ OldIn (X.fs ++ X.ex) X.H₀ X.s₀.heap B ∧ ∀ p ∈ X.pn ++ pins, B.get? p.1 = some p.2
theorem XT.xs (x : XT X pins σ H s a cls) : XS X pins σ H s a cls := by
  obtain ⟨I, B, f, r⟩ := x
  exact ⟨I, B, .inl f, r⟩
structure Top (X : Cx) : Prop where
  ex : ∃ e0 r L, X.stack = e0 :: r ∧ e0.frame = some L ∧ X.env.frame = some L
theorem XS.note {E' : Value → Shared → Prop} {Q : Unit → Shared → Prop} (t : Top X) (x : XS X pins σ H s a cls) (hQ : ∀ s', XT X pins σ H s' a cls → Q () s') : wpAny (model X.prog X.w) X.A (noteFrame (.ref a) X.env) Q E' s := by
  obtain ⟨e0, r, L, h1, h2, h3⟩ := t.ex
  obtain ⟨I, B, f, hok, old, hp⟩ := x
  rw [h1] at f
  refine fly_note (by rw [← h1]; exact I.ok.frames) h2 h3 f fun h' f' up => hQ _ ⟨I.stays f'.1 up hok old hp, B, by rw [h1]; exact f', hok, old, hp⟩
theorem XT.set {E' : Value → Shared → Prop} {Q : Unit → Shared → Prop} {A : Around} {fr : Option Addr} (x : XT X pins σ H s a cls) (hQ : ∀ s', XT X pins σ H s' a cls → Q () s') : wpAny (model X.prog X.w) A (setFlight (.ref a) fr) Q E' s := by
  obtain ⟨I, B, f, hok, old, hp⟩ := x
  exact fly_set f fun h' f' up => hQ _ ⟨I.stays f'.1 up hok old hp, B, f', hok, old, hp⟩
theorem XS.own {xe : Value → Shared → Prop} (t : Top X) (x : XS X pins σ H s a cls) (hx : ∀ s', XS X pins σ H s' a cls → xe (.ref a) s') : notedBy (model X.prog X.w) X.A X.env (cameBackBy (model X.prog X.w) X.A X.env xe) (.ref a) s := by
  unfold notedBy
  refine x.note t fun s1 x1 => ?_
  unfold cameBackBy
  obtain ⟨I, B, f, r⟩ := id x1
  refine wpAny_bind (fly_field f fun T => ?_)
  rw [if_neg (by simp)]
  first
    | exact x1.set fun s2 x2 => hx s2 x2.xs
    | exact wpAny_bind (wpAny_pure (x1.set fun s2 x2 => hx s2 x2.xs))
end
end L2

set_option Elab.async false
set_option linter.all false
set_option maxRecDepth 100000
namespace L2
open PySem PySem.Spec PyProof.Rows
structure XCls (K : PySem.W.Frag) (C : Addr) : Prop where
  ex : ∃ (B newId initId : String) (bm : List Value), ExcBaseFacts B newId initId bm ∧ PySem.W.excIn K C bm newId = true
section
variable {X : Cx} {pins : List (Addr × Obj)} {σ : St} {H : Hp} {s : Shared} {a C f : Addr} {cls : Value} {x : Str} {e : Expr} {es : List Expr} {t : TA} {np cpos pos p : Pos} {k : Nat} {fd : FuncData} {ps : List Str} {sp : Sp} {dvs : List V} {ds : List Value}
noncomputable abbrev XR := Value → St → Hp → Prop
noncomputable def Takes (X : Cx) (R : XR) : Prop := ∀ pins σ H s a cls, XS X pins σ H s a cls → R cls σ H → X.xe (.ref a) s
noncomputable def tRaise (t : TA) (R : St → Hp → Prop) : TS := fun _ σ H => t σ H fun vs H1 => vs.length ≤ sizeLine ∧ R σ H1
noncomputable def tCallX (sp : Sp) (dvs : List V) (R : XR) (t : TA) : TE := fun σ H Q => t σ H fun vs H1 => sp (vs ++ dvs) H1 Q fun cls _ H' => R cls σ H'
noncomputable def xeOf (X : Cx) (R : XR) : Value → Shared → Prop := fun e s => ∃ pins σ H a cls, e = .ref a ∧ XS X pins σ H s a cls ∧ R cls σ H
theorem XS.wish {E : Value → Shared → Prop} (x : XS X pins σ H s a cls) : XS (X.wish E) pins σ H s a cls := ⟨x.inv.wish E, x.ex⟩
theorem XS.unwish {E : Value → Shared → Prop} (x : XS (X.wish E) pins σ H s a cls) : XS X pins σ H s a cls := ⟨x.inv.unwish, x.ex⟩
theorem takes_of (R : XR) : Takes (X.wish (xeOf X R)) R := fun pins σ H s a cls x r => ⟨pins, σ, H, a, cls, rfl, x.unwish, r⟩
noncomputable def handling (X : Cx) (v : Value) : Cx := { X with A := X.A.mark (some v), calm := false, xe := fun _ _ => False }
theorem Inv.handling {v : Value} (I : Inv X pins σ H s) : Inv (L2.handling X v) pins σ H s :=
  ⟨⟨I.ok.mod, I.ok.kind, I.ok.glob, I.ok.blt, I.ok.above, I.ok.inj, I.ok.has, I.ok.cab, (fun z => nomatch z), I.ok.frames, I.ok.stk, I.ok.exf, I.ok.bs, I.ok.bsz, I.ok.noex, I.ok.exfs, I.ok.funs, I.ok.frf⟩, I.os, I.bare, I.base, I.loc, I.cell, I.free, I.freeC, I.pin, I.hok, I.len⟩
noncomputable abbrev Cx.holds (X : Cx) (pins : List (Addr × Obj)) (E : Value → Shared → Prop) : Cx := { X with pn := X.pn ++ pins, xe := E }
theorem Cx.Ok.holds (ok : X.Ok) (pins : List (Addr × Obj)) (E : Value → Shared → Prop) : (X.holds pins E).Ok :=
  ⟨ok.mod, ok.kind, ok.glob, ok.blt, ok.above, ok.inj, ok.has, ok.cab, ok.hd, ok.frames, ok.stk, ok.exf, ok.bs, ok.bsz, ok.noex, ok.exfs, ok.funs, ok.frf⟩
theorem Inv.holds (I : Inv X pins σ H s) (E : Value → Shared → Prop) : Inv (X.holds pins E) [] σ H s :=
  ⟨I.ok.holds pins E, I.os, I.bare, I.base, I.loc, I.cell, I.free, I.freeC, fun p hp => I.pin p (by simpa using hp), I.hok, I.len⟩
noncomputable def tTry (C : Addr) (tb : XR → TS) (th : TS) : TS := fun D σ H => tb (fun cls σ' H' => cls = .ref C ∧ th D σ' H') D σ H
end
end L2

set_option Elab.async false
set_option linter.all false
set_option maxRecDepth 100000
namespace L2
open PySem PySem.Spec PyProof.Rows
section
variable {X : Cx} {pins : List (Addr × Obj)} {σ : St} {H : Hp} {s : Shared} {scope : Scope} {N fn : List Str} {k : Nat} {ix : List Nat} {elt tg iter : Expr} {ifs : List Expr} {pos : Pos} {g : TG} {tc : TT} {te : TE}

theorem comp_blockX {EX : List (Str × Addr) → Addr → Shared → Hp → List Addr → Value → Shared → Prop} {it : Addr} {fp : List Addr} {tn : Nat → Heap → Prop} {J : It} {cl : List (Str × Addr)} {RR : Value → Addr → Result → Shared → Prop} {E : Value → Shared → Prop} {R : List V → Hp → Prop}
    (hc : X.calm = true) (ok : CompOk X.env.scope scope N k fn) (hix : ix.map (fun i => X.N[i]?) = fn.map some)
    (hg : ∀ cl C s₀ H₀ ex, PG (cxComp X scope N cl C s₀ H₀ ex (EX cl C s₀ H₀ ex)) tg g) (ht : ∀ cl C s₀ H₀ ex, PIfs (cxComp X scope N cl C s₀ H₀ ex (EX cl C s₀ H₀ ex)) ifs tc) (he : ∀ cl C s₀ H₀ ex, PE (cxComp X scope N cl C s₀ H₀ ex (EX cl C s₀ H₀ ex)) elt te)
    (p1 : ∀ y c, cl.lookup y = some c → X.env.cells.lookup y = some c) (p2 : ∀ y ∈ scope.names, y.2 = .free → ∃ c, cl.lookup y.1 = some c)
    (I2 : Inv X pins σ H s) (T : Turn X.prog X.w X.K tg J fp it tn) (st2 : tn 0 s.heap) (f2 : ∀ b ∈ fp, FpOk X pins H b)
    (W : Nat → Nat → List V → Hp → Prop) (w0 : ∃ m, W 0 m [] H)
    (turn : ∀ i m ys H, W i m ys H →
      (J.stop i H ∧ ys.length ≤ sizeLine ∧ R ys H) ∨
      (J.go i H ∧ ∀ y H', J.yld i H y H' → g y (List.replicate k none ++ ix.map (fun i => (σ[i]?).getD none)) H' fun σ2 H2 => σ2.drop k = ix.map (fun i => (σ[i]?).getD none) ∧ σ2.length = k + ix.length ∧ tc σ2 H2 fun b H3 =>
        if b = true then te σ2 H3 fun z H4 => ys.length < sizeLine ∧ ∃ m', m' < m ∧ W (i + 1) m' (ys ++ [z]) H4 else ∃ m', m' < m ∧ W (i + 1) m' ys H3))
    (hE : ∀ acc C e s', EX cl C s H fp e s' → notedBy (model X.prog X.w) X.A (compEnvC scope cl C X.env) (fun e s' => RR (.ref acc) C (.error e) s') e s')
    (fin : ∀ ys a C H' s' m, H' a = none → R ys H' → Inv X pins σ (upd H' a (.lst ys)) s' → FpOk X pins (upd H' a (.lst ys)) C → s'.heap.Ns C m → RR (.ref a) C (.ok .next) s') :
    wpAny (model X.prog X.w) X.A (newList []) (fun acc s₃ => wpAny (model X.prog X.w) X.A (newFunctionEnv scope X.env.globals cl [] X.env.qual none .none (some X.env)) (fun cenv s₄ =>
      codeAny (model X.prog X.w) X.A (.compStart (.ListComp elt [⟨tg, iter, ifs, 0⟩] scope pos) 0 (.ref it) acc { cenv with scope := relabel scope X.env }) (RR acc cenv.locals) s₄) E s₃) E s := by
  refine wpAny_newObj_type (wpAny_newFunctionEnv ok.cell (by intro y hy; simp at hy) (fun h₁ hns₁ hsb₁ => ?_) ok.kind)
  dsimp only at hns₁ hsb₁ ⊢
  generalize hH2 : s.heap.push { cls := .type "list", dict := none, data := .seq ([] : List Value).toArray } = Hp2 at hns₁ hsb₁ ⊢
  have hC : Hp2.objs.size = s.heap.objs.size + 1 := by rw [← hH2, Heap.size_push]
  have hDC : s.heap.objs.size ≠ Hp2.objs.size := by rw [hC]; exact Nat.ne_of_lt (Nat.lt_succ_self _)
  have hCle : s.heap.objs.size ≤ Hp2.objs.size := by rw [hC]; exact Nat.le_succ _
  have old : ∀ b o, s.heap.get? b = some o → h₁.get? b = some o := fun b o e => hsb₁.extBut b o (by have := Heap.lt_size e; rw [hC]; exact Nat.ne_of_lt (Nat.lt_succ_of_lt this)) (Heap.get?_push_of_some _ (hH2 ▸ Heap.get?_push_of_some _ e))
  have hacc : h₁.PlainList s.heap.objs.size #[] := ⟨_, hsb₁.extBut _ _ hDC (Heap.get?_push_of_some _ (hH2 ▸ Heap.get?_push_size _ rfl))⟩
  have hlt : ∀ b ∈ fp, b < s.heap.objs.size := fun b hb => by
    obtain ⟨o, e, _⟩ := T.obj _ _ st2 b hb
    exact Heap.lt_size e
  have hns0 : h₁.Ns Hp2.objs.size fun _ => none := by simpa using hns₁
  have I4 : Inv (cxComp X scope N cl Hp2.objs.size s H fp (EX cl Hp2.objs.size s H fp)) [] (List.replicate k none ++ frees X σ ix) H { s with heap := h₁, toks := s.toks + ([] : List (Str × Value)).length } :=
    I2.comp ok hix p1 p2 hCle hns0 old f2 hlt
  generalize hCC : Hp2.objs.size = C at *
  generalize hAA : s.heap.objs.size = acc at *
  have hix2 : ix.length = fn.length := by have := congrArg List.length hix; simpa using this
  -- what stays true of the iterator's objects and of the list
  have fpX : ∀ {pins' : List (Addr × Obj)} {H' : Hp} {b : Addr}, b ∈ fp → H' b = none → FpOk (cxComp X scope N cl C s H fp (EX cl C s H fp)) [] H' b := fun {pins' H' b} hb hn =>
    ⟨hn, (I4.ok.exf b hb).1, I4.ok.exfs b hb, .inl hb, (I4.ok.exf b hb).2, fun p hp => absurd hp List.not_mem_nil⟩
  have accX : ∀ {H' : Hp}, H' acc = none → FpOk (cxComp X scope N cl C s H fp (EX cl C s H fp)) [] H' acc := fun {H'} hn =>
    ⟨hn, hDC, fun z => by
      have h1 := I2.stkSub acc z
      rcases List.mem_cons.mp h1 with q | q
      · exact absurd I2.lt (by rw [hAA, q]; exact Nat.lt_irrefl _)
      · exact I2.nofs (Nat.le_of_eq hAA) q, .inr (Nat.le_of_eq hAA), fun x c e => by
      obtain ⟨v, o, ho, _⟩ := I2.cell x c (p1 x c e)
      have := Heap.lt_size ho
      rw [hAA] at this
      exact Nat.ne_of_lt this, fun p hp => absurd hp List.not_mem_nil⟩
  have loop : ∀ s₃ : Shared, s₃ = { s with heap := h₁, toks := s.toks + ([] : List (Str × Value)).length } →
      codeAny (model X.prog X.w) X.A (.compLoop (.ListComp elt [⟨tg, iter, ifs, 0⟩] scope pos) 0 (.ref it) (.ref acc) (compEnvC scope cl C X.env)) (RR (.ref acc) C) s₃ := by
    rintro s₃ rfl
    obtain ⟨m0, w0⟩ := w0
    refine loop_gen (EE := EX cl C s H fp) (fun n s' => ∃ i ys its H', Inv (cxComp X scope N cl C s H fp (EX cl C s H fp)) [] (List.replicate k none ++ frees X σ ix) H' s' ∧ tn i s'.heap ∧ (∀ b ∈ fp, H' b = none) ∧ H' acc = none ∧ s'.heap.PlainList acc its.toArray ∧ Vals ys its ∧ W i n ys H')
      (fun e s' q => hE acc C e s' q) ?_ m0 ⟨0, [], [], H, I4, T.keep _ _ _ st2 fun b _ o e => old b o e, fun b hb => (f2 b hb).1, I2.hok.fresh (Nat.le_of_eq hAA), hacc, .nil, w0⟩
    rintro n s3 ⟨i, ys, its, H3, I3, st3, fr3, an3, pl3, rv3, w3⟩
    obtain ⟨nl, pe3⟩ := id pl3
    have neA : ∀ b ∈ fp, acc ≠ b := fun b hb => by have := hlt b hb; exact Ne.symm (Nat.ne_of_lt this)
    have mA : (acc, ({ cls := .type "list", data := .seq its.toArray nl } : Obj)) ∈ pinsAt [acc] s3.heap := mem_pinsAt List.mem_cons_self pe3
    have ofA : ∀ p ∈ pinsAt [acc] s3.heap, p.1 = acc := fun p hp => List.mem_singleton.mp (of_pinsAt hp).1
    have I3p : Inv (cxComp X scope N cl C s H fp (EX cl C s H fp)) (pinsAt [acc] s3.heap) (List.replicate k none ++ frees X σ ix) H3 s3 :=
      I3.pinned (fp := [acc]) (fun b hb => by rw [List.mem_singleton.mp hb]; exact accX an3) (fun b hb => by
        rw [List.mem_singleton.mp hb]
        exact ⟨_, pe3, fun v z => nomatch z⟩)
    have fpP : ∀ {H' : Hp} {b : Addr}, b ∈ fp → H' b = none → FpOk (cxComp X scope N cl C s H fp (EX cl C s H fp)) (pinsAt [acc] s3.heap) H' b := fun {H' b} hb hn =>
      ⟨hn, (I4.ok.exf b hb).1, I4.ok.exfs b hb, .inl hb, (I4.ok.exf b hb).2, fun p hp => by
        have hp' : p ∈ ([] : List (Addr × Obj)) ++ pinsAt [acc] s3.heap := hp
        rw [ofA p (by simpa using hp')]; exact neA b hb⟩
    rcases turn i n ys H3 w3 with ⟨stop, hz, q⟩ | ⟨go, step⟩
    · refine thn (T.done (cxComp X scope N cl C s H fp (EX cl C s H fp)) rfl rfl rfl hc i _ s3 _ H3 (EX cl C s H fp) I3p (fun b hb => fpP hb (fr3 b hb)) st3 stop) fun r s4 ⟨hr, I4'⟩ => ?_
      subst hr
      have pl4 : s4.heap.PlainList acc its.toArray := ⟨nl, (I4'.pin _ (List.mem_append_right _ mA)).1⟩
      have Ix := I2.uncomp (acc := acc) I4' f2 (Nat.le_of_eq hAA) an3 pl4 rv3 hz
      obtain ⟨m, hm, _⟩ := I4'.loc
      refine fin ys acc C H3 s4 m an3 q Ix ⟨?_, ?_, ?_, ?_, ?_, ?_⟩ hm
      · rw [upd_ne (Ne.symm hDC)]; exact I4'.free
      · exact Ne.symm (Nat.ne_of_lt (Nat.lt_of_lt_of_le I2.lt (by rw [hAA]; exact hCle)))
      · exact I2.nofs (by rw [hAA]; exact hCle)
      · exact .inr (Nat.le_trans I2.sz (by rw [hAA]; exact hCle))
      · intro x c e
        obtain ⟨v, o, ho, _⟩ := I2.cell x c e
        have := Heap.lt_size ho
        rw [hAA] at this
        exact Nat.ne_of_lt (Nat.lt_of_lt_of_le this hCle)
      · intro p hp
        have := Heap.lt_size (I2.pin p hp).1
        rw [hAA] at this
        exact Nat.ne_of_lt (Nat.lt_of_lt_of_le this hCle)
    · refine thn (T.item (cxComp X scope N cl C s H fp (EX cl C s H fp)) rfl rfl rfl hc i _ s3 _ H3 (EX cl C s H fp) I3p (fun b hb => fpP hb (fr3 b hb)) st3 go) fun r s4 ⟨u, hr, h4⟩ => ?_
      subst hr
      refine thn h4 fun _ s5 ⟨x, H5, I5, r5, y5, st5, fr5⟩ => ?_
      have I5' := I5.pinned (fun b hb => fpP hb (fr5 b hb)) (T.obj _ _ st5)
      refine thn (hg _ _ _ _ _ _ s5 _ H5 x u _ I5' r5 (step x H5 y5)) fun _ s6 ⟨σ6, H6, I6, hσ6, hl6, q6⟩ => ?_
      have back : ∀ {s7 : Shared} {H7 : Hp}, Inv (cxComp X scope N cl C s H fp (EX cl C s H fp)) (pinsAt [acc] s3.heap ++ pinsAt fp s5.heap) σ6 H7 s7 →
          Inv (cxComp X scope N cl C s H fp (EX cl C s H fp)) [] (List.replicate k none ++ frees X σ ix) H7 s7 ∧ tn (i + 1) s7.heap ∧ (∀ b ∈ fp, H7 b = none) ∧ H7 acc = none ∧ s7.heap.PlainList acc its.toArray := fun {s7 H7} I7 => by
        refine ⟨(I7.pins_of (pins' := []) (fun p hp => absurd hp List.not_mem_nil)).weak ?_ ?_, T.keep _ _ _ st5 fun b hb o e => (I7.pin (b, o) (List.mem_append_right _ (List.mem_append_right _ (mem_pinsAt hb e)))).1, fun b hb => ?_, ?_, ?_⟩
        · unfold frees
          rw [List.length_append, List.length_replicate, List.length_map, hl6]
        · intro j v hj
          by_cases hjk : j < k
          · rw [List.getElem?_append_left (by simpa using hjk), List.getElem?_replicate_of_lt hjk] at hj
            cases hj
          · have hjk' : k ≤ j := Nat.le_of_not_lt hjk
            rw [List.getElem?_append_right (by simpa using hjk'), List.length_replicate] at hj
            have e : (σ6.drop k)[j - k]? = σ6[j]? := by rw [List.getElem?_drop]; congr 1; omega
            rw [← e, hσ6]
            exact hj
        · obtain ⟨o, e, d⟩ := T.obj _ _ st5 b hb
          exact (I7.pin (b, o) (List.mem_append_right _ (List.mem_append_right _ (mem_pinsAt hb e)))).2.1
        · exact (I7.pin _ (List.mem_append_right _ (List.mem_append_left _ mA))).2.1
        · exact ⟨nl, (I7.pin _ (List.mem_append_right _ (List.mem_append_left _ mA))).1⟩
      refine thn (ht _ _ _ _ _ _ s6 σ6 H6 _ I6 q6) fun ok s7 ⟨H7, I7, q7⟩ => ?_
      cases ok with
      | false =>
        have q7' : ∃ m', m' < n ∧ W (i + 1) m' ys H7 := by simpa using q7
        obtain ⟨m', hm', w7⟩ := q7'
        obtain ⟨J7, t7, f7, a7, p7⟩ := back I7
        exact (if_neg Bool.false_ne_true).mpr ⟨m', hm', i + 1, ys, its, H7, J7, t7, f7, a7, p7, rv3, w7⟩
      | true =>
        refine (if_pos rfl).mpr ?_
        have q7' : te σ6 H7 fun z H4 => ys.length < sizeLine ∧ ∃ m', m' < n ∧ W (i + 1) m' (ys ++ [z]) H4 := by simpa using q7
        refine thn (he _ _ _ _ _ _ s7 σ6 H7 _ I7 q7') fun uz s8 ⟨z, H8, I8, r8, hz8, m', hm', w8⟩ => ?_
        obtain ⟨J8, t8, f8, a8, p8⟩ := back I8
        have hlen := rv3.length
        refine wpAny_list_append_plain (hsz := by rw [List.size_toArray, ← hlen]; exact Nat.le_of_lt hz8) p8 fun h9 pl9 sb9 => ?_
        obtain ⟨x0, x1, x2, x3, x4, x5⟩ := accX a8
        refine ⟨m', hm', i + 1, ys ++ [z], its ++ [uz], H8, J8.turned (t' := s8.toks) (fun b o hb e => (sb9.2 b hb).trans e) x0 x1 x3 x4 x5, T.keep _ _ _ t8 fun b hb o e => (sb9.2 b (Ne.symm (neA b hb))).trans e, f8, a8, ?_, rv3.append (.cons r8 .nil), w8⟩
        simpa using pl9
  exact codeAny_compStart_list (loop _ rfl) (T.self _ _ _ _ _ (T.keep _ _ _ st2 fun b _ o e => old b o e) (loop _ rfl))


theorem funFrames_to {h h' b b' : Heap} : ∀ {l : List Env}, h.FunFrames b l → (∀ x ∈ frs l, b'.get? x = none) → (∀ x ∈ frs l, ∀ o, h.get? x = some o → h'.get? x = some o) → h'.FunFrames b' l
  | [], _, _, _ => trivial
  | env :: r, ⟨hk, ⟨L, o, hf, hn, ho, hd⟩, hr⟩, hb, hc => by
    have hL : L ∈ frs (env :: r) := by unfold frs; rw [List.filterMap_cons, hf]; exact List.mem_cons_self
    have tl : ∀ x ∈ frs r, x ∈ frs (env :: r) := fun x hx => by
      unfold frs at hx ⊢
      rw [List.filterMap_cons, hf]
      exact List.mem_cons_of_mem _ hx
    exact ⟨hk, ⟨L, o, hf, hb L hL, hc L hL o ho, hd⟩, funFrames_to hr (fun x hx => hb x (tl x hx)) fun x hx => hc x (tl x hx)⟩
theorem XS.uncomp {Rp : XR} {cl : List (Str × Addr)} {C : Addr} {fp : List Addr} {use : Option (Value → Sem Unit)} {Q : Value → Shared → Prop} {acc e : Value} {s' : Shared} (hx : Takes X Rp) (tp : Top X) (I2 : Inv X pins σ H s) (f2 : ∀ b ∈ fp, FpOk X pins H b)
    (q : xeOf (cxComp X scope N cl C s H fp XF) (fun cls _ H' => Rp cls σ H') e s') :
    notedBy (model X.prog X.w) X.A (compEnvC scope cl C X.env) (fun e s' => compPost (model X.prog X.w) X.A X.xe use Q acc C (.error e) s') e s' := by
  obtain ⟨pins', σ', H', a, cls, rfl, x, r⟩ := q
  have tp' : Top (cxComp X scope N cl C s H fp XF) := by
    obtain ⟨e0, rr, L, h1, h2, h3⟩ := tp.ex
    exact ⟨e0, rr, L, h1, h2, h3⟩
  unfold notedBy
  refine XS.note (X := cxComp X scope N cl C s H fp XF) tp' x fun s1 x1 => ?_
  obtain ⟨I', B, ⟨f1, f2', f3, a0, fl, oe, vs, T, oT, ts, he, hcls, hd, hv1, hnT, hTe, hT, hdT, h3⟩, hok, old, hp⟩ := x1
  obtain ⟨m, hm, _⟩ := I'.loc
  have hm' : s1.heap.Ns C m := hm
  refine ⟨m, hm', fun h' sb cenv hcenv => ?_⟩
  obtain ⟨oC, es, ep, hC, hdC, _⟩ := id hm'
  have aC : a ≠ C := fun z => by rw [z, hC] at he; cases he; rw [hdC] at hd; cases hd
  have TC : T ≠ C := fun z => by rw [z, hC] at hT; cases hT; rw [hdC] at hdT; cases hdT
  have Cge : s.heap.objs.size ≤ C := I'.ok.above
  have ltC : ∀ {b : Addr} {o : Obj}, s.heap.get? b = some o → b ≠ C := fun e => Nat.ne_of_lt (Nat.lt_of_lt_of_le (Heap.lt_size e) Cge)
  have frC : ∀ b ∈ frs X.stack, b ≠ C := fun b hb => by
    obtain ⟨_, o, ho, _⟩ := I2.stack.mem hb
    exact ltC ho
  have up : ∀ b o, b ≠ C → s1.heap.get? b = some o → h'.get? b = some o := fun b o hb e => (sb.2 b hb).trans e
  have stays : (dropAt B [C]).StaysIn h' := fun b o e => by
    rw [dropAt_get] at e
    split at e
    · cases e
    · rename_i hb
      exact up b o (fun z => hb (by simp [z])) (f1 b o e)
  have sub : ∀ {b : Addr}, B.get? b = none → (dropAt B [C]).get? b = none := fun e => by rw [dropAt_get]; split <;> first | rfl | exact e
  have fly' : FlyT (dropAt B [C]) X.stack a cls h' := ⟨stays, sub f2', funFrames_to (l := X.stack) f3 (fun x hx => by
      obtain ⟨hn, _⟩ := f3.mem hx
      exact sub hn) (fun x hx o e => up x o (frC x hx) e), a0, fl, oe, vs, T, oT, ts, up _ _ aC he, hcls, hd, hv1, sub hnT, hTe, up _ _ TC hT, hdT, h3⟩
  have old' : OldIn (X.fs ++ X.ex) X.H₀ X.s₀.heap (dropAt B [C]) := fun b o e hb => by
    rw [List.mem_append] at hb
    obtain ⟨o1, e1⟩ := I2.base.there b o e fun z => hb (.inr z)
    have hfp : b ∉ fp := fun z => by
      obtain ⟨_, _, _, z1, _⟩ := f2 b z
      rcases z1 with z1 | z1
      · exact hb (.inr z1)
      · exact absurd (Heap.lt_size e) (Nat.not_lt.mpr z1)
    obtain ⟨o2, e2, h2⟩ := old b o1 e1 fun z => by
      rcases List.mem_append.mp z with z | z
      · exact I2.notStk e (fun z => hb (.inl z)) z
      · exact hfp z
    refine ⟨o2, by rw [dropAt_out (by simpa using ltC e1)]; exact e2, fun hn => ?_⟩
    have k1 := I2.base.keep b o e hn (fun z => hb (.inl z)) fun z => hb (.inr z)
    rw [e1] at k1
    cases k1
    exact h2 (I2.base.free b o e hn fun z => hb (.inr z))
  have pin' : ∀ p ∈ X.pn ++ pins, (dropAt B [C]).get? p.1 = some p.2 := fun p hpm => by
    obtain ⟨p1, p2, p3, p4, p5⟩ := I2.pin p hpm
    obtain ⟨o2, e2, h2⟩ := old p.1 p.2 p1 fun z => by
      rcases List.mem_append.mp z with z | z
      · rcases List.mem_cons.mp (I2.stkSub _ z) with q | q
        · exact p3 q
        · exact p4 q
      · exact (f2 p.1 z).2.2.2.2.2 p hpm rfl
    rw [dropAt_out (by simpa using ltC p1), e2, h2 p2]
  have hok' : HOk X.prog X.w H' (dropAt B [C]) := fun b u e => by
    have nC : ∀ {c : Addr} {v : HO}, H' c = some v → c ∉ [C] := fun {c v} e z => by
      have hz : c = C := by simpa using z
      have : H' C = none := I'.free
      rw [hz, this] at e
      cases e
    refine (hok b u e).stay (fun c v hc e' => ?_) (fun _ z => z) fun _ _ z => z
    rcases hc with rfl | hc
    · rw [dropAt_out (nC e)]; exact e'
    · rw [dropAt_out (nC hc)]; exact e'
  have fin : ∀ h2, FlyT (dropAt B [C]) X.stack a cls h2 → h'.UpToSlots h2 → X.xe (.ref a) { s1 with heap := h2 } := fun h2 fl2 up2 => by
    have b0 : Un (frs X.stack) fp H H' s.heap s1.heap := I'.base
    have keep : ∀ b o, s.heap.get? b = some o → b ∉ frs X.stack → b ∉ fp → ∃ o', h2.get? b = some o' ∧ (H b = none → o' = o) := fun b o e n1 n2 => by
      obtain ⟨o2, e2, q2⟩ := old b o e fun z => (List.mem_append.mp z).elim n1 n2
      exact ⟨o2, fl2.1 b o2 (by rw [dropAt_out (by simpa using ltC e)]; exact e2), q2⟩
    have slot : ∀ b o, s.heap.get? b = some o → H b = none → b ∈ frs X.stack → b ∉ fp → ∃ sl, h2.get? b = some { o with slots := sl } := fun b o e n h1 n2 => by
      obtain ⟨sl, e1⟩ := b0.slot b o e n h1 n2
      obtain ⟨_, o2, e2, nf⟩ := I2.stack.mem h1
      rw [e] at e2
      cases e2
      obtain ⟨sl', e3⟩ := up2 b _ (up b _ (frC b h1) e1) nf
      exact ⟨sl', e3⟩
    have un : Un (frs X.stack) fp H H' s.heap h2 := ⟨fun b o e n n1 n2 => by
        obtain ⟨o', e', q'⟩ := keep b o e n1 n2
        rw [q' n] at e'
        exact e', slot, b0.free, fun b o e n2 => by
        by_cases n1 : b ∈ frs X.stack
        · obtain ⟨sl, e'⟩ := slot b o e (I2.stkFree b n1) n1 n2
          exact ⟨_, e'⟩
        · obtain ⟨o', e', _⟩ := keep b o e n1 n2
          exact ⟨o', e'⟩, b0.tups, b0.frzs, b0.tbls⟩
    have I3 : Inv X pins σ H' { s1 with heap := h2 } := I2.call' (s' := { s1 with heap := h2 }) I'.os un (hok'.kept fl2.1) I'.bare fun b hb => ⟨(f2 b hb).2.2.2.1, (f2 b hb).2.1, (f2 b hb).2.2.2.2.1, (f2 b hb).2.2.2.2.2⟩
    exact hx pins σ H' _ a cls ⟨I3, dropAt B [C], .inl fl2, hok', old', pin'⟩ r
  unfold PySem.passOn
  refine wpAny_bind (fly_field (s := { s1 with heap := h' }) fly' fun T' => ?_)
  rw [if_neg (by simp)]
  first
    | exact wpAny_bind (fly_set (s := { s1 with heap := h' }) fly' fun h2 fl2 up2 => wpAny_throw (fin h2 fl2 up2))
    | exact wpAny_bind (wpAny_pure (wpAny_bind (fly_set (s := { s1 with heap := h' }) fly' fun h2 fl2 up2 => wpAny_throw (fin h2 fl2 up2))))

theorem takes_comp {scope : Scope} {N : List Str} {cl : List (Str × Addr)} {C : Addr} {s₀ : Shared} {H₀ : Hp} {ex : List Addr} (R : XR) : Takes (cxComp X scope N cl C s₀ H₀ ex (xeOf (cxComp X scope N cl C s₀ H₀ ex XF) R)) R :=
  takes_of (X := cxComp X scope N cl C s₀ H₀ ex XF) R
section
variable {R0 : Value → Hp → Prop} {wi : TI}
theorem pe_compX (tp : Top X) (hx : Takes X fun cls _ H => R0 cls H) (hc : X.calm = true) (ok : CompOk X.env.scope scope N k fn) (hix : ix.map (fun i => X.N[i]?) = fn.map some) (hi : PI X tg iter wi)
    (hg : ∀ cl C s₀ H₀ ex E, PG (cxComp X scope N cl C s₀ H₀ ex E) tg g) (ht : ∀ cl C s₀ H₀ ex E, Takes (cxComp X scope N cl C s₀ H₀ ex E) (fun cls _ H => R0 cls H) → PIfs (cxComp X scope N cl C s₀ H₀ ex E) ifs tc) (he : ∀ cl C s₀ H₀ ex E, Takes (cxComp X scope N cl C s₀ H₀ ex E) (fun cls _ H => R0 cls H) → PE (cxComp X scope N cl C s₀ H₀ ex E) elt te)
    (hs : ∀ x, foldedSetIterable iter X.env x = pure x := by intro _; rfl) : PE X (.ListComp elt [⟨tg, iter, ifs, 0⟩] scope pos) (tComp wi k ix g tc te) := by
  intro pins s σ H Q I h
  obtain ⟨cl, hcl, p1, p2⟩ := clos_of I ok
  rw [eval_ListComp]
  refine wpAny_comprehension_free (use := none) rfl hs hcl ok.kind ok.names (thn (hi pins s σ H _ I h) fun v s1 h1 => thn h1 fun itv s2 h2 => ?_)
  obtain ⟨it, fp, tn, J, H2, e, I2, T, st2, f2, W, w0, turn⟩ := h2
  subst e
  refine comp_blockX (EX := fun cl C s₀ H₀ ex => xeOf (cxComp X scope N cl C s₀ H₀ ex XF) fun cls _ H' => R0 cls H') (RR := fun acc C => compPost (model X.prog X.w) X.A X.xe none (EP X pins σ Q) acc C) (R := fun ys H => ∀ a, H a = none → Q (.ref a) (upd H a (.lst ys))) hc ok hix
    (fun cl C s₀ H₀ ex => hg cl C s₀ H₀ ex _) (fun cl C s₀ H₀ ex => ht cl C s₀ H₀ ex _ (takes_comp _)) (fun cl C s₀ H₀ ex => he cl C s₀ H₀ ex _ (takes_comp _)) p1 p2 I2 T st2 f2 W w0 turn (fun acc C e s' q => XS.uncomp (Rp := fun cls _ H => R0 cls H) hx tp I2 f2 q) ?_
  intro ys a C H' s' m ha q I' fC hm
  refine ⟨m, hm, fun h' sb => ⟨.ref a, _, ?_, rfl, q a ha⟩⟩
  obtain ⟨x0, x1, x2, x3, x4, x5⟩ := fC
  exact I'.turned (t' := s'.toks) (fun b o hb e => (sb.2 b hb).trans e) x0 x1 x3 x4 x5
theorem ps_setcompX {i : Nat} {x : Str} {pos' spos : Pos} (tp : Top X) (hx0 : Takes X fun cls _ H => R0 cls H) (hsw : swapsWith (.ListComp elt [⟨tg, iter, ifs, 0⟩] scope pos) (some (.Name x pos')) spos.line X.env = pure true)
    (hN : X.N.Nodup) (hiN : X.N[i]? = some x) (hx : X.env.scope.names.lookup x = some .local) (hc : X.calm = true) (ok : CompOk X.env.scope scope N k fn) (hix : ix.map (fun i => X.N[i]?) = fn.map some) (hi : PI X tg iter wi)
    (hg : ∀ cl C s₀ H₀ ex E, PG (cxComp X scope N cl C s₀ H₀ ex E) tg g) (ht : ∀ cl C s₀ H₀ ex E, Takes (cxComp X scope N cl C s₀ H₀ ex E) (fun cls _ H => R0 cls H) → PIfs (cxComp X scope N cl C s₀ H₀ ex E) ifs tc) (he : ∀ cl C s₀ H₀ ex E, Takes (cxComp X scope N cl C s₀ H₀ ex E) (fun cls _ H => R0 cls H) → PE (cxComp X scope N cl C s₀ H₀ ex E) elt te)
    (hs : ∀ x, foldedSetIterable iter X.env x = pure x := by intro _; rfl) : PS X (.Assign [.Name x pos'] (.ListComp elt [⟨tg, iter, ifs, 0⟩] scope pos) spos) (tAsg (tComp wi k ix g tc te) (gName i)) := by
  intro pins s σ H D I h
  obtain ⟨cl, hcl, p1, p2⟩ := clos_of I ok
  rw [exec_Assign_Name_used _ _ _ _ hsw]
  refine wpAny_bind (wpAny_standAt (wpAny_bind ?_))
  show wpAny _ X.A (do let _ ← comprehension (.ListComp elt [⟨tg, iter, ifs, 0⟩] scope pos) scope X.env _ (newList []) false (eval iter X.env) (some (assign (.Name x pos') X.env))) _ _ s
  refine wpAny_bind (wpAny_mono (wpAny_comprehension_free (use := some (assign (.Name x pos') X.env)) (Q := fun _ s' => SP X pins D .next s') rfl hs hcl ok.kind ok.names
    (thn (hi pins s σ H _ I h) fun v s1 h1 => thn h1 fun itv s2 h2 => ?_)) (fun _ s' hq => wpAny_pure (wpAny_pure hq)) fun _ _ e => e)
  obtain ⟨it, fp, tn, J, H2, e, I2, T, st2, f2, W, w0, turn⟩ := h2
  subst e
  refine comp_blockX (EX := fun cl C s₀ H₀ ex => xeOf (cxComp X scope N cl C s₀ H₀ ex XF) fun cls _ H' => R0 cls H') (RR := fun acc C => compPost (model X.prog X.w) X.A X.xe (some (assign (.Name x pos') X.env)) (fun _ s' => SP X pins D .next s') acc C) (R := fun ys H => ∀ a, H a = none → D.nx (σ.set i (some (.ref a))) (upd H a (.lst ys))) hc ok hix
    (fun cl C s₀ H₀ ex => hg cl C s₀ H₀ ex _) (fun cl C s₀ H₀ ex => ht cl C s₀ H₀ ex _ (takes_comp _)) (fun cl C s₀ H₀ ex => he cl C s₀ H₀ ex _ (takes_comp _)) p1 p2 I2 T st2 f2 W w0 turn (fun acc C e s' q => XS.uncomp (Rp := fun cls _ H => R0 cls H) hx0 tp I2 f2 q) ?_
  intro ys a C H' s' m ha q I' fC hm
  obtain ⟨x0, x1, x2, x3, x4, x5⟩ := fC
  show wpAny _ X.A (assign (.Name x pos') X.env (.ref a)) _ _ s'
  refine wpAny_assign_Name (store_ok2 I' hN hiN (.inl hx) (v := .ref a) rfl (fun s'' I'' ⟨b, sb, hb⟩ => ?_) (.inr hx))
  have hCb : C ≠ b := by
    rcases hb with z | z
    · rw [z]; exact x1
    · exact fun w => x4 _ _ z w.symm
  refine ⟨m, hm.sameBut sb hCb, fun h' sb2 => ⟨_, _, I''.turned (t' := s''.toks) (fun b o hb e => (sb2.2 b hb).trans e) x0 x1 x3 x4 x5, q a ha⟩⟩
end
end
end L2

set_option Elab.async false
set_option linter.all false
set_option maxRecDepth 100000
namespace L2
open PySem PySem.Spec PyProof.Rows

structure XLook (K : PySem.W.Frag) (D : Addr) : Prop where
  cls0 : PySem.W.isClsIn K D = true
  ga : PySem.W.findIn K (.ref D) "__getattribute__" = some (some (.builtin "BaseException.__getattribute__"))
  gh : PySem.W.findIn K (.ref D) "__getattr__" = some none
  ca : PySem.W.findIn K (.ref D) "__class__" = some (some (.builtin "object.__class__"))
  gg : PySem.W.specialIn K (.builtin "object.__class__") "__get__" = some (some (.builtin "getset_descriptor.__get__"))
  tk : PySem.W.takesIn K (.builtin "object.__class__") = some true
  ob : PySem.W.mroIn K D (.type "object") = some true
  be : PySem.W.mroIn K D (.type "BaseException") = some true
  ty : PySem.W.typeIn K (.ref D) = some (.type "type")
  self : PySem.W.mroIn K D (.ref D) = some true
theorem XLook.cls {K : PySem.W.Frag} {D : Addr} (L : XLook K D) : (PySem.W.clsIn K D).isSome = true := L.cls0
noncomputable def XAt (D x : Addr) (h : Heap) : Prop := ∃ o, h.get? x = some o ∧ o.cls = .ref D
theorem XAt.look {D x : Addr} {h : Heap} {M : Model} (I : XAt D x h) : PySem.W.Looks M h (typeOf (.ref x)) (.ref D) := by
  obtain ⟨o, e, c⟩ := I
  exact c ▸ PySem.W.Looks.andThen (PySem.W.Looks.ld e) PySem.W.Looks.now
section
variable {prog : Program} {w : World} {A : Around} {E : Value → Shared → Prop} {s : Shared} {K : PySem.W.Frag} {x D : Addr}
end

section
variable {X : Cx} {pins : List (Addr × Obj)} {σ : St} {H : Hp} {s : Shared} {a C f : Addr} {cls : Value} {x : Str} {np cpos pos p : Pos}
noncomputable abbrev handlingAs (X : Cx) (a : Addr) (oe : Obj) : Cx := { L2.handling X (.ref a) with pn := X.pn ++ [(a, oe)] }
theorem Inv.handlingAs {oe : Obj} (I : Inv X pins σ H s) (h : s.heap.get? a = some oe ∧ H a = none ∧ a ≠ X.env.locals ∧ a ∉ X.fs ∧ ∀ v, oe.data ≠ .cell v) : Inv (L2.handlingAs X a oe) pins σ H s :=
  ⟨⟨I.ok.mod, I.ok.kind, I.ok.glob, I.ok.blt, I.ok.above, I.ok.inj, I.ok.has, I.ok.cab, (fun z => nomatch z), I.ok.frames, I.ok.stk, I.ok.exf, I.ok.bs, I.ok.bsz, I.ok.noex, I.ok.exfs, I.ok.funs, I.ok.frf⟩, I.os, I.bare, I.base, I.loc, I.cell, I.free, I.freeC,
    fun p hp => by
      have hp' : p ∈ (X.pn ++ [(a, oe)]) ++ pins := hp
      rcases List.mem_append.mp hp' with hp | hp
      · rcases List.mem_append.mp hp with hp | hp
        · exact I.pin p (List.mem_append_left _ hp)
        · rw [List.mem_singleton.mp hp]; exact h
      · exact I.pin p (List.mem_append_right _ hp), I.hok, I.len⟩
noncomputable def Ends.gone (D : Ends) (i : Nat) : Ends := ⟨fun σ H => D.nx (σ.set i none) H, D.rt, fun σ H => D.bk (σ.set i none) H, fun σ H => D.ct (σ.set i none) H⟩
noncomputable def tTryAs (je : Nat) (ok : Addr → Prop) (tb : XR → TS) (th : Addr → Addr → TS) : TS := fun D σ H => tb (fun cls σ' H' => ∃ C, cls = .ref C ∧ ok C ∧ ∀ a, th C a (D.gone je) (σ'.set je (some (.ref a))) H') D σ H
end
end L2

set_option Elab.async false
set_option linter.all false
set_option maxRecDepth 100000
namespace L2
open PySem PySem.Spec PyProof.Rows
section
variable {κ : Type} [DecidableEq κ]
noncomputable def valV (kvs : List (κ × V)) (k : κ) : Option V := (kvs.find? fun kv => decide (kv.1 = k)).map (·.2)
noncomputable def putK (kvs : List (κ × V)) (k : κ) (v : V) : List (κ × V) :=
  if (kvs.any fun kv => decide (kv.1 = k)) = true then kvs.map (fun kv => if kv.1 = k then (kv.1, v) else kv) else kvs ++ [(k, v)]
noncomputable def dropK (kvs : List (κ × V)) (k : κ) : List (κ × V) := kvs.filter fun kv => decide (kv.1 ≠ k)

theorem valV_pos {p : κ × V} {r : List (κ × V)} {k : κ} (e : p.1 = k) : valV (p :: r) k = some p.2 := by simp [valV, List.find?_cons, e]
theorem valV_neg {p : κ × V} {r : List (κ × V)} {k : κ} (e : ¬ p.1 = k) : valV (p :: r) k = valV r k := by simp [valV, List.find?_cons, e]
theorem valV_any (k : κ) : ∀ kvs : List (κ × V), (kvs.any fun kv => decide (kv.1 = k)) = (valV kvs k).isSome
  | [] => rfl
  | p :: r => by
    rw [List.any_cons]
    by_cases e : p.1 = k
    · simp only [valV_pos e, decide_eq_true e, Bool.true_or, Option.isSome_some]
    · rw [valV_neg e, decide_eq_false e, Bool.false_or]; exact valV_any k r
theorem RelO.isSome_eq {o : Option V} {u : Option Value} (r : RelO o u) : o.isSome = u.isSome := by
  cases o with
  | none => cases u with
    | none => rfl
    | some _ => exact (show False from r).elim
  | some _ => cases u with
    | none => exact (show False from r).elim
    | some _ => rfl
theorem RelO.getD {o : Option V} {u : Option Value} {d : V} {d' : Value} (r : RelO o u) (rd : RelV d d') : RelV (o.getD d) (u.getD d') := by
  cases o with
  | none => cases u with
    | none => exact rd
    | some _ => exact (show False from r).elim
  | some _ => cases u with
    | none => exact (show False from r).elim
    | some _ => exact r

theorem KV.val {kvs : List (κ × V)} {vs : List (κ × Value)} (r : KV kvs vs) (k : κ) : RelO (valV kvs k) (valueAt vs k) := by
  unfold KV at r
  induction r with
  | nil => exact True.intro
  | @cons p q ps qs h t ih =>
    obtain ⟨h1, h2⟩ := h
    by_cases e : p.1 = k
    · have e' : q.1 = k := h1.symm.trans e
      have b : valueAt (q :: qs) k = some q.2 := by simp [valueAt, List.find?_cons, e']
      rw [valV_pos e, b]; exact h2
    · have e' : ¬ q.1 = k := fun z => e (h1.trans z)
      have b : valueAt (q :: qs) k = valueAt qs k := by simp [valueAt, List.find?_cons, e']
      rw [valV_neg e, b]; exact ih
theorem KV.any {kvs : List (κ × V)} {vs : List (κ × Value)} (r : KV kvs vs) (k : κ) : (kvs.any fun kv => decide (kv.1 = k)) = vs.any fun kv => decide (kv.1 = k) := by
  unfold KV at r
  induction r with
  | nil => rfl
  | cons h t ih => rw [List.any_cons, List.any_cons, ih, h.1]
theorem KV.repl {kvs : List (κ × V)} {vs : List (κ × Value)} (r : KV kvs vs) (k : κ) {y : V} {u : Value} (ry : RelV y u) :
    KV (kvs.map fun kv => if kv.1 = k then (kv.1, y) else kv) (vs.map fun kv => if kv.1 = k then (kv.1, u) else kv) := by
  unfold KV at r ⊢
  induction r with
  | nil => exact .nil
  | @cons p q ps qs h t ih =>
    rw [List.map_cons, List.map_cons]
    refine .cons ?_ ih
    obtain ⟨h1, h2⟩ := h
    by_cases e : p.1 = k
    · rw [if_pos e, if_pos (h1.symm.trans e)]; exact ⟨h1, ry⟩
    · rw [if_neg e, if_neg (fun z => e (h1.trans z))]; exact ⟨h1, h2⟩
theorem KV.put {kvs : List (κ × V)} {vs : List (κ × Value)} (r : KV kvs vs) (k : κ) {y : V} {u : Value} (ry : RelV y u) : KV (putK kvs k y) (stored vs k u) := by
  unfold putK stored
  rw [r.any k]
  by_cases e : (vs.any fun kv => decide (kv.1 = k)) = true
  · rw [if_pos e, if_pos e]; exact r.repl k ry
  · rw [if_neg e, if_neg e]; exact Paired.snoc r ⟨rfl, ry⟩
theorem KV.drop {kvs : List (κ × V)} {vs : List (κ × Value)} (r : KV kvs vs) (k : κ) : KV (dropK kvs k) (without vs k) := by
  unfold KV at r ⊢
  unfold dropK without
  induction r with
  | nil => exact .nil
  | @cons p q ps qs h t ih =>
    obtain ⟨h1, h2⟩ := h
    rw [List.filter_cons, List.filter_cons]
    by_cases e : p.1 = k
    · have a : ¬ decide (p.1 ≠ k) = true := by simp [e]
      have b : ¬ decide (q.1 ≠ k) = true := by simp [h1.symm.trans e]
      rw [if_neg a, if_neg b]; exact ih
    · have e' : ¬ q.1 = k := fun z => e (h1.trans z)
      have a : decide (p.1 ≠ k) = true := by simp [e]
      have b : decide (q.1 ≠ k) = true := by simp [e']
      rw [if_pos a, if_pos b]; exact .cons ⟨h1, h2⟩ ih
theorem KV.keys {kvs : List (κ × V)} {vs : List (κ × Value)} (r : KV kvs vs) : kvs.map (·.1) = vs.map (·.1) := by
  unfold KV at r
  induction r with
  | nil => rfl
  | cons h t ih => rw [List.map_cons, List.map_cons, ih, h.1]
theorem KV.length {kvs : List (κ × V)} {vs : List (κ × Value)} (r : KV kvs vs) : kvs.length = vs.length := Paired.length r
end


noncomputable abbrev KT (H : Hp) : List (List Key × V) → List (List Key × Addr × Value) → Prop := Paired fun p q => p.1 = q.1 ∧ H q.2.1 = some (.tup (p.1.map kV)) ∧ RelV p.2 q.2.2
theorem KT.val {H : Hp} {kvs : List (List Key × V)} {xs : List (List Key × Addr × Value)} (r : KT H kvs xs) (k : List Key) : RelO (valV kvs k) ((atKey xs k).map (·.2)) := by
  induction r with
  | nil => exact True.intro
  | @cons p q ps qs h t ih =>
    obtain ⟨h1, _, h2⟩ := h
    by_cases e : p.1 = k
    · have e' : q.1 = k := h1.symm.trans e
      have b : atKey (q :: qs) k = some q.2 := by simp [atKey, List.find?_cons, e']
      rw [valV_pos e, b]; exact h2
    · have e' : ¬ q.1 = k := fun z => e (h1.trans z)
      have b : atKey (q :: qs) k = atKey qs k := by simp [atKey, List.find?_cons, e']
      rw [valV_neg e, b]; exact ih
theorem KT.repl {H : Hp} {kvs : List (List Key × V)} {xs : List (List Key × Addr × Value)} (r : KT H kvs xs) (k : List Key) {y : V} {u : Value} (ry : RelV y u) :
    KT H (kvs.map fun kv => if kv.1 = k then (kv.1, y) else kv) (xs.map (putAt k u)) := by
  induction r with
  | nil => exact .nil
  | @cons p q ps qs h t ih =>
    rw [List.map_cons, List.map_cons]
    refine .cons ?_ ih
    obtain ⟨h1, h2, h3⟩ := h
    unfold putAt
    by_cases e : p.1 = k
    · rw [if_pos e, if_pos (h1.symm.trans e)]; exact ⟨h1, h2, ry⟩
    · rw [if_neg e, if_neg (fun z => e (h1.trans z))]; exact ⟨h1, h2, h3⟩
theorem KT.put {H : Hp} {kvs : List (List Key × V)} {xs : List (List Key × Addr × Value)} (r : KT H kvs xs) (k : List Key) {b : Addr} {y : V} {u : Value} (hb : H b = some (.tup (k.map kV))) (ry : RelV y u) :
    KT H (putK kvs k y) (storedH xs k b u) := by
  have e : (kvs.any fun kv => decide (kv.1 = k)) = (atKey xs k).isSome := by
    rw [valV_any, (r.val k).isSome_eq, Option.isSome_map]
  unfold putK storedH
  rw [e]
  by_cases q : (atKey xs k).isSome = true
  · rw [if_pos q, if_pos q]; exact r.repl k ry
  · rw [if_neg q, if_neg q]; exact Paired.snoc r ⟨rfl, hb, ry⟩
theorem KT.keeps {H H' : Hp} {kvs : List (List Key × V)} {xs : List (List Key × Addr × Value)} (r : KT H kvs xs) (ht : ∀ b ys, H b = some (.tup ys) → H' b = some (.tup ys)) : KT H' kvs xs :=
  Paired.mapP r fun _ _ z => ⟨z.1, ht _ _ z.2.1, z.2.2⟩

section
variable {P : Program} {w : World} {H : Hp} {h : Heap} {a : Addr}
end

noncomputable def DGet (H : Hp) (a : Addr) (y : V) (r : Option V) : Prop :=
  (∃ kvs k, Rd H a (.dK kvs) ∧ y = kV k ∧ r = valV kvs k) ∨ ∃ kvs k b, Rd H a (.dT kvs) ∧ y = .ref b ∧ H b = some (.tup (k.map kV)) ∧ r = valV kvs k
noncomputable def DPut (H : Hp) (a : Addr) (y v : V) (H' : Hp) : Prop :=
  (∃ kvs k, H a = some (.dK kvs) ∧ y = kV k ∧ kvs.length < sizeLine ∧ H' = upd H a (.dK (putK kvs k v))) ∨
  ∃ kvs k b, H a = some (.dT kvs) ∧ y = .ref b ∧ H b = some (.tup (k.map kV)) ∧ kvs.length < sizeLine ∧ H' = upd H a (.dT (putK kvs k v))
theorem DGet.k {H : Hp} {a : Addr} {kvs : List (Key × V)} {k : Key} (e : H a = some (.dK kvs)) : DGet H a (kV k) (valV kvs k) := .inl ⟨kvs, k, .inl e, rfl, rfl⟩
theorem DGet.t {H : Hp} {a b : Addr} {kvs : List (List Key × V)} {k : List Key} (e : H a = some (.dT kvs)) (eb : H b = some (.tup (k.map kV))) : DGet H a (.ref b) (valV kvs k) := .inr ⟨kvs, k, b, .inl e, rfl, eb, rfl⟩
theorem DPut.k {H : Hp} {a : Addr} {kvs : List (Key × V)} {k : Key} {v : V} (e : H a = some (.dK kvs)) (hl : kvs.length < sizeLine) : DPut H a (kV k) v (upd H a (.dK (putK kvs k v))) := .inl ⟨kvs, k, e, rfl, hl, rfl⟩
theorem DPut.t {H : Hp} {a b : Addr} {kvs : List (List Key × V)} {k : List Key} {v : V} (e : H a = some (.dT kvs)) (eb : H b = some (.tup (k.map kV))) (hl : kvs.length < sizeLine) :
    DPut H a (.ref b) v (upd H a (.dT (putK kvs k v))) := .inr ⟨kvs, k, b, e, rfl, eb, hl, rfl⟩


section
variable {X : Cx} {pins : List (Addr × Obj)} {σ : St} {H : Hp} {s : Shared} {a : Addr} {y v : V} {u r : Value} {o : Option V} {A : Around} {E : Value → Shared → Prop}

end

section
variable {X : Cx} {pins : List (Addr × Obj)} {σ : St} {H : Hp} {s : Shared} {a : Addr} {kvs : List (Key × V)} {k : Key} {u : Value} {A : Around} {E : Value → Shared → Prop}
end


noncomputable def NoSl (i : Expr) : Prop := ∀ ov iv, subscripted i false ov iv = operate [ov, iv] (getItem ov iv)
noncomputable def tDGet (td ty : TE) : TE := fun σ H Q => td σ H fun x H1 => ty σ H1 fun y H2 => ∃ a v, x = .ref a ∧ DGet H2 a y (some v) ∧ Q v H2
noncomputable def sDPut (td ty tv : TE) : TS := fun D σ H => tv σ H fun v H1 => td σ H1 fun x H2 => ty σ H2 fun y H3 => ∃ a H4, x = .ref a ∧ DPut H3 a y v H4 ∧ D.nx σ H4
section
variable {X : Cx} {o i e value : Expr} {pos pos' tpos : Pos} {td ty tv : TE}
end


noncomputable def tDNewK : TE := fun _ H Q => ∀ p, H p = none → Q (.ref p) (upd H p (.dK []))
noncomputable def tDNewT : TE := fun _ H Q => ∀ p, H p = none → Q (.ref p) (upd H p (.dT []))
section
variable {X : Cx} {pos : Pos}
end

structure M1 (X : Cx) (o : Expr) (m : Str) (apos : Pos) (e : Expr) (cpos : Pos) : Prop where
  base : attributeBase o m X.env (eval o X.env) = eval o X.env
  few : ((backTo cpos (starEach [e] X.env)).all (fun x => !x.1) && (backToKw cpos (keywordEach [] X.env)).all (fun x => x.1.isSome)
    && decide (([e] : List Expr).length + ([] : List Keyword).length + (if ([] : List Keyword).isEmpty then 0 else 1) < 30)) = true
  line : (apos.endLine == cpos.line) = true
  trees : backTo cpos (starEach [e] X.env) = [(false, eval e X.env)]
structure M2 (X : Cx) (o : Expr) (m : Str) (apos : Pos) (e f : Expr) (cpos : Pos) : Prop where
  base : attributeBase o m X.env (eval o X.env) = eval o X.env
  few : ((backTo cpos (starEach [e, f] X.env)).all (fun x => !x.1) && (backToKw cpos (keywordEach [] X.env)).all (fun x => x.1.isSome)
    && decide (([e, f] : List Expr).length + ([] : List Keyword).length + (if ([] : List Keyword).isEmpty then 0 else 1) < 30)) = true
  line : (apos.endLine == cpos.line) = true
  trees : backTo cpos (starEach [e, f] X.env) = [(false, eval e X.env), (false, eval f X.env)]

noncomputable def IsD (H : Hp) (a : Addr) : Prop := (∃ kvs, Rd H a (.dK kvs)) ∨ ∃ kvs, Rd H a (.dT kvs)
section
variable {X : Cx} {pins : List (Addr × Obj)} {σ : St} {H : Hp} {s : Shared} {a : Addr} {y d : V} {u r : Value} {o : Option V} {A : Around} {E : Value → Shared → Prop}
end

noncomputable def tDGet2 (td ty tx : TE) : TE := fun σ H Q => td σ H fun x H1 => ∃ a, x = .ref a ∧ IsD H1 a ∧ ty σ H1 fun y H2 => tx σ H2 fun z H3 => ∃ o, DGet H3 a y o ∧ Q (o.getD z) H3
section
variable {X : Cx} {o e f : Expr} {apos cpos : Pos} {td ty tx : TE}
end

section
variable {X : Cx} {pins : List (Addr × Obj)} {σ : St} {H : Hp} {s : Shared} {a : Addr} {kvs : List (Key × V)} {A : Around} {E : Value → Shared → Prop}
end


section
variable {X : Cx} {pins : List (Addr × Obj)} {σ : St} {H : Hp} {s : Shared} {a : Addr} {y : V} {u : Value} {A : Around} {E : Value → Shared → Prop}
end
section
variable {prog : Program} {w : World} {K : Type} [DecidableEq K] {knd : HeapKind prog w K} {A : Around} {E : Value → Shared → Prop} {s : Shared}
end
section
variable {X : Cx} {pins : List (Addr × Obj)} {σ : St} {H : Hp} {s : Shared} {a b : Addr} {v : V} {r : Value} {A : Around} {E : Value → Shared → Prop} {kvs : List (List Key × V)} {k : List Key}
end
noncomputable def tDSetd (td ty tx : TE) : TE := fun σ H Q => td σ H fun x H1 => ∃ a, x = .ref a ∧ IsD H1 a ∧ ty σ H1 fun y H2 => tx σ H2 fun z H3 => ∃ kvs k b, H3 a = some (.dT kvs) ∧ y = .ref b ∧ H3 b = some (.tup (k.map kV)) ∧ kvs.length < sizeLine ∧
  (∀ v, valV kvs k = some v → Q v H3) ∧ (valV kvs k = none → Q z (upd H3 a (.dT (putK kvs k z))))
noncomputable def tDisp1 (tk tv : TE) : TE := fun σ H Q => ∀ p, H p = none → tk σ (upd H p (.dT [])) fun x H1 => tv σ H1 fun y H2 => ∃ k b, x = .ref b ∧ H2 b = some (.tup (k.map kV)) ∧ H2 p = some (.dT []) ∧ Q (.ref p) (upd H2 p (.dT [(k, y)]))
noncomputable def tDispK (tk tv : TE) : TE := fun σ H Q => ∀ p, H p = none → tk σ (upd H p (.dK [])) fun x H1 => tv σ H1 fun y H2 => ∃ k, x = kV k ∧ H2 p = some (.dK []) ∧ Q (.ref p) (upd H2 p (.dK [(k, y)]))
section
variable {X : Cx} {o i value : Expr} {td ty tv : TE} {pos pos' : Pos}
noncomputable def sLPut (td ty tv : TE) : TS := fun D σ H => tv σ H fun v H1 => td σ H1 fun x H2 => ty σ H2 fun y H3 => rSetL x y v H3 fun H4 => D.nx σ H4
end

end L2

set_option Elab.async false
set_option linter.all false
set_option maxRecDepth 100000
namespace L2
open PySem PySem.Spec PyProof.Rows
section
variable {P : Program} {w : World} {A : Around} {E : Value → Shared → Prop} {s : Shared} {d it : Addr} {o : Obj} {es : Array DictEntry} {ep i : Nat}
end
end L2

set_option Elab.async false
set_option linter.all false
set_option maxRecDepth 100000
namespace L2
open PySem PySem.Spec PyProof.Rows
noncomputable abbrev NT (H : Hp) : List (NK.Key3 Key × V) → List (NK.Key3 Key × Addr × Value) → Prop := Paired fun p q => p.1 = q.1 ∧ K3At H p.1 q.2.1 ∧ RelV p.2 q.2.2
theorem NT.val {H : Hp} {kvs : List (NK.Key3 Key × V)} {xs : List (NK.Key3 Key × Addr × Value)} (r : NT H kvs xs) (k : NK.Key3 Key) : RelO (valV kvs k) ((atKey xs k).map (·.2)) := by
  induction r with
  | nil => exact True.intro
  | @cons p q ps qs h t ih =>
    by_cases e : p.1 = k
    · have b : atKey (q :: qs) k = some q.2 := by simp [atKey, List.find?_cons, h.1.symm.trans e]
      rw [valV_pos e, b]; exact h.2.2
    · have e' : ¬ q.1 = k := fun z => e (h.1.trans z)
      have b : atKey (q :: qs) k = atKey qs k := by simp [atKey, List.find?_cons, e']
      rw [valV_neg e, b]; exact ih
theorem NT.put {H : Hp} {kvs : List (NK.Key3 Key × V)} {xs : List (NK.Key3 Key × Addr × Value)} (r : NT H kvs xs) (k : NK.Key3 Key) {b : Addr} {y : V} {u : Value} (hb : K3At H k b) (ry : RelV y u) : NT H (putK kvs k y) (storedH xs k b u) := by
  have e : (kvs.any fun kv => decide (kv.1 = k)) = (atKey xs k).isSome := by
    rw [valV_any, (r.val k).isSome_eq, Option.isSome_map]
  unfold putK storedH
  rw [e]
  by_cases q : (atKey xs k).isSome = true
  · rw [if_pos q, if_pos q]
    clear q e
    induction r with
    | nil => exact .nil
    | @cons p q ps qs h t ih =>
      rw [List.map_cons, List.map_cons]
      refine .cons ?_ ih
      unfold putAt
      by_cases e : p.1 = k
      · rw [if_pos e, if_pos (h.1.symm.trans e)]; exact ⟨h.1, h.2.1, ry⟩
      · rw [if_neg e, if_neg (fun z => e (h.1.trans z))]; exact h
  · rw [if_neg q, if_neg q]; exact Paired.snoc r ⟨rfl, hb, ry⟩
theorem K3At.keeps {H H' : Hp} {k : NK.Key3 Key} {b : Addr} (x : K3At H k b) (ht : ∀ b ys, H b = some (.tup ys) → H' b = some (.tup ys)) : K3At H' k b :=
  let ⟨n, e1, e2⟩ := x; ⟨n, ht _ _ e1, ht _ _ e2⟩
section
variable {P : Program} {w : World} {H : Hp} {h : Heap} {a : Addr}
end
section
variable {X : Cx} {pins : List (Addr × Obj)} {σ : St} {H : Hp} {s : Shared} {a b : Addr} {v : V} {r : Value} {ep : Nat} {kvs : List (NK.Key3 Key × V)} {k : NK.Key3 Key} {A : Around} {E : Value → Shared → Prop}
end
noncomputable def tNNew : TE := fun _ H Q => ∀ p, H p = none → Q (.ref p) (upd H p (.dN 0 []))
noncomputable def tNGet (td ty : TE) : TE := fun σ H Q => td σ H fun x H1 => ty σ H1 fun y H2 => ∃ a b kvs k v, x = .ref a ∧ y = .ref b ∧ (∃ ep, H2 a = some (.dN ep kvs)) ∧ K3At H2 k b ∧ valV kvs k = some v ∧ Q v H2
noncomputable def sNPut (td ty tv : TE) : TS := fun D σ H => tv σ H fun v H1 => td σ H1 fun x H2 => ty σ H2 fun y H3 => ∃ a b kvs k, x = .ref a ∧ y = .ref b ∧ (∃ ep, H3 a = some (.dN ep kvs)) ∧ K3At H3 k b ∧ kvs.length < sizeLine ∧ ∀ ep', D.nx σ (upd H3 a (.dN ep' (putK kvs k v)))
section
variable {X : Cx} {o i e value : Expr} {pos pos' tpos : Pos} {td ty tv : TE}
noncomputable def tDispN (tk tv : TE) : TE := fun σ H Q => ∀ p, H p = none → tk σ (upd H p (.dN 0 [])) fun x H1 => tv σ H1 fun y H2 => ∃ k b, x = .ref b ∧ K3At H2 k b ∧ (∃ ep, H2 p = some (.dN ep [])) ∧ ∀ ep', Q (.ref p) (upd H2 p (.dN ep' [(k, y)]))
end
end L2

set_option Elab.async false
set_option linter.all false
set_option maxRecDepth 100000
namespace L2
open PySem PySem.Spec PyProof.Rows
section
variable {P : Program} {w : World} {A : Around} {E : Value → Shared → Prop} {s : Shared} {d it : Addr} {o : Obj} {es : Array DictEntry} {ep i : Nat}
end
noncomputable def ItK (a : Addr) (ep n : Nat) : It :=
  ⟨fun i H => ∃ kvs : List (NK.Key3 Key × V), H a = some (.dN ep kvs) ∧ kvs.length = n ∧ i < n, fun i H x H' => H' = H ∧ ∃ (kvs : List (NK.Key3 Key × V)) (k : NK.Key3 Key) (v : V) (b : Addr), H a = some (.dN ep kvs) ∧ kvs[i]? = some (k, v) ∧ x = .ref b ∧ K3At H k b,
    fun i H => ∃ kvs : List (NK.Key3 Key × V), H a = some (.dN ep kvs) ∧ kvs.length = n ∧ n ≤ i⟩
noncomputable def ItV (a : Addr) (ep n : Nat) : It :=
  ⟨(ItK a ep n).go, fun i H x H' => H' = H ∧ ∃ (kvs : List (NK.Key3 Key × V)) (k : NK.Key3 Key), H a = some (.dN ep kvs) ∧ kvs[i]? = some (k, x), (ItK a ep n).stop⟩
theorem NT.at {H : Hp} {kvs : List (NK.Key3 Key × V)} {xs : List (NK.Key3 Key × Addr × Value)} (r : NT H kvs xs) : ∀ {i : Nat} {q : NK.Key3 Key × Addr × Value}, xs[i]? = some q → ∃ p, kvs[i]? = some p ∧ p.1 = q.1 ∧ K3At H p.1 q.2.1 ∧ RelV p.2 q.2.2 := by
  induction r with
  | nil => intro i q h; cases h
  | cons h t ih =>
    intro i q hq
    cases i with
    | zero => cases hq; exact ⟨_, rfl, h⟩
    | succ j => exact ih (i := j) hq
section
variable {P : Program} {w : World} {H : Hp} {h : Heap} {a : Addr} {ep : Nat} {kvs : List (NK.Key3 Key × V)}
end
section
variable {X : Cx} {tg : Expr}
noncomputable def iKeysN (tl : TE) : TI := fun σ H R => tl σ H fun x H1 => ∃ a ep kvs, x = .ref a ∧ H1 a = some (.dN ep kvs) ∧ R (ItK a ep kvs.length) H1
end
noncomputable def dropNk {α κ : Type} [DecidableEq κ] (xs : List (κ × α)) (k : κ) : List (κ × α) := xs.filter fun x => !decide (x.1 = k)
theorem NT.drop {H : Hp} {kvs : List (NK.Key3 Key × V)} {xs : List (NK.Key3 Key × Addr × Value)} (r : NT H kvs xs) (k : NK.Key3 Key) : NT H (dropNk kvs k) (dropNk xs k) := by
  unfold dropNk
  induction r with
  | nil => exact .nil
  | @cons p q ps qs h t ih =>
    by_cases e : p.1 = k
    · rw [List.filter_cons_of_neg (by simp [e]), List.filter_cons_of_neg (by simp [← h.1, e])]; exact ih
    · rw [List.filter_cons_of_pos (by simp [e]), List.filter_cons_of_pos (by simp [← h.1, e])]; exact .cons h ih
section
variable {P : Program} {w : World} {κ : Type} [DecidableEq κ] {knd : HeapKind P w κ} {A : Around} {E : Value → Shared → Prop} {s : Shared} {d a : Addr} {xs : List (κ × Addr × Value)} {k : κ}
end
section
variable {X : Cx} {pins : List (Addr × Obj)} {σ : St} {H : Hp} {s : Shared} {a b : Addr} {v : V} {ep : Nat} {kvs : List (NK.Key3 Key × V)} {k : NK.Key3 Key} {A : Around} {E : Value → Shared → Prop}
end
noncomputable def tNPop (td ty : TE) : TE := fun σ H Q => td σ H fun x H1 => ∃ a, x = .ref a ∧ (∃ ep kvs, H1 a = some (.dN ep kvs)) ∧ ty σ H1 fun y H2 => ∃ b ep kvs k v, y = .ref b ∧ H2 a = some (.dN ep kvs) ∧ K3At H2 k b ∧ valV kvs k = some v ∧ ∀ ep', Q v (upd H2 a (.dN ep' (dropNk kvs k)))
section
variable {X : Cx} {tg o e : Expr} {apos cpos : Pos} {td ty : TE}
noncomputable def iValsN (tl : TE) : TI := fun σ H R => tl σ H fun x H1 => ∃ a ep kvs, x = .ref a ∧ H1 a = some (.dN ep kvs) ∧ R (ItV a ep kvs.length) H1
end
end L2

set_option Elab.async false
set_option linter.all false
set_option maxRecDepth 100000
namespace L2
open PySem PySem.Spec PyProof.Rows
section
variable {P : Program} {w : World} {A : Around} {E : Value → Shared → Prop} {s : Shared}
end
noncomputable def bestD : Option Value → Array Value
  | none => #[]
  | some v => #[v, v]
section
variable {P : Program} {w : World} {A : Around} {R : Result → Shared → Prop} {I : Addr} {fp wr : List Addr} {n : Nat} {p : Nat → Value → Prop} {St : Nat → Heap → Prop}
end
section
variable {P : Program} {w : World} {A : Around} {E : Value → Shared → Prop} {s : Shared}
end
noncomputable def tMinD (K : PySem.W.Frag) (ta tk : TA) : TE := fun σ H Q => ta σ H fun xs H1 => tk σ H1 fun zs H2 => ∃ (p : Addr) (ns : List Int) (z0 : V), xs = [.ref p] ∧ zs = [z0] ∧ SqL K H2 p (ns.map V.int) ∧ (ns = [] → Q z0 H2) ∧ ∀ z, z ∈ ns → (∀ a ∈ ns, z ≤ a) → Q (.int z) H2
end L2

set_option Elab.async false
set_option linter.all false
set_option maxRecDepth 100000
namespace L2
open PySem PySem.Spec PyProof.Rows
section
variable {P : Program} {w : World} {d : Addr} {ob : Obj} {es : Array DictEntry} {ep : Nat}
end
section
variable {X : Cx} {pins : List (Addr × Obj)} {σ : St} {H : Hp} {s : Shared} {a : Addr}
theorem Inv.adopt {o : HO} (I : Inv X pins σ H s) (f : FpOk X pins H a) (hs : X.s₀.heap.objs.size ≤ a) (new : ObjOk X.prog X.w (upd H a o) s.heap a o) : Inv X pins σ (upd H a o) s := by
  obtain ⟨f0, f1, f2, f3, f4, f5⟩ := f
  have ne : ∀ {b : Addr} {u : HO}, H b = some u → b ≠ a := fun e => ne_of_none e f0
  refine { I with base := ⟨I.base.keep, I.base.slot, fun b u e n x => ?_, I.base.there, fun b xs e => ?_, fun b u v e => ?_, fun b ps e => ?_⟩, free := ?_, freeC := fun x c e => ?_, pin := fun p hp => ?_, hok := fun b u e => ?_ }
  · rw [upd_ne (Nat.ne_of_lt (Nat.lt_of_lt_of_le (Heap.lt_size e) hs))]; exact I.base.free b u e n x
  · have q := I.base.tups b xs e
    rw [upd_ne (ne q)]; exact q
  · have q := I.base.frzs b u v e
    rw [upd_ne (ne q)]; exact q
  · obtain ⟨more, q⟩ := I.base.tbls b ps e
    exact ⟨more, by rw [upd_ne (ne q)]; exact q⟩
  · rw [upd_ne f1.symm]; exact I.free
  · rw [upd_ne (f4 x c e)]; exact I.freeC x c e
  · obtain ⟨p1, p2, p3⟩ := I.pin p hp
    exact ⟨p1, by rw [upd_ne (f5 p hp)]; exact p2, p3⟩
  · by_cases hb : b = a
    · subst hb
      rw [upd_same] at e
      cases e
      exact new
    · rw [upd_ne hb] at e
      exact (I.hok b u e).stay (fun _ _ _ q => q) (fun c q => by rw [upd_ne (ne q)]; exact q) fun c xs q => by rw [upd_ne (ne q)]; exact q
variable {A : Around} {E : Value → Shared → Prop} {G : PySem.Fin → Shared → Prop} {ls ks : Addr} {its : List Value} {ns : List Int} {kk : Array Value} {e0 e1 : Nat}
noncomputable abbrev two (ls ks : Addr) (kk : Array Value) (e0 e1 : Nat) (pins : List (Addr × Obj)) : List (Addr × Obj) := (ks, seqObj "list" kk e0) :: (ls, seqObj "list" #[] e1) :: pins
structure Fp2 (X : Cx) (pins : List (Addr × Obj)) (H : Hp) (ls ks : Addr) : Prop where
  l : FpOk X pins H ls
  k : FpOk X pins H ks
  ne : ks ≠ ls
theorem Fp2.k2 (f : Fp2 X pins H ls ks) {o : Obj} : FpOk X ((ls, o) :: pins) H ks := by
  obtain ⟨f0, f1, f2, f3, f4, f5⟩ := f.k
  refine ⟨f0, f1, f2, f3, f4, fun p hp => ?_⟩
  rcases List.mem_append.mp hp with z | z
  · exact f5 p (List.mem_append_left _ z)
  · rcases List.mem_cons.mp z with rfl | z
    · exact f.ne.symm
    · exact f5 p (List.mem_append_right _ z)
theorem Fp2.at_ {H' : Hp} (f : Fp2 X pins H ls ks) (h1 : H' ls = none) (h2 : H' ks = none) : Fp2 X pins H' ls ks := by
  obtain ⟨_, f1, f2, f3, f4, f5⟩ := f.l
  obtain ⟨_, g1, g2, g3, g4, g5⟩ := f.k
  exact ⟨⟨h1, f1, f2, f3, f4, f5⟩, ⟨h2, g1, g2, g3, g4, g5⟩, f.ne⟩
end
section
variable {X : Cx} {pins : List (Addr × Obj)} {σ : St} {H : Hp} {s : Shared} {C f x dx : Addr} {m : Str} {fs : List (Str × V)} {A : Around} {E : Value → Shared → Prop}
end
noncomputable def tSortK (C : Addr) (m : Str) (sp : Sp) (td : TA) (to : TE) : TE := fun σ H Q => td σ H fun xs H1 => to σ H1 fun y H2 => ∃ (a o dx : Addr) (fs : List (Str × V)) (ep : Nat) (kvs : List (NK.Key3 Key × V)) (ns : List Int) (J : Hp → Prop), xs = [.ref a] ∧ y = .ref o ∧ H2 o = some (.ins C dx fs) ∧ fs.lookup m = none ∧
  H2 a = some (.dN ep kvs) ∧ kvs.length < 64 ∧ ns.length = kvs.length ∧ J H2 ∧
  (∀ (i : Nat) (k : NK.Key3 Key) (v : V) (b : Addr) (n : Int), kvs[i]? = some (k, v) → ns[i]? = some n → K3At H2 k b → ∀ H', J H' → sp [.ref o, .ref b] H' (fun r H3 => r = .int n ∧ J H3) E0) ∧
  ∀ (bs : List Addr) (ps : List (Int × Addr)) (l : Addr) (H' : Hp), bs.length = kvs.length → (∀ (i : Nat) (k : NK.Key3 Key) (v : V) (b : Addr), kvs[i]? = some (k, v) → bs[i]? = some b → K3At H2 k b) → ps.Perm (ns.zip bs) → ps.Pairwise (fun p q => p.1 ≤ q.1) → J H' → H' l = none → Q (.ref l) (upd H' l (.lst (ps.map fun p => .ref p.2)))
theorem wpAny_of_eq' {M : Model} {A : Around} {α : Type} {a b : Sem α} {Q : α → Shared → Prop} {E : Value → Shared → Prop} {s : Shared} (h : a = b) (hb : wpAny M A b Q E s) : wpAny M A a Q E s := by rw [h]; exact hb
theorem vals_refs : ∀ bs : List Addr, Vals (bs.map V.ref) (bs.map Value.ref)
  | [] => .nil
  | _ :: r => .cons rfl (vals_refs r)
section
variable {X : Cx} {C f : Addr} {m : Str} {k : Nat} {fd : FuncData} {ps : List Str} {sp : Sp} {e o : Expr} {p pos apos kpos : Pos} {td : TA} {to : TE}
end
noncomputable def tNClear (td : TE) : TE := fun σ H Q => td σ H fun x H1 => ∃ a ep kvs, x = .ref a ∧ H1 a = some (.dN ep kvs) ∧ ∀ ep', Q .non (upd H1 a (.dN ep' []))
section
variable {X : Cx} {o : Expr} {apos cpos : Pos} {td : TE}
end
end L2

set_option Elab.async false
set_option linter.all false
set_option maxRecDepth 100000
namespace STb
open PySem PySem.SetTable

noncomputable def adv (m : Nat) (p : Probe) : Probe :=
  if p.more > 0 then { p with j := p.j + 1, more := p.more - 1 } else
  { p with j := (p.i * 5 + 1 + p.perturb / 32) % (m + 1), more := runEnd m ((p.i * 5 + 1 + p.perturb / 32) % (m + 1)) - (p.i * 5 + 1 + p.perturb / 32) % (m + 1), i := (p.i * 5 + 1 + p.perturb / 32) % (m + 1), perturb := p.perturb / 32 }
theorem adv_eq (t : SetTable) (p : Probe) : t.advance p = adv t.mask p := rfl
noncomputable def nth (m : Nat) : Nat → Probe → Probe
  | 0, p => p
  | k + 1, p => nth m k (adv m p)
theorem nth_add (m : Nat) : ∀ (a b : Nat) (p : Probe), nth m (a + b) p = nth m b (nth m a p)
  | 0, b, p => by rw [Nat.zero_add]; rfl
  | a + 1, b, p => by rw [Nat.add_right_comm]; exact nth_add m a b (adv m p)
theorem nth_succ (m k : Nat) (p : Probe) : nth m (k + 1) p = adv m (nth m k p) := nth_add m k 1 p
noncomputable def base (m i P : Nat) : Probe := { j := i, more := runEnd m i - i, i := i, perturb := P, dummy := none }
noncomputable def st (m : Nat) (h : Int) : Probe := base m (bits h % (m + 1)) (bits h)
theorem nth_run (m i P : Nat) : ∀ k, k ≤ runEnd m i - i → nth m k (base m i P) = { j := i + k, more := runEnd m i - i - k, i := i, perturb := P, dummy := none }
  | 0, _ => rfl
  | k + 1, h => by
    rw [nth_succ, nth_run m i P k (by omega)]
    unfold adv
    rw [if_pos (show runEnd m i - i - k > 0 by omega)]
    rfl
theorem nth_leap (m i P : Nat) : nth m (runEnd m i - i + 1) (base m i P) = base m ((i * 5 + 1 + P / 32) % (m + 1)) (P / 32) := by
  rw [nth_succ, nth_run m i P _ (Nat.le_refl _)]
  unfold adv
  rw [if_neg (show ¬ (runEnd m i - i - (runEnd m i - i) > 0) by omega)]
  rfl
theorem run_le (m i : Nat) : runEnd m i - i ≤ 9 := by
  unfold runEnd
  split <;> omega
noncomputable def lp (m : Nat) : Nat → Nat × Nat → Nat × Nat
  | 0, x => x
  | c + 1, x => lp m c ((x.1 * 5 + 1 + x.2 / 32) % (m + 1), x.2 / 32)
theorem lp_add (m : Nat) : ∀ (a b : Nat) (x : Nat × Nat), lp m (a + b) x = lp m b (lp m a x)
  | 0, b, x => by rw [Nat.zero_add]; rfl
  | a + 1, b, x => by rw [Nat.add_right_comm]; exact lp_add m a b _
theorem leaps (m : Nat) : ∀ (c i P : Nat), ∃ K, K ≤ 10 * c ∧ nth m K (base m i P) = base m (lp m c (i, P)).1 (lp m c (i, P)).2
  | 0, i, P => ⟨0, Nat.le_refl _, rfl⟩
  | c + 1, i, P => by
    obtain ⟨K, h1, h2⟩ := leaps m c ((i * 5 + 1 + P / 32) % (m + 1)) (P / 32)
    have := run_le m i
    refine ⟨runEnd m i - i + 1 + K, by omega, ?_⟩
    rw [nth_add, nth_leap]
    exact h2
theorem lp_snd (m : Nat) : ∀ (c : Nat) (x : Nat × Nat), (lp m c x).2 = x.2 / 32 ^ c
  | 0, x => by simp [lp]
  | c + 1, x => by
    show (lp m c _).2 = _
    rw [lp_snd m c, Nat.div_div_eq_div_mul, Nat.pow_succ, Nat.mul_comm]
theorem lp_lt (m : Nat) : ∀ (c : Nat) (x : Nat × Nat), x.1 < m + 1 → (lp m c x).1 < m + 1
  | 0, x, h => h
  | c + 1, x, h => lp_lt m c _ (Nat.mod_lt _ (Nat.succ_pos _))
noncomputable def ring (m : Nat) : Nat → Nat → Nat
  | 0, i => i
  | c + 1, i => ring m c ((i * 5 + 1) % (m + 1))
theorem ring_add (m : Nat) : ∀ (a b i : Nat), ring m (a + b) i = ring m b (ring m a i)
  | 0, b, i => by rw [Nat.zero_add]; rfl
  | a + 1, b, i => by rw [Nat.add_right_comm]; exact ring_add m a b _
theorem lp_ring (m : Nat) : ∀ (c i : Nat), lp m c (i, 0) = (ring m c i, 0)
  | 0, _ => rfl
  | c + 1, i => by
    show lp m c ((i * 5 + 1 + 0 / 32) % (m + 1), 0 / 32) = (ring m c ((i * 5 + 1) % (m + 1)), 0)
    rw [Nat.zero_div, Nat.add_zero]
    exact lp_ring m c _
noncomputable def Mk (m : Nat) : Prop := m = 7 ∨ m = 31 ∨ m = 127
theorem ring_all {m : Nat} (h : Mk m) : (∀ j, j < m + 1 → ∃ c, c < m + 1 ∧ ring m c 0 = j) ∧ ring m (m + 1) 0 = 0 := by
  have key : ∀ m, ((List.range (m + 1)).all fun j => (List.range (m + 1)).any fun c => ring m c 0 == j) = true → ∀ j, j < m + 1 → ∃ c, c < m + 1 ∧ ring m c 0 = j := fun m h j hj => by
    have := List.all_eq_true.mp h j (List.mem_range.mpr hj)
    obtain ⟨c, h1, h2⟩ := List.any_eq_true.mp this
    exact ⟨c, List.mem_range.mp h1, beq_iff_eq.mp h2⟩
  rcases h with rfl | rfl | rfl
  · exact ⟨key 7 (by decide +kernel), by decide +kernel⟩
  · exact ⟨key 31 (by decide +kernel), by decide +kernel⟩
  · exact ⟨key 127 (by decide +kernel), by decide +kernel⟩
theorem ring_to {m : Nat} (h : Mk m) {i j : Nat} (hi : i < m + 1) (hj : j < m + 1) : ∃ c, c < m + 1 ∧ ring m c i = j := by
  obtain ⟨all, back⟩ := ring_all h
  obtain ⟨a, ha, rfl⟩ := all i hi
  obtain ⟨b, hb, rfl⟩ := all j hj
  rcases Nat.lt_or_ge b a with lt | ge
  · refine ⟨m + 1 - a + b, by omega, ?_⟩
    rw [← ring_add, show a + (m + 1 - a + b) = (m + 1) + b by omega, ring_add, back]
  · refine ⟨b - a, by omega, ?_⟩
    rw [← ring_add, show a + (b - a) = b by omega]
theorem bits_lt (h : Int) : bits h < 2 ^ 64 := by
  unfold bits
  have := Int.emod_lt_of_pos h (b := 2 ^ 64) (by decide)
  have := Int.emod_nonneg h (b := 2 ^ 64) (by decide)
  omega
theorem lp_to {m : Nat} (hm : Mk m) (h : Int) {j : Nat} (hj : j < m + 1) : ∃ c, c < m + 14 ∧ (lp m c (bits h % (m + 1), bits h)).1 = j := by
  have h1 : (lp m 13 (bits h % (m + 1), bits h)).1 < m + 1 := lp_lt m 13 _ (Nat.mod_lt _ (Nat.succ_pos _))
  have h2 : (lp m 13 (bits h % (m + 1), bits h)).2 = 0 := by
    rw [lp_snd]
    exact Nat.div_eq_of_lt (Nat.lt_of_lt_of_le (bits_lt h) (by decide))
  obtain ⟨c, hc, e⟩ := ring_to hm h1 hj
  refine ⟨13 + c, by omega, ?_⟩
  rw [lp_add, show lp m 13 (bits h % (m + 1), bits h) = ((lp m 13 (bits h % (m + 1), bits h)).1, 0) from Prod.ext rfl h2, lp_ring]
  exact e
theorem reaches {m : Nat} (hm : Mk m) (h : Int) {j : Nat} (hj : j < m + 1) : ∃ K, K < 10 * turns m ∧ (nth m K (st m h)).j = j := by
  obtain ⟨c, hc, e⟩ := lp_to hm h hj
  obtain ⟨K, h1, h2⟩ := leaps m c (bits h % (m + 1)) (bits h)
  refine ⟨K, by unfold turns; omega, ?_⟩
  rw [show nth m K (st m h) = _ from h2]
  exact e
noncomputable def Rc (m : Nat) (occ : Nat → Prop) (h : Int) (j : Nat) : Prop := ∃ K, (nth m K (st m h)).j = j ∧ ∀ k, k < K → occ (nth m k (st m h)).j
theorem Rc.mono {m : Nat} {o o' : Nat → Prop} {h : Int} {j : Nat} (r : Rc m o h j) (f : ∀ q, o q → o' q) : Rc m o' h j := by
  obtain ⟨K, a, b⟩ := r
  exact ⟨K, a, fun k hk => f _ (b k hk)⟩
noncomputable def Up (xs : Array Nat) : Prop := ∀ a b u v : Nat, a < b → xs[a]? = some u → xs[b]? = some v → u < v
theorem go_ok {xs : Array Nat} (up : Up xs) (j : Nat) : ∀ (f lo hi : Nat), lo ≤ hi → hi ≤ xs.size → hi - lo ≤ f → (∀ i v, i < lo → xs[i]? = some v → v < j) → (∀ i v, hi ≤ i → xs[i]? = some v → j ≤ v) →
    below.go xs j f lo hi ≤ xs.size ∧ (∀ i v, i < below.go xs j f lo hi → xs[i]? = some v → v < j) ∧ ∀ i v, below.go xs j f lo hi ≤ i → xs[i]? = some v → j ≤ v
  | 0, lo, hi, h1, h2, h3, a, b => by
    have : lo = hi := by omega
    subst this
    exact ⟨h2, a, b⟩
  | f + 1, lo, hi, h1, h2, h3, a, b => by
    unfold below.go
    by_cases c : lo < hi
    · rw [if_pos c]
      have hm : (lo + hi) / 2 < xs.size := by omega
      have e : xs[(lo + hi) / 2]? = some (xs.getD ((lo + hi) / 2) j) := by simp [Array.getD, hm]
      dsimp only
      by_cases d : xs.getD ((lo + hi) / 2) j < j
      · rw [if_pos d]
        refine go_ok up j f _ hi (by omega) h2 (by omega) (fun i v hi' hv => ?_) b
        rcases Nat.lt_or_ge i ((lo + hi) / 2) with lt | ge
        · exact Nat.lt_trans (up _ _ _ _ lt hv e) d
        · have : i = (lo + hi) / 2 := by omega
          rw [this, e] at hv
          cases hv
          exact d
      · rw [if_neg d]
        refine go_ok up j f lo _ (by omega) (by omega) (by omega) a fun i v hi' hv => ?_
        rcases Nat.lt_or_ge ((lo + hi) / 2) i with lt | ge
        · have := up _ _ _ _ lt e hv
          omega
        · have : i = (lo + hi) / 2 := by omega
          rw [this, e] at hv
          cases hv
          omega
    · rw [if_neg c]
      have : lo = hi := by omega
      subst this
      exact ⟨h2, a, b⟩
theorem below_ok {xs : Array Nat} (up : Up xs) (j : Nat) : below xs j ≤ xs.size ∧ (∀ i v, i < below xs j → xs[i]? = some v → v < j) ∧ ∀ i v, below xs j ≤ i → xs[i]? = some v → j ≤ v :=
  go_ok up j xs.size 0 xs.size (Nat.zero_le _) (Nat.le_refl _) (by omega) (fun _ _ h _ => by omega) fun i v h e => by
    have := (Array.getElem?_eq_some_iff.mp e).1
    omega
theorem Up.inj {xs : Array Nat} (up : Up xs) {a b v : Nat} (h1 : xs[a]? = some v) (h2 : xs[b]? = some v) : a = b := by
  rcases Nat.lt_trichotomy a b with lt | rfl | gt
  · exact absurd (up _ _ _ _ lt h1 h2) (Nat.lt_irrefl _)
  · rfl
  · exact absurd (up _ _ _ _ gt h2 h1) (Nat.lt_irrefl _)
theorem below_at {xs : Array Nat} (up : Up xs) {i j : Nat} (h : xs[i]? = some j) : below xs j = i := by
  obtain ⟨a, b, c⟩ := below_ok up j
  rcases Nat.lt_trichotomy (below xs j) i with lt | e | gt
  · have hs : below xs j < xs.size := Nat.lt_trans lt (Array.getElem?_eq_some_iff.mp h).1
    have := c _ _ (Nat.le_refl _) (Array.getElem?_eq_getElem hs)
    have := up _ _ _ _ lt (Array.getElem?_eq_getElem hs) h
    omega
  · exact e
  · have := b _ _ gt h
    omega
theorem ins_list {α : Type} (xs : Array α) (p : Nat) (x : α) : (insertAt xs p x).toList = xs.toList.take p ++ x :: xs.toList.drop p := by
  unfold insertAt
  simp [Array.toList_append, List.append_assoc]
  exact List.take_of_length_le (by simp)
theorem ins_at {α : Type} {xs : Array α} {p : Nat} (hp : p ≤ xs.size) (x : α) (i : Nat) : (insertAt xs p x)[i]? = if i < p then xs[i]? else if i = p then some x else xs[i - 1]? := by
  rw [← Array.getElem?_toList, ins_list]
  have hl : (xs.toList.take p).length = p := by rw [List.length_take, Array.length_toList]; omega
  by_cases c : i < p
  · rw [if_pos c, List.getElem?_append_left (by omega), List.getElem?_take_of_lt c, Array.getElem?_toList]
  · rw [if_neg c, List.getElem?_append_right (by omega), hl]
    by_cases d : i = p
    · rw [if_pos d, d, Nat.sub_self]; rfl
    · rw [if_neg d, show i - p = (i - p - 1) + 1 by omega, List.getElem?_cons_succ, List.getElem?_drop, Array.getElem?_toList]
      congr 1
      omega
theorem ins_size {α : Type} {xs : Array α} {p : Nat} (hp : p ≤ xs.size) (x : α) : (insertAt xs p x).size = xs.size + 1 := by
  rw [← Array.length_toList, ins_list, List.length_append, List.length_cons, List.length_take, List.length_drop, Array.length_toList]
  omega
theorem ins_perm {α : Type} (xs : Array α) (p : Nat) (x : α) : (insertAt xs p x).toList.Perm (x :: xs.toList) := by
  rw [ins_list]
  refine List.perm_middle.trans ?_
  rw [List.take_append_drop]
theorem ins_up {xs : Array Nat} (up : Up xs) {j : Nat} (hj : j ∉ xs.toList) : Up (insertAt xs (below xs j) j) := by
  obtain ⟨s, l, r⟩ := below_ok up j
  have nj : ∀ i, xs[i]? ≠ some j := fun i e => hj (List.mem_iff_getElem?.mpr ⟨i, by rw [Array.getElem?_toList]; exact e⟩)
  intro a b u v ab ea eb
  rw [ins_at s] at ea eb
  by_cases a1 : a < below xs j
  · rw [if_pos a1] at ea
    by_cases b1 : b < below xs j
    · rw [if_pos b1] at eb
      exact up _ _ _ _ ab ea eb
    · rw [if_neg b1] at eb
      by_cases b2 : b = below xs j
      · rw [if_pos b2] at eb
        cases eb
        exact l _ _ a1 ea
      · rw [if_neg b2] at eb
        exact up _ _ _ _ (by omega) ea eb
  · rw [if_neg a1] at ea
    have b1 : ¬ b < below xs j := by omega
    have b2 : ¬ b = below xs j := by omega
    rw [if_neg b1, if_neg b2] at eb
    by_cases a2 : a = below xs j
    · rw [if_pos a2] at ea
      cases ea
      have := r _ _ (by omega) eb
      have : v ≠ j := fun z => nj _ (by rw [z] at eb; exact eb)
      omega
    · rw [if_neg a2] at ea
      exact up _ _ _ _ (by omega) ea eb
theorem some_free {xs : List Nat} {n : Nat} (h : xs.length < n) : ∃ j, j < n ∧ j ∉ xs := by
  refine Classical.byContradiction fun z => ?_
  have sub : List.range n ⊆ xs := fun j hj => Classical.byContradiction fun k => z ⟨j, List.mem_range.mp hj, k⟩
  have := List.Nodup.length_le_of_subset List.nodup_range sub
  rw [List.length_range] at this
  omega
noncomputable abbrev Ents := Array (Int × Value)
structure Tb (t : SetTable) (es : Ents) : Prop where
  dm : t.dummies = #[]
  ms : Mk t.mask
  sz : t.place.size = es.size
  up : Up t.place
  le : ∀ j, j ∈ t.place.toList → j < t.mask + 1
  fu : es.size < t.mask + 1
  re : ∀ (i j : Nat) (e : Int × Value), t.place[i]? = some j → es[i]? = some e → Rc t.mask (· ∈ t.place.toList) e.1 j
theorem mem_at {xs : Array Nat} {i j : Nat} (h : xs[i]? = some j) : j ∈ xs.toList := List.mem_iff_getElem?.mpr ⟨i, by rw [Array.getElem?_toList]; exact h⟩
theorem at_mem {xs : Array Nat} {j : Nat} (h : j ∈ xs.toList) : ∃ i : Nat, xs[i]? = some j := by
  obtain ⟨i, hi⟩ := List.mem_iff_getElem?.mp h
  exact ⟨i, by rw [← Array.getElem?_toList]; exact hi⟩
theorem slot_live {t : SetTable} (up : Up t.place) {i j : Nat} (h : t.place[i]? = some j) : t.slot j = .live i := by
  unfold slot
  dsimp only
  rw [below_at up h, h, if_pos (by simp)]
theorem slot_empty {t : SetTable} (hd : t.dummies = #[]) {j : Nat} (h : j ∉ t.place.toList) : t.slot j = .empty := by
  unfold slot
  dsimp only
  rw [if_neg (fun z => h (mem_at (beq_iff_eq.mp z))), if_neg (by rw [hd]; unfold has; simp)]
theorem nth_dummy (m : Nat) : ∀ (k : Nat) (h : Int), (nth m k (st m h)).dummy = none
  | 0, _ => rfl
  | k + 1, h => by
    rw [nth_succ]
    unfold adv
    split <;> exact nth_dummy m k h
theorem go_spec {t : SetTable} {es : Ents} (T : Tb t es) {ha : Nat → Int} (h : Int) : ∀ (f k K : Nat), k ≤ K → K < k + f → (nth t.mask K (st t.mask h)).j ∉ t.place.toList →
    ∃ k', k ≤ k' ∧ k' ≤ K ∧ (∀ q, k ≤ q → q < k' → ∃ i : Nat, t.place[i]? = some (nth t.mask q (st t.mask h)).j ∧ ha i ≠ h) ∧
      ((probe.go t ha h f (nth t.mask k (st t.mask h)) = some (.empty (nth t.mask k' (st t.mask h)).j none) ∧ (nth t.mask k' (st t.mask h)).j ∉ t.place.toList) ∨
       (∃ i : Nat, probe.go t ha h f (nth t.mask k (st t.mask h)) = some (.candidate (nth t.mask k' (st t.mask h)).j i (nth t.mask (k' + 1) (st t.mask h))) ∧ t.place[i]? = some (nth t.mask k' (st t.mask h)).j ∧ ha i = h ∧ k' < K))
  | 0, k, K, h1, h2, _ => absurd h2 (by omega)
  | f + 1, k, K, h1, h2, h3 => by
    by_cases c : (nth t.mask k (st t.mask h)).j ∈ t.place.toList
    · obtain ⟨i, hi⟩ := at_mem c
      have hk : k < K := by
        rcases Nat.lt_or_ge k K with lt | ge
        · exact lt
        · have : k = K := by omega
          rw [this] at c
          exact absurd c h3
      unfold probe.go
      rw [slot_live T.up hi]
      dsimp only
      by_cases d : ha i = h
      · rw [if_pos (beq_iff_eq.mpr d)]
        refine ⟨k, Nat.le_refl _, h1, fun q a b => absurd b (by omega), .inr ⟨i, ?_, hi, d, hk⟩⟩
        rw [adv_eq, nth_succ]
      · rw [if_neg (fun z => d (beq_iff_eq.mp z)), adv_eq, ← nth_succ]
        obtain ⟨k', g1, g2, g3, g4⟩ := go_spec T (ha := ha) h f (k + 1) K hk (by omega) h3
        refine ⟨k', by omega, g2, fun q a b => ?_, g4⟩
        rcases Nat.lt_or_ge k q with lt | ge
        · exact g3 q lt b
        · have : q = k := by omega
          rw [this]
          exact ⟨i, hi, d⟩
    · refine ⟨k, Nat.le_refl _, h1, fun q a b => absurd b (by omega), .inl ⟨?_, c⟩⟩
      unfold probe.go
      rw [slot_empty T.dm c]
      dsimp only
      rw [nth_dummy]
theorem far {t : SetTable} {es : Ents} (T : Tb t es) (h : Int) : ∃ K, K < 10 * turns t.mask ∧ (nth t.mask K (st t.mask h)).j ∉ t.place.toList := by
  obtain ⟨j, a, b⟩ := some_free (xs := t.place.toList) (n := t.mask + 1) (by rw [Array.length_toList, T.sz]; exact T.fu)
  obtain ⟨K, c, d⟩ := reaches T.ms h a
  exact ⟨K, c, by rw [d]; exact b⟩
theorem Tb.put {t : SetTable} {es : Ents} (T : Tb t es) {h : Int} {x : Value} {k : Nat} (fr : (nth t.mask k (st t.mask h)).j ∉ t.place.toList) (pr : ∀ q, q < k → (nth t.mask q (st t.mask h)).j ∈ t.place.toList) (hj : (nth t.mask k (st t.mask h)).j < t.mask + 1) (hf : es.size + 1 < t.mask + 1) {b : Bool} :
    ∃ p, p ≤ es.size ∧ t.put (nth t.mask k (st t.mask h)).j = ({ t with place := insertAt t.place p (nth t.mask k (st t.mask h)).j }, p) ∧ Tb { t with place := insertAt t.place p (nth t.mask k (st t.mask h)).j, plain := b } (insertAt es p (h, x)) := by
  have bo := below_ok T.up (nth t.mask k (st t.mask h)).j
  have pp := ins_perm t.place (below t.place (nth t.mask k (st t.mask h)).j) (nth t.mask k (st t.mask h)).j
  have sub : ∀ q, q ∈ t.place.toList → q ∈ (insertAt t.place (below t.place (nth t.mask k (st t.mask h)).j) (nth t.mask k (st t.mask h)).j).toList := fun q hq => pp.mem_iff.mpr (List.mem_cons_of_mem _ hq)
  have he : below t.place (nth t.mask k (st t.mask h)).j ≤ es.size := by rw [← T.sz]; exact bo.1
  refine ⟨below t.place (nth t.mask k (st t.mask h)).j, he, ?_, ⟨T.dm, T.ms, ?_, ins_up T.up fr, fun j hj' => ?_, ?_, fun i j e h1 h2 => ?_⟩⟩
  · unfold PySem.SetTable.put
    dsimp only
    rw [if_neg (by rw [T.dm]; unfold has; simp)]
  · show (insertAt t.place _ _).size = _
    rw [ins_size bo.1, ins_size he, T.sz]
  · rcases List.mem_cons.mp (pp.mem_iff.mp hj') with z | z
    · rw [z]; exact hj
    · exact T.le j z
  · rw [ins_size he]; exact hf
  · have h1 : (insertAt t.place (below t.place (nth t.mask k (st t.mask h)).j) (nth t.mask k (st t.mask h)).j)[i]? = some j := h1
    rw [ins_at bo.1] at h1
    rw [ins_at he] at h2
    show Rc t.mask (· ∈ (insertAt t.place _ _).toList) _ _
    by_cases c : i < below t.place (nth t.mask k (st t.mask h)).j
    · rw [if_pos c] at h1 h2
      exact (T.re i j e h1 h2).mono sub
    · rw [if_neg c] at h1 h2
      by_cases d : i = below t.place (nth t.mask k (st t.mask h)).j
      · rw [if_pos d] at h1 h2
        cases h1
        cases h2
        exact ⟨k, rfl, fun q hq => sub _ (pr q hq)⟩
      · rw [if_neg d] at h1 h2
        exact (T.re _ j e h1 h2).mono sub
noncomputable abbrev Own := Array (Option Nat)
noncomputable def tk (o : Own) (q : Nat) : Prop := (o.getD q none).isSome = true
theorem free_spec {m : Nat} {o : Own} (hs : o.size = m + 1) : ∀ (f i P : Nat), i < m + 1 → (∃ c, c < f ∧ o.getD (lp m c (i, P)).1 none = none) →
    ∃ j K, layClean.free m o f i P = some j ∧ j < m + 1 ∧ o.getD j none = none ∧ (nth m K (base m i P)).j = j ∧ ∀ k, k < K → tk o (nth m k (base m i P)).j
  | 0, _, _, _, ⟨_, h, _⟩ => absurd h (Nat.not_lt_zero _)
  | f + 1, i, P, hi, ⟨c, hc, hn⟩ => by
    have hr : runEnd m i < m + 1 := by unfold runEnd; split <;> omega
    have hge : i ≤ runEnd m i := by unfold runEnd; split <;> omega
    have inb : ∀ k, k < runEnd m i + 1 - i → (o.getD (i + k) (some 0)).isNone = (o.getD (i + k) none).isNone := fun k hk => by
      have : i + k < o.size := by omega
      simp [Array.getD, this]
    unfold layClean.free
    cases e : (List.range (runEnd m i + 1 - i)).find? fun k => (o.getD (i + k) (some 0)).isNone with
    | some k =>
      obtain ⟨a, b, d⟩ := List.find?_range_eq_some.mp e
      have hk := List.mem_range.mp b
      rw [inb k hk] at a
      refine ⟨i + k, k, rfl, by omega, Option.isNone_iff_eq_none.mp a, ?_, fun q hq => ?_⟩
      · rw [nth_run m i P k (by omega)]
      · rw [nth_run m i P q (by omega)]
        have z := d q hq
        rw [inb q (by omega)] at z
        show ((o.getD (i + q) none).isSome) = true
        cases h : o.getD (i + q) none with
        | none => rw [h] at z; exact absurd z (by simp)
        | some _ => rfl
    | none =>
      have occ : ∀ q, q < runEnd m i + 1 - i → tk o (i + q) := fun q hq => by
        have z := List.find?_eq_none.mp e q (List.mem_range.mpr hq)
        rw [inb q hq] at z
        show ((o.getD (i + q) none).isSome) = true
        cases h : o.getD (i + q) none with
        | none => rw [h] at z; exact absurd rfl z
        | some _ => rfl
      cases c with
      | zero =>
        have := occ 0 (by omega)
        have hn : o.getD i none = none := hn
        rw [Nat.add_zero] at this
        unfold tk at this
        rw [hn] at this
        cases this
      | succ c =>
        obtain ⟨j, K, g1, g2, g3, g4, g5⟩ := free_spec hs f ((i * 5 + 1 + P / 32) % (m + 1)) (P / 32) (Nat.mod_lt _ (Nat.succ_pos _)) ⟨c, by omega, hn⟩
        refine ⟨j, runEnd m i - i + 1 + K, g1, g2, g3, ?_, fun k hk => ?_⟩
        · rw [nth_add, nth_leap]; exact g4
        · rcases Nat.lt_or_ge k (runEnd m i - i + 1) with lt | ge
          · rw [nth_run m i P k (by omega)]
            exact occ k (by omega)
          · rw [show k = (runEnd m i - i + 1) + (k - (runEnd m i - i + 1)) by omega, nth_add, nth_leap]
            exact g5 _ (by omega)
structure LI (m : Nat) (o : Own) (hs : List Int) : Prop where
  sz : o.size = m + 1
  re : ∀ j a, o.getD j none = some a → j < m + 1 ∧ ∃ h, hs[a]? = some h ∧ Rc m (tk o) h j
  al : ∀ a, a < hs.length → ∃ j, o.getD j none = some a
  inj : ∀ j j' a, o.getD j none = some a → o.getD j' none = some a → j = j'
theorem LI.free {m : Nat} {o : Own} {hs : List Int} (L : LI m o hs) (h : hs.length < m + 1) : ∃ j, j < m + 1 ∧ o.getD j none = none := by
  refine Classical.byContradiction fun z => ?_
  have full : ∀ j, j < m + 1 → ∃ a, o.getD j none = some a := fun j hj => by
    cases e : o.getD j none with
    | none => exact absurd ⟨j, hj, e⟩ z
    | some a => exact ⟨a, rfl⟩
  have nd : ((List.range (m + 1)).map fun j => (o.getD j none).getD 0).Nodup := by
    refine List.pairwise_map.mpr (List.Pairwise.imp_of_mem (R := fun a b => a < b) (fun {a b} ha hb ab => ?_) List.pairwise_lt_range)
    obtain ⟨x, hx⟩ := full a (List.mem_range.mp ha)
    obtain ⟨y, hy⟩ := full b (List.mem_range.mp hb)
    rw [hx, hy]
    intro e
    have e : x = y := e
    rw [← e] at hy
    exact Nat.ne_of_lt ab (L.inj a b x hx hy)
  have sub : ((List.range (m + 1)).map fun j => (o.getD j none).getD 0) ⊆ List.range hs.length := fun v hv => by
    obtain ⟨j, hj, rfl⟩ := List.mem_map.mp hv
    obtain ⟨x, hx⟩ := full j (List.mem_range.mp hj)
    obtain ⟨_, g, hg, _⟩ := L.re j x hx
    rw [hx]
    exact List.mem_range.mpr (List.getElem?_eq_some_iff.mp hg).1
  have := List.Nodup.length_le_of_subset nd sub
  rw [List.length_map, List.length_range, List.length_range] at this
  omega
theorem getD_set {o : Own} {j q : Nat} {v : Option Nat} (hj : j < o.size) : (o.setIfInBounds j v).getD q none = if q = j then v else o.getD q none := by
  simp only [Array.getD_eq_getD_getElem?, Array.getElem?_setIfInBounds]
  by_cases c : q = j
  · rw [if_pos c, if_pos c.symm, if_pos hj]; rfl
  · rw [if_neg c, if_neg (fun z => c z.symm)]
theorem LI.step {m : Nat} (hm : Mk m) {o : Own} {hs : List Int} (L : LI m o hs) (hl : hs.length < m + 1) (h : Int) :
    ∃ j, layClean.free m o (turns m) (bits h % (m + 1)) (bits h) = some j ∧ LI m (o.setIfInBounds j (some hs.length)) (hs ++ [h]) := by
  obtain ⟨j0, a, b⟩ := L.free hl
  obtain ⟨c, hc, e⟩ := lp_to hm h a
  obtain ⟨j, K, g1, g2, g3, g4, g5⟩ := free_spec L.sz (turns m) (bits h % (m + 1)) (bits h) (Nat.mod_lt _ (Nat.succ_pos _)) ⟨c, by unfold turns; omega, by rw [e]; exact b⟩
  have hj : j < o.size := by rw [L.sz]; exact g2
  have sub : ∀ q, tk o q → tk (o.setIfInBounds j (some hs.length)) q := fun q hq => by
    unfold tk
    rw [getD_set hj]
    split
    · rfl
    · exact hq
  refine ⟨j, g1, ⟨by rw [Array.size_setIfInBounds]; exact L.sz, fun q x hx => ?_, fun x hx => ?_, fun q q' x h1 h2 => ?_⟩⟩
  · rw [getD_set hj] at hx
    by_cases d : q = j
    · rw [if_pos d] at hx
      cases hx
      rw [d]
      exact ⟨g2, h, by simp, K, g4, fun k hk => sub _ (g5 k hk)⟩
    · rw [if_neg d] at hx
      obtain ⟨y1, h', y2, y3⟩ := L.re q x hx
      exact ⟨y1, h', by rw [List.getElem?_append_left (List.getElem?_eq_some_iff.mp y2).1]; exact y2, y3.mono sub⟩
  · rw [List.length_append, List.length_singleton] at hx
    rcases Nat.lt_or_ge x hs.length with lt | ge
    · obtain ⟨q, hq⟩ := L.al x lt
      refine ⟨q, ?_⟩
      rw [getD_set hj, if_neg (fun z => ?_)]
      · exact hq
      · rw [z, g3] at hq; cases hq
    · refine ⟨j, ?_⟩
      rw [getD_set hj, if_pos rfl]
      congr 1
      omega
  · rw [getD_set hj] at h1 h2
    have no : ∀ p, o.getD p none ≠ some hs.length := fun p z => by
      obtain ⟨_, _, w, _⟩ := L.re p _ z
      exact Nat.lt_irrefl _ (List.getElem?_eq_some_iff.mp w).1
    by_cases d : q = j
    · rw [if_pos d] at h1
      cases h1
      by_cases d' : q' = j
      · rw [d, d']
      · rw [if_neg d'] at h2
        exact absurd h2 (no q')
    · rw [if_neg d] at h1
      by_cases d' : q' = j
      · rw [if_pos d'] at h2
        cases h2
        exact absurd h1 (no q)
      · rw [if_neg d'] at h2
        exact L.inj q q' x h1 h2
theorem LI.fold {m : Nat} (hm : Mk m) : ∀ (l pre : List Int) (o : Own), LI m o pre → pre.length + l.length < m + 2 →
    ∃ o', l.foldl (fun acc h => acc.bind fun x => (layClean.free m x.1 (turns m) (bits h % (m + 1)) (bits h)).bind fun j => some (x.1.setIfInBounds j (some x.2), x.2 + 1)) (some (o, pre.length)) = some (o', pre.length + l.length) ∧ LI m o' (pre ++ l)
  | [], pre, o, L, _ => ⟨o, rfl, by rw [List.append_nil]; exact L⟩
  | h :: l, pre, o, L, hl => by
    rw [List.length_cons] at hl
    obtain ⟨j, e, L2⟩ := L.step hm (by omega) h
    obtain ⟨o', e2, L3⟩ := LI.fold hm l (pre ++ [h]) _ L2 (by rw [List.length_append, List.length_singleton]; omega)
    refine ⟨o', ?_, by rw [List.append_assoc] at L3; exact L3⟩
    rw [List.length_append, List.length_singleton] at e2
    rw [List.foldl_cons]
    show List.foldl _ ((layClean.free m o (turns m) (bits h % (m + 1)) (bits h)).bind fun j => some (o.setIfInBounds j (some pre.length), pre.length + 1)) l = _
    rw [e]
    refine e2.trans ?_
    rw [List.length_cons]
    congr 2
    omega
theorem lay_ok {m : Nat} (hm : Mk m) {hs : Array Int} (hl : hs.size < m + 1) : ∃ o, layClean m hs = some o ∧ LI m o hs.toList := by
  have L0 : LI m (Array.replicate (m + 1) none) [] := by
    have nn : ∀ j, (Array.replicate (m + 1) (none : Option Nat)).getD j none = none := fun j => by
      rw [Array.getD_eq_getD_getElem?, Array.getElem?_replicate]
      split <;> rfl
    exact ⟨by simp, fun j a z => (by rw [nn] at z; cases z), fun a h => absurd h (Nat.not_lt_zero _), fun j j' a z => (by rw [nn] at z; cases z)⟩
  obtain ⟨o, e, L⟩ := LI.fold hm hs.toList [] _ L0 (by have := Array.length_toList (xs := hs); show 0 + hs.toList.length < m + 2; omega)
  refine ⟨o, ?_, L⟩
  unfold layClean
  rw [← Array.foldl_toList]
  have e' := congrArg (Option.map (·.1)) e
  exact e'
noncomputable def live (m : Nat) (o : Own) : List (Nat × Nat) := (List.range (m + 1)).filterMap fun j => (o.getD j none).map (j, ·)
theorem live_mem {m : Nat} {o : Own} {p : Nat × Nat} : p ∈ live m o ↔ p.1 < m + 1 ∧ o.getD p.1 none = some p.2 := by
  unfold live
  rw [List.mem_filterMap]
  constructor
  · rintro ⟨j, hj, e⟩
    obtain ⟨a, ha, rfl⟩ := Option.map_eq_some_iff.mp e
    exact ⟨List.mem_range.mp hj, ha⟩
  · rintro ⟨h1, h2⟩
    exact ⟨p.1, List.mem_range.mpr h1, by rw [h2]; rfl⟩
theorem live_pw (m : Nat) (o : Own) : (live m o).Pairwise fun p q => p.1 < q.1 := by
  unfold live
  refine List.Pairwise.filterMap (R := fun a b => a < b) _ (fun a a' h b hb b' hb' => ?_) List.pairwise_lt_range
  obtain ⟨x, _, rfl⟩ := Option.map_eq_some_iff.mp hb
  obtain ⟨y, _, rfl⟩ := Option.map_eq_some_iff.mp hb'
  exact h
theorem laid_ok {m fi mv : Nat} {led pl : Bool} (hm : Mk m) {hs : Array Int} (hl : hs.size < m + 1) :
    ∃ (pc od : Array Nat), laid m fi mv led pl hs = some ({ mask := m, place := pc, dummies := #[], finger := fi, led := led, moves := mv, plain := pl }, od) ∧ Up pc ∧ (∀ j ∈ pc.toList, j < m + 1) ∧ od.toList.Perm (List.range hs.size) ∧ pc.size = od.size ∧
      ∀ (i j a : Nat), pc[i]? = some j → od[i]? = some a → ∃ h, hs[a]? = some h ∧ Rc m (· ∈ pc.toList) h j := by
  obtain ⟨o, e, L⟩ := lay_ok hm hl
  refine ⟨((live m o).map (·.1)).toArray, ((live m o).map (·.2)).toArray, ?_, ?_, fun j hj => ?_, ?_, by simp, fun i j a h1 h2 => ?_⟩
  · unfold laid
    rw [e]
    rfl
  · intro a b u v ab h1 h2
    rw [List.getElem?_toArray, List.getElem?_map] at h1 h2
    obtain ⟨p, hp, rfl⟩ := Option.map_eq_some_iff.mp h1
    obtain ⟨q, hq, rfl⟩ := Option.map_eq_some_iff.mp h2
    obtain ⟨ha, ea⟩ := List.getElem?_eq_some_iff.mp hp
    obtain ⟨hb, eb⟩ := List.getElem?_eq_some_iff.mp hq
    have := List.pairwise_iff_getElem.mp (live_pw m o) a b ha hb ab
    rw [ea, eb] at this
    exact this
  · obtain ⟨p, hp, rfl⟩ := List.mem_map.mp hj
    exact (live_mem.mp hp).1
  · show ((live m o).map (·.2)).Perm _
    refine (List.perm_ext_iff_of_nodup ?_ List.nodup_range).mpr fun a => ?_
    · refine List.pairwise_map.mpr (List.Pairwise.imp_of_mem (R := fun p q => p.1 < q.1) (fun {p q} hp hq pq z => ?_) (live_pw m o))
      have h1 := (live_mem.mp hp).2
      have h2 := (live_mem.mp hq).2
      rw [← z] at h2
      exact Nat.ne_of_lt pq (L.inj _ _ _ h1 h2)
    · rw [List.mem_range]
      constructor
      · intro ha
        obtain ⟨p, hp, rfl⟩ := List.mem_map.mp ha
        obtain ⟨_, g, hg, _⟩ := L.re _ _ (live_mem.mp hp).2
        have := (List.getElem?_eq_some_iff.mp hg).1
        rwa [Array.length_toList] at this
      · intro ha
        obtain ⟨j, hj⟩ := L.al a (by rw [Array.length_toList]; exact ha)
        exact List.mem_map.mpr ⟨(j, a), live_mem.mpr ⟨(L.re j a hj).1, hj⟩, rfl⟩
  · rw [List.getElem?_toArray, List.getElem?_map] at h1 h2
    obtain ⟨p, hp, rfl⟩ := Option.map_eq_some_iff.mp h1
    rw [hp] at h2
    cases h2
    obtain ⟨y1, h, y2, y3⟩ := L.re _ _ (live_mem.mp (List.mem_of_getElem? hp)).2
    refine ⟨h, by rw [← Array.getElem?_toList]; exact y2, y3.mono fun q hq => ?_⟩
    obtain ⟨a, ha⟩ := Option.isSome_iff_exists.mp hq
    exact List.mem_map.mpr ⟨(q, a), live_mem.mpr ⟨(L.re q a ha).1, ha⟩, rfl⟩
theorem fm_at {α : Type} {es : Array α} : ∀ {l : List Nat}, (∀ a ∈ l, a < es.size) → ∀ i : Nat, (l.filterMap (es[·]?))[i]? = (l[i]?).bind (es[·]?)
  | [], _, i => by simp
  | a :: l, h, i => by
    have ha := h a List.mem_cons_self
    rw [List.filterMap_cons, Array.getElem?_eq_getElem ha]
    cases i with
    | zero => simp [ha]
    | succ i => simpa using fm_at (fun b hb => h b (List.mem_cons_of_mem _ hb)) i
theorem fm_range {α : Type} (es : Array α) : (List.range es.size).filterMap (es[·]?) = es.toList := by
  refine List.ext_getElem? fun i => ?_
  rw [fm_at (fun a ha => List.mem_range.mp ha)]
  rcases Nat.lt_or_ge i es.size with lt | ge
  · rw [List.getElem?_range lt, Array.getElem?_toList]; rfl
  · rw [List.getElem?_eq_none (by rw [List.length_range]; exact ge), Array.getElem?_toList, Array.getElem?_eq_none ge]; rfl
theorem Tb.relay {t : SetTable} {es : Ents} {w : Nat} (hw : Mk (sizeAbove w - 1)) (hz : es.size < sizeAbove w - 1 + 1) :
    ∃ t' od, t.relaid (es.map (·.1)) w = some (t', od) ∧ t'.led = t.led ∧ t'.plain = t.plain ∧ t'.mask = sizeAbove w - 1 ∧ Tb t' (od.filterMap (es[·]?)) ∧ (od.filterMap (es[·]?)).toList.Perm es.toList := by
  obtain ⟨pc, od, e, h1, h2, h3, h4, h5⟩ := laid_ok (fi := t.finger) (mv := t.movedTo (sizeAbove w - 1)) (led := t.led) (pl := t.plain) hw (hs := es.map (·.1)) (by rw [Array.size_map]; exact hz)
  rw [Array.size_map] at h3
  have hod : ∀ a ∈ od.toList, a < es.size := fun a ha => List.mem_range.mp (h3.mem_iff.mp ha)
  have pm : (od.filterMap (es[·]?)).toList.Perm es.toList := by
    rw [Array.toList_filterMap]
    exact (h3.filterMap _).trans (List.Perm.of_eq (fm_range es))
  have sz : (od.filterMap (es[·]?)).size = es.size := by rw [← Array.length_toList, pm.length_eq, Array.length_toList]
  refine ⟨_, od, e, rfl, rfl, rfl, ⟨rfl, hw, ?_, h1, h2, by rw [sz]; exact hz, fun i j x hj hx => ?_⟩, pm⟩
  · show pc.size = _
    rw [h4, sz, ← Array.length_toList, h3.length_eq, List.length_range]
  · rw [← Array.getElem?_toList, Array.toList_filterMap, fm_at hod] at hx
    obtain ⟨a, ha, hx⟩ := Option.bind_eq_some_iff.mp hx
    obtain ⟨h, y1, y2⟩ := h5 i j a hj (by rw [← Array.getElem?_toList]; exact ha)
    rw [Array.getElem?_map, hx] at y1
    cases y1
    exact y2
end STb

set_option Elab.async false
set_option linter.all false
set_option maxRecDepth 100000
namespace STb
open PySem PySem.W PyProof.Rows
noncomputable abbrev Ask := Nat → Nat → (Bool → Shared → Prop) → Shared → Prop
structure Or (n : Nat) (rk : Nat → Nat) (cmp : Ask) (s : Shared) : Prop where
  ask : ∀ i j C, i < n → j < n → C (decide (rk i < rk j)) s → cmp i j C s
  inj : ∀ i j, i < n → j < n → rk i = rk j → i = j
noncomputable def Pm (p : Array Nat) (n : Nat) : Prop := p.toList.Perm (List.range n)
theorem Pm.size {p : Array Nat} {n : Nat} (h : Pm p n) : p.size = n := by rw [← Array.length_toList, h.length_eq, List.length_range]
theorem Pm.at {p : Array Nat} {n i : Nat} (h : Pm p n) (hi : i < n) : p[i]? = some (p.getD i 0) := by
  have : i < p.size := by rw [h.size]; exact hi
  simp [Array.getD, this]
theorem Pm.lt {p : Array Nat} {n i : Nat} (h : Pm p n) (hi : i < n) : p.getD i 0 < n :=
  List.mem_range.mp (h.mem_iff.mp (List.mem_iff_getElem?.mpr ⟨i, by rw [Array.getElem?_toList]; exact h.at hi⟩))
theorem Pm.inj {p : Array Nat} {n i j : Nat} (h : Pm p n) (hi : i < n) (hj : j < n) (e : p.getD i 0 = p.getD j 0) : i = j := by
  have nd : p.toList.Nodup := h.nodup_iff.mpr List.nodup_range
  have hi' : i < p.toList.length := by rw [Array.length_toList, h.size]; exact hi
  have hj' : j < p.toList.length := by rw [Array.length_toList, h.size]; exact hj
  have e1 : p.toList[i]? = some (p.getD i 0) := by rw [Array.getElem?_toList]; exact h.at hi
  have e2 : p.toList[j]? = some (p.getD j 0) := by rw [Array.getElem?_toList]; exact h.at hj
  rw [← e] at e2
  obtain ⟨_, f1⟩ := List.getElem?_eq_some_iff.mp e1
  obtain ⟨_, f2⟩ := List.getElem?_eq_some_iff.mp e2
  have pw := List.pairwise_iff_getElem.mp nd
  rcases Nat.lt_trichotomy i j with lt | z | gt
  · exact absurd (f1.trans f2.symm) (pw i j hi' hj' lt)
  · exact z
  · exact absurd (f2.trans f1.symm) (pw j i hj' hi' gt)
section
variable {n : Nat} {rk : Nat → Nat} {cmp : Ask} {s : Shared} {p : Array Nat}
noncomputable def vv (rk : Nat → Nat) (p : Array Nat) (i : Nat) : Nat := rk (p.getD i 0)
theorem vv_ne (O : Or n rk cmp s) (hp : Pm p n) {i j : Nat} (hi : i < n) (hj : j < n) (ne : i ≠ j) : vv rk p i ≠ vv rk p j := fun e => ne (hp.inj hi hj (O.inj _ _ (hp.lt hi) (hp.lt hj) e))
theorem vv_of {p q : Array Nat} {i j : Nat} (e : p[i]? = q[j]?) : vv rk p i = vv rk q j := by
  unfold vv
  rw [Array.getD_eq_getD_getElem?, Array.getD_eq_getD_getElem?, e]
noncomputable def Ri (rk : Nat → Nat) (p : Array Nat) (k : Nat) : Prop := ∀ i j : Nat, i < j → j < k → vv rk p i < vv rk p j
noncomputable def De (rk : Nat → Nat) (p : Array Nat) (k : Nat) : Prop := ∀ i j : Nat, i < j → j < k → vv rk p j < vv rk p i
theorem asc_ok (O : Or n rk cmp s) (hp : Pm p n) : ∀ (f k : Nat) {Q : Nat → Shared → Prop}, 1 ≤ k → k + f ≤ n → Ri rk p k → (∀ m, k ≤ m → m ≤ k + f → Ri rk p m → (m < k + f → vv rk p m < vv rk p (m - 1)) → Q m s) → (kas_asc p f k).kasWp cmp Q s
  | 0, k, Q, h1, h2, r, h => h k (Nat.le_refl _) (Nat.le_refl _) r fun z => absurd z (by omega)
  | f + 1, k, Q, h1, h2, r, h => by
    refine O.ask _ _ _ (hp.lt (by omega)) (hp.lt (by omega)) ?_
    dsimp only
    by_cases c : vv rk p k < vv rk p (k - 1)
    · rw [show decide (rk (p.getD k 0) < rk (p.getD (k - 1) 0)) = true from decide_eq_true c, if_pos rfl]
      exact h k (Nat.le_refl _) (by omega) r fun _ => c
    · rw [show decide (rk (p.getD k 0) < rk (p.getD (k - 1) 0)) = false from decide_eq_false c, if_neg Bool.false_ne_true]
      refine asc_ok O hp f (k + 1) (by omega) (by omega) (fun i j ij hj => ?_) fun m a b r' z => h m (by omega) (by omega) r' fun q => z (by omega)
      rcases Nat.lt_or_ge j k with lt | ge
      · exact r i j ij lt
      · have e : j = k := by omega
        have := vv_ne O hp (i := k) (j := k - 1) (by omega) (by omega) (by omega)
        rw [e]
        rcases Nat.lt_or_ge i (k - 1) with lt | ge'
        · have := r i (k - 1) lt (by omega)
          omega
        · rw [show i = k - 1 by omega]
          omega
theorem desc_ok (O : Or n rk cmp s) (hp : Pm p n) : ∀ (f k : Nat) {Q : Array Nat × Nat × Nat → Shared → Prop}, 1 ≤ k → k + f ≤ n → De rk p k → (∀ m, k ≤ m → m ≤ k + f → De rk p m → Q (p, m, 0) s) → (kas_desc f p k 0).kasWp cmp Q s
  | 0, k, Q, h1, h2, r, h => h k (Nat.le_refl _) (Nat.le_refl _) r
  | f + 1, k, Q, h1, h2, r, h => by
    refine O.ask _ _ _ (hp.lt (by omega)) (hp.lt (by omega)) ?_
    dsimp only
    by_cases c : vv rk p k < vv rk p (k - 1)
    · rw [show decide (rk (p.getD k 0) < rk (p.getD (k - 1) 0)) = true from decide_eq_true c, if_pos rfl, if_neg (Nat.lt_irrefl 0)]
      refine desc_ok O hp f (k + 1) (by omega) (by omega) (fun i j ij hj => ?_) fun m a b => h m (by omega) (by omega)
      rcases Nat.lt_or_ge j k with lt | ge
      · exact r i j ij lt
      · have e : j = k := by omega
        rw [e]
        rcases Nat.lt_or_ge i (k - 1) with lt | ge'
        · have := r i (k - 1) lt (by omega)
          omega
        · rw [show i = k - 1 by omega]
          exact c
    · rw [show decide (rk (p.getD k 0) < rk (p.getD (k - 1) 0)) = false from decide_eq_false c, if_neg Bool.false_ne_true]
      have := vv_ne O hp (i := k) (j := k - 1) (by omega) (by omega) (by omega)
      have d : vv rk p (k - 1) < vv rk p k := by omega
      refine O.ask _ _ _ (hp.lt (by omega)) (hp.lt (by omega)) ?_
      dsimp only
      rw [show decide (rk (p.getD (k - 1) 0) < rk (p.getD k 0)) = true from decide_eq_true d, if_pos rfl]
      exact h k (Nat.le_refl _) (by omega) r
theorem Pm.rev {m : Nat} (hp : Pm p n) : Pm (kas_rev p 0 m) n := (Array.perm_iff_toList_perm.mp (mirror_perm p 0 m _)).trans hp
theorem rev_ri {m : Nat} (hp : Pm p n) (hm : m ≤ n) (d : De rk p m) : Ri rk (kas_rev p 0 m) m := by
  have e : ∀ i, i < m → vv rk (kas_rev p 0 m) i = vv rk p (m - 1 - i) := fun i hi => vv_of (by
    have := getElem?_mirror_all (xs := p) (i := 0) (j := m) (by rw [hp.size]; exact hm) i
    rw [if_pos ⟨Nat.zero_le _, hi⟩, Nat.zero_add] at this
    exact this)
  intro i j ij hj
  rw [e i (by omega), e j hj]
  exact d _ _ (by omega) (by omega)
theorem count_ok (O : Or n rk cmp s) (hp : Pm p n) (h1 : 1 ≤ n) {Q : Nat × Array Nat → Shared → Prop} (h : ∀ m p', Pm p' n → 1 ≤ m → m ≤ n → Ri rk p' m → Q (m, p') s) : (kas_count n p).kasWp cmp Q s := by
  unfold kas_count
  rw [KasT.kasWp_bind]
  refine asc_ok O hp (n - 1) 1 (Nat.le_refl _) (by omega) (fun i j ij hj => absurd hj (by omega)) fun m a b r st => ?_
  by_cases c : m = n
  · rw [if_pos (beq_iff_eq.mpr c)]
    exact h m p hp a (by omega) r
  · rw [if_neg (fun z => c (beq_iff_eq.mp z))]
    by_cases d : m > 1
    · rw [if_pos d]
      refine O.ask _ _ _ (hp.lt (by omega)) (hp.lt (by omega)) ?_
      dsimp only
      rw [show decide (rk (p.getD 0 0) < rk (p.getD (m - 1) 0)) = true from decide_eq_true (r 0 (m - 1) (by omega) (by omega)), if_pos rfl]
      exact h m p hp a (by omega) r
    · rw [if_neg d]
      have e : m = 1 := by omega
      subst e
      unfold kas_descPart
      rw [KasT.kasWp_bind]
      refine desc_ok O hp _ _ (by omega) (by omega) (fun i j ij hj => ?_) fun m a' b' r' => ?_
      · have : i = 0 ∧ j = 1 := by omega
        rw [this.1, this.2]
        exact st (by omega)
      · rw [if_neg (Nat.lt_irrefl 0)]
        show (kas_tail3 m n p).kasWp cmp Q s
        unfold kas_tail3
        rw [KasT.kasWp_bind]
        have hn : n ≠ 1 := fun z => c z.symm
        have b2 : m ≤ n := by omega
        exact asc_ok O hp.rev (n - m) m (by omega) (by omega) (rev_ri hp b2 r') fun m' x y z _ => h m' _ hp.rev (by omega) (by omega) z
theorem place_ok (O : Or n rk cmp s) (hp : Pm p n) {k : Nat} (hk : k < n) : ∀ (f l r : Nat) {Q : Nat → Shared → Prop}, l ≤ r → r ≤ k → r - l ≤ f → (∀ i, i < l → vv rk p i < vv rk p k) → (∀ i, r ≤ i → i < k → vv rk p k < vv rk p i) →
    (∀ m, m ≤ k → (∀ i, i < m → vv rk p i < vv rk p k) → (∀ i, m ≤ i → i < k → vv rk p k < vv rk p i) → Q m s) → Ri rk p k → (kas_place p k f l r).kasWp cmp Q s
  | 0, l, r, Q, h1, h2, h3, a, b, h, ri => by
    have : l = r := by omega
    subst this
    exact h l h2 a b
  | f + 1, l, r, Q, h1, h2, h3, a, b, h, ri => by
    unfold kas_place
    by_cases c : l ≥ r
    · rw [if_pos c]
      have : l = r := by omega
      subst this
      exact h l h2 a b
    · rw [if_neg c]
      refine O.ask _ _ _ (hp.lt hk) (hp.lt (by omega)) ?_
      dsimp only
      by_cases d : vv rk p k < vv rk p ((l + r) / 2)
      · rw [show decide (rk (p.getD k 0) < rk (p.getD ((l + r) / 2) 0)) = true from decide_eq_true d, if_pos rfl]
        refine place_ok O hp hk f _ _ (by omega) (by omega) (by omega) a (fun i hi hk' => ?_) h ri
        rcases Nat.lt_or_ge ((l + r) / 2) i with lt | ge
        · exact Nat.lt_trans d (ri _ _ lt hk')
        · rw [show i = (l + r) / 2 by omega]
          exact d
      · rw [show decide (rk (p.getD k 0) < rk (p.getD ((l + r) / 2) 0)) = false from decide_eq_false d, if_neg Bool.false_ne_true]
        have := vv_ne O hp (i := k) (j := (l + r) / 2) hk (by omega) (by omega)
        refine place_ok O hp hk f _ _ (by omega) h2 (by omega) (fun i hi => ?_) b h ri
        rcases Nat.lt_or_ge i ((l + r) / 2) with lt | ge
        · have := ri i _ lt (by omega)
          omega
        · rw [show i = (l + r) / 2 by omega]
          omega
theorem bub_ri {k l : Nat} (hp : Pm p n) (hk : k < n) (hl : l ≤ k) (ri : Ri rk p k) (a : ∀ i, i < l → vv rk p i < vv rk p k) (b : ∀ i, l ≤ i → i < k → vv rk p k < vv rk p i) : Ri rk (bubble p k (k - l)) (k + 1) := by
  have e : ∀ i, i < k + 1 → vv rk (bubble p k (k - l)) i = if i = l then vv rk p k else if l < i then vv rk p (i - 1) else vv rk p i := fun i hi => by
    have g := getElem?_bubble (xs := p) (src := k) (by rw [hp.size]; exact hk) (k - l) (by omega) i
    rw [show k - (k - l) = l by omega] at g
    by_cases c : i = l
    · rw [if_pos c] at g ⊢
      exact vv_of g
    · rw [if_neg c] at g ⊢
      by_cases d : l < i
      · rw [if_pos ⟨d, by omega⟩] at g
        rw [if_pos d]
        exact vv_of g
      · rw [if_neg (fun z => d z.1)] at g
        rw [if_neg d]
        exact vv_of g
  intro i j ij hj
  rw [e i (by omega), e j hj]
  by_cases c : i = l
  · rw [if_pos c, if_neg (by omega), if_pos (by omega)]
    exact b _ (by omega) (by omega)
  · rw [if_neg c]
    by_cases d : j = l
    · rw [if_pos d, if_neg (by omega)]
      exact a i (by omega)
    · rw [if_neg d]
      by_cases c2 : l < i
      · rw [if_pos c2, if_pos (by omega)]
        exact ri _ _ (by omega) (by omega)
      · rw [if_neg c2]
        by_cases d2 : l < j
        · rw [if_pos d2]
          rcases Nat.lt_or_ge i (j - 1) with lt | ge
          · exact ri _ _ lt (by omega)
          · omega
        · rw [if_neg d2]
          exact ri _ _ ij (by omega)
theorem bin_ok (O : Or n rk cmp s) : ∀ (f k : Nat) (p : Array Nat) {Q : Array Nat → Shared → Prop}, Pm p n → k + f = n → Ri rk p k → (∀ p', Pm p' n → Ri rk p' n → Q p' s) → (kas_bin f p k).kasWp cmp Q s
  | 0, k, p, Q, hp, e, ri, h => h p hp (by rw [← e]; exact ri)
  | f + 1, k, p, Q, hp, e, ri, h => by
    unfold kas_bin
    rw [KasT.kasWp_bind]
    refine place_ok O hp (by omega) k 0 k (Nat.zero_le _) (Nat.le_refl _) (by omega) (fun i hi => absurd hi (by omega)) (fun i h1 h2 => absurd h1 (by omega)) (fun m hm a b => ?_) ri
    exact bin_ok O f (k + 1) _ ((Array.perm_iff_toList_perm.mp (bubble_perm p k _)).trans hp) (by omega) (bub_ri hp (by omega) hm ri a b) h
theorem sort_ok (O : Or n rk cmp s) (h1 : 1 ≤ n) {G : Array Nat → Shared → Prop} (h : ∀ p, Pm p n → Ri rk p n → G p s) : (kas_sort n).kasWp cmp G s := by
  unfold kas_sort
  rw [KasT.kasWp_bind]
  refine count_ok O (List.Perm.refl _) h1 fun m p hp a b ri => ?_
  by_cases c : m < n
  · rw [if_pos c]
    show (kas_bin (n - max m 1) p (max m 1)).kasWp cmp G s
    rw [show max m 1 = m by omega]
    exact bin_ok O _ _ p hp (by omega) ri h
  · rw [if_neg c]
    have : m = n := by omega
    subst this
    exact h p hp ri
end
end STb

set_option Elab.async false
set_option linter.all false
set_option maxRecDepth 100000
namespace STb
open PySem PySem.Spec PySem.SetTable
section
variable {prog : Program} {w : World} {A : Around} {E : Value → Shared → Prop} {s : Shared} {h₀ : Heap} {a : Addr}
noncomputable abbrev kd (prog : Program) (w : World) := strKind prog w
noncomputable def Nm (prog : Program) (w : World) (h : Heap) (v : Value) (k : List Str) : Prop := ∃ b, v = .ref b ∧ IsTupleKey (kd prog w) h k b
theorem Nm.inj {h : Heap} {v : Value} {k k' : List Str} (x : Nm prog w h v k) (y : Nm prog w h v k') : k = k' := by
  obtain ⟨b, rfl, x⟩ := x
  obtain ⟨_, e, y⟩ := y
  cases e
  exact x.inj y
noncomputable def Kp (h h' : Heap) : Prop := ∀ b o, h.get? b = some o → h'.get? b = some o
theorem Nm.kp {h h' : Heap} {v : Value} {k : List Str} (x : Nm prog w h v k) (z : Kp h h') : Nm prog w h' v k := by
  obtain ⟨b, e, o, it, n, h1, h2⟩ := x
  exact ⟨b, e, o, it, n, z b o h1, h2⟩
noncomputable abbrev hsh (prog : Program) (w : World) (k : List Str) : Int := tupleKeyHash (kd prog w) k
noncomputable def byT (w : World) : Bool := w.params.followText "set-order"
structure En (prog : Program) (w : World) (h : Heap) (es : List (Int × Value)) (vs : List Value) : Prop where
  of : ∀ e ∈ es, e.2 ∈ vs ∧ ∃ k, Nm prog w h e.2 k ∧ e.1 = hsh prog w k
  all : ∀ v ∈ vs, ∀ k, Nm prog w h v k → ∃ e ∈ es, Nm prog w h e.2 k
  one : es.Pairwise fun e e' => ∀ k, Nm prog w h e.2 k → ¬ Nm prog w h e'.2 k
theorem En.perm {h : Heap} {es es' : List (Int × Value)} {vs : List Value} (x : En prog w h es vs) (p : es'.Perm es) : En prog w h es' vs :=
  ⟨fun e he => x.of e (p.mem_iff.mp he), fun v hv k hk => let ⟨e, he, z⟩ := x.all v hv k hk; ⟨e, p.mem_iff.mpr he, z⟩, x.one.perm p.symm fun q k a b => q k b a⟩
theorem En.more {h : Heap} {es : List (Int × Value)} {vs : List Value} {v : Value} {k : List Str} (x : En prog w h es vs) (hv : Nm prog w h v k) (no : ∀ e ∈ es, ¬ Nm prog w h e.2 k) : En prog w h ((hsh prog w k, v) :: es) (vs ++ [v]) := by
  refine ⟨fun e he => ?_, fun u hu k' hk => ?_, List.pairwise_cons.mpr ⟨fun e he k' z => ?_, x.one⟩⟩
  · rcases List.mem_cons.mp he with rfl | he
    · exact ⟨List.mem_append_right _ (List.mem_singleton.mpr rfl), k, hv, rfl⟩
    · exact ⟨List.mem_append_left _ (x.of e he).1, (x.of e he).2⟩
  · rcases List.mem_append.mp hu with z | z
    · obtain ⟨e, he, z⟩ := x.all u z k' hk
      exact ⟨e, List.mem_cons_of_mem _ he, z⟩
    · rw [List.mem_singleton.mp z] at hk
      exact ⟨_, List.mem_cons_self, hk⟩
  · rw [← hv.inj z]
    exact no e he
theorem En.old {h : Heap} {es : List (Int × Value)} {vs : List Value} {v : Value} {k : List Str} (x : En prog w h es vs) (hv : Nm prog w h v k) (yes : ∃ e ∈ es, Nm prog w h e.2 k) : En prog w h es (vs ++ [v]) :=
  ⟨fun e he => ⟨List.mem_append_left _ (x.of e he).1, (x.of e he).2⟩, fun u hu k' hk => by
    rcases List.mem_append.mp hu with z | z
    · exact x.all u z k' hk
    · rw [List.mem_singleton.mp z] at hk
      rw [← hv.inj hk]
      exact yes, x.one⟩
structure SOk (prog : Program) (w : World) (h₀ : Heap) (es : Ents) (t : SetTable) (vs : List Value) : Prop where
  tb : Tb t es
  room : es.size * 5 < t.mask * 3
  led : t.led = !byT w
  en : En prog w h₀ es.toList vs
  pl : t.plain = true → ∀ e ∈ es.toList, Nm prog w h₀ e.2 []
  few : es.size ≤ vs.length
noncomputable def SetS (prog : Program) (w : World) (h₀ h : Heap) (a : Addr) (vs : List Value) : Prop := ∃ o es ep t, h.get? a = some o ∧ o.ExactSet ∧ o.data = .set es ep t ∧ SOk prog w h₀ es t vs
theorem SOk.fits {es : Ents} {t : SetTable} {vs : List Value} (x : SOk prog w h₀ es t vs) : t.fits es.size = true := by
  have := x.tb.fu
  unfold SetTable.fits SetTable.fill
  rw [x.tb.dm, x.tb.sz, Bool.and_eq_true]
  exact ⟨beq_self_eq_true _, decide_eq_true (by show es.size + 0 ≤ t.mask; omega)⟩
theorem str_not_class (d : Nat) {k : Str} {v : Value} (h : (kd prog w).is k v = true) : ofAClassStatement d v = pure false := by
  have := (kd prog w).byValue _ _ h
  cases v <;> first | (simp [carriedByValue] at this; done) | (cases d <;> rfl)
theorem items_not_class {Q : Bool → Shared → Prop} {v : Value} {k : List Str} (hv : Nm prog w s.heap v k) (h : Q false s) : wpAny (model prog w) A (ofAClassStatement 8 v) Q E s := by
  obtain ⟨b, rfl, kk⟩ := hv
  have ty := kk.typeIs
  obtain ⟨o, it, n, ho, hc, hd, hi⟩ := kk
  unfold ofAClassStatement
  refine wpAny_bind (wpAny_typeOf ty ?_)
  dsimp only
  refine wpAny_bind ?_
  refine wpAny_pure ?_
  rw [if_neg (by decide)]
  refine wpAny_bind (wpAny_seqItems ho hd ?_)
  dsimp only
  refine wpAny_bind ?_
  show wpAny _ _ (forIn it _ _) _ _ s
  rw [← Array.forIn_toList]
  have each : ∀ u ∈ it.toList, ofAClassStatement 7 u = pure false := by
    generalize it.toList = l at hi
    clear hd
    induction hi with
    | nil => intro u hu; cases hu
    | cons q _ ih =>
      intro u hu
      rcases List.mem_cons.mp hu with rfl | hu
      · exact str_not_class 7 q
      · exact ih u hu
  refine wpAny_forIn_list _ (fun rest r s' => r.1 = none ∧ s' = s ∧ rest ⊆ it.toList) _ (fun v rest r s' => ?_) (fun r s' => ?_) _ _ ⟨rfl, rfl, List.Subset.refl _⟩
  · rintro ⟨_, rfl, sub⟩
    rw [each v (sub List.mem_cons_self)]
    exact wpAny_bind (wpAny_pure (wpAny_pure ⟨rfl, rfl, fun u hu => sub (List.mem_cons_of_mem _ hu)⟩))
  · obtain ⟨r1, r2⟩ := r
    rintro ⟨hr, rfl, _⟩
    cases hr
    exact wpAny_pure h
theorem unseen {Q : Bool → Shared → Prop} {x : Value} {k : List Str} (hx : Nm prog w s.heap x k) (ys : List Value) (hy : ∀ y ∈ ys, ∃ k', Nm prog w s.heap y k') (h : Q false s) : wpAny (model prog w) A (searchCouldBeSeen x ys) Q E s := by
  unfold searchCouldBeSeen
  refine wpAny_bind ?_
  refine wpAny_forIn_list _ (fun rest r s' => r.1 = none ∧ s' = s ∧ rest ⊆ ys) _ (fun v rest r s' => ?_) (fun r s' => ?_) _ _ ⟨rfl, rfl, List.Subset.refl _⟩
  · rintro ⟨_, rfl, sub⟩
    have nxt : (none : Option Bool) = none ∧ s' = s' ∧ rest ⊆ ys := ⟨rfl, rfl, fun u hu => sub (List.mem_cons_of_mem _ hu)⟩
    obtain ⟨k', hv⟩ := hy v (sub List.mem_cons_self)
    obtain ⟨b, eb, kb⟩ := id hx
    obtain ⟨c, ec, kc⟩ := id hv
    dsimp only
    rw [eb, ec]
    by_cases cc : (b == c || carriedByValue (Value.ref b) && carriedByValue (Value.ref c)) = true
    · exact wpAny_of_eq (if_pos cc) nxt
    · refine L2.wpAny_of_eq' (if_neg cc) (wpAny_bind (wpAny_eqIsQuiet_tuple kb (wpAny_bind (wpAny_eqIsQuiet_tuple kc (wpAny_bind (items_not_class ⟨b, rfl, kb⟩ (wpAny_bind (items_not_class ⟨c, rfl, kc⟩ (wpAny_pure ?_)))))))))
      exact nxt
  · obtain ⟨r1, r2⟩ := r
    rintro ⟨hr, rfl, _⟩
    cases hr
    exact wpAny_pure h

theorem sizeOf_at {es : Ents} {t : SetTable} (T : Tb t es) {i j : Nat} (h : t.place[i]? = some j) : ∃ e, es[i]? = some e := by
  have := (Array.getElem?_eq_some_iff.mp h).1
  rw [T.sz] at this
  exact ⟨_, Array.getElem?_eq_getElem this⟩
theorem odd_mask {es : Ents} {t : SetTable} (T : Tb t es) : t.gaveWay = false := by
  unfold gaveWay
  rcases T.ms with e | e | e <;> rw [e] <;> rfl
theorem search_ok {es : Ents} {t : SetTable} {vs : List Value} {o : Obj} {ep : Nat} {x : Value} {k : List Str} (hu : A.units < cLine) (S : SOk prog w h₀ es t vs) (z : Kp h₀ s.heap) (ho : s.heap.get? a = some o) (hd : o.data = .set es ep t) (hx : Nm prog w h₀ x k) {Q : SetFound → Shared → Prop}
    (h1 : (∃ e ∈ es.toList, Nm prog w h₀ e.2 k) → Q (.there none) s)
    (h2 : ∀ q, (nth t.mask q (st t.mask (hsh prog w k))).j ∉ t.place.toList → (∀ r, r < q → (nth t.mask r (st t.mask (hsh prog w k))).j ∈ t.place.toList) → (∀ e ∈ es.toList, ¬ Nm prog w h₀ e.2 k) → Q (.free (nth t.mask q (st t.mask (hsh prog w k))).j false) s)
    {K : Nat} (hK : K < 10 * turns t.mask) (fK : (nth t.mask K (st t.mask (hsh prog w k))).j ∉ t.place.toList) :
    ∀ (f k0 : Nat) (sd : Option Probe), sd.getD (t.probeStart (hsh prog w k)) = nth t.mask k0 (st t.mask (hsh prog w k)) → k0 ≤ K → K < k0 + f →
      (∀ q, q < k0 → ∃ (i : Nat) (e : Int × Value), t.place[i]? = some (nth t.mask q (st t.mask (hsh prog w k))).j ∧ es[i]? = some e ∧ ¬ Nm prog w h₀ e.2 k) →
      wpAny (model prog w) A (setSearchFrom a x (hsh prog w k) true f sd) Q E s
  | 0, k0, sd, _, h3, h4, _ => absurd h4 (by omega)
  | f + 1, k0, sd, hs, h3, h4, h5 => by
    have fit := S.fits
    have T := S.tb
    obtain ⟨k', g1, g2, g3, g4⟩ := go_spec T (ha := fun i => (es[i]?.map (·.1)).getD 0) (hsh prog w k) (10 * turns t.mask) k0 K h3 (by omega) fK
    have h5' : ∀ q, q < k' → ∃ (i : Nat) (e : Int × Value), t.place[i]? = some (nth t.mask q (st t.mask (hsh prog w k))).j ∧ es[i]? = some e ∧ ¬ Nm prog w h₀ e.2 k := fun q hq => by
      rcases Nat.lt_or_ge q k0 with lt | ge
      · exact h5 q lt
      · obtain ⟨i, i1, i2⟩ := g3 q ge hq
        obtain ⟨e, he⟩ := sizeOf_at T i1
        refine ⟨i, e, i1, he, fun n => i2 ?_⟩
        obtain ⟨_, k2, n2, e2⟩ := S.en.of e (List.mem_iff_getElem?.mpr ⟨i, by rw [Array.getElem?_toList]; exact he⟩)
        show (es[i]?.map (·.1)).getD 0 = _
        rw [he, n.inj n2]
        exact e2
    unfold setSearchFrom
    refine wpAny_bind (wpAny_setState_of ho hd fit ?_)
    dsimp only
    rw [odd_mask T, hs, if_neg Bool.false_ne_true]
    generalize hp : t.probe _ (hsh prog w k) (nth t.mask k0 (st t.mask (hsh prog w k))) = pm
    rcases g4 with ⟨e1, e2⟩ | ⟨i, e1, e2, e3, e4⟩
    · obtain rfl : _ = pm := e1.symm.trans hp
      refine wpAny_pure (h2 k' e2 (fun r hr => ?_) fun e he n => ?_)
      · obtain ⟨i, _, q, _⟩ := h5' r hr
        exact mem_at q
      · obtain ⟨i, hi⟩ := List.mem_iff_getElem?.mp he
        rw [Array.getElem?_toList] at hi
        have hl : i < t.place.size := by rw [T.sz]; exact (Array.getElem?_eq_some_iff.mp hi).1
        obtain ⟨_, k2, n2, q2⟩ := S.en.of e he
        rw [← n.inj n2] at q2
        obtain ⟨c, c1, c2⟩ := T.re i _ e (Array.getElem?_eq_getElem hl) hi
        rw [q2] at c1 c2
        rcases Nat.lt_trichotomy c k' with lt | eq | gt
        · obtain ⟨i', e', p1, p2, p3⟩ := h5' c lt
          rw [c1] at p1
          have := T.up.inj p1 (Array.getElem?_eq_getElem hl)
          rw [this, hi] at p2
          cases p2
          exact p3 n
        · rw [← eq, c1] at e2
          exact e2 (mem_at (Array.getElem?_eq_getElem hl))
        · exact e2 (c2 k' gt)
    · obtain ⟨e, he⟩ := sizeOf_at T e2
      have hm : e ∈ es.toList := List.mem_iff_getElem?.mpr ⟨i, by rw [Array.getElem?_toList]; exact he⟩
      obtain ⟨_, k2, n2, _⟩ := S.en.of e hm
      obtain ⟨eh, ev⟩ := e
      obtain ⟨b, rfl, kb⟩ := hx
      obtain ⟨c, rfl, kc⟩ := n2
      have kb' : IsTupleKey (kd prog w) s.heap k b := let ⟨_, e, q⟩ := Nm.kp ⟨b, rfl, kb⟩ z; by cases e; exact q
      have kc' : IsTupleKey (kd prog w) s.heap k2 c := let ⟨_, e, q⟩ := Nm.kp ⟨c, rfl, kc⟩ z; by cases e; exact q
      obtain rfl : _ = pm := e1.symm.trans hp
      dsimp only
      cases hl : t.led
      case' false =>
        refine wpAny_bind (unseen (Nm.kp ⟨b, rfl, kb⟩ z) _ (fun y hy => ?_) ?_)
        · obtain ⟨e', he', rfl⟩ := List.mem_map.mp hy
          rw [Array.toList_filter] at he'
          obtain ⟨_, k3, n3, _⟩ := S.en.of e' (List.mem_filter.mp he').1
          exact ⟨k3, n3.kp z⟩
        rw [if_neg Bool.false_ne_true]
      case' true => rw [if_neg (by decide)]
      all_goals
        rw [he]
        refine wpAny_bind (wpAny_holding (wpAny_eqBool_tuple hu kc' kb' ?_))
        refine wpAny_bind (wpAny_setState_of ho hd fit ?_)
        by_cases q : k2 = k
        · subst q
          rw [decide_eq_true rfl]
          exact wpAny_pure (h1 ⟨_, hm, c, rfl, kc⟩)
        · rw [decide_eq_false q]
          have same : t.sameMemory t.moves t.mask = some true := by unfold sameMemory; rw [if_pos (beq_self_eq_true _)]
          dsimp only
          rw [if_neg (by decide), same]
          dsimp only
          rw [if_pos rfl, slot_live T.up e2]
          dsimp only
          rw [he]
          refine wpAny_bind (wpAny_isSame_ref_self ?_)
          refine wpAny_bind (wpAny_pure ?_)
          refine search_ok hu S z ho hd ⟨b, rfl, kb⟩ h1 h2 hK fK f (k' + 1) _ rfl (by omega) (by omega) fun q' hq' => ?_
          rcases Nat.lt_or_ge q' k' with lt | ge
          · exact h5' q' lt
          · rw [show q' = k' by omega]
            exact ⟨i, _, e2, he, fun n => q (Nm.inj ⟨c, rfl, kc⟩ n)⟩

theorem str_by_val (d : Nat) {k : Str} {v : Value} (h : (kd prog w).is k v = true) : hashByValue d v = pure false := by
  cases v with
  | str x t => cases d <;> rfl
  | _ => exact nomatch (show false = true from h)
theorem by_val {Q : Bool → Shared → Prop} {v : Value} {k : List Str} (hv : Nm prog w s.heap v k) (h : Q k.isEmpty s) : wpAny (model prog w) A (hashByValue 8 v) Q E s := by
  obtain ⟨b, rfl, kk⟩ := hv
  have ty := kk.typeIs
  obtain ⟨o, it, n, ho, hc, hd, hi⟩ := kk
  unfold hashByValue
  refine wpAny_bind (wpAny_specialOf ty F.slot_tuple_hash.lookup ?_)
  show wpAny _ _ (do
    for x in (← seqItems? (.ref b)).getD #[.ellipsis] do
      if !(← hashByValue 7 x) then return false
    return true) _ _ s
  refine wpAny_bind (wpAny_seqItems ho hd ?_)
  refine wpAny_bind ?_
  show wpAny _ _ (forIn it _ _) _ _ s
  rw [← Array.forIn_toList]
  generalize it.toList = l at hi
  clear hd
  cases hi with
  | nil =>
    rw [List.forIn_nil]
    exact wpAny_pure (wpAny_pure h)
  | cons q _ =>
    rw [List.forIn_cons, str_by_val 7 q]
    exact wpAny_bind (wpAny_bind (wpAny_pure (wpAny_pure (wpAny_pure (wpAny_pure h)))))
theorem SOk.put {es : Ents} {t : SetTable} {vs : List Value} {v : Value} {k : List Str} {q : Nat} {b : Bool} (S : SOk prog w h₀ es t vs) (hv : Nm prog w h₀ v k) (fr : (nth t.mask q (st t.mask (hsh prog w k))).j ∉ t.place.toList) (pr : ∀ r, r < q → (nth t.mask r (st t.mask (hsh prog w k))).j ∈ t.place.toList) (no : ∀ e ∈ es.toList, ¬ Nm prog w h₀ e.2 k) (hl : vs.length < 63) (hb : b = true → t.plain = true ∧ k = []) :
    ∃ p, p ≤ es.size ∧ t.put (nth t.mask q (st t.mask (hsh prog w k))).j = ({ t with place := insertAt t.place p (nth t.mask q (st t.mask (hsh prog w k))).j }, p) ∧
      Tb { t with place := insertAt t.place p (nth t.mask q (st t.mask (hsh prog w k))).j, plain := b } (insertAt es p (hsh prog w k, v)) ∧
      En prog w h₀ (insertAt es p (hsh prog w k, v)).toList (vs ++ [v]) ∧ (insertAt es p (hsh prog w k, v)).size = es.size + 1 ∧ (b = true → ∀ e ∈ (insertAt es p (hsh prog w k, v)).toList, Nm prog w h₀ e.2 []) := by
  have room := S.room
  have few := S.few
  have hj : ∀ r, (nth t.mask r (st t.mask (hsh prog w k))).j < t.mask + 1 := by
    have key : ∀ r, (nth t.mask r (st t.mask (hsh prog w k))).j + (nth t.mask r (st t.mask (hsh prog w k))).more < t.mask + 1 := by
      intro r
      induction r with
      | zero =>
        show bits (hsh prog w k) % (t.mask + 1) + (runEnd t.mask (bits (hsh prog w k) % (t.mask + 1)) - bits (hsh prog w k) % (t.mask + 1)) < t.mask + 1
        have : bits (hsh prog w k) % (t.mask + 1) < t.mask + 1 := Nat.mod_lt _ (Nat.succ_pos t.mask)
        unfold runEnd
        split <;> omega
      | succ r ih =>
        rw [nth_succ]
        generalize nth t.mask r (st t.mask (hsh prog w k)) = pp at ih
        unfold adv
        split
        · show pp.j + 1 + (pp.more - 1) < _
          omega
        · generalize hg : (pp.i * 5 + 1 + pp.perturb / 32) % (t.mask + 1) = g
          have : g < t.mask + 1 := by rw [← hg]; exact Nat.mod_lt _ (Nat.succ_pos _)
          show g + (runEnd t.mask g - g) < _
          unfold runEnd
          split <;> omega
    intro r
    have := key r
    omega
  have hf : es.size + 1 < t.mask + 1 := by
    rcases S.tb.ms with e | e | e <;> rw [e] at room ⊢ <;> omega
  obtain ⟨p, h1, h2, h3⟩ := S.tb.put (x := v) (b := b) fr pr (hj q) hf
  refine ⟨p, h1, h2, h3, (S.en.more hv no).perm (ins_perm es p _), ins_size h1 _, fun eb e he => ?_⟩
  obtain ⟨e1, e2⟩ := hb eb
  rcases List.mem_cons.mp ((ins_perm es p _).mem_iff.mp he) with rfl | z
  · rw [← e2]; exact hv
  · exact S.pl e1 e z
theorem store_get {o : Obj} {es es' : Ents} {ep : Nat} {t t' : SetTable} {h : Heap} (ho : h.get? a = some o) (hd : o.data = .set es ep t) : (h.update a (Obj.putSet es' t')).get? a = some { o with data := .set es' (ep + 1) t' } := by
  have := Heap.get?_update_self (Obj.putSet es' t') ho (by rw [putSet_of es' t' hd]; rfl)
  rw [putSet_of es' t' hd] at this
  exact this
theorem relay_ok {o : Obj} {es : Ents} {ep : Nat} {t : SetTable} {vs : List Value} {n : Nat} (ho : s.heap.get? a = some o) (hx : o.ExactSet) (hd : o.data = .set es ep t) (T : Tb t es) (en : En prog w h₀ es.toList vs) (pl : t.plain = true → ∀ e ∈ es.toList, Nm prog w h₀ e.2 []) (led : t.led = !byT w)
    (few : es.size ≤ vs.length) (hw : Mk (sizeAbove n - 1)) (hz : sizeAbove n ≤ sizeLine) (room : es.size * 5 < (sizeAbove n - 1) * 3) {Q : Unit → Shared → Prop} (h : ∀ h', Heap.SameBut a s.heap h' → SetS prog w h₀ h' a vs → Q () { s with heap := h' }) : wpAny (model prog w) A (setRelay a n) Q E s := by
  have fu : es.size < sizeAbove n - 1 + 1 := by omega
  obtain ⟨t', od, e1, e2, e3, e4, T', pm⟩ := Tb.relay (t := t) hw fu
  have sz : (od.filterMap (es[·]?)).size = es.size := by rw [← Array.length_toList, pm.length_eq, Array.length_toList]
  have fit : t.fits es.size = true := by
    have := T.fu
    unfold SetTable.fits SetTable.fill
    rw [T.dm, T.sz, Bool.and_eq_true]
    exact ⟨beq_self_eq_true _, decide_eq_true (by show es.size + 0 ≤ t.mask; omega)⟩
  unfold setRelay
  refine wpAny_bind (wpAny_setState_of ho hd fit ?_)
  dsimp only
  rw [if_neg (Nat.not_lt.mpr hz), e1]
  refine wpAny_bind (show wpAny _ _ (do
    let es' := od.filterMap (es[·]?)
    if es'.size != es.size then unsupported "internal:set-table-lost-an-element"
    pure (es', t')) _ _ s from ?_)
  dsimp only
  rw [sz, if_neg (by simp)]
  refine wpAny_pure ?_
  dsimp only
  have z63 : es.size ≤ sizeLine := by rw [sizeLine_eq] at hz ⊢; omega
  refine wpAny_storeSet_of ho hd (h _ (Heap.SameBut.update s.heap a _) ⟨_, _, _, t', store_get ho hd, hx, rfl, ⟨T', by rw [sz, e4]; exact room, e2.trans led, en.perm pm, fun q e he => pl (e3 ▸ q) e (pm.mem_iff.mp he), by rw [sz]; exact few⟩⟩) (by rw [sz]; exact z63)
theorem add_ok {vs : List Value} {v : Value} {k : List Str} (hu : A.units < cLine) (S : SetS prog w h₀ s.heap a vs) (z : Kp h₀ s.heap) (hv : Nm prog w h₀ v k) (hl : vs.length < 63) {Q : Bool → Shared → Prop}
    (h : ∀ r h' tk, Heap.SameBut a s.heap h' → SetS prog w h₀ h' a (vs ++ [v]) → Q r { s with heap := h', toks := tk }) : wpAny (model prog w) A (setAdd a v) Q E s := by
  obtain ⟨o, es, ep, t, ho, hx, hd, S⟩ := S
  have fit := S.fits
  have hn := hv.kp z
  obtain ⟨b, e, kb⟩ := id hn
  subst e
  obtain ⟨K, hK, fK⟩ := far S.tb (hsh prog w k)
  have K9 : K < 100000 := by
    have : turns t.mask ≤ 142 := by
      unfold turns
      rcases S.tb.ms with e | e | e <;> rw [e] <;> decide
    omega
  unfold setAdd
  refine wpAny_holding (wpAny_bind (wpAny_pyHash_tuple hu kb ?_))
  unfold setAddHashed setAddHashedIn setSearch
  refine wpAny_holding (wpAny_bind (wpAny_setState_of (s := { s with toks := s.toks + (k.length + 1) }) ho hd fit ?_))
  dsimp only
  rw [if_neg (show ¬ byScan (.ref b) es = true by unfold byScan; rw [show Value.scannable (.ref b) = false from rfl]; simp)]
  refine wpAny_bind (search_ok (s := { s with toks := s.toks + (k.length + 1) }) hu S z ho hd hv (fun yes => ?_) (fun q fr pr no => ?_) hK fK 100000 0 none rfl (Nat.zero_le _) (by omega) fun q hq => absurd hq (Nat.not_lt_zero _))
  · exact wpAny_pure (h false s.heap _ (Heap.SameBut.refl _ _) ⟨o, es, ep, t, ho, hx, hd, S.tb, S.room, S.led, S.en.old hv yes, S.pl, by rw [List.length_append]; have := S.few; omega⟩)
  · dsimp only
    refine wpAny_bind (wpAny_setState_of (s := { s with toks := s.toks + (k.length + 1) }) ho hd fit ?_)
    dsimp only
    have few := S.few
    have room := S.room
    have fin : ∀ (bv : Bool) (r : Bool), (t.plain = true → bv = k.isEmpty) → ∀ tk, wpAny (model prog w) A (do
        let t2 := (if bv then (t.put (nth t.mask q (st t.mask (hsh prog w k))).j).1 else { (t.put (nth t.mask q (st t.mask (hsh prog w k))).j).1 with plain := false })
        storeSet a (insertAt es (t.put (nth t.mask q (st t.mask (hsh prog w k))).j).2 (hsh prog w k, .ref b)) t2
        if !false && t2.tooFull then setRelay a (SetTable.grown (es.size + 1))
        return true) Q E { s with toks := tk } := by
      intro bv _ hbv tk
      obtain ⟨p, p1, p2, p3, p4, p5, p6⟩ := S.put (b := t.plain && bv) hv fr pr no hl (fun e => by
        obtain ⟨x1, x2⟩ := Bool.and_eq_true_iff.mp e
        rw [hbv x1] at x2
        exact ⟨x1, List.isEmpty_iff.mp x2⟩)
      rw [p2]
      have et : (if bv then ({ t with place := insertAt t.place p (nth t.mask q (st t.mask (hsh prog w k))).j } : SetTable) else { ({ t with place := insertAt t.place p (nth t.mask q (st t.mask (hsh prog w k))).j } : SetTable) with plain := false }) = { t with place := insertAt t.place p (nth t.mask q (st t.mask (hsh prog w k))).j, plain := t.plain && bv } := by
        cases bv
        · rw [Bool.and_false]; rfl
        · rw [Bool.and_true]; rfl
      dsimp only
      rw [et]
      have p3' := p3
      generalize ht : ({ t with place := insertAt t.place p (nth t.mask q (st t.mask (hsh prog w k))).j, plain := t.plain && bv } : SetTable) = t2 at p3'
      have tl : t2.led = !byT w := by rw [← ht]; exact S.led
      have tm : t2.mask = t.mask := by rw [← ht]
      have tp : t2.plain = (t.plain && bv) := by rw [← ht]
      have fill : t2.fill = es.size + 1 := by
        unfold SetTable.fill
        rw [p3'.dm, p3'.sz, p5]
        rfl
      have z63 : (insertAt es p (hsh prog w k, Value.ref b)).size ≤ sizeLine := by rw [p5, sizeLine_eq]; omega
      refine wpAny_bind (wpAny_storeSet_of (s := { s with toks := tk }) ho hd ?_ z63)
      have sb := Heap.SameBut.update s.heap a (Obj.putSet (insertAt es p (hsh prog w k, Value.ref b)) t2)
      have g := store_get (es' := insertAt es p (hsh prog w k, Value.ref b)) (t' := t2) ho hd
      have f2 : (insertAt es p (hsh prog w k, Value.ref b)).size ≤ (vs ++ [Value.ref b]).length := by rw [p5, List.length_append]; show es.size + 1 ≤ vs.length + 1; omega
      cases full : t2.tooFull with
      | false =>
        refine wpAny_pure (h true _ tk sb ⟨_, _, _, t2, g, hx, rfl, p3', ?_, tl, p4, fun e => p6 (tp ▸ e), f2⟩)
        unfold tooFull at full
        have := of_decide_eq_false full
        rw [fill] at this
        rw [p5]
        omega
      | true =>
        have fu := of_decide_eq_true (show decide (t2.fill * 5 ≥ t2.mask * 3) = true from full)
        rw [fill, tm] at fu
        have two : (t.mask = 7 ∧ es.size + 1 = 5) ∨ (t.mask = 31 ∧ es.size + 1 = 19) := by
          rcases S.tb.ms with e | e | e <;> rw [e] at fu room
          · exact .inl ⟨e, by omega⟩
          · exact .inr ⟨e, by omega⟩
          · omega
        have sz : ∃ n, sizeAbove (SetTable.grown (es.size + 1)) = n ∧ Mk (n - 1) ∧ n ≤ sizeLine ∧ (es.size + 1) * 5 < (n - 1) * 3 := by
          rcases two with ⟨_, e⟩ | ⟨_, e⟩ <;> rw [e]
          · exact ⟨32, by decide, .inr (.inl rfl), by rw [sizeLine_eq]; decide, by decide⟩
          · exact ⟨128, by decide, .inr (.inr rfl), by rw [sizeLine_eq]; decide, by decide⟩
        obtain ⟨n, n1, n2, n3, n4⟩ := sz
        refine wpAny_bind (relay_ok (s := { s with toks := tk, heap := s.heap.update a (Obj.putSet (insertAt es p (hsh prog w k, Value.ref b)) t2) }) (h₀ := h₀) (vs := vs ++ [Value.ref b]) g hx rfl p3' p4 (fun e => p6 (tp ▸ e)) tl f2 (by rw [n1]; exact n2) (by rw [n1]; exact n3) (by rw [p5, n1]; exact n4) fun h' sb' S' => ?_)
        exact wpAny_pure (h true h' tk (sb.trans sb') S')
    have hpl : (t.put (nth t.mask q (st t.mask (hsh prog w k))).j).1.plain = t.plain := by unfold PySem.SetTable.put; rfl
    show wpAny _ _ (if (t.put (nth t.mask q (st t.mask (hsh prog w k))).j).1.plain = true then _ else _) _ _ _
    rw [hpl]
    cases hp : t.plain with
    | true =>
      rw [if_pos rfl]
      refine wpAny_bind (by_val (s := { s with toks := s.toks + (k.length + 1) }) ⟨b, rfl, kb⟩ ?_)
      exact fin k.isEmpty true (fun _ => rfl) _
    | false =>
      rw [if_neg Bool.false_ne_true]
      refine wpAny_bind (wpAny_pure ?_)
      exact fin true true (fun e => nomatch hp.symm.trans e) _
end
end STb

set_option Elab.async false
set_option linter.all false
set_option maxRecDepth 100000
namespace STb
open PySem PySem.Spec PySem.SetTable PyProof.Rows
section
variable {prog : Program} {w : World} {A : Around} {E : Value → Shared → Prop} {s : Shared} {h₀ : Heap} {a : Addr}
noncomputable abbrev emptyS (ld : Bool) : Obj := { cls := .type "set", dict := none, data := .set #[] 0 (.fresh 0 0 ld) }
theorem new_led (x : Value) {Q : Value → Shared → Prop} (h : Q (.ref s.heap.objs.size) { s with heap := s.heap.push (emptyS (!byT w)) }) :
    codeAny (model prog w) A (.call (.builtin "set.__new__") ⟨[.type "set", x], []⟩) (wants Q E) s := by
  refine codeAny_of_tree (show wpAny _ A.in1 (checkBuiltinCall "set.__new__" ⟨[.type "set", x], []⟩ >>= fun _ => again (.builtin "set.__new__" ⟨[.type "set", x], []⟩)) _ _ s from ?_)
  refine wpAny_bind (wpAny_of_eq (F.newCall_set_1 x) (wpAny_pure ⟨plainId_quiet F.plain_set_new _, codeAny_builtin F.entry_set_new ?_⟩))
  rw [Around.under_plainId F.plain_set_new _]
  unfold Builtin.«set.__new__» Builtin.Frozenset.newClass
  have sub := sub_set_self
  obtain ⟨hp, g, d, tk, os⟩ := s
  wp_walk
  refine wpAny_askSetting (wpAny_pure ?_)
  simp only [newObj]
  exact wpAny_bind (wpAny_alloc (wpAny_pure (wpAny_pure h)))
theorem empty_ok : SOk prog w h₀ #[] (.fresh 0 0 (!byT w)) [] :=
  ⟨⟨rfl, .inl rfl, rfl, fun _ _ _ _ _ z => (by simp [SetTable.fresh] at z), fun _ z => (by simp [SetTable.fresh] at z), (show 0 < 8 by decide), fun _ _ _ z => (by simp [SetTable.fresh] at z)⟩, (show 0 < 21 by decide), rfl, ⟨fun _ z => (by simp at z), fun _ z => (nomatch z), .nil⟩, fun _ _ z => (by simp at z), Nat.le_refl _⟩
theorem loop_ok {S I ax : Addr} {items : Array Value} {R : Result → Shared → Prop} (hu : A.in1.units < cLine) (hh : A.handled = none) (hne : ax ≠ I) (hSI : S ≠ I) (hSx : S ≠ ax) (n0 : h₀.get? S = none) (nI : h₀.get? I = none) (hz : items.size ≤ 63) (hnm : ∀ v ∈ items.toList, ∃ k, Nm prog w h₀ v k) :
    ∀ (k i : Nat) (s : Shared), items.size - i = k → i ≤ items.size → s.heap.IsListIter I ax i → s.heap.IsList ax items → Kp h₀ s.heap → SetS prog w h₀ s.heap S (items.toList.take i) →
      (∀ h' tk, (∀ b o, b ≠ S → b ≠ I → s.heap.get? b = some o → h'.get? b = some o) → Kp h₀ h' → SetS prog w h₀ h' S items.toList → R (.ok (.ret .none)) { s with heap := h', toks := tk }) →
      codeAny (model prog w) A (.builtin "set.update.loop" ⟨[.ref S, .ref I], []⟩) R s
  | 0, i, s, hk, hi, it, il, kp, st, hR => by
    obtain rfl : i = items.size := by omega
    refine codeAny_builtin F.entry_set_update_loop ?_
    rw [Around.under_plainId F.plain_set_update_loop _]
    refine (show wpAny _ A.in1 (pyNext (.ref I) >>= _) _ _ s from wpAny_bind (wpAny_pyNext_list_end (by simpa using hh) it il (by simp) fun h' eb => ?_))
    rw [List.take_of_length_le (by simp)] at st
    refine (show wpAny _ A.in1 (ret Value.none) _ _ _ from wpAny_pure (hR h' s.toks (fun b o _ hb e => eb b o hb e) (fun b o e => eb b o (fun z => by rw [z, nI] at e; cases e) (kp b o e)) ?_))
    obtain ⟨o, es, ep, t, ho, r⟩ := st
    exact ⟨o, es, ep, t, eb S o hSI ho, r⟩
  | k + 1, i, s, hk, hi, it, il, kp, st, hR => by
    have lt : i < items.size := by omega
    have ev : items[i]? = some items[i] := Array.getElem?_eq_getElem lt
    have mv : items[i] ∈ items.toList := List.mem_iff_getElem?.mpr ⟨i, by rw [Array.getElem?_toList]; exact ev⟩
    obtain ⟨k', nk⟩ := hnm _ mv
    refine codeAny_builtin F.entry_set_update_loop ?_
    rw [Around.under_plainId F.plain_set_update_loop _]
    refine (show wpAny _ A.in1 (pyNext (.ref I) >>= _) _ _ s from wpAny_bind (wpAny_pyNext_list_item it il ev fun h1 it1 sb1 => ?_))
    have kp1 : Kp h₀ h1 := fun b o e => (sb1.2 b (fun z => by rw [z, nI] at e; cases e)).trans (kp b o e)
    have st1 : SetS prog w h₀ h1 S (items.toList.take i) := by
      obtain ⟨o, es, ep, t, ho, r⟩ := st
      exact ⟨o, es, ep, t, (sb1.2 S hSI).trans ho, r⟩
    refine (show wpAny _ A.in1 (holding [items[i]] (setAdd S items[i]) >>= _) _ _ _ from wpAny_bind (wpAny_holding (add_ok (s := { s with heap := h1 }) hu st1 kp1 nk (by rw [List.length_take, Array.length_toList]; omega) fun r h2 tk sb2 st2 => ?_)))
    rw [show items.toList.take i ++ [items[i]] = items.toList.take (i + 1) by rw [List.take_add_one, Array.getElem?_toList, ev]; rfl] at st2
    have kp2 : Kp h₀ h2 := fun b o e => (sb2.2 b (fun z => by rw [z, n0] at e; cases e)).trans (kp1 b o e)
    have it2 : h2.IsListIter I ax (i + 1) := it1.at fun o e => (sb2.2 I hSI.symm).trans e
    have il2 : h2.IsList ax items := il.at fun o e => (sb2.2 ax hSx.symm).trans ((sb1.2 ax hne).trans e)
    refine wpAny_pure ⟨plainId_quiet F.plain_set_update_loop _, loop_ok hu hh hne hSI hSx n0 nI hz hnm k (i + 1) { s with heap := h2, toks := tk } (by omega) lt it2 il2 kp2 st2 fun h' tk' kk kp' st' => ?_⟩
    exact hR h' tk' (fun b o hb hb' e => kk b o hb hb' ((sb2.2 b hb).trans ((sb1.2 b hb').trans e))) kp' st'
set_option maxHeartbeats 4000000 in
theorem call_set {l : Addr} {items : Array Value} {Q : Value → Shared → Prop} (hu : A.units + 64 < cLine) (hh : A.handled = none) (hl : s.heap.IsList l items) (hz : items.size ≤ 63) (hnm : ∀ v ∈ items.toList, ∃ k, Nm prog w s.heap v k)
    (h : ∀ h' tk, Kp s.heap h' → SetS prog w s.heap h' s.heap.objs.size items.toList → Q (.ref s.heap.objs.size) { s with heap := h', toks := tk }) : wpAny (model prog w) A (call (.type "set") [.ref l]) Q E s := by
  obtain ⟨ld, hld⟩ : ∃ ld, ld = !byT w := ⟨_, rfl⟩
  have new0 := new_led (prog := prog) (w := w) (A := A.in1) (s := s) (.ref l) (E := E) (Q := fun obj s₁ => obj = .ref s.heap.objs.size ∧ s₁ = { s with heap := s.heap.push (emptyS (!byT w)) }) ⟨rfl, rfl⟩
  rw [← hld] at new0
  have g0 : (s.heap.push (emptyS ld)).get? s.heap.objs.size = some (emptyS ld) := Heap.get?_push_size _ rfl
  have kp0 : Kp s.heap (s.heap.push (emptyS ld)) := fun b o e => Heap.get?_push_of_some _ e
  have ty : Shared.TypeIs { s with heap := s.heap.push (emptyS ld) } (.ref s.heap.objs.size) "set" := ⟨_, g0, rfl⟩
  have hl1 : (s.heap.push (emptyS ld)).IsList l items := hl.push _
  have m := F.called_set
  obtain ⟨c, tl, m1⟩ := m.mro
  have m2 := m.made
  have m3 := m.sub
  have m4 := m.notType
  have m5 := m.canCreate
  have m6 := F.typeCall_set_1 (.ref l)
  refine wpAny_call (codeAny_of_tree (show wpAny _ _ (callAny (.type "set") _) _ _ _ from wpAny_pure ⟨Code.quiet_builtin _ (by decide +kernel), codeAny_builtin F.entry_type_call ?_⟩))
  rw [Around.under_plain (weight_type_call_type "set" [.ref l] []) rfl]
  repeat (any_goals (first | assumption | wp_step))
  refine codeAny_mono new0 fun r s₁ hr => ?_
  cases r with
  | error e => exact hr
  | ok fl =>
    cases fl with
    | ret obj =>
      obtain ⟨rfl, rfl⟩ := hr
      have n1 := m.init.lookup
      have n2 := m.init.bind (.ref s.heap.objs.size)
      repeat (any_goals (first | assumption | wp_step))
      refine codeAny_mono (codeAny_call_builtin (R := wants (fun r s₂ => r = .none ∧ ∃ h' tk, s₂ = { s with heap := h', toks := tk } ∧ Kp s.heap h' ∧ SetS prog w s.heap h' s.heap.objs.size items.toList) E) m.init.plain F.entry_set_init (check_set_init_1 ty ?_)) fun r₂ s₂ hr₂ => ?_
      · obtain ⟨ol, ho, hcl, nl, hdl⟩ := id hl1
        obtain ⟨ocls, odict, odata, oslots⟩ := ol
        simp only at hcl hdl
        subst hcl; subst hdl
        have f1 := F.sub_list_set
        have f2 := F.sub_list_frozenset
        have f3 : (Value.type "list" == Value.type "dict") = false := by decide
        unfold Builtin.«set.__init__» noKeywords Builtin.Frozenset.updateFrom
        generalize hp : pyIter = pi
        wp_walk
        subst hp
        refine wpAny_pyIter_list hl1 (wpAny_bind (wpAny_runValue ?_))
        have lS : l < s.heap.objs.size := by
          obtain ⟨o, e, _⟩ := hl
          exact Heap.lt_size e
        have sz : (s.heap.push (emptyS ld)).objs.size = s.heap.objs.size + 1 := Heap.size_push _ _
        have no : ∀ b, s.heap.objs.size ≤ b → s.heap.get? b = none := fun b hb => Heap.get?_none_of_le hb
        refine loop_ok (h₀ := s.heap) (S := s.heap.objs.size) (ax := l) (items := items) ?u ?v (by rw [sz]; exact Nat.ne_of_lt (Nat.lt_succ_of_lt lS)) (by rw [sz]; exact Nat.ne_of_lt (Nat.lt_succ_self _)) (Nat.ne_of_gt lS) (no _ (Nat.le_refl _)) (no _ (by rw [sz]; omega)) hz hnm items.size 0 _ (by omega) (Nat.zero_le _) ⟨_, Heap.get?_push_size _ rfl, rfl, rfl⟩ (hl1.push _) (fun b o e => Heap.get?_push_of_some _ (kp0 b o e)) ?st fun h' tk _ kp st => ?fin
        case st =>
          rw [List.take_zero]
          exact ⟨_, _, _, _, Heap.get?_push_of_some _ g0, ⟨rfl, rfl, rfl⟩, rfl, by rw [hld]; exact empty_ok⟩
        case v => simp [hh]
        case u => show A.units + 1 + 1 + 1 < _; omega
        case fin =>
          refine (show wpAny _ _ _ _ _ _ from wpAny_pure (show wpAny _ _ (ret Value.none) _ _ _ from wpAny_pure ⟨rfl, h', tk, rfl, kp, st⟩))
      · cases r₂ with
        | error e => exact hr₂
        | ok fl₂ =>
          cases fl₂ with
          | ret r =>
            obtain ⟨rfl, h', tk, rfl, hk', hS'⟩ := hr₂
            repeat (any_goals (first | assumption | wp_step))
            exact h _ _ hk' hS'
          | _ => exact hr₂.elim
    | _ => exact hr.elim
end
end STb

set_option Elab.async false
set_option linter.all false
set_option maxRecDepth 100000
namespace STb
open PySem PySem.Spec PySem.SetTable PyProof.Rows
theorem slot_si_next : Slot "set_iterator" "__next__" "set_iterator.__next__" :=
  .of (owner := "set_iterator") (n := "__next__") (by rw [typeLookup_type, builtinLookup_eq_fast]; kernel_rfl) (by decide +kernel) (by decide +kernel) (by decide +kernel) (by first | exact .inl (by decide +kernel) | exact .inr (by decide +kernel)) (by rw [isSubtype_type]; kernel_rfl)
theorem entry_si_next : entryFor table "set_iterator.__next__" = some Builtin.«set_iterator.__next__» := entryFor_of_fast (by kernel_rfl)
theorem args_si_next (a : Value) : argsOk "set_iterator.__next__" ⟨[a], []⟩ := by unfold argsOk; kernel_rfl
theorem slot_si_iter : Slot "set_iterator" "__iter__" "set_iterator.__iter__" :=
  .of (owner := "set_iterator") (n := "__iter__") (by rw [typeLookup_type, builtinLookup_eq_fast]; kernel_rfl) (by decide +kernel) (by decide +kernel) (by decide +kernel) (by first | exact .inl (by decide +kernel) | exact .inr (by decide +kernel)) (by rw [isSubtype_type]; kernel_rfl)
theorem entry_set_iter : entryFor table "set.__iter__" = some Builtin.«frozenset.__iter__» := entryFor_alias (id' := "frozenset.__iter__") (by kernel_rfl) rfl (by decide +kernel) (by kernel_rfl)
theorem erase_perm {α : Type} : ∀ {l : List α} {i : Nat} (h : i < l.length), (l[i] :: l.eraseIdx i).Perm l
  | x :: r, 0, _ => List.Perm.refl _
  | x :: r, i + 1, h => (List.Perm.swap x _ _).trans ((erase_perm (l := r) (i := i) (by simpa using h)).cons x)
theorem pick_perm {α : Type} (f : Nat → Nat) : ∀ (n k : Nat) (l : List α) (out : Array α), l.length = n → (pickOrder.go f n k l out).toList.Perm (out.toList ++ l)
  | 0, k, l, out, h => by
    rw [List.eq_nil_of_length_eq_zero h, List.append_nil]
    exact List.Perm.refl _
  | n + 1, k, l, out, h => by
    unfold pickOrder.go
    have hm : f k % l.length < l.length := Nat.mod_lt _ (by omega)
    rw [List.getElem?_eq_getElem hm]
    refine (pick_perm f n (k + 1) _ _ (by rw [List.length_eraseIdx_of_lt hm]; omega)).trans ?_
    rw [Array.toList_push, List.append_assoc]
    refine List.Perm.append_left _ ?_
    exact erase_perm hm
section
variable {prog : Program} {w : World} {A : Around} {E : Value → Shared → Prop} {s : Shared} {h₀ : Heap} {a : Addr}
theorem wp_choose' {n : Nat} {Q : Nat → Shared → Prop} (hn : n ≠ 0) (h : ∀ d, Q (w.draws .order (s.drawn.get .order) % n) { s with drawn := d }) : wpAny (model prog w) A (choose .order n) Q E s := fun _ _ _ => ⟨hn, h _⟩
theorem draw_ok {α : Type} : ∀ (n : Nat) (l : List α) (s : Shared) {Q : List α → Shared → Prop}, l.length = n → (∀ l' d, l'.Perm l → Q l' { s with drawn := d }) → wpAny (model prog w) A (drawOrder n l) Q E s
  | 0, l, s, Q, h, hQ => by
    rw [List.eq_nil_of_length_eq_zero h] at hQ ⊢
    exact wpAny_pure (hQ [] s.drawn (List.Perm.refl _))
  | n + 1, l, s, Q, h, hQ => by
    cases l with
    | nil => cases h
    | cons x r =>
      unfold drawOrder
      refine wpAny_bind (wp_choose' (by simp) fun d => ?_)
      have hm : w.draws .order (s.drawn.get .order) % (x :: r).length < (x :: r).length := Nat.mod_lt _ (by simp)
      rw [List.getElem?_eq_getElem hm]
      refine wpAny_bind (draw_ok n _ _ (by rw [List.length_eraseIdx_of_lt hm, h]; rfl) fun l' d' p => ?_)
      exact wpAny_pure (hQ _ d' ((p.cons _).trans (erase_perm hm)))
noncomputable def IsIt (h : Heap) (it : Addr) (first : Value) (i : Nat) (a : Addr) (n ep : Nat) : Prop := ∃ o, h.get? it = some o ∧ o.cls = .type "set_iterator" ∧ o.data = .fields #[first, .int i 0, .ref a, .int n 0, .int ep 0]
structure At (prog : Program) (w : World) (h : Heap) (a : Addr) (es : Ents) (ep : Nat) (t : SetTable) : Prop where
  mk' ::
  ob : ∃ o, h.get? a = some o ∧ o.cls = .type "set" ∧ o.data = .set es ep t
  fit : t.fits es.size = true
theorem At.state (h : At prog w s.heap a es ep t) {Q : (Array (Int × Value) × Nat × SetTable) → Shared → Prop} (hq : Q (es, ep, t) s) : wpAny (model prog w) A (setState a) Q E s := by
  obtain ⟨⟨o, ho, _, hd⟩, f⟩ := h
  exact wpAny_setState_of ho hd f hq
variable {es : Ents} {ep : Nat} {t : SetTable} {it : Addr} {i : Nat} {first : Value}
theorem it_put {h : Heap} (I : IsIt h it first i a es.size ep) (f' : Value) : IsIt (h.update it (Obj.mapFields (·.setIfInBounds 0 f'))) it f' i a es.size ep := by
  obtain ⟨o, q1, q2, q3⟩ := I
  exact ⟨_, Heap.get?_update_self _ q1 (Obj.isFreed_of_fields (Obj.data_mapFields q3 _)), (Obj.cls_mapFields ..).trans q2, by rw [Obj.data_mapFields q3]; simp⟩
theorem it_turn {h : Heap} (I : IsIt h it first i a es.size ep) : IsIt (h.update it (Obj.mapFields (·.setIfInBounds 1 (rawInt ((i : Int) + 1))))) it first (i + 1) a es.size ep := by
  obtain ⟨o, q1, q2, q3⟩ := I
  exact ⟨_, Heap.get?_update_self _ q1 (Obj.isFreed_of_fields (Obj.data_mapFields q3 _)), (Obj.cls_mapFields ..).trans q2, by rw [Obj.data_mapFields q3]; simp [rawInt]⟩
theorem IsIt.typeIs (I : IsIt s.heap it first i a es.size ep) : s.TypeIs (.ref it) "set_iterator" := let ⟨o, q1, q2, _⟩ := I; ⟨o, q1, q2⟩
theorem stop_ok {Q : Option Value → Shared → Prop} {h1 : Heap} (hh : A.handled = none) (sb : Heap.ExtBut it s.heap h1) (h : ∀ h', Heap.ExtBut it s.heap h' → Q none { s with heap := h' }) :
    wpAny (model prog w) A.in1 (do raiseNew (← newExc (.type "StopIteration") [])) (fun (_ : PySem.Fin) _ => False) (fun e s' => wpAny (model prog w) A (do if ← isInstance e (.type "StopIteration") then pure none else throw e) Q E s') { s with heap := h1 } := by
  simp only [newExc, newTuple]
  refine wpAny_bind (wpAny_bind (wpAny_newObj_type (wpAny_bind (m := firstArgMember _ _) (wpAny_of_eq (a := Value.none) (by first | rfl | (simp only [firstArgMember]; rfl)) (wpAny_newObj_type ?_ (by size_fits)))) (by size_fits)))
  simp only [raiseNew]
  refine wpAny_bind (wpAny_handled ?_)
  rw [show A.in1.handled = none from hh]
  refine wpAny_bind (wpAny_pure (wpAny_throw (wpAny_bind ?_)))
  exact wpAny_isInstance (T := "StopIteration") (b := true) ⟨_, Heap.get?_push_size _ rfl, rfl⟩ isSubtype_stop (wpAny_pure (h _ ((sb.push _).push _)))

theorem nextI {slot : Nat} {r : Option (Value × Nat)} {Q : Option Value → Shared → Prop} (hh : A.handled = none) (hne : a ≠ it) (I : IsIt s.heap it (.int slot 0) i a es.size ep) (T : At prog w s.heap a es ep t)
    (hs : ∀ (Q' : Option (Value × Nat) → Shared → Prop) (A' : Around) (E' : Value → Shared → Prop), Q' r s → wpAny (model prog w) A' (setNext a slot i ep) Q' E' s)
    (h1 : ∀ v nx h', r = some (v, nx) → IsIt h' it (.int nx 0) (i + 1) a es.size ep → Heap.SameBut it s.heap h' → Q (some v) { s with heap := h' })
    (h2 : r = none → ∀ h', Heap.ExtBut it s.heap h' → Q none { s with heap := h' }) : wpAny (model prog w) A (pyNext (.ref it)) Q E s := by
  obtain ⟨o, q1, q2, q3⟩ := id I
  unfold pyNext
  refine wpAny_bind (wpAny_attempt (wpAny_callSpecial?_slot (name := Str.ofString "__next__") I.typeIs slot_si_next (wpAny_call_entry slot_si_next I.typeIs entry_si_next ?_ (args_si_next _))))
  refine wpAny_bind (wpAny_pure (wpAny_bind (wpAny_fieldsOf q1 q3 ?_)))
  show wpAny _ _ (do
    if ((← setEntries a).size : Int) != (es.size : Int) then
      rule "set_iterator.__next__.size-changed"
      setField (.ref it) 3 (rawInt (-1))
      raiseError "RuntimeError" "Set changed size during iteration"
    match ← setNext a (slot : Int).toNat (i : Int).toNat (ep : Int).toNat with
    | some (x, next) =>
      setField (.ref it) 0 (rawInt next)
      setField (.ref it) 1 (rawInt ((i : Int) + 1))
      ret x
    | none => setField (.ref it) 2 .none; raiseNew (← newExc (.type "StopIteration") [])) _ _ s
  have ent : ∀ (Q' : Array (Int × Value) → Shared → Prop) (A' : Around) (E' : Value → Shared → Prop), Q' es s → wpAny (model prog w) A' (setEntries a) Q' E' s := fun Q' A' E' z => by
    unfold setEntries
    exact wpAny_bind (T.state (wpAny_pure z))
  refine wpAny_bind (ent _ _ _ ?_)
  rw [if_neg (by simp)]
  simp only [Int.toNat_natCast]
  refine wpAny_bind (hs _ _ _ ?_)
  cases r with
  | none =>
    refine wpAny_bind (wpAny_setField q1 q3 (by simp) ?_)
    refine wpAny_mono (stop_ok (s := s) (Q := Q) (E := E) hh (Heap.SameBut.update ..).extBut (h2 rfl)) (fun _ _ z => z.elim) fun _ _ z => z
  | some p =>
    obtain ⟨v, nx⟩ := p
    have I1 := it_put I (rawInt nx)
    have I2 := it_turn I1
    obtain ⟨o1, r1, r2, r3⟩ := id I1
    refine wpAny_bind (wpAny_setField q1 q3 (by simp) (wpAny_bind (wpAny_setField (s := { s with heap := _ }) r1 r3 (by simp) ?_)))
    exact wpAny_pure ⟨_, rfl, wpAny_pure (h1 v nx _ rfl I2 ((Heap.SameBut.update ..).trans (Heap.SameBut.update ..)))⟩
theorem nextD {tp : Addr} {ps : List Nat} {Q : Option Value → Shared → Prop} (hh : A.handled = none) (hne : a ≠ it) (I : IsIt s.heap it (.ref tp) i a es.size ep) (T : At prog w s.heap a es ep t) (hz : ps.length = es.size)
    (htp : ∃ o n, s.heap.get? tp = some o ∧ o.data = .seq (ps.map fun (p : Nat) => rawInt p).toArray n) (hall : ∀ p ∈ ps, p < es.size)
    (h1 : ∀ p v h', ps[i]? = some p → es[p]?.map (·.2) = some v → IsIt h' it (.ref tp) (i + 1) a es.size ep → Heap.SameBut it s.heap h' → Q (some v) { s with heap := h' })
    (h2 : ps[i]? = none → ∀ h', Heap.ExtBut it s.heap h' → Q none { s with heap := h' }) : wpAny (model prog w) A (pyNext (.ref it)) Q E s := by
  obtain ⟨o, q1, q2, q3⟩ := id I
  obtain ⟨o2, n2, p1, p2⟩ := htp
  unfold pyNext
  refine wpAny_bind (wpAny_attempt (wpAny_callSpecial?_slot (name := Str.ofString "__next__") I.typeIs slot_si_next (wpAny_call_entry slot_si_next I.typeIs entry_si_next ?_ (args_si_next _))))
  refine wpAny_bind (wpAny_pure (wpAny_bind (wpAny_fieldsOf q1 q3 ?_)))
  show wpAny _ _ (do
    if ((← setEntries a).size : Int) != (es.size : Int) then
      rule "set_iterator.__next__.size-changed"
      setField (.ref it) 3 (rawInt (-1))
      raiseError "RuntimeError" "Set changed size during iteration"
    let some places ← seqItems? (.ref tp) | unsupported "internal:set_iterator"
    match places[(i : Int).toNat]? with
    | some (.int place _) =>
      let x ← setNextDrawn a place.toNat (ep : Int).toNat
      setField (.ref it) 1 (rawInt ((i : Int) + 1))
      ret x
    | some _ => unsupported "internal:set_iterator"
    | none => setField (.ref it) 0 (rawInt 0); setField (.ref it) 2 .none; raiseNew (← newExc (.type "StopIteration") [])) _ _ s
  have ent : ∀ (Q' : Array (Int × Value) → Shared → Prop) (A' : Around) (E' : Value → Shared → Prop), Q' es s → wpAny (model prog w) A' (setEntries a) Q' E' s := fun Q' A' E' z => by
    unfold setEntries
    exact wpAny_bind (T.state (wpAny_pure z))
  refine wpAny_bind (ent _ _ _ ?_)
  rw [if_neg (by simp)]
  refine wpAny_bind (wpAny_seqItems p1 p2 ?_)
  simp only [Int.toNat_natCast]
  rw [List.getElem?_toArray, List.getElem?_map]
  cases e : ps[i]? with
  | none =>
    have I1 := it_put I (rawInt 0)
    obtain ⟨o1, r1, r2, r3⟩ := id I1
    refine wpAny_bind (wpAny_setField q1 q3 (by simp) (wpAny_bind (wpAny_setField (s := { s with heap := _ }) r1 r3 (by simp) ?_)))
    refine wpAny_mono (stop_ok (s := s) (Q := Q) (E := E) hh ((Heap.SameBut.update ..).trans (Heap.SameBut.update ..)).extBut (h2 e)) (fun _ _ z => z.elim) fun _ _ z => z
  | some p =>
    have hp := hall p (List.mem_of_getElem? e)
    refine wpAny_bind (?_ : wpAny _ _ (setNextDrawn a ((p : Nat) : Int).toNat ep) _ _ s)
    unfold setNextDrawn
    refine wpAny_bind (T.state ?_)
    dsimp only
    rw [if_neg (by simp), Int.toNat_natCast, Array.getElem?_eq_getElem hp]
    refine wpAny_pure ?_
    refine wpAny_bind (wpAny_setField q1 q3 (by simp) ?_)
    exact wpAny_pure ⟨_, rfl, wpAny_pure (h1 p _ _ e (by rw [Array.getElem?_eq_getElem hp]; rfl) (it_turn I) (Heap.SameBut.update ..))⟩
end
end STb

set_option Elab.async false
set_option linter.all false
set_option maxRecDepth 100000
namespace STb
open PySem PySem.Spec PySem.SetTable PyProof.Rows
theorem entry_si_iter : entryFor table "set_iterator.__iter__" = some Builtin.«dict_keyiterator.__iter__» := entryFor_alias (id' := "dict_keyiterator.__iter__") (by kernel_rfl) rfl (by decide +kernel) (by kernel_rfl)
theorem args_si_iter (a : Value) : argsOk "set_iterator.__iter__" ⟨[a], []⟩ := by unfold argsOk; kernel_rfl
section
variable {prog : Program} {w : World} {A : Around} {E : Value → Shared → Prop} {s : Shared} {h₀ : Heap} {a it : Addr} {es : Ents} {ep i : Nat} {t : SetTable} {first : Value}
theorem self_ok {Q : Value → Shared → Prop} (I : IsIt s.heap it first i a es.size ep) (h : Q (.ref it) s) : wpAny (model prog w) A (pyIter (.ref it)) Q E s := by
  refine wpAny_pyIter_slot I.typeIs slot_si_iter (wpAny_call_entry slot_si_iter I.typeIs entry_si_iter ?_ (args_si_iter _))
  exact (show wpAny _ _ (ret (.ref it)) _ _ s from wpAny_pure ⟨_, rfl, "set_iterator", _, I.typeIs, slot_si_next.lookup, h⟩)
theorem IsIt.at' {h h' : Heap} (I : IsIt h it first i a es.size ep) (k : ∀ o, h.get? it = some o → h'.get? it = some o) : IsIt h' it first i a es.size ep := let ⟨o, q, r⟩ := I; ⟨o, k o q, r⟩
theorem At.at' {h h' : Heap} (T : At prog w h a es ep t) (k : ∀ o, h.get? a = some o → h'.get? a = some o) : At prog w h' a es ep t := let ⟨⟨o, q, r⟩, f⟩ := T; ⟨⟨o, k o q, r⟩, f⟩
noncomputable abbrev Wk (prog : Program) (w : World) (it : Addr) (fp : List Addr) (xs : List Value) (St : Nat → Heap → Prop) : Prop := ∀ A : Around, A.handled = none → Walks prog w A it fp [it] xs.length (fun i v => xs[i]? = some v) St
theorem walkT (hb : byT w = true) (ne : a ≠ it) : Wk prog w it [it, a] ((pickOrder (w.params.setOrder a ep) es).toList.map (·.2)) (fun i h => IsIt h it (.int (0 : Nat) 0) i a es.size ep ∧ At prog w h a es ep t) := by
  intro A hh
  have nx : ∀ (s : Shared) (i : Nat), At prog w s.heap a es ep t → ∀ (Q' : Option (Value × Nat) → Shared → Prop) (A' : Around) (E' : Value → Shared → Prop), Q' (((pickOrder (w.params.setOrder a ep) es)[i]?).map fun e => (e.2, 0)) s → wpAny (model prog w) A' (setNext a 0 i ep) Q' E' s := fun s i T Q' A' E' z => by
    unfold setNext setsByText
    refine wpAny_bind (T.state (wpAny_bind (wpAny_bind (wpAny_askSetting (wpAny_pure ?_)))))
    show wpAny _ _ (if byT w = true then _ else _) _ _ _
    rw [if_pos hb]
    show wpAny _ _ (if (ep != ep) = true then _ else setWalk a >>= fun l => pure ((l[i]?).map fun e => (e.2, 0))) _ _ _
    rw [if_neg (by simp)]
    unfold setWalk setsByText
    refine wpAny_bind (wpAny_bind (T.state (wpAny_bind (wpAny_bind (wpAny_askSetting (wpAny_pure ?_))))))
    show wpAny _ _ (if byT w = true then _ else _) _ _ _
    rw [if_pos hb]
    exact wpAny_bind (wpAny_askSetting (wpAny_pure (wpAny_pure z)))
  have xe : ∀ i : Nat, ((pickOrder (w.params.setOrder a ep) es).toList.map (·.2))[i]? = ((pickOrder (w.params.setOrder a ep) es)[i]?).map (·.2) := fun i => by rw [List.getElem?_map, Array.getElem?_toList]
  refine ⟨fun b hb => (by rw [List.mem_singleton.mp hb]; exact List.mem_cons_self), fun i h h' st k => ⟨st.1.at' (k it List.mem_cons_self), st.2.at' (k a (List.mem_cons_of_mem _ (List.mem_singleton.mpr rfl)))⟩, fun i s Q E hi st hQ => ?_, fun s Q E st hQ => ?_, fun i s Q E st hQ => self_ok st.1 hQ⟩
  · refine nextI hh ne st.1 st.2 (nx s i st.2) (fun v n h' e I' sb => ?_) fun e => ?_
    · obtain ⟨x, hx, ex⟩ := Option.map_eq_some_iff.mp e
      cases ex
      exact hQ _ h' s.toks (by rw [xe, hx]; rfl) ⟨I', st.2.at' fun o e => (sb.2 a ne).trans e⟩ fun b o hb e => (sb.2 b fun z => hb (by rw [z]; exact List.mem_singleton.mpr rfl)).trans e
    · rw [List.length_map, Array.length_toList] at hi
      rw [Array.getElem?_eq_getElem hi] at e
      cases e
  · refine nextI hh ne st.1 st.2 (nx s _ st.2) (fun v n h' e I' sb => ?_) fun e h' eb => hQ h' s.toks fun b o hb e => eb b o (fun z => hb (by rw [z]; exact List.mem_singleton.mpr rfl)) e
    rw [Array.getElem?_eq_none (by rw [List.length_map, Array.length_toList]; exact Nat.le_refl _)] at e
    cases e
theorem walkD {tp : Addr} {ps : List Nat} (ne : a ≠ it) (nt : tp ≠ it) (hp : ps.Perm (List.range es.size)) : Wk prog w it [it, a, tp] ((ps.filterMap (es[·]?)).map (·.2)) (fun i h => IsIt h it (.ref tp) i a es.size ep ∧ At prog w h a es ep t ∧ ∃ o n, h.get? tp = some o ∧ o.data = .seq (ps.map fun (p : Nat) => rawInt p).toArray n) := by
  intro A hh
  have hall : ∀ p ∈ ps, p < es.size := fun p h => List.mem_range.mp (hp.mem_iff.mp h)
  have hz : ps.length = es.size := by rw [hp.length_eq, List.length_range]
  have xe : ∀ i : Nat, ((ps.filterMap (es[·]?)).map (·.2))[i]? = (ps[i]?.bind (es[·]?)).map (·.2) := fun i => by rw [List.getElem?_map, fm_at hall]
  have xl : ((ps.filterMap (es[·]?)).map (·.2)).length = es.size := by
    rw [List.length_map, (hp.filterMap _).length_eq, fm_range, Array.length_toList]
  refine ⟨fun b hb => (by rw [List.mem_singleton.mp hb]; exact List.mem_cons_self), fun i h h' st k => ⟨st.1.at' (k it (by simp)), st.2.1.at' (k a (by simp)), let ⟨o, n, e, r⟩ := st.2.2; ⟨o, n, k tp (by simp) o e, r⟩⟩, fun i s Q E hi st hQ => ?_, fun s Q E st hQ => ?_, fun i s Q E st hQ => self_ok st.1 hQ⟩
  · refine nextD hh ne st.1 st.2.1 hz st.2.2 hall (fun p v h' e1 e2 I' sb => ?_) fun e => ?_
    · exact hQ _ h' s.toks (by rw [xe, e1]; exact e2) ⟨I', st.2.1.at' fun o e => (sb.2 a ne).trans e, let ⟨o, n, e, r⟩ := st.2.2; ⟨o, n, (sb.2 tp nt).trans e, r⟩⟩ fun b o hb e => (sb.2 b fun z => hb (by rw [z]; exact List.mem_singleton.mpr rfl)).trans e
    · rw [xl] at hi
      rw [List.getElem?_eq_getElem (by omega)] at e
      cases e
  · refine nextD hh ne st.1 st.2.1 hz st.2.2 hall (fun p v h' e1 e2 I' sb => ?_) fun e h' eb => hQ h' s.toks fun b o hb e => eb b o (fun z => hb (by rw [z]; exact List.mem_singleton.mpr rfl)) e
    rw [List.getElem?_eq_none (by rw [xl, hz]; exact Nat.le_refl _)] at e1
    cases e1
theorem walkO (hb : byT w = false) (hl : t.led = true) (T0 : Tb t es) (few : es.size ≤ 1) (hd : (!t.plain && decide (es.size > 1)) = false) (ne : a ≠ it) : Wk prog w it [it, a] (es.toList.map (·.2)) (fun i h => ∃ slot : Nat, IsIt h it (.int slot 0) i a es.size ep ∧ At prog w h a es ep t ∧ (i = 0 → slot = 0) ∧ (∀ j, i ≠ 0 → t.place[0]? = some j → slot = j + 1)) := by
  intro A hh
  have nx : ∀ (s : Shared) (slot i : Nat), At prog w s.heap a es ep t → ∀ (Q' : Option (Value × Nat) → Shared → Prop) (A' : Around) (E' : Value → Shared → Prop), Q' (match es[below t.place slot]?, t.place[below t.place slot]? with | some (_, x), some j => some (x, j + 1) | _, _ => none) s → wpAny (model prog w) A' (setNext a slot i ep) Q' E' s := fun s slot i T Q' A' E' z => by
    unfold setNext setsByText
    refine wpAny_bind (T.state (wpAny_bind (wpAny_bind (wpAny_askSetting (wpAny_pure ?_)))))
    rw [if_neg (by rw [show (model prog w).w.params.followText "set-order" = byT w from rfl, hb]; exact Bool.false_ne_true)]
    show wpAny _ _ (if (!t.plain && decide (es.size > 1)) = true then _ else _) _ _ s
    rw [hd, if_neg Bool.false_ne_true]
    refine wpAny_bind (show wpAny _ _ (if (!t.led && !es.isEmpty) = true then _ else _) _ _ s from ?_)
    rw [hl, if_neg (by simp)]
    exact wpAny_pure (wpAny_pure z)
  have xe : ∀ i : Nat, (es.toList.map (·.2))[i]? = (es[i]?).map (·.2) := fun i => by rw [List.getElem?_map, Array.getElem?_toList]
  have bo := below_ok T0.up
  refine ⟨fun b hb => (by rw [List.mem_singleton.mp hb]; exact List.mem_cons_self), fun i h h' st k => ?_, fun i s Q E hi st hQ => ?_, fun s Q E st hQ => ?_, fun i s Q E st hQ => let ⟨_, q, _⟩ := st; self_ok q hQ⟩
  · obtain ⟨slot, q1, q2, q3⟩ := st
    exact ⟨slot, q1.at' (k it List.mem_cons_self), q2.at' (k a (List.mem_cons_of_mem _ (List.mem_singleton.mpr rfl))), q3⟩
  · obtain ⟨slot, q1, q2, q3, q4⟩ := st
    rw [List.length_map, Array.length_toList] at hi
    have i0 : i = 0 := by omega
    subst i0
    have s0 := q3 rfl
    subst s0
    have hp : 0 < t.place.size := by rw [T0.sz]; omega
    have b0 : below t.place 0 = 0 := by
      rcases Nat.eq_zero_or_pos (below t.place 0) with e | e
      · exact e
      · exact absurd ((bo 0).2.1 0 _ e (Array.getElem?_eq_getElem hp)) (Nat.not_lt_zero _)
    refine nextI hh ne q1 q2 (nx s 0 0 q2) (fun v n h' e I' sb => ?_) fun e => ?_
    · rw [b0, Array.getElem?_eq_getElem hi, Array.getElem?_eq_getElem hp] at e
      cases e
      exact hQ _ h' s.toks (by rw [xe, Array.getElem?_eq_getElem hi]; rfl) ⟨_, I', q2.at' fun o e => (sb.2 a ne).trans e, fun z => (nomatch z), fun j _ e => by rw [Array.getElem?_eq_getElem hp] at e; cases e; rfl⟩ fun b o hb e => (sb.2 b fun z => hb (by rw [z]; exact List.mem_singleton.mpr rfl)).trans e
    · rw [b0, Array.getElem?_eq_getElem hi, Array.getElem?_eq_getElem hp] at e
      cases e
  · obtain ⟨slot, q1, q2, q3, q4⟩ := st
    rw [List.length_map, Array.length_toList] at q1 q3 q4
    have no : es[below t.place slot]? = none := by
      refine Array.getElem?_eq_none ?_
      rcases Nat.eq_zero_or_pos es.size with e | e
      · omega
      · have hp : 0 < t.place.size := by rw [T0.sz]; omega
        have sl := q4 _ (by omega) (Array.getElem?_eq_getElem hp)
        rcases Nat.eq_zero_or_pos (below t.place slot) with z | z
        · have := (bo slot).2.2 0 _ (by omega) (Array.getElem?_eq_getElem hp)
          omega
        · omega
    refine nextI hh ne q1 q2 (nx s slot _ q2) (fun v n h' e I' sb => ?_) fun e h' eb => hQ h' s.toks fun b o hb e => eb b o (fun z => hb (by rw [z]; exact List.mem_singleton.mpr rfl)) e
    rw [no] at e
    cases e

theorem iter_ok {vs : List Value} {Q : Value → Shared → Prop} (hv : vs.length ≤ 63) (S : SetS prog w h₀ s.heap a vs)
    (h : ∀ (xs : List Value) (it : Addr) (fp : List Addr) (St : Nat → Heap → Prop) (h' : Heap) (d : Drawn), (∃ es : List (Int × Value), En prog w h₀ es vs ∧ xs.Perm (es.map (·.2)) ∧ es.length ≤ vs.length) → Wk prog w it fp xs St → St 0 h' → Kp s.heap h' → s.heap.objs.size ≤ it → (∀ b ∈ fp, b = a ∨ s.heap.objs.size ≤ b) → (∀ b ∈ fp, b < h'.objs.size) → Q (.ref it) { s with heap := h', drawn := d }) : wpAny (model prog w) A (pyIter (.ref a)) Q E s := by
  obtain ⟨o, es, ep, t, ho, hx, hd, S⟩ := S
  have ty : s.TypeIs (.ref a) "set" := ⟨o, ho, hx.1⟩
  have T : At prog w s.heap a es ep t := ⟨⟨o, ho, hx.1, hd⟩, S.fits⟩
  have al := Heap.lt_size ho
  have ent : ∀ (s' : Shared) (Q' : Array (Int × Value) → Shared → Prop) (A' : Around) (E' : Value → Shared → Prop), At prog w s'.heap a es ep t → Q' es s' → wpAny (model prog w) A' (setEntries a) Q' E' s' := fun s' Q' A' E' T z => by
    unfold setEntries
    exact wpAny_bind (T.state (wpAny_pure z))
  have epo : ∀ (s' : Shared) (Q' : Nat → Shared → Prop) (A' : Around) (E' : Value → Shared → Prop), At prog w s'.heap a es ep t → Q' ep s' → wpAny (model prog w) A' (setEpoch a) Q' E' s' := fun s' Q' A' E' T z => by
    unfold setEpoch
    exact wpAny_bind (T.state (wpAny_pure z))
  have drw : ∀ (Q' : Bool → Shared → Prop) (A' : Around) (E' : Value → Shared → Prop), Q' (!byT w && (!t.plain && decide (es.size > 1))) s → wpAny (model prog w) A' (setDrawn a) Q' E' s := fun Q' A' E' z => by
    unfold setDrawn setsByText
    exact wpAny_bind (T.state (wpAny_bind (wpAny_bind (wpAny_askSetting (wpAny_pure (wpAny_pure z))))))
  have few := S.few
  have fl : es.toList.length ≤ vs.length := by rw [Array.length_toList]; exact few
  refine wpAny_pyIter_slot ty PySem.F.slot_set_iter (wpAny_call_entry PySem.F.slot_set_iter ty entry_set_iter ?_ (PySem.F.args_set_iter_1 _))
  refine wpAny_bind (?_ : wpAny _ _ (Builtin.Frozenset.slot0 "__iter__" ⟨[.ref a], []⟩) _ _ s)
  refine (show wpAny _ _ (pure a) _ _ s from wpAny_pure ?_)
  refine wpAny_bind (?_ : wpAny _ _ (Builtin.Frozenset.sizeOf a) _ _ s)
  unfold Builtin.Frozenset.sizeOf
  refine wpAny_bind (ent s _ _ _ T (wpAny_pure (wpAny_bind (drw _ _ _ ?_))))
  cases hb : byT w with
  | true =>
    refine wpAny_bind (show wpAny _ _ (pure (rawInt 0)) _ _ s from wpAny_pure ?_)
    refine wpAny_bind (epo s _ _ _ T (wpAny_bind (wpAny_newObj_type (wpAny_pure ⟨_, rfl, "set_iterator", _, ⟨_, Heap.get?_push_size _ rfl, rfl⟩, slot_si_next.lookup, ?_⟩))))
    refine h _ s.heap.objs.size [s.heap.objs.size, a] _ _ s.drawn ⟨es.toList, S.en, ((pick_perm _ _ _ _ _ (by rw [Array.length_toList])).trans (List.Perm.of_eq (List.nil_append _))).map _, fl⟩ (walkT hb (Nat.ne_of_lt al)) ⟨⟨_, Heap.get?_push_size _ rfl, rfl, rfl⟩, T.at' fun o e => Heap.get?_push_of_some _ e⟩ (fun b o e => Heap.get?_push_of_some _ e) (Nat.le_refl _) (fun b hb => ?_) fun b hb => ?_
    · rcases List.mem_cons.mp hb with rfl | hb
      · exact .inr (Nat.le_refl _)
      · exact .inl (List.mem_singleton.mp hb)
    · rw [Heap.size_push]
      rcases List.mem_cons.mp hb with rfl | hb
      · exact Nat.lt_succ_self _
      · rw [List.mem_singleton.mp hb]; exact Nat.lt_succ_of_lt al
  | false =>
    cases hc : (!t.plain && decide (es.size > 1)) with
    | false =>
      have one : es.size ≤ 1 := by
        rcases Nat.lt_or_ge 1 es.size with lt | ge
        · have pl : t.plain = true := by
            rw [decide_eq_true (show es.size > 1 from lt), Bool.and_true, Bool.not_eq_false'] at hc
            exact hc
          have l0 : 0 < es.toList.length := by rw [Array.length_toList]; omega
          have l1 : 1 < es.toList.length := by rw [Array.length_toList]; exact lt
          have := List.pairwise_iff_getElem.mp S.en.one 0 1 l0 l1 (by omega) [] (S.pl pl _ (List.getElem_mem l0))
          exact absurd (S.pl pl _ (List.getElem_mem l1)) this
        · exact ge
      refine wpAny_bind (show wpAny _ _ (pure (rawInt 0)) _ _ s from wpAny_pure ?_)
      refine wpAny_bind (epo s _ _ _ T (wpAny_bind (wpAny_newObj_type (wpAny_pure ⟨_, rfl, "set_iterator", _, ⟨_, Heap.get?_push_size _ rfl, rfl⟩, slot_si_next.lookup, ?_⟩))))
      refine h _ s.heap.objs.size [s.heap.objs.size, a] _ _ s.drawn ⟨es.toList, S.en, List.Perm.refl _, fl⟩ (walkO hb (by rw [S.led, hb]; rfl) S.tb one hc (Nat.ne_of_lt al)) ⟨0, ⟨_, Heap.get?_push_size _ rfl, rfl, rfl⟩, T.at' fun o e => Heap.get?_push_of_some _ e, fun _ => rfl, fun _ z => absurd rfl z⟩ (fun b o e => Heap.get?_push_of_some _ e) (Nat.le_refl _) (fun b hb => ?_) fun b hb => ?_
      · rcases List.mem_cons.mp hb with rfl | hb
        · exact .inr (Nat.le_refl _)
        · exact .inl (List.mem_singleton.mp hb)
      · rw [Heap.size_push]
        rcases List.mem_cons.mp hb with rfl | hb
        · exact Nat.lt_succ_self _
        · rw [List.mem_singleton.mp hb]; exact Nat.lt_succ_of_lt al
    | true =>
      refine wpAny_bind (draw_ok _ _ s List.length_range fun ps d pp => ?_)
      have sz : ps.length = es.size := by rw [pp.length_eq, List.length_range]
      refine wpAny_bind (wpAny_newTuple ?_ (by rw [List.length_map, sz, sizeLine_eq]; omega))
      have T1 : At prog w (s.heap.push (seqObj "tuple" (ps.map fun (p : Nat) => rawInt p).toArray 0)) a es ep t := T.at' fun o e => Heap.get?_push_of_some _ e
      have lt1 : s.heap.objs.size < (s.heap.push (seqObj "tuple" (ps.map fun (p : Nat) => rawInt p).toArray 0)).objs.size := by rw [Heap.size_push]; exact Nat.lt_succ_self _
      refine wpAny_bind (epo { s with heap := _, drawn := d } _ _ _ T1 (wpAny_bind (wpAny_newObj_type (wpAny_pure ⟨_, rfl, "set_iterator", _, ⟨_, Heap.get?_push_size _ rfl, rfl⟩, slot_si_next.lookup, ?_⟩))))
      refine h _ _ [(s.heap.push (seqObj "tuple" (ps.map fun (p : Nat) => rawInt p).toArray 0)).objs.size, a, s.heap.objs.size] _ _ d ⟨es.toList, S.en, ((pp.filterMap _).trans (List.Perm.of_eq (fm_range es))).map _, fl⟩ (walkD (tp := s.heap.objs.size) (Nat.ne_of_lt (Nat.lt_trans al lt1)) (Nat.ne_of_lt lt1) pp) ⟨⟨_, Heap.get?_push_size _ rfl, rfl, rfl⟩, T1.at' fun o e => Heap.get?_push_of_some _ e, _, _, Heap.get?_push_of_some _ (Heap.get?_push_size _ rfl), rfl⟩ (fun b o e => Heap.get?_push_of_some _ (Heap.get?_push_of_some _ e)) (Nat.le_of_lt lt1) (fun b hb => ?_) fun b hb => ?_
      · rcases List.mem_cons.mp hb with rfl | hb
        · exact .inr (Nat.le_of_lt lt1)
        · rcases List.mem_cons.mp hb with rfl | hb
          · exact .inl rfl
          · exact .inr (by rw [List.mem_singleton.mp hb]; exact Nat.le_refl _)
      · rw [Heap.size_push]
        rcases List.mem_cons.mp hb with rfl | hb
        · exact Nat.lt_succ_self _
        · rcases List.mem_cons.mp hb with rfl | hb
          · exact Nat.lt_succ_of_lt (Nat.lt_trans al lt1)
          · rw [List.mem_singleton.mp hb]; exact Nat.lt_succ_of_lt lt1
theorem hint_ok {Q : Bool → Shared → Prop} (ty : s.TypeIs (.ref a) "set") (h : Q false s) : wpAny (model prog w) A (Builtin.List.listLengthHint (.ref a)) Q E s := by
  unfold Builtin.List.listLengthHint
  refine wpAny_bind (wpAny_specialOf ty PySem.F.slot_set_len.lookup ?_)
  generalize hid : ("set.__len__" : String) = id0
  wp_delta
  have sp : splitId id0 = some ("set", "__len__") := by subst hid; decide +kernel
  rw [sp]
  subst hid
  refine wpAny_bind (wpAny_isInstance (T := "set") (b := true) ty sub_set_self (wpAny_ite_split (fun z => absurd z (by decide)) fun _ => wpAny_ite_split (fun _ => wpAny_bind (wpAny_typeOf ty (wpAny_pure h))) fun z => absurd (by decide +kernel) z))
theorem collect_ok {vs : List Value} {Q : List Value → Shared → Prop} (hv : vs.length ≤ 63) (hh : A.handled = none) (S : SetS prog w h₀ s.heap a vs)
    (h : ∀ (xs : List Value) (h' : Heap) (d : Drawn) (tk : Nat), (∃ es : List (Int × Value), En prog w h₀ es vs ∧ xs.Perm (es.map (·.2)) ∧ es.length ≤ vs.length) → Kp s.heap h' → Q xs { s with heap := h', drawn := d, toks := tk }) : wpAny (model prog w) A (collect (.ref a)) Q E s := by
  have ty : s.TypeIs (.ref a) "set" := let ⟨o, _, _, _, ho, hx, _⟩ := S; ⟨o, ho, hx.1⟩
  have al : a < s.heap.objs.size := let ⟨o, _, _, _, ho, _⟩ := S; Heap.lt_size ho
  unfold collect
  refine wpAny_bind (wpAny_runValue (codeAny_builtin entry_proto_collect' ?_))
  rw [Around.under_plainId PySem.F.plain_proto_collect _]
  refine (show wpAny _ A.in1 (newList [] >>= fun l => again (.builtin "list.__iadd__" ⟨[l, .ref a], []⟩)) _ _ s from wpAny_bind (wpAny_newObj_type (wpAny_pure ⟨plainId_quiet PySem.F.plain_list_iadd _, codeAny_builtin entry_list_iadd' ?_⟩)))
  rw [Around.under_plainId PySem.F.plain_list_iadd _]
  have g0 : (s.heap.push { cls := .type "list", data := .seq ([] : List Value).toArray }).get? s.heap.objs.size = some { cls := .type "list", data := .seq #[] } := Heap.get?_push_size _ rfl
  have S1 : SetS prog w h₀ (s.heap.push { cls := .type "list", data := .seq ([] : List Value).toArray }) a vs := let ⟨o, es, ep, t, ho, r⟩ := S; ⟨o, es, ep, t, Heap.get?_push_of_some _ ho, r⟩
  have ty1 : Shared.TypeIs { s with heap := s.heap.push { cls := .type "list", data := .seq ([] : List Value).toArray } } (.ref a) "set" := let ⟨o, ho, hc⟩ := ty; ⟨o, Heap.get?_push_of_some _ ho, hc⟩
  show wpAny _ A.in1 (Builtin.List.listExtendWith (.ref s.heap.objs.size) (.ref a) (.ref s.heap.objs.size)) _ _ _
  unfold Builtin.List.listExtendWith
  refine wpAny_bind (wpAny_typeOf ty1 ?_)
  have n1 : Builtin.List.listSameRef (.ref s.heap.objs.size) (.ref a) = false := by simp [Builtin.List.listSameRef, Nat.ne_of_gt al]
  have n2 : (Value.type "set" == Value.type "list") = false := by decide
  have n3 : (Value.type "set" == Value.type "tuple") = false := by decide
  simp only [n1, n2, n3, Bool.or_false, Bool.false_eq_true, if_false]
  refine wpAny_bind (iter_ok hv S1 fun xs it fp St h1 d hx W st kp hit hfp hfz => ?_)
  have szp : (s.heap.push { cls := .type "list", data := .seq ([] : List Value).toArray }).objs.size = s.heap.objs.size + 1 := Heap.size_push _ _
  rw [szp] at hit hfp
  have kp0 : Kp s.heap h1 := fun b o e => kp b o (Heap.get?_push_of_some _ e)
  have g1 := kp _ _ g0
  have nS : s.heap.objs.size ∉ fp := fun z => by
    rcases hfp _ z with e | e
    · exact Nat.ne_of_lt al e.symm
    · exact absurd e (Nat.not_succ_le_self _)
  have xl : xs.length ≤ sizeLine := by
    obtain ⟨es, _, p, q⟩ := hx
    rw [p.length_eq, List.length_map, sizeLine_eq]
    omega
  have key : ∀ (h : Heap) (c : Nat), St 0 h → Kp s.heap h → h.get? s.heap.objs.size = some { cls := .type "list", data := .seq #[] c } → codeAny (model prog w) A (.builtin "list.extend.loop" ⟨[.ref s.heap.objs.size, .ref it, .ref s.heap.objs.size], []⟩) (fun q s' => ∃ (h' : Heap) (tk : Nat) (acc : Array Value) (c' : Nat), q = .ok (.ret (.ref s.heap.objs.size)) ∧ s' = { s with heap := h', drawn := d, toks := tk } ∧ Kp s.heap h' ∧ h'.get? s.heap.objs.size = some { cls := .type "list", dict := none, data := .seq acc c', slots := #[] } ∧ acc.toList = xs) { s with heap := h, drawn := d } := by
    intro h c st kp g
    refine codeAny_extend_loopS (W A.in1 (by simpa using hh)).toS xl s.heap.objs.size nS (.ref s.heap.objs.size) xs.length 0 _ #[] c rfl (Nat.zero_le _) st g (ItemsOf.nil _) fun s' acc c' hm g' ha => ?_
    refine ⟨s'.heap, s'.toks, acc, c', rfl, ?_, fun b o e => hm.heap b o (fun z => ?_) (kp b o e), g', ?_⟩
    · obtain ⟨hp, g, dd, tk, os⟩ := s'
      have e1 := hm.gens
      have e2 := hm.drawn
      have e3 := hm.os
      simp only at e1 e2 e3
      subst e1 e2 e3
      rfl
    · have bl := Heap.lt_size e
      rcases List.mem_cons.mp z with e' | e'
      · rw [e'] at bl; exact Nat.lt_irrefl _ bl
      · rw [List.mem_singleton.mp e'] at bl
        exact absurd (Nat.lt_trans (Nat.lt_of_succ_le hit) bl) (Nat.lt_irrefl _)
    · refine List.ext_getElem? fun i => ?_
      rcases Nat.lt_or_ge i acc.size with lt | ge
      · have := ha.2 i acc[i] (Array.getElem?_eq_getElem lt)
        rw [this, Array.getElem?_toList, Array.getElem?_eq_getElem lt]
      · rw [Array.getElem?_toList, Array.getElem?_eq_none ge, List.getElem?_eq_none (by rw [← ha.1]; exact ge)]
  have ty2 : Shared.TypeIs { s with heap := h1, drawn := d } (.ref a) "set" := let ⟨o, ho, hc⟩ := ty; ⟨o, kp0 _ _ ho, hc⟩
  refine wpAny_bind (wpAny_holding (hint_ok ty2 ?_))
  refine wpAny_ite_split (fun _ => ?_) (fun z => absurd (by decide +kernel) z)
  refine wpAny_bind (wpAny_rule (wpAny_bind ?_))
  refine (show wpAny _ _ (updateSeq s.heap.objs.size (·.push .none) >>= fun _ => updateSeq s.heap.objs.size (·.pop)) _ _ _ from wpAny_bind (wpAny_updateSeq (s := { s with heap := h1, drawn := d }) g1 rfl ?_))
  have g2 := Heap.get?_update_self (Obj.mapSeq (·.push Value.none)) g1 rfl
  refine wpAny_updateSeq (hz := by seq_fits) g2 rfl ?_
  have g3 := Heap.get?_update_self (Obj.mapSeq (·.pop)) g2 rfl
  have oth : ∀ b o, b ≠ s.heap.objs.size → h1.get? b = some o → ((h1.update s.heap.objs.size (Obj.mapSeq (·.push Value.none))).update s.heap.objs.size (Obj.mapSeq (·.pop))).get? b = some o := fun b o hb e => (Heap.get?_update_other _ _ hb.symm).trans ((Heap.get?_update_other _ _ hb.symm).trans e)
  refine wpAny_pure ⟨plainId_quiet PySem.F.plain_extend_loop _, codeAny_mono (key _ _ ((W A hh).frame 0 _ _ st fun b hb o e => oth b o (fun z => nS (z ▸ hb)) e) (fun b o e => oth b o (Nat.ne_of_lt (Heap.lt_size e)) (kp0 b o e)) g3) fun q s' z => ?_⟩
  obtain ⟨h', tk, acc, c', rfl, rfl, kp', g', rfl⟩ := z
  refine (show wpAny _ A (load s.heap.objs.size >>= _) _ _ _ from wpAny_bind (wpAny_load g' ?_))
  exact wpAny_pure (h _ h' d tk hx kp')
end
end STb

set_option Elab.async false
set_option linter.all false
set_option maxRecDepth 100000
namespace STb
open PySem PySem.Spec PySem.W PyProof.Rows
noncomputable def ltN : List Str → List Str → Bool
  | [], [] => false
  | [], _ :: _ => true
  | _ :: _, [] => false
  | x :: r, y :: q => if x = y then ltN r q else decide (x.cps.toList < y.cps.toList)
theorem ltN_cons (x y : Str) (r q : List Str) : ltN (x :: r) (y :: q) = if x = y then ltN r q else decide (x.cps.toList < y.cps.toList) := rfl
section
variable {prog : Program} {w : World} {A : Around} {E : Value → Shared → Prop} {s : Shared}
theorem is_str {k : Str} {v : Value} (h : (kd prog w).is k v = true) : ∃ t, v = .str k t := by
  cases v with
  | str x t => exact ⟨t, by rw [(kd prog w).inj (.str x t) k x h (strKind_is _ _ _ _)]⟩
  | _ => exact nomatch (show false = true from h)
theorem one_str {b : Bool} {x y : Str} {t u : Tok} {Q : Bool → Shared → Prop} (h : Q (decide (x.cps.toList < y.cps.toList)) s) : wpAny (model prog w) A (oneLt' b (.str x t) (.str y u)) Q E s := by
  cases b with
  | true => exact oneLt_str h
  | false => exact kat_one _ _ (PyProof.Rows.lt_str h)
theorem lex_ok {b fin : Bool} {Q : Bool → Shared → Prop} : ∀ {x y : List Str} {xs ys : List Value} (i : Nat), ItemsAre (kd prog w) x xs → ItemsAre (kd prog w) y ys → fin = decide (x.length < y.length) → Q (ltN x y) s → KatLex prog w A b fin Q (xs.zip ys) i s
  | [], [], _, _, i, .nil, .nil, hf, h => by
    refine kat_nil ?_
    rw [hf]; exact h
  | [], _ :: _, _, _, i, .nil, .cons _ _, hf, h => by
    refine kat_nil ?_
    rw [hf, decide_eq_true (show ([] : List Str).length < (_ :: _ : List Str).length from Nat.succ_pos _)]; exact h
  | _ :: _, [], _, _, i, .cons _ _, .nil, hf, h => by
    refine kat_nil ?_
    rw [hf, decide_eq_false (show ¬ (_ :: _ : List Str).length < ([] : List Str).length from Nat.not_lt_zero _)]; exact h
  | k :: x, l :: y, u :: xs, v :: ys, i, .cons h1 t1, .cons h2 t2, hf, h => by
    rw [List.zip_cons_cons]
    refine kat_cons ((kd prog w).eqBool h1 h2 ?_)
    rw [ltN_cons] at h
    by_cases e : k = l
    · rw [if_pos e] at h
      rw [decide_eq_true e]
      exact kat_yes (lex_ok (i + 1) t1 t2 (by rw [hf, List.length_cons, List.length_cons]; exact decide_eq_decide.mpr (Nat.succ_lt_succ_iff)) h)
    · rw [if_neg e] at h
      rw [decide_eq_false e]
      obtain ⟨t, rfl⟩ := is_str h1
      obtain ⟨t', rfl⟩ := is_str h2
      exact kat_no (one_str h)
theorem tup_lt {x y : List Str} {a b : Addr} {Q : Value → Shared → Prop} (hx : IsTupleKey (kd prog w) s.heap x a) (hy : IsTupleKey (kd prog w) s.heap y b) (h : Q (.bool (ltN x y)) s) : wpAny (model prog w) A (call (.builtin "tuple.__lt__") [.ref a, .ref b]) Q E s := by
  have tx := hx.typeIs
  have ty := hy.typeIs
  obtain ⟨oa, xs, na, hoa, _, hda, hia⟩ := hx
  obtain ⟨ob, ys, nb, hob, _, hdb, hib⟩ := hy
  refine wpAny_call_entry F.slot_tuple_lt tx F.entry_tuple_lt ?_ (F.args_tuple_lt_2 _ _)
  refine (show wpAny _ _ (isInstance (.ref b) (.type "tuple") >>= _) _ _ s from wpAny_bind (wpAny_isInstance ty isSubtype_tuple_tuple ?_))
  simp only [Bool.not_true, Bool.false_eq_true, if_false]
  refine wpAny_bind (wpAny_tupleItemsOf hoa hda (wpAny_bind (wpAny_tupleItemsOf hob hdb (wpAny_bind ?_))))
  have len : xs.size = x.length ∧ ys.size = y.length := ⟨by rw [hia.length, Array.length_toList], by rw [hib.length, Array.length_toList]⟩
  refine wpAny_forIn_list _ (fun rest r s' => r.1 = none ∧ s' = s ∧ ∃ x' y' xs' ys', rest = List.zip xs' ys' ∧ ItemsAre (kd prog w) x' xs' ∧ ItemsAre (kd prog w) y' ys' ∧ ltN x' y' = ltN x y ∧ (x'.length < y'.length ↔ x.length < y.length)) _ ?_ ?_ _ _ ⟨rfl, rfl, x, y, xs.toList, ys.toList, rfl, hia, hib, rfl, Iff.rfl⟩
  · rintro ⟨u, v⟩ rest r s' ⟨hr, rfl, x', y', xs', ys', hz, g1, g2, hl, hq⟩
    cases g1 with
    | nil => simp at hz
    | @cons k1 u' x'' xs'' h1 g1' =>
      cases g2 with
      | nil => simp at hz
      | @cons k2 v' y'' ys'' h2 g2' =>
        simp only [List.zip_cons_cons, List.cons.injEq, Prod.mk.injEq] at hz
        obtain ⟨⟨rfl, rfl⟩, rfl⟩ := hz
        refine wpAny_bind ((kd prog w).eqBool (a := k1) (b := k2) h1 h2 ?_)
        rw [ltN_cons] at hl
        by_cases e : k1 = k2
        · rw [if_pos e] at hl
          rw [decide_eq_true e]
          simp only [Bool.not_true, Bool.false_eq_true, if_false]
          exact wpAny_pure ⟨rfl, rfl, x'', y'', xs'', ys'', rfl, g1', g2', hl, by rw [← hq, List.length_cons, List.length_cons]; exact Nat.succ_lt_succ_iff.symm⟩
        · rw [if_neg e] at hl
          rw [decide_eq_false e]
          simp only [Bool.not_false, if_true]
          obtain ⟨t, rfl⟩ := is_str h1
          obtain ⟨t', rfl⟩ := is_str h2
          rw [← hl] at h
          exact wpAny_bind (wpAny_rule (wpAny_bind (PyProof.Rows.lt_str (wpAny_bind (wpAny_pure (wpAny_pure (wpAny_pure ⟨_, rfl, h⟩)))))))
  · rintro ⟨r1, r2⟩ s' ⟨hr, rfl, x', y', xs', ys', hz, g1, g2, hl, hq⟩
    simp only at hr
    subst hr
    refine wpAny_pure ⟨_, rfl, ?_⟩
    have fin : decide (xs.size < ys.size) = ltN x y := by
      rw [← hl, len.1, len.2]
      rw [show decide (x.length < y.length) = decide (x'.length < y'.length) from decide_eq_decide.mpr hq.symm]
      cases g1 with
      | nil =>
        cases g2 with
        | nil => rfl
        | cons _ _ => rfl
      | cons _ _ =>
        cases g2 with
        | nil => rfl
        | cons _ _ => simp at hz
    show Q (.bool (decide (xs.size < ys.size))) s'
    rw [fin]; exact h
noncomputable abbrev Ln (κ : SortKind) : Prop := κ = general' ∨ κ = oneType' ∨ κ = tuples' true
theorem cmp_ok {κ : SortKind} (hκ : Ln κ) (hu : A.units < cLine) {x y : List Str} {u v : Value} {Q : Bool → Shared → Prop} (hx : Nm prog w s.heap u x) (hy : Nm prog w s.heap v y) (h : Q (ltN x y) s) : wpAny (model prog w) A (keyLt' κ u v) Q E s := by
  obtain ⟨a, rfl, hx⟩ := hx
  obtain ⟨b, rfl, hy⟩ := hy
  rcases hκ with rfl | rfl | rfl
  · show wpAny _ _ (oneLt' false (.ref a) (.ref b)) _ _ _
    refine kat_one _ _ (show wpAny _ _ (richCompare .Lt (.ref a) (.ref b)) _ _ s from wpAny_richCompare_same_room hx.typeIs hy.typeIs F.slot_tuple_lt (tup_lt hx hy ⟨fun z => (nomatch z), h⟩) hu)
  · rw [keyLt'_oneType, oneLt'_eq]
    simp only [if_true]
    refine wpAny_bind (wpAny_cRoomFor hu (wpAny_bind (wpAny_callSpecialIfBound?_slot hx.typeIs F.slot_tuple_lt (tup_lt hx hy ?_))))
    exact wpAny_truthy_bool h
  · have lx := hx
    have ly := hy
    obtain ⟨oa, xs, na, hoa, _, hda, hia⟩ := hx
    obtain ⟨ob, ys, nb, hob, _, hdb, hib⟩ := hy
    exact kat_lt hoa hda hob hdb (lex_ok 0 hia hib (by rw [hia.length, hib.length, Array.length_toList, Array.length_toList]) h)
end
theorem cps_eq {x y : Str} (h : x.cps.toList = y.cps.toList) : x = y := by
  cases x; cases y
  exact congrArg Str.mk (Array.toList_inj.mp h)
theorem ltN_irrefl : ∀ x : List Str, ltN x x = false
  | [] => rfl
  | x :: r => by rw [ltN_cons, if_pos rfl]; exact ltN_irrefl r
theorem ltN_total : ∀ {x y : List Str}, x ≠ y → ltN x y = true ∨ ltN y x = true
  | [], [], h => absurd rfl h
  | [], _ :: _, _ => .inl rfl
  | _ :: _, [], _ => .inr rfl
  | x :: r, y :: q, h => by
    rw [ltN_cons, ltN_cons]
    by_cases e : x = y
    · rw [if_pos e, if_pos e.symm]
      exact ltN_total fun z => h (by rw [e, z])
    · rw [if_neg e, if_neg fun z => e z.symm, decide_eq_true_eq, decide_eq_true_eq]
      by_cases lt : x.cps.toList < y.cps.toList
      · exact .inl lt
      · by_cases gt : y.cps.toList < x.cps.toList
        · exact .inr gt
        · exact absurd (cps_eq (List.le_antisymm (show x.cps.toList ≤ y.cps.toList from gt) (show y.cps.toList ≤ x.cps.toList from lt))) e
theorem ltN_trans : ∀ {x y z : List Str}, ltN x y = true → ltN y z = true → ltN x z = true
  | [], [], _, h, _ => by cases h
  | [], _ :: _, [], _, h => by cases h
  | [], _ :: _, _ :: _, _, _ => rfl
  | _ :: _, [], _, h, _ => by cases h
  | _ :: _, _ :: _, [], _, h => by cases h
  | x :: r, y :: q, z :: t, h1, h2 => by
    rw [ltN_cons] at h1 h2 ⊢
    by_cases e : x = y
    · subst e
      rw [if_pos rfl] at h1
      by_cases e' : x = z
      · rw [if_pos e'] at h2 ⊢
        exact ltN_trans h1 h2
      · rw [if_neg e'] at h2 ⊢
        exact h2
    · rw [if_neg e, decide_eq_true_eq] at h1
      by_cases e' : y = z
      · subst e'
        rw [if_neg e]
        exact decide_eq_true h1
      · rw [if_neg e', decide_eq_true_eq] at h2
        have lt := List.lt_trans h1 h2
        rw [if_neg (fun e2 => by rw [e2] at lt; exact List.lt_irrefl _ lt)]
        exact decide_eq_true lt
theorem cnt_le {α : Type} {p q : α → Bool} : ∀ (l : List α), (∀ x ∈ l, p x = true → q x = true) → l.countP p ≤ l.countP q := fun l h => List.countP_mono_left h
theorem cnt_lt {α : Type} {p q : α → Bool} : ∀ (l : List α), (∀ x, p x = true → q x = true) → (∃ x ∈ l, q x = true ∧ p x = false) → l.countP p < l.countP q
  | [], _, ⟨_, h, _⟩ => nomatch h
  | x :: l, h, ⟨y, hy, a, b⟩ => by
    have le := cnt_le (p := p) (q := q) l fun x _ => h x
    rw [List.countP_cons, List.countP_cons]
    rcases List.mem_cons.mp hy with e | e
    · rw [← e, if_pos a, if_neg (by rw [b]; exact Bool.false_ne_true)]
      omega
    · have lt := cnt_lt l h ⟨y, e, a, b⟩
      by_cases c : p x = true
      · rw [if_pos c, if_pos (h x c)]
        omega
      · rw [if_neg c]
        split <;> omega
noncomputable def rkN (zs : List (List Str)) (i : Nat) : Nat := zs.countP fun z => ltN z (zs.getD i [])
theorem rk_lt {zs : List (List Str)} {i j : Nat} (hi : i < zs.length) : (rkN zs i < rkN zs j) ↔ ltN (zs.getD i []) (zs.getD j []) = true := by
  constructor
  · intro h
    refine Classical.byContradiction fun c => ?_
    by_cases e : zs.getD i [] = zs.getD j []
    · unfold rkN at h
      rw [e] at h
      exact Nat.lt_irrefl _ h
    · rcases ltN_total e with z | z
      · exact c z
      · have := cnt_le (p := fun z => ltN z (zs.getD j [])) (q := fun z => ltN z (zs.getD i [])) zs fun x _ hx => ltN_trans hx z
        unfold rkN at h
        omega
  · intro h
    refine cnt_lt zs (fun x hx => ltN_trans hx h) ⟨zs.getD i [], ?_, h, ltN_irrefl _⟩
    rw [show zs.getD i [] = zs[i] by simp [hi]]
    exact List.getElem_mem hi
section
variable {prog : Program} {w : World} {A : Around} {E : Value → Shared → Prop} {s : Shared}
structure Nms (prog : Program) (w : World) (h : Heap) (vs : List Value) (zs : List (List Str)) : Prop where
  len : vs.length = zs.length
  at' : ∀ i, i < vs.length → Nm prog w h (vs.getD i .none) (zs.getD i [])
theorem or_ok {κ : SortKind} {vs : List Value} {zs : List (List Str)} (hκ : Ln κ) (hu : A.units < cLine) (N : Nms prog w s.heap vs zs) (nd : zs.Nodup) : Or vs.length (rkN zs) (kas_ask prog w A κ vs) s := by
  refine ⟨fun i j C hi hj h => ?_, fun i j hi hj e => ?_⟩
  · refine cmp_ok hκ hu (N.at' i hi) (N.at' j hj) ?_
    rw [show ltN (zs.getD i []) (zs.getD j []) = decide (rkN zs i < rkN zs j) from ?_]
    · exact h
    · rw [Bool.eq_iff_iff, decide_eq_true_eq]
      exact (rk_lt (by rw [← N.len]; exact hi)).symm
  · have hi' : i < zs.length := by rw [← N.len]; exact hi
    have hj' : j < zs.length := by rw [← N.len]; exact hj
    have ez : zs.getD i [] = zs.getD j [] := by
      refine Classical.byContradiction fun c => ?_
      rcases ltN_total c with z | z
      · have := (rk_lt hi').mpr z
        omega
      · have := (rk_lt (i := j) (j := i) hj').mpr z
        omega
    rw [show zs.getD i [] = zs[i] by simp [hi'], show zs.getD j [] = zs[j] by simp [hj']] at ez
    have pw := List.pairwise_iff_getElem.mp nd
    rcases Nat.lt_trichotomy i j with lt | e | gt
    · exact absurd ez (pw i j hi' hj' lt)
    · exact e
    · exact absurd ez.symm (pw j i hj' hi' gt)
theorem first_ok {v : Value} {k : List Str} {Q : Option Value → Shared → Prop} (hv : Nm prog w s.heap v k) (h : ∀ r, (k = [] → r = none) → (k ≠ [] → ∃ x t, r = some (.str x t)) → Q r s) : wpAny (model prog w) A (firstOfTuple' v) Q E s := by
  obtain ⟨b, rfl, o, it, n, ho, hc, hd, hi⟩ := hv
  rw [kas_first_eq]
  refine wpAny_bind (Looks.here (show Looks _ s.heap (typeOf (.ref b)) o.cls from (Looks.ld ho).andThen .now) ?_)
  rw [hc, if_neg (by first | decide | simp)]
  refine wpAny_bind (listItems_at ho hd (wpAny_pure (h _ (fun e => ?_) fun ne => ?_)))
  · subst e
    have : it.toList = [] := by
      generalize it.toList = l at hi
      cases hi
      rfl
    rw [← Array.getElem?_toList, this]
    rfl
  · have : ∃ x t l, it.toList = .str x t :: l := by
      generalize it.toList = l at hi
      cases hi with
      | nil => exact absurd rfl ne
      | cons q _ =>
        obtain ⟨t, rfl⟩ := is_str q
        exact ⟨_, t, _, rfl⟩
    obtain ⟨x, t, l, e⟩ := this
    exact ⟨x, t, by rw [← Array.getElem?_toList, e]; rfl⟩
theorem firsts_ok : ∀ (vs : List Value) {Q : List (Option Value) → Shared → Prop}, (∀ v ∈ vs, ∃ k, Nm prog w s.heap v k) → (∀ rs : List (Option Value), rs.length = vs.length → (∀ r ∈ rs, r = none ∨ ∃ x t, r = some (.str x t)) → Q rs s) → wpAny (model prog w) A (vs.mapM firstOfTuple') Q E s
  | [], Q, _, h => by rw [List.mapM_nil]; exact wpAny_pure (h [] rfl fun _ z => nomatch z)
  | v :: vs, Q, hv, h => by
    rw [List.mapM_cons]
    obtain ⟨k, hk⟩ := hv v List.mem_cons_self
    refine wpAny_bind (first_ok hk fun r r1 r2 => wpAny_bind (firsts_ok vs (fun u hu => hv u (List.mem_cons_of_mem _ hu)) fun rs l a => wpAny_pure (h (r :: rs) (by rw [List.length_cons, l, List.length_cons]) fun x hx => ?_)))
    rcases List.mem_cons.mp hx with e | e
    · rw [e]
      by_cases c : k = []
      · exact .inl (r1 c)
      · exact .inr (r2 c)
    · exact a x e
theorem kind_ok {vs : List Value} {Q : SortKind → Shared → Prop} (h1 : 0 < vs.length) (hv : ∀ v ∈ vs, ∃ k, Nm prog w s.heap v k) (h : ∀ κ, Ln κ → Q κ s) : wpAny (model prog w) A (keyKind' vs.toArray) Q E s := by
  rw [kat_kind_eq, List.mapM_toArray, map_eq_pure_bind]
  refine wpAny_bind (wpAny_bind (firsts_ok vs hv fun rs rl ra => wpAny_pure ?_))
  by_cases c : (rs.toArray.all fun x => x.isSome) = true
  · rw [if_pos c]
    refine wpAny_bind (wpAny_rule ?_)
    have all : ∀ v ∈ rs.filterMap id, ∃ x t, v = .str x t := fun v hv => by
      obtain ⟨r, hr, e⟩ := List.mem_filterMap.mp hv
      rcases ra r hr with z | ⟨x, t, z⟩
      · rw [z] at e; cases e
      · rw [z] at e; cases e; exact ⟨x, t, rfl⟩
    have ne : 0 < (rs.filterMap id).length := by
      obtain ⟨r, rs', rfl⟩ : ∃ r rs', rs = r :: rs' := by
        cases rs with
        | nil => rw [List.length_nil] at rl; omega
        | cons r rs' => exact ⟨r, rs', rfl⟩
      rw [List.all_toArray, List.all_cons, Bool.and_eq_true] at c
      obtain ⟨x, hx⟩ := Option.isSome_iff_exists.mp c.1
      rw [hx]
      exact Nat.succ_pos _
    have fm : (rs.toArray.filterMap id) = (rs.filterMap id).toArray := by simp
    rw [fm, oneTypeOnly'_eq, List.mapM_toArray, map_eq_pure_bind]
    refine wpAny_bind (wpAny_bind (wpAny_bind (kas_mapM (r := Value.type "str") _ (fun v hv Q' hq => ?_) (wpAny_pure ?_))))
    · obtain ⟨x, t, rfl⟩ := all v hv
      exact wpAny_pure hq
    · generalize rs.filterMap id = l at ne
      cases l with
      | nil => exact absurd ne (Nat.lt_irrefl _)
      | cons y l =>
        have a2 : ((List.map (fun _ => Value.type "str") (y :: l)).toArray.all fun x => x == Value.type "str") = true := by
          simp only [List.all_toArray, List.all_map, List.all_eq_true]
          intro _ _
          rfl
        rw [show (List.map (fun _ => Value.type "str") (y :: l)).toArray[0]? = some (Value.type "str") by simp]
        simp only [a2, if_true]
        exact wpAny_pure (wpAny_pure (h _ (.inr (.inr rfl))))
  · rw [if_neg c]
    by_cases d : (rs.toArray[0]?.bind id).isSome = true
    · rw [if_pos d]
      exact wpAny_pure (h _ (.inl rfl))
    · rw [if_neg d, oneTypeOnly'_eq, List.mapM_toArray, map_eq_pure_bind]
      refine wpAny_bind (wpAny_bind (wpAny_bind (kas_mapM (r := Value.type "tuple") _ (fun v hv' Q' hq => ?_) (wpAny_pure ?_))))
      · obtain ⟨k, b, rfl, kk⟩ := hv v hv'
        exact wpAny_typeOf kk.typeIs hq
      · cases vs with
        | nil => exact absurd h1 (Nat.lt_irrefl _)
        | cons y l =>
          have a2 : ((List.map (fun _ => Value.type "tuple") (y :: l)).toArray.all fun x => x == Value.type "tuple") = true := by
            simp only [List.all_toArray, List.all_map, List.all_eq_true]
            intro _ _
            rfl
          rw [show (List.map (fun _ => Value.type "tuple") (y :: l)).toArray[0]? = some (Value.type "tuple") by simp]
          simp only [a2, if_true]
          exact wpAny_pure (wpAny_pure (h _ (.inr (.inl rfl))))
theorem sort_list {ls : Addr} {vs : List Value} {zs : List (List Str)} {n : Nat} {G : PySem.Fin → Shared → Prop} (hu : A.units < cLine) (ho : s.heap.get? ls = some (seqObj "list" vs.toArray n)) (N : Nms prog w s.heap vs zs) (nd : zs.Nodup) (h64 : vs.length < 64)
    (h : ∀ (p : List Nat) (h' : Heap) (c : Nat), p.Perm (List.range vs.length) → (p.map fun i => zs.getD i []).Pairwise (fun x y => ltN x y = true) → h'.get? ls = some (seqObj "list" (p.map fun i => vs.getD i .none).toArray c) → (∀ b o, b ≠ ls → s.heap.get? b = some o → h'.get? b = some o) → G (.done (.ret .none)) { s with heap := h' }) : wpAny (model prog w) A (Builtin.«list.sort» ⟨[.ref ls], []⟩) G E s := by
  have b1 := Heap.SameBut.update s.heap ls (Obj.mapSeq fun _ => (#[] : Array Value))
  have q1 := get?_update_seq ho fun _ => (#[] : Array Value)
  have z : vs.toArray.size ≤ sizeLine := by rw [List.size_toArray, sizeLine_eq]; omega
  rw [list_sort_plain]
  refine wpAny_bind (listItems_at ho rfl (wpAny_bind (listUpdate_at ho rfl (wpAny_bind (seqEpoch_at q1 rfl (wpAny_bind (wpAny_newTuple (wpAny_bind (wpAny_newList (wpAny_holding ?_) (Nat.zero_le _))) (by simpa using z))))) z (Nat.zero_le _))))
  have kp : ∀ b o, b ≠ ls → s.heap.get? b = some o → (((s.heap.update ls (Obj.mapSeq fun _ => (#[] : Array Value))).push (seqObj "tuple" vs.toArray 0)).push (seqObj "list" #[] 0)).get? b = some o := fun b o hb e => Heap.get?_push_of_some _ (Heap.get?_push_of_some _ ((b1.2 b hb).trans e))
  have q2 : (((s.heap.update ls (Obj.mapSeq fun _ => (#[] : Array Value))).push (seqObj "tuple" vs.toArray 0)).push (seqObj "list" #[] 0)).get? ls = _ := Heap.get?_push_of_some _ (Heap.get?_push_of_some _ q1)
  show wpAny (model prog w) A _ G E { s with heap := ((s.heap.update ls (Obj.mapSeq fun _ => (#[] : Array Value))).push (seqObj "tuple" vs.toArray 0)).push (seqObj "list" #[] 0) }
  generalize ((s.heap.update ls (Obj.mapSeq fun _ => (#[] : Array Value))).push (seqObj "tuple" vs.toArray 0)).push (seqObj "list" #[] 0) = h1 at kp q2
  have nm1 : Nms prog w h1 vs zs := ⟨N.len, fun i hi => by
    obtain ⟨b, e, o, it, m, g1, g2, g3, g4⟩ := N.at' i hi
    refine ⟨b, e, o, it, m, kp b o (fun eb => ?_) g1, g2, g3, g4⟩
    rw [eb, ho] at g1
    cases g1
    exact absurd (show Value.type "list" = Value.type "tuple" from g2) (by simp)⟩
  have szz : (vs.toArray.zip vs.toArray).size = vs.length := by simp
  have up : ∀ (p : List Nat), p.Perm (List.range vs.length) → ((p.map fun i => vs.getD i Value.none).toArray).size ≤ sizeLine := fun p pp => by
    rw [List.size_toArray, List.length_map, pp.length_eq, List.length_range, sizeLine_eq]; omega
  have oth : ∀ (f : Array Value → Array Value) b o, b ≠ ls → s.heap.get? b = some o → (h1.update ls (Obj.mapSeq f)).get? b = some o := fun f b o hb e => ((Heap.SameBut.update h1 ls (Obj.mapSeq f)).2 b hb).trans (kp b o hb e)
  by_cases c : vs.length < 2
  · have c' : vs.toArray.size < 2 := by rw [List.size_toArray]; exact c
    rw [if_pos c', if_pos c']
    refine wpAny_bind (wpAny_pure ?_)
    dsimp only
    rw [StateT.run_pure]
    refine wpAny_bind (wpAny_pure ?_)
    dsimp only
    refine wpAny_bind (seqEpoch_at q2 rfl ?_)
    have hout := kat_snds (ks := vs) (vs := vs) rfl (st := SortSt.mk' general' (vs.toArray.zip vs.toArray) #[] 7 none) (p := (List.range vs.length).toArray) (by
      have e := kas_range (vs.toArray.zip vs.toArray)
      rw [szz] at e
      exact e.symm)
    rw [hout]
    refine wpAny_bind (listUpdate_at q2 rfl ?_ (Nat.zero_le _) (Nat.le_succ_of_le (up _ (List.Perm.refl _))))
    simp only [bne_self_eq_false, Bool.false_eq_true, if_false]
    refine wpAny_pure (h (List.range vs.length) _ _ (List.Perm.refl _) ?_ (get?_update_seq q2 _) (oth _))
    rcases Nat.eq_zero_or_pos vs.length with e | e
    · rw [e]; exact .nil
    · rw [show vs.length = 1 by omega]
      exact List.pairwise_singleton ..
  · have c' : ¬ vs.toArray.size < 2 := by rw [List.size_toArray]; exact c
    rw [if_neg c', if_neg c']
    have hv : ∀ v ∈ vs, ∃ k, Nm prog w h1 v k := fun v hm => by
      obtain ⟨i, hi, e⟩ := List.mem_iff_getElem.mp hm
      have := nm1.at' i hi
      rw [show vs.getD i Value.none = v by simp [hi, e]] at this
      exact ⟨_, this⟩
    refine wpAny_bind (kind_ok (s := { s with heap := h1 }) (by omega) hv fun κ hκ => ?_)
    refine wpAny_bind (wpAny_mono (kat_run (s := { s with heap := h1 }) (Q := fun st' s' => s' = { s with heap := h1 } ∧ ∃ p : Array Nat, Pm p vs.length ∧ Ri (rkN zs) p vs.length ∧ arrOf st' = p.map (kas_item (vs.toArray.zip vs.toArray)) ∧ failedOf st' = none) (G := fun p s' => s' = { s with heap := h1 } ∧ Pm p vs.length ∧ Ri (rkN zs) p vs.length) (ks := vs) (vs := vs) rfl (by omega) h64 (fun p' st' s' a1 a2 a3 a4 => ⟨a4.1, p', a4.2.1, a4.2.2, a2, a3⟩) (sort_ok (or_ok (s := { s with heap := h1 }) hκ hu nm1 nd) (by omega) fun p pp ri => ⟨rfl, pp, ri⟩)) ?_ fun _ _ e => e)
    rintro ⟨⟨⟩, st'⟩ s' ⟨rfl, p, pp, ri, har, hf⟩
    dsimp only
    have hout := kat_snds (ks := vs) (vs := vs) rfl har
    refine wpAny_bind (seqEpoch_at q2 rfl ?_)
    rw [hout]
    refine wpAny_bind (listUpdate_at q2 rfl ?_ (Nat.zero_le _) (Nat.le_succ_of_le (up _ pp)))
    rw [hf]
    simp only [bne_self_eq_false, Bool.false_eq_true, if_false]
    refine wpAny_pure (h p.toList _ _ pp ?_ (get?_update_seq q2 _) (oth _))
    refine List.pairwise_map.mpr (List.pairwise_iff_getElem.mpr fun i j hi hj ij => ?_)
    have sz := pp.size
    rw [Array.length_toList, sz] at hi hj
    have gi : p.toList[i] = p.getD i 0 := by simp [Array.getD, sz, hi]
    have gj : p.toList[j] = p.getD j 0 := by simp [Array.getD, sz, hj]
    rw [gi, gj]
    exact (rk_lt (by rw [← N.len]; exact pp.lt hi)).mp (ri i j ij hj)
end
end STb

set_option Elab.async false
set_option linter.all false
set_option maxRecDepth 100000
namespace DL
open PySem PySem.Spec L2
open PyProof.Rows hiding St

noncomputable def S (x : List Nat) : Str := ⟨x.toArray⟩
inductive D where
  | non | bl (b : Bool) | int (i : Int) | str (x : List Nat) | tup (xs : List D) | lst (xs : List D) | ref (a : Addr)

noncomputable def FzL (K : PySem.W.Frag) (H : Hp) (a : Addr) (xs : List V) : Prop :=
  (∃ o, H a = some (.frz o (.lst xs))) ∨
    ∃ (o : Obj) (its : Array Value) (n : Nat), K.lookup a = some o ∧ o.cls = .type "list" ∧ o.dict = none ∧ o.data = .seq its n ∧ its.size ≤ sizeLine ∧ Vals xs its.toList
theorem FzL.sq {K : PySem.W.Frag} {H : Hp} {a : Addr} {xs : List V} (h : FzL K H a xs) : SqL K H a xs := by
  rcases h with ⟨o, h⟩ | h
  · exact .inl (.inr ⟨o, h⟩)
  · exact .inr h

mutual
inductive Den (K : PySem.W.Frag) (H : Hp) : D → V → Prop
  | non : Den K H .non .non
  | bl (b : Bool) : Den K H (.bl b) (.bl b)
  | int (i : Int) : Den K H (.int i) (.int i)
  | str (x : List Nat) (h : (x.all fun c => decide (c < 1114112)) = true) : Den K H (.str x) (.str (S x))
  | ref (a : Addr) : Den K H (.ref a) (.ref a)
  | tup {a : Addr} {ds : List D} {vs : List V} : H a = some (.tup vs) → Dens K H ds vs → Den K H (.tup ds) (.ref a)
  | lst {a : Addr} {ds : List D} {vs : List V} : FzL K H a vs → Dens K H ds vs → Den K H (.lst ds) (.ref a)
inductive Dens (K : PySem.W.Frag) (H : Hp) : List D → List V → Prop
  | nil : Dens K H [] []
  | cons {d : D} {v : V} {ds : List D} {vs : List V} : Den K H d v → Dens K H ds vs → Dens K H (d :: ds) (v :: vs)
end

structure Ext (H H' : Hp) : Prop where
  tup : ∀ b xs, H b = some (.tup xs) → H' b = some (.tup xs)
  frz : ∀ b o u, H b = some (.frz o u) → H' b = some (.frz o u)
theorem Ext.refl (H : Hp) : Ext H H := ⟨fun _ _ e => e, fun _ _ _ e => e⟩
theorem Ext.trans {H H1 H2 : Hp} (a : Ext H H1) (b : Ext H1 H2) : Ext H H2 := ⟨fun c xs e => b.tup c xs (a.tup c xs e), fun c o u e => b.frz c o u (a.frz c o u e)⟩
theorem Ext.new {H : Hp} {p : Addr} {o : HO} (h : H p = none) : Ext H (upd H p o) :=
  ⟨fun b xs e => by rw [upd_ne (ne_of_none e h)]; exact e, fun b o u e => by rw [upd_ne (ne_of_none e h)]; exact e⟩
theorem Ext.mut {H : Hp} {p : Addr} {u o : HO} (h : H p = some u) (h1 : ∀ xs, u ≠ .tup xs) (h2 : ∀ ob v, u ≠ .frz ob v) : Ext H (upd H p o) :=
  ⟨fun b ys e => by rw [upd_ne fun w => by rw [w, h] at e; cases e; exact h1 _ rfl]; exact e, fun b ob y e => by rw [upd_ne fun w => by rw [w, h] at e; cases e; exact h2 _ _ rfl]; exact e⟩
theorem Ext.lst {H : Hp} {p : Addr} {xs : List V} {o : HO} (h : H p = some (.lst xs)) : Ext H (upd H p o) :=
  ⟨fun b ys e => by rw [upd_ne fun w => by rw [w, h] at e; cases e]; exact e, fun b u y e => by rw [upd_ne fun w => by rw [w, h] at e; cases e]; exact e⟩

section
variable {K : PySem.W.Frag} {H H' : Hp}
theorem SqT.ext {a : Addr} {xs : List V} (x : Ext H H') (h : SqT K H a xs) : SqT K H' a xs := by
  rcases h with (h | ⟨o, h⟩) | h
  · exact .inl (.inl (x.tup _ _ h))
  · exact .inl (.inr ⟨o, x.frz _ _ _ h⟩)
  · exact .inr h
theorem FzL.ext {a : Addr} {xs : List V} (x : Ext H H') (h : FzL K H a xs) : FzL K H' a xs := by
  rcases h with ⟨o, h⟩ | h
  · exact .inl ⟨o, x.frz _ _ _ h⟩
  · exact .inr h
mutual
theorem Den.ext (x : Ext H H') : ∀ {d : D} {v : V}, Den K H d v → Den K H' d v
  | _, _, .non => .non
  | _, _, .bl b => .bl b
  | _, _, .int i => .int i
  | _, _, .str s h => .str s h
  | _, _, .ref a => .ref a
  | _, _, .tup h t => .tup (x.tup _ _ h) (Dens.ext x t)
  | _, _, .lst h t => .lst (FzL.ext x h) (Dens.ext x t)
theorem Dens.ext (x : Ext H H') : ∀ {ds : List D} {vs : List V}, Dens K H ds vs → Dens K H' ds vs
  | _, _, .nil => .nil
  | _, _, .cons h t => .cons (Den.ext x h) (Dens.ext x t)
end
theorem Dens.length : ∀ {ds : List D} {vs : List V}, Dens K H ds vs → ds.length = vs.length
  | _, _, .nil => rfl
  | _, _, .cons _ t => by rw [List.length_cons, List.length_cons, Dens.length t]
theorem Dens.get : ∀ {ds : List D} {vs : List V} {i : Nat} {d : D}, Dens K H ds vs → ds[i]? = some d → ∃ v, vs[i]? = some v ∧ Den K H d v
  | _, _, _, _, .nil, e => by simp at e
  | _, _, 0, _, .cons r _, e => by simp at e; subst e; exact ⟨_, rfl, r⟩
  | _, _, i + 1, d, .cons _ t, e => by
    obtain ⟨u, h1, h2⟩ := Dens.get (i := i) (d := d) t (by simpa using e)
    exact ⟨u, by simpa using h1, h2⟩
theorem Dens.get' : ∀ {ds : List D} {vs : List V} {i : Nat} {v : V}, Dens K H ds vs → vs[i]? = some v → ∃ d, ds[i]? = some d ∧ Den K H d v
  | _, _, _, _, .nil, e => by simp at e
  | _, _, 0, _, .cons r _, e => by simp at e; subst e; exact ⟨_, rfl, r⟩
  | _, _, i + 1, d, .cons _ t, e => by
    obtain ⟨u, h1, h2⟩ := Dens.get' (i := i) (v := d) t (by simpa using e)
    exact ⟨u, by simpa using h1, h2⟩
theorem Dens.append : ∀ {ds es : List D} {vs ws : List V}, Dens K H ds vs → Dens K H es ws → Dens K H (ds ++ es) (vs ++ ws)
  | _, _, _, _, .nil, s => s
  | _, _, _, _, .cons r t, s => .cons r (Dens.append t s)
theorem Dens.take : ∀ {ds : List D} {vs : List V} (n : Nat), Dens K H ds vs → Dens K H (ds.take n) (vs.take n)
  | _, _, 0, _ => .nil
  | _, _, _ + 1, .nil => .nil
  | _, _, n + 1, .cons r t => .cons r (Dens.take n t)
theorem Dens.drop : ∀ {ds : List D} {vs : List V} (n : Nat), Dens K H ds vs → Dens K H (ds.drop n) (vs.drop n)
  | _, _, 0, r => r
  | _, _, _ + 1, .nil => .nil
  | _, _, n + 1, .cons _ t => Dens.drop n t
theorem Dens.reverse {ds : List D} {vs : List V} (h : Dens K H ds vs) : Dens K H ds.reverse vs.reverse := by
  induction ds generalizing vs with
  | nil => cases h; exact .nil
  | cons d r ih =>
    cases h with
    | cons a t => rw [List.reverse_cons, List.reverse_cons]; exact Dens.append (ih t) (.cons a .nil)
end

noncomputable abbrev DSt := List (Option D)
inductive MO2 where
  | dct (kvs : List (List (List Nat) × D))
  | dkt (kvs : List (List Nat × D))
  | dkf (ob : Obj) (kvs : List (List Nat × D))
  | dcf (ob : Obj) (kvs : List (List (List Nat) × D))
  | dnt (ep : Nat) (kvs : List ((List Nat × List (List Nat) × List (List Nat)) × D)) --N
  | ins (c : Str) (fs : List (Str × D))
inductive MO where
  | lst (ds : List D)
  | oth (o : MO2)
noncomputable abbrev DH := Addr → Option MO
noncomputable def dupd (M : DH) (a : Addr) (o : MO) : DH := fun b => if b = a then some o else M b
theorem dupd_same {M : DH} {a : Addr} {o : MO} : dupd M a o a = some o := if_pos rfl
theorem dupd_ne {M : DH} {a b : Addr} {o : MO} (h : b ≠ a) : dupd M a o b = M b := if_neg h
theorem dne {M : DH} {a b : Addr} {o : MO} (h : M a = some o) (h' : M b = none) : a ≠ b := by
  intro e; subst e; rw [h] at h'; cases h'
theorem dupd_dupd {M : DH} {a : Addr} {o u : MO} : dupd (dupd M a o) a u = dupd M a u := by
  funext b
  unfold dupd
  by_cases h : b = a
  · rw [if_pos h, if_pos h]
  · rw [if_neg h, if_neg h, if_neg h]

noncomputable def DenO (K : PySem.W.Frag) (H : Hp) : Option D → Option V → Prop
  | none, none => True
  | some d, some v => Den K H d v
  | _, _ => False
inductive SimS (K : PySem.W.Frag) (H : Hp) : DSt → St → Prop
  | nil : SimS K H [] []
  | cons {d : Option D} {v : Option V} {ds : DSt} {vs : St} : DenO K H d v → SimS K H ds vs → SimS K H (d :: ds) (v :: vs)
noncomputable def nk (n : List (List Nat)) : List Key := n.map fun x => Sum.inr (S x)
noncomputable abbrev KDs (K : PySem.W.Frag) (H : Hp) : List (List (List Nat) × D) → List (List Key × V) → Prop := Paired fun p q => q.1 = nk p.1 ∧ Den K H p.2 q.2
noncomputable def tkk (x : List Nat) : Key := Sum.inr (S x)
noncomputable abbrev KTs (K : PySem.W.Frag) (H : Hp) : List (List Nat × D) → List (Key × V) → Prop := Paired fun p q => q.1 = tkk p.1 ∧ Den K H p.2 q.2
noncomputable def nk3 (k : List Nat × List (List Nat) × List (List Nat)) : NK.Key3 Key := (tkk k.1, nk k.2.1, nk k.2.2) --N
noncomputable def kGood (k : List Nat × List (List Nat) × List (List Nat)) : Prop := ∀ w ∈ k.1 :: (k.2.1 ++ k.2.2), (w.all fun c => decide (c < 1114112)) = true --N
noncomputable abbrev KNs (K : PySem.W.Frag) (H : Hp) : List ((List Nat × List (List Nat) × List (List Nat)) × D) → List (NK.Key3 Key × V) → Prop := Paired fun p q => q.1 = nk3 p.1 ∧ Den K H p.2 q.2 ∧ kGood p.1 --N
noncomputable abbrev FDs (K : PySem.W.Frag) (H : Hp) : List (Str × D) → List (Str × V) → Prop := Paired fun p q => p.1 = q.1 ∧ Den K H p.2 q.2
noncomputable def MOk2 (K : PySem.W.Frag) (H : Hp) (a : Addr) : MO2 → Prop
  | .dct kvs => ∃ vs, H a = some (.dT vs) ∧ KDs K H kvs vs
  | .dkt kvs => ∃ vs, H a = some (.dK vs) ∧ KTs K H kvs vs
  | .dkf ob kvs => ∃ vs, H a = some (.frz ob (.dK vs)) ∧ KTs K H kvs vs
  | .dcf ob kvs => ∃ vs, H a = some (.frz ob (.dT vs)) ∧ KDs K H kvs vs
  | .dnt ep kvs => ∃ vs, H a = some (.dN ep vs) ∧ KNs K H kvs vs --N
  | .ins c fs => ∃ C dx vs, PySem.W.nsIn K mainGlobals c = some (some (.ref C)) ∧ H a = some (.ins C dx vs) ∧ FDs K H fs vs
noncomputable def MOk (K : PySem.W.Frag) (H : Hp) (a : Addr) : MO → Prop
  | .lst ds => ∃ vs, H a = some (.lst vs) ∧ Dens K H ds vs
  | .oth o => MOk2 K H a o
noncomputable def SimM (K : PySem.W.Frag) (M : DH) (H : Hp) : Prop := ∀ a o, M a = some o → MOk K H a o

section
variable {K : PySem.W.Frag} {H H' : Hp} {M : DH}
theorem DenO.ext (x : Ext H H') : ∀ {d : Option D} {v : Option V}, DenO K H d v → DenO K H' d v
  | none, none, _ => trivial
  | some _, some _, h => Den.ext x h
  | none, some _, h => h.elim
  | some _, none, h => h.elim
theorem SimS.ext (x : Ext H H') : ∀ {ds : DSt} {vs : St}, SimS K H ds vs → SimS K H' ds vs
  | _, _, .nil => .nil
  | _, _, .cons h t => .cons (h.ext x) (SimS.ext x t)
theorem SimS.length : ∀ {ds : DSt} {vs : St}, SimS K H ds vs → ds.length = vs.length
  | _, _, .nil => rfl
  | _, _, .cons _ t => by rw [List.length_cons, List.length_cons, SimS.length t]
theorem SimS.get : ∀ {ds : DSt} {vs : St} {i : Nat} {d : D}, SimS K H ds vs → ds[i]? = some (some d) → ∃ v, vs[i]? = some (some v) ∧ Den K H d v
  | _, _, _, _, .nil, e => by simp at e
  | _, some v :: _, 0, d, .cons (d := some d') r _, e => by simp at e; subst e; exact ⟨v, rfl, r⟩
  | _, none :: _, 0, d, .cons (d := some d') r _, e => r.elim
  | _, _, 0, d, .cons (d := none) r _, e => by simp at e
  | _, _, i + 1, d, .cons _ t, e => by
    obtain ⟨u, h1, h2⟩ := SimS.get (i := i) (d := d) t (by simpa using e)
    exact ⟨u, by simpa using h1, h2⟩
theorem SimS.getD : ∀ {ds : DSt} {vs : St} (i : Nat), SimS K H ds vs → DenO K H ((ds[i]?).getD none) ((vs[i]?).getD none)
  | _, _, _, .nil => by simp; exact trivial
  | _, _, 0, .cons r _ => by simpa using r
  | _, _, i + 1, .cons _ t => by simpa using SimS.getD i t
theorem SimS.set {d : D} {v : V} (r : Den K H d v) : ∀ {ds : DSt} {vs : St} (i : Nat), SimS K H ds vs → SimS K H (ds.set i (some d)) (vs.set i (some v))
  | _, _, _, .nil => .nil
  | _, _, 0, .cons _ t => .cons r t
  | _, _, i + 1, .cons q t => .cons q (SimS.set r i t)
theorem SimS.append : ∀ {ds es : DSt} {vs ws : St}, SimS K H ds vs → SimS K H es ws → SimS K H (ds ++ es) (vs ++ ws)
  | _, _, _, _, .nil, s => s
  | _, _, _, _, .cons r t, s => .cons r (SimS.append t s)
theorem SimS.nones : ∀ k : Nat, SimS K H (List.replicate k none) (List.replicate k none)
  | 0 => .nil
  | k + 1 => .cons trivial (SimS.nones k)
theorem SimS.ofDens : ∀ {ds : List D} {vs : List V}, Dens K H ds vs → SimS K H (ds.map some) (vs.map some)
  | _, _, .nil => .nil
  | _, _, .cons r t => .cons r (SimS.ofDens t)
theorem SimS.pick {ds : DSt} {vs : St} (h : SimS K H ds vs) : ∀ ix : List Nat, SimS K H (ix.map fun i => (ds[i]?).getD none) (ix.map fun i => (vs[i]?).getD none)
  | [] => .nil
  | i :: r => .cons (h.getD i) (SimS.pick h r)
theorem MOk.keep {a : Addr} {o : MO} (h : MOk K H a o) (x : Ext H H') (e : H' a = H a) : MOk K H' a o := by
  cases o with
  | lst ds => obtain ⟨vs, e1, e2⟩ := h; exact ⟨vs, e.trans e1, e2.ext x⟩
  | oth o =>
    cases o with
    | dct kvs => obtain ⟨vs, e1, e2⟩ := h; exact ⟨vs, e.trans e1, Paired.mapP e2 fun p q z => ⟨z.1, Den.ext x z.2⟩⟩
    | dkt kvs => obtain ⟨vs, e1, e2⟩ := h; exact ⟨vs, e.trans e1, Paired.mapP e2 fun p q z => ⟨z.1, Den.ext x z.2⟩⟩
    | dkf ob kvs => obtain ⟨vs, e1, e2⟩ := h; exact ⟨vs, e.trans e1, Paired.mapP e2 fun p q z => ⟨z.1, Den.ext x z.2⟩⟩
    | dcf ob kvs => obtain ⟨vs, e1, e2⟩ := h; exact ⟨vs, e.trans e1, Paired.mapP e2 fun p q z => ⟨z.1, Den.ext x z.2⟩⟩
    | dnt ep kvs => obtain ⟨vs, e1, e2⟩ := h; exact ⟨vs, e.trans e1, Paired.mapP e2 fun p q z => ⟨z.1, Den.ext x z.2.1, z.2.2⟩⟩ --N
    | ins c fs => obtain ⟨C, dx, vs, e0, e1, e2⟩ := h; exact ⟨C, dx, vs, e0, e.trans e1, Paired.mapP e2 fun p q z => ⟨z.1, Den.ext x z.2⟩⟩
theorem MOk.there {a : Addr} {o : MO} (h : MOk K H a o) : ∃ u, H a = some u := by
  cases o with
  | lst ds => obtain ⟨vs, e1, e2⟩ := h; exact ⟨_, e1⟩
  | oth o =>
    cases o with
    | dct kvs => obtain ⟨vs, e1, e2⟩ := h; exact ⟨_, e1⟩
    | dkt kvs => obtain ⟨vs, e1, e2⟩ := h; exact ⟨_, e1⟩
    | dkf ob kvs => obtain ⟨vs, e1, e2⟩ := h; exact ⟨_, e1⟩
    | dcf ob kvs => obtain ⟨vs, e1, e2⟩ := h; exact ⟨_, e1⟩
    | dnt ep kvs => obtain ⟨vs, e1, e2⟩ := h; exact ⟨_, e1⟩ --N
    | ins c fs => obtain ⟨C, dx, vs, e0, e1, e2⟩ := h; exact ⟨_, e1⟩
theorem SimM.free (h : SimM K M H) {p : Addr} (e : H p = none) : M p = none := by
  cases q : M p with
  | none => rfl
  | some o => obtain ⟨u, e'⟩ := (h p _ q).there; rw [e] at e'; cases e'
theorem SimM.get (h : SimM K M H) {a : Addr} {ds : List D} (e : M a = some (.lst ds)) : ∃ vs, H a = some (.lst vs) ∧ Dens K H ds vs := h a _ e
theorem SimM.new (h : SimM K M H) {p : Addr} {o : HO} (e : H p = none) : SimM K M (upd H p o) := fun a u q => by
  obtain ⟨u', e1⟩ := (h a _ q).there
  exact (h a _ q).keep (Ext.new e) (upd_ne (ne_of_none e1 e))
theorem SimM.newL (h : SimM K M H) {p : Addr} {vs : List V} {ds : List D} (e : H p = none) (r : Dens K H ds vs) : SimM K (dupd M p (.lst ds)) (upd H p (.lst vs)) := fun a u q => by
  by_cases ha : a = p
  · subst ha
    rw [dupd_same] at q
    cases q
    exact ⟨vs, upd_same, Dens.ext (Ext.new e) r⟩
  · rw [dupd_ne ha] at q
    exact (h.new e) a u q
theorem SimM.write (h : SimM K M H) {p : Addr} {ws vs : List V} {ds : List D} (e : H p = some (.lst ws)) (r : Dens K H ds vs) : SimM K (dupd M p (.lst ds)) (upd H p (.lst vs)) := fun a u q => by
  by_cases ha : a = p
  · subst ha
    rw [dupd_same] at q
    cases q
    exact ⟨vs, upd_same, Dens.ext (Ext.lst e) r⟩
  · rw [dupd_ne ha] at q
    exact (h a _ q).keep (Ext.lst e) (upd_ne ha)
theorem SimM.put (h : SimM K M H) {p : Addr} {o : HO} {u : MO} (x : Ext H (upd H p o)) (n : MOk K (upd H p o) p u) : SimM K (dupd M p u) (upd H p o) := fun a v q => by
  by_cases ha : a = p
  · subst ha
    rw [dupd_same] at q
    cases q
    exact n
  · rw [dupd_ne ha] at q
    exact (h a _ q).keep x (upd_ne ha)
noncomputable def ddel (M : DH) (a : Addr) : DH := fun b => if b = a then none else M b
theorem SimM.frz (h : SimM K M H) {p : Addr} {ws : List V} {o : HO} (e : H p = some (.lst ws)) : SimM K (ddel M p) (upd H p o) := fun a u q => by
  unfold ddel at q
  by_cases ha : a = p
  · rw [if_pos ha] at q; cases q
  · rw [if_neg ha] at q
    exact (h a _ q).keep (Ext.lst e) (upd_ne ha)
end

noncomputable abbrev DK := D → DH → Prop
noncomputable abbrev DTE := DSt → DH → DK → Prop
noncomputable abbrev DTT := DSt → DH → (Bool → DH → Prop) → Prop
noncomputable abbrev DTA := DSt → DH → (List D → DH → Prop) → Prop
structure DEnds where
  nx : DSt → DH → Prop
  rt : DK
  bk : DSt → DH → Prop
  ct : DSt → DH → Prop
noncomputable abbrev DTS := DEnds → DSt → DH → Prop

noncomputable def Aft (K : PySem.W.Frag) (H : Hp) (R : DK) (Q : VK) : Prop := ∀ d M' v H', R d M' → Ext H H' → SimM K M' H' → Den K H' d v → Q v H'
noncomputable def lE (K : PySem.W.Frag) (t : DTE) : TE := fun σ H Q => ∃ ρ M R, SimS K H ρ σ ∧ SimM K M H ∧ t ρ M R ∧ Aft K H R Q
noncomputable def lT (K : PySem.W.Frag) (t : DTT) : TT := fun σ H Q => ∃ ρ M R, SimS K H ρ σ ∧ SimM K M H ∧ t ρ M R ∧ ∀ b M' H', R b M' → Ext H H' → SimM K M' H' → Q b H'
noncomputable def lA (K : PySem.W.Frag) (t : DTA) : TA := fun σ H Q => ∃ ρ M R, SimS K H ρ σ ∧ SimM K M H ∧ t ρ M R ∧ ∀ ds M' vs H', R ds M' → Ext H H' → SimM K M' H' → Dens K H' ds vs → Q vs H'
structure Fin (K : PySem.W.Frag) (H : Hp) (DD : DEnds) (D : Ends) : Prop where
  nx : ∀ ρ' M' σ' H', DD.nx ρ' M' → Ext H H' → SimS K H' ρ' σ' → SimM K M' H' → D.nx σ' H'
  rt : Aft K H DD.rt D.rt
  bk : ∀ ρ' M' σ' H', DD.bk ρ' M' → Ext H H' → SimS K H' ρ' σ' → SimM K M' H' → D.bk σ' H'
  ct : ∀ ρ' M' σ' H', DD.ct ρ' M' → Ext H H' → SimS K H' ρ' σ' → SimM K M' H' → D.ct σ' H'
noncomputable def lS (K : PySem.W.Frag) (t : DTS) : TS := fun D σ H => ∃ ρ M DD, SimS K H ρ σ ∧ SimM K M H ∧ t DD ρ M ∧ Fin K H DD D
theorem Aft.ext {K : PySem.W.Frag} {H H' : Hp} {R : DK} {Q : VK} (a : Aft K H R Q) (x : Ext H H') : Aft K H' R Q := fun d M v H'' r y => a d M v H'' r (x.trans y)
theorem Fin.ext {K : PySem.W.Frag} {H H' : Hp} {DD : DEnds} {D : Ends} (a : Fin K H DD D) (x : Ext H H') : Fin K H' DD D :=
  ⟨fun r M s H2 q y => a.nx r M s H2 q (x.trans y), a.rt.ext x, fun r M s H2 q y => a.bk r M s H2 q (x.trans y), fun r M s H2 q y => a.ct r M s H2 q (x.trans y)⟩

noncomputable abbrev DE (X : Cx) (e : Expr) (t : DTE) : Prop := PE X e (lE X.K t)
noncomputable abbrev DT (X : Cx) (e : Expr) (t : DTT) : Prop := PT X e (lT X.K t)
noncomputable abbrev DW (X : Cx) (e : Expr) (t : DTT) : Prop := PW X e (lT X.K t)
noncomputable abbrev DA (X : Cx) (es : List Expr) (t : DTA) : Prop := PA X es (lA X.K t)
noncomputable abbrev DS (X : Cx) (st : Stmt) (t : DTS) : Prop := PS X st (lS X.K t)
noncomputable abbrev DSs (X : Cx) (st : List Stmt) (t : DTS) : Prop := PSs X st (lS X.K t)
end DL

set_option Elab.async false
set_option linter.all false
set_option maxRecDepth 100000
namespace DL
open PySem PySem.Spec L2
open PyProof.Rows hiding St
section
variable {X : Cx} {a b c e : Expr} {es : List Expr} {ta tb te : DTE} {tt tu : DTT} {pos : Pos} {K : PySem.W.Frag}

noncomputable def dVar (i : Nat) : DTE := fun ρ M Q => match ρ[i]? with
  | some (some d) => Q d M
  | _ => False
theorem dv (i : Nat) {x : Str} {pos : Pos} (hN : X.N[i]? = some x := by rfl) (hv : Vis X.env.scope x := by first | exact Or.inl rfl | exact Or.inr (Or.inl rfl) | exact Or.inr (Or.inr rfl)) (hd : (x == ("__debug__" : Str)) = false := by decide)
    (hcd : (x == ("__classdict__" : Str)) = false := by decide) : DE X (.Name x pos) (dVar i) := (pe_var hN hv hd hcd).imp fun σ H Q ⟨ρ, M, R, s, m, h, k⟩ => by
  unfold dVar at h
  cases e : ρ[i]? with
  | none => rw [e] at h; exact h.elim
  | some o =>
    rw [e] at h
    cases o with
    | none => exact h.elim
    | some d =>
      obtain ⟨v, e1, e2⟩ := s.get e
      exact ⟨v, e1, k d M v H h (Ext.refl H) m e2⟩
noncomputable def dC (d : D) : DTE := fun _ M Q => Q d M
theorem dc_of {d : D} {v : V} (h : PE X e (tC v)) (hd : ∀ H, Den X.K H d v) : DE X e (dC d) := h.imp fun σ H Q ⟨ρ, M, R, s, m, h, k⟩ => k d M v H h (Ext.refl H) m (hd H)
theorem de_int {i j pos} : DE X (.Constant (.int i) j pos) (dC (.int i)) := dc_of pe_int fun _ => .int i
theorem de_bl {i j pos} : DE X (.Constant (.bool i) j pos) (dC (.bl i)) := dc_of pe_bl fun _ => .bl i
theorem de_non {j pos} : DE X (.Constant .none j pos) (dC .non) := dc_of pe_non fun _ => .non
theorem S_of' (x : Str) : S x.cps.toList = x := by unfold S; cases x; simp
theorem de_str {i : Str} {j pos} (h : (i.cps.toList.all fun c => decide (c < 1114112)) = true := by decide) : DE X (.Constant (.str i) j pos) (dC (.str i.cps.toList)) := dc_of pe_str fun H => by
  have q := Den.str (K := X.K) (H := H) i.cps.toList h
  rw [S_of'] at q
  exact q
noncomputable abbrev DR2 := D → D → DH → DK → Prop
noncomputable def lR2 (K : PySem.W.Frag) (r : DR2) : R2 := fun x y H Q => ∃ dx dy M R, Den K H dx x ∧ Den K H dy y ∧ SimM K M H ∧ r dx dy M R ∧ Aft K H R Q
noncomputable abbrev OpD (X : Cx) (f : Value → Value → Sem Value) (r : DR2) : Prop := OpR X f (lR2 X.K r)
noncomputable def dOp (r : DR2) (ta tb : DTE) : DTE := fun ρ M Q => ta ρ M fun x M1 => tb ρ M1 fun y M2 => r x y M2 Q
theorem op_low {r : DR2} {σ : St} {H : Hp} {Q : VK} {rV : R2} (hr : ∀ x y H Q, lR2 K r x y H Q → rV x y H Q) (h : lE K (dOp r ta tb) σ H Q) : tOp rV (lE K ta) (lE K tb) σ H Q := by
  obtain ⟨ρ, M, R, s, m, h, k⟩ := h
  refine ⟨ρ, M, _, s, m, h, fun d1 M1 v1 H1 h1 x1 m1 e1 => ⟨ρ, M1, _, s.ext x1, m1, h1, fun d2 M2 v2 H2 h2 x2 m2 e2 => hr _ _ _ _ ⟨d1, d2, M2, R, e1.ext x2, e2, m2, h2, k.ext (x1.trans x2)⟩⟩⟩
theorem de_op {op : Operator} {r : DR2} (ho : OpD X (binaryOp op) r) (ha : DE X a ta) (hb : DE X b tb) : DE X (.BinOp a op b pos) (dOp r ta tb) :=
  (pe_op ho ha hb).imp fun σ H Q h => op_low (fun _ _ _ _ q => q) h
theorem de_cmp {op : CmpOp} {r : DR2} (ho : OpD X (compareOp op) r) (ha : DE X a ta) (hb : DE X b tb) (hm : behindInMarks op b = false := by first | exact nobehind _ (by decide) (by decide) | rfl) : DE X (.Compare a [op] [b] pos) (dOp r ta tb) :=
  (pe_cmpR ho ha hb hm).imp fun σ H Q h => op_low (fun _ _ _ _ q => q) h
noncomputable def dB (t : DTE) : DTT := fun ρ M Q => t ρ M fun x M1 => match x with
  | .bl c => Q c M1
  | _ => False
theorem dt_val (h : DE X e te) (he : ∀ whole, isTrue e X.env whole = (do let v ← whole; standAt e.pos; holding [v] (truthy v)) := by intro _; rfl) : DT X e (dB te) :=
  (pt_val h he).imp fun σ H Q ⟨ρ, M, R, s, m, h, k⟩ => ⟨ρ, M, _, s, m, h, fun d M1 v H1 h1 x1 m1 e1 => by
    cases d with
    | bl c => cases e1; exact ⟨c, rfl, k c M1 H1 h1 x1 m1⟩
    | _ => exact h1.elim⟩
theorem dt_cmp {op : CmpOp} {r : DR2} (ho : OpD X (compareOp op) r) (ha : DE X a ta) (hb : DE X b tb) (hm : behindInMarks op b = false := by first | exact nobehind _ (by decide) (by decide) | rfl) : DT X (.Compare a [op] [b] pos) (dB (dOp r ta tb)) :=
  (pt_cmpR ho ha hb hm).imp fun σ H Q ⟨ρ, M, R, s, m, h, k⟩ => op_low (r := r) (fun _ _ _ _ q => q) ⟨ρ, M, _, s, m, h, fun d M1 v H1 h1 x1 m1 e1 => by
    cases d with
    | bl c => cases e1; exact ⟨c, rfl, k c M1 H1 h1 x1 m1⟩
    | _ => exact h1.elim⟩

noncomputable def dAnd (t u : DTT) : DTT := fun ρ M Q => t ρ M fun c M1 => if c = true then u ρ M1 Q else Q false M1
noncomputable def dOr (t u : DTT) : DTT := fun ρ M Q => t ρ M fun c M1 => if c = true then Q true M1 else u ρ M1 Q
noncomputable def dNot (t : DTT) : DTT := fun ρ M Q => t ρ M fun c M1 => Q (!c) M1
variable {rest : List Expr}
theorem dw_and1 (ha : DT X a tt) : DW X (.BoolOp .And [a] pos) tt := pw_and1 ha
theorem dw_or1 (ha : DT X a tt) : DW X (.BoolOp .Or [a] pos) tt := pw_or1 ha
theorem dw_and (ha : DT X a tt) (hb : DW X (.BoolOp .And (b :: rest) pos) tu) : DW X (.BoolOp .And (a :: b :: rest) pos) (dAnd tt tu) :=
  (pw_and ha hb).imp fun σ H Q ⟨ρ, M, R, s, m, h, k⟩ => ⟨ρ, M, _, s, m, h, fun c M1 H1 h1 x1 m1 => by
    cases c with
    | true => exact iteT ⟨ρ, M1, _, s.ext x1, m1, (if_pos rfl).mp h1, fun b M2 H2 h2 x2 m2 => k b M2 H2 h2 (x1.trans x2) m2⟩
    | false => exact iteF (k false M1 H1 ((if_neg Bool.false_ne_true).mp h1) x1 m1)⟩
theorem dw_or (ha : DT X a tt) (hb : DW X (.BoolOp .Or (b :: rest) pos) tu) : DW X (.BoolOp .Or (a :: b :: rest) pos) (dOr tt tu) :=
  (pw_or ha hb).imp fun σ H Q ⟨ρ, M, R, s, m, h, k⟩ => ⟨ρ, M, _, s, m, h, fun c M1 H1 h1 x1 m1 => by
    cases c with
    | true => exact iteT (k true M1 H1 ((if_pos rfl).mp h1) x1 m1)
    | false => exact iteF ⟨ρ, M1, _, s.ext x1, m1, (if_neg Bool.false_ne_true).mp h1, fun b M2 H2 h2 x2 m2 => k b M2 H2 h2 (x1.trans x2) m2⟩⟩
theorem dt_not (ha : DT X a tt) : DT X (.UnaryOp .Not a pos) (dNot tt) :=
  (pt_not ha).imp fun σ H Q ⟨ρ, M, R, s, m, h, k⟩ => ⟨ρ, M, _, s, m, h, fun c M1 H1 h1 x1 m1 => k (!c) M1 H1 h1 x1 m1⟩
theorem DW.dt (h : DW X e tt) : DT X e tt := PW.pt h
noncomputable def dAndV (ta tb : DTE) : DTE := fun ρ M Q => ta ρ M fun x M1 => match x with
  | .bl c => if c = true then tb ρ M1 Q else Q (.bl false) M1
  | _ => False
noncomputable def dOrV (ta tb : DTE) : DTE := fun ρ M Q => ta ρ M fun x M1 => match x with
  | .bl c => if c = true then Q (.bl true) M1 else tb ρ M1 Q
  | _ => False
noncomputable def dNotV (ta : DTE) : DTE := fun ρ M Q => ta ρ M fun x M1 => match x with
  | .bl c => Q (.bl (!c)) M1
  | _ => False
theorem de_one {op} (h : DE X a ta) : DE X (.BoolOp op [a] pos) ta := pe_one h
theorem de_and (ha : DE X a ta) (hb : DE X (.BoolOp .And (b :: rest) pos) tb) : DE X (.BoolOp .And (a :: b :: rest) pos) (dAndV ta tb) :=
  (pe_and ha hb).imp fun σ H Q ⟨ρ, M, R, s, m, h, k⟩ => ⟨ρ, M, _, s, m, h, fun d M1 v H1 h1 x1 m1 e1 => by
    cases d with
    | bl c =>
      cases e1
      refine ⟨c, rfl, ?_⟩
      cases c with
      | true => exact iteT ⟨ρ, M1, _, s.ext x1, m1, (if_pos rfl).mp h1, k.ext x1⟩
      | false => exact iteF (k _ M1 _ H1 ((if_neg Bool.false_ne_true).mp h1) x1 m1 (.bl _))
    | _ => exact h1.elim⟩
theorem de_or (ha : DE X a ta) (hb : DE X (.BoolOp .Or (b :: rest) pos) tb) : DE X (.BoolOp .Or (a :: b :: rest) pos) (dOrV ta tb) :=
  (pe_or ha hb).imp fun σ H Q ⟨ρ, M, R, s, m, h, k⟩ => ⟨ρ, M, _, s, m, h, fun d M1 v H1 h1 x1 m1 e1 => by
    cases d with
    | bl c =>
      cases e1
      refine ⟨c, rfl, ?_⟩
      cases c with
      | true => exact iteT (k _ M1 _ H1 ((if_pos rfl).mp h1) x1 m1 (.bl _))
      | false => exact iteF ⟨ρ, M1, _, s.ext x1, m1, (if_neg Bool.false_ne_true).mp h1, k.ext x1⟩
    | _ => exact h1.elim⟩
theorem de_not (ha : DE X a ta) : DE X (.UnaryOp .Not a pos) (dNotV ta) :=
  (pe_not ha).imp fun σ H Q ⟨ρ, M, R, s, m, h, k⟩ => ⟨ρ, M, _, s, m, h, fun d M1 v H1 h1 x1 m1 e1 => by
    cases d with
    | bl c => cases e1; exact ⟨c, rfl, k _ M1 _ H1 h1 x1 m1 (.bl _)⟩
    | _ => exact h1.elim⟩
noncomputable def dIf (t : DTT) (ta tb : DTE) : DTE := fun ρ M Q => t ρ M fun c M1 => if c = true then ta ρ M1 Q else tb ρ M1 Q
theorem de_ifExp (hc : DT X c tt) (ha : DE X a ta) (hb : DE X b tb) : DE X (.IfExp c a b pos) (dIf tt ta tb) :=
  (pe_ifExp hc ha hb).imp fun σ H Q ⟨ρ, M, R, s, m, h, k⟩ => ⟨ρ, M, _, s, m, h, fun c M1 H1 h1 x1 m1 => by
    cases c with
    | true => exact iteT ⟨ρ, M1, _, s.ext x1, m1, (if_pos rfl).mp h1, k.ext x1⟩
    | false => exact iteF ⟨ρ, M1, _, s.ext x1, m1, (if_neg Bool.false_ne_true).mp h1, k.ext x1⟩⟩

noncomputable def dNil : DTA := fun _ M Q => Q [] M
noncomputable def dCons (ta : DTE) (tr : DTA) : DTA := fun ρ M Q => ta ρ M fun x M1 => tr ρ M1 fun xs M2 => Q (x :: xs) M2
variable {tr : DTA}
theorem da_nil : DA X [] dNil := pa_nil.imp fun σ H Q ⟨ρ, M, R, s, m, h, k⟩ => k [] M [] H h (Ext.refl H) m .nil
theorem da_cons (ha : DE X e te) (hr : DA X es tr) (hs : starEach (e :: es) X.env = (false, eval e X.env) :: starEach es X.env := by rfl) : DA X (e :: es) (dCons te tr) :=
  (pa_cons ha hr hs).imp fun σ H Q ⟨ρ, M, R, s, m, h, k⟩ => ⟨ρ, M, _, s, m, h, fun d1 M1 v1 H1 h1 x1 m1 e1 => ⟨ρ, M1, _, s.ext x1, m1, h1, fun ds M2 vs H2 h2 x2 m2 e2 => k _ M2 _ H2 h2 (x1.trans x2) m2 (.cons (e1.ext x2) e2)⟩⟩
noncomputable def dTup (t : DTA) : DTE := fun ρ M Q => t ρ M fun xs M1 => xs.length ≤ sizeLine ∧ Q (.tup xs) M1
theorem de_tup {x1} (h : DA X es tr) : DE X (.Tuple es x1 pos) (dTup tr) :=
  (pe_tup h).imp fun σ H Q ⟨ρ, M, R, s, m, h, k⟩ => ⟨ρ, M, _, s, m, h, fun ds M1 vs H1 ⟨hl, h1⟩ x1 m1 e1 => ⟨by rw [← e1.length]; exact hl, fun p hp => k _ M1 _ _ h1 (x1.trans (Ext.new hp)) (m1.new hp) (.tup upd_same (e1.ext (Ext.new hp)))⟩⟩
noncomputable def dLst (t : DTA) : DTE := fun ρ M Q => t ρ M fun xs M1 => xs.length ≤ sizeLine ∧ ∀ p, M1 p = none → Q (.ref p) (dupd M1 p (.lst xs))
theorem de_lst (h : DA X es tr) : DE X (.List es pos) (dLst tr) :=
  (pe_lst h).imp fun σ H Q ⟨ρ, M, R, s, m, h, k⟩ => ⟨ρ, M, _, s, m, h, fun ds M1 vs H1 ⟨hl, h1⟩ x1 m1 e1 => ⟨by rw [← e1.length]; exact hl, fun p hp => k _ _ _ _ (h1 p (m1.free hp)) (x1.trans (Ext.new hp)) (m1.newL hp e1) (.ref p)⟩⟩
noncomputable def dFrz (t : DTE) : DTE := fun ρ M Q => t ρ M fun d M1 => match d with
  | .ref a => match M1 a with
    | some (.lst ds) => Q (.lst ds) (ddel M1 a)
    | _ => False
  | _ => False
theorem de_frz (h : DE X e te) : DE X e (dFrz te) :=
  (pe_frz h).imp fun σ H Q ⟨ρ, M, R, s, m, h, k⟩ => ⟨ρ, M, _, s, m, h, fun d M1 v H1 h1 x1 m1 e1 => by
    cases d with
    | ref a =>
      cases e1
      cases q : M1 a with
      | none => simp only [q] at h1
      | some o =>
        cases o with
        | oth _ => simp only [q] at h1
        | lst ds =>
          simp only [q] at h1
          obtain ⟨vs, e2, e3⟩ := m1.get q
          exact ⟨a, vs, rfl, e2, fun o => k _ _ _ _ h1 (x1.trans (Ext.lst e2)) (m1.frz e2) (.lst (.inl ⟨o, upd_same⟩) (e3.ext (Ext.lst e2)))⟩
    | _ => exact h1.elim⟩

noncomputable def lC (K : PySem.W.Frag) (r : List D → DH → DK → Prop) : List V → Hp → VK → Prop := fun vs H Q => ∃ ds M R, Dens K H ds vs ∧ SimM K M H ∧ r ds M R ∧ Aft K H R Q
noncomputable abbrev CallD (X : Cx) (f : Value) (r : List D → DH → DK → Prop) : Prop := CallR X f (lC X.K r)
noncomputable def dCB (r : List D → DH → DK → Prop) (t : DTA) : DTE := fun ρ M Q => t ρ M fun ds M1 => r ds M1 Q
theorem cb_low {r : List D → DH → DK → Prop} {t : DTA} {σ : St} {H : Hp} {Q : VK} (h : lE K (dCB r t) σ H Q) : tCB (lC K r) (lA K t) σ H Q := by
  obtain ⟨ρ, M, R, s, m, h, k⟩ := h
  exact ⟨ρ, M, _, s, m, h, fun ds M1 vs H1 h1 x1 m1 e1 => ⟨ds, M1, R, e1, m1, h1, k.ext x1⟩⟩
theorem de_callB {x : Str} {id : String} {p : Pos} {r : List D → DH → DK → Prop} {t : DTA} (hc : CallD X (.builtin id) r) (hg : Gl X x) (hm : X.mg x = none) (hv : bootBuiltins x = some (.builtin id)) (ha : DA X (e :: es) t) (hn : x ≠ "__name__" := by decide) (hdb : (x == ("__debug__" : Str)) = false := by decide)
    (he : starEach (e :: es) X.env = (false, eval e X.env) :: starEach es X.env := by rfl) (hpl : (backTo pos (starEach es X.env)).any (·.1) = false := by rfl) : DE X (.Call (.Name x p) (e :: es) [] pos) (dCB r t) :=
  (pe_callB hc hg hm hv ha hn hdb he hpl).imp fun _ _ _ h => cb_low h
theorem de_callTy {x : Str} {T : String} {p : Pos} {r : List D → DH → DK → Prop} {t : DTA} (hc : CallD X (.type T) r) (hg : Gl X x) (hm : X.mg x = none) (hv : bootBuiltins x = some (.type T)) (ha : DA X (e :: es) t) (hn : x ≠ "__name__" := by decide) (hdb : (x == ("__debug__" : Str)) = false := by decide)
    (he : starEach (e :: es) X.env = (false, eval e X.env) :: starEach es X.env := by rfl) (hpl : (backTo pos (starEach es X.env)).any (·.1) = false := by rfl) : DE X (.Call (.Name x p) (e :: es) [] pos) (dCB r t) :=
  (pe_callTy hc hg hm hv ha hn hdb he hpl).imp fun _ _ _ h => cb_low h

noncomputable abbrev DSp := List D → DH → DK → Prop
noncomputable def lSp (K : PySem.W.Frag) (sp : DSp) : Sp := fun vs H Q _ => ∃ ds M R, Dens K H ds vs ∧ SimM K M H ∧ sp ds M R ∧ Aft K H R Q
noncomputable def dCall (sp : DSp) (dds : List D) (t : DTA) : DTE := fun ρ M Q => t ρ M fun ds M1 => sp (ds ++ dds) M1 Q
theorem de_call {CX : CXT} {k : Nat} {f : Addr} {fd : FuncData} {ps : List Str} {sp : DSp} {dvs : List V} {dds : List D} {ds : List Value} {E : XK} {x : Str} {p : Pos} {t : DTA} (F : FnOk X.prog X.w X.K X.mg X.base CX k f fd ps (lSp X.K sp)) (hr : Room k X.A) (hg : Gl X x) (hm : X.mg x = some (.ref f)) (hk : PySem.W.keepIn X.K (.ref f) = true) (hb : Binds X.K fd ps ds) (hd : Vals dvs ds) (hdd : ∀ H, Dens X.K H dds dvs) (hx : Passes CX X E)
    (ha : DA X (e :: es) t) (hdb : (x == ("__debug__" : Str)) = false := by decide) (he : starEach (e :: es) X.env = (false, eval e X.env) :: starEach es X.env := by rfl) (hpl : (backTo pos (starEach es X.env)).any (·.1) = false := by rfl) :
    DE X (.Call (.Name x p) (e :: es) [] pos) (dCall sp dds t) :=
  (pe_call F hr hg hm hk hb hd hx ha hdb he hpl).imp fun σ H Q ⟨ρ, M, R, s, m, h, k⟩ => ⟨ρ, M, _, s, m, h, fun ds M1 vs H1 h1 x1 m1 e1 => ⟨_, M1, R, e1.append (hdd _), m1, h1, k.ext x1⟩⟩
end
end DL

set_option Elab.async false
set_option linter.all false
set_option maxRecDepth 100000
namespace DL
open PySem PySem.Spec L2
open PyProof.Rows hiding St
section
variable {X : Cx} {a b c e tg iter : Expr} {es : List Expr} {st : Stmt} {sts body : List Stmt} {ta tb te : DTE} {tt tu : DTT} {t u : DTS} {pos : Pos} {K : PySem.W.Frag}

noncomputable def dNext : DTS := fun D ρ M => D.nx ρ M
noncomputable def dSeq (t u : DTS) : DTS := fun D ρ M => t { D with nx := u D } ρ M
theorem dss_nil : DSs X [] dNext := pss_nil.imp fun D σ H ⟨ρ, M, DD, s, m, h, k⟩ => k.nx ρ M σ H h (Ext.refl H) s m
theorem dss_cons (h1 : DS X st t) (h2 : DSs X sts u) : DSs X (st :: sts) (dSeq t u) :=
  (pss_cons h1 h2).imp fun D σ H ⟨ρ, M, DD, s, m, h, k⟩ => ⟨ρ, M, _, s, m, h, ⟨fun ρ1 M1 σ1 H1 q x s1 m1 => ⟨ρ1, M1, DD, s1, m1, q, k.ext x⟩, k.rt, k.bk, k.ct⟩⟩
noncomputable def dBreak : DTS := fun D ρ M => D.bk ρ M
noncomputable def dCont : DTS := fun D ρ M => D.ct ρ M
noncomputable def dDrop (te : DTE) : DTS := fun D ρ M => te ρ M fun _ M1 => D.nx ρ M1
theorem ds_expr (he : DE X e te) (hs : swapsWith e none pos.line X.env = pure false := by rfl) : DS X (.Expr e pos) (dDrop te) :=
  (ps_expr he hs).imp fun D σ H ⟨ρ, M, DD, s, m, h, k⟩ => ⟨ρ, M, _, s, m, h, fun d M1 v H1 h1 x1 m1 e1 => k.nx ρ M1 σ H1 h1 x1 (s.ext x1) m1⟩
noncomputable def dRet (te : DTE) : DTS := fun D ρ M => te ρ M D.rt
theorem ds_ret (he : DE X e te) : DS X (.Return (some e) pos) (dRet te) :=
  (ps_ret he).imp fun D σ H ⟨ρ, M, DD, s, m, h, k⟩ => ⟨ρ, M, _, s, m, h, k.rt⟩
noncomputable def dRetN : DTS := fun D _ M => D.rt .non M
noncomputable def dIfS (c : DTT) (t u : DTS) : DTS := fun D ρ M => c ρ M fun b M1 => if b = true then t D ρ M1 else u D ρ M1
theorem ds_if {a b : List Stmt} (hc : DT X c tt) (ha : DSs X a t) (hb : DSs X b u) : DS X (.If c a b pos) (dIfS tt t u) :=
  (ps_if hc ha hb).imp fun D σ H ⟨ρ, M, DD, s, m, h, k⟩ => ⟨ρ, M, _, s, m, h, fun c M1 H1 h1 x1 m1 => by
    cases c with
    | true => exact iteT ⟨ρ, M1, DD, s.ext x1, m1, (if_pos rfl).mp h1, k.ext x1⟩
    | false => exact iteF ⟨ρ, M1, DD, s.ext x1, m1, (if_neg Bool.false_ne_true).mp h1, k.ext x1⟩⟩

noncomputable abbrev DTG := D → DSt → DH → (DSt → DH → Prop) → Prop
noncomputable def lG (K : PySem.W.Frag) (g : DTG) : TG := fun v σ H Q => ∃ d ρ M R, Den K H d v ∧ SimS K H ρ σ ∧ SimM K M H ∧ g d ρ M R ∧ ∀ ρ' M' σ' H', R ρ' M' → Ext H H' → SimS K H' ρ' σ' → SimM K M' H' → Q σ' H'
noncomputable abbrev DG (X : Cx) (tg : Expr) (g : DTG) : Prop := PG X tg (lG X.K g)
noncomputable def dgName (i : Nat) : DTG := fun d ρ M Q => Q (ρ.set i (some d)) M
theorem dg_name {i : Nat} {x : Str} (hN : X.N.Nodup) (hi : X.N[i]? = some x) (hx : Loc X.env.scope x) (hf : X.fn x = true ∨ X.env.scope.names.lookup x = some .local := by first | exact .inl rfl | exact .inr rfl | assumption) : DG X (.Name x pos) (dgName i) :=
  (pg_name hN hi hx hf).imp fun v σ H Q ⟨d, ρ, M, R, e, s, m, h, k⟩ => k _ M _ H h (Ext.refl H) (s.set e i) m
noncomputable abbrev DTGs := List D → DSt → DH → (DSt → DH → Prop) → Prop
noncomputable def lGs (K : PySem.W.Frag) (g : DTGs) : TGs := fun vs σ H Q => ∃ ds ρ M R, Dens K H ds vs ∧ SimS K H ρ σ ∧ SimM K M H ∧ g ds ρ M R ∧ ∀ ρ' M' σ' H', R ρ' M' → Ext H H' → SimS K H' ρ' σ' → SimM K M' H' → Q σ' H'
noncomputable abbrev DGs (X : Cx) (ts : List Expr) (g : DTGs) : Prop := PGs X ts (lGs X.K g)
theorem PGs.imp {ts : List Expr} {T T' : TGs} (h : PGs X ts T) (i : ∀ v σ H R, T' v σ H R → T v σ H R) : PGs X ts T' := fun pins s σ H v u R I r q => h pins s σ H v u R I r (i v σ H R q)
noncomputable def dgNil : DTGs := fun ds ρ M Q => match ds with
  | [] => Q ρ M
  | _ => False
noncomputable def dgCons (t : DTG) (u : DTGs) : DTGs := fun ds ρ M Q => match ds with
  | d :: r => t d ρ M fun ρ' M' => u r ρ' M' Q
  | [] => False
noncomputable def dgTup (n : Nat) (t : DTGs) : DTG := fun d ρ M Q => match d with
  | .tup ds => ds.length = n ∧ t ds ρ M Q
  | _ => False
noncomputable def dAsg (te : DTE) (g : DTG) : DTS := fun D ρ M => te ρ M fun x M1 => g x ρ M1 D.nx
theorem asg_low {g : DTG} {gV : TG} {teV : TE} {D : Ends} {σ : St} {H : Hp} (h1 : ∀ σ H Q, lE K te σ H Q → teV σ H Q) (h2 : ∀ v σ H Q, lG K g v σ H Q → gV v σ H Q) (h : lS K (dAsg te g) D σ H) : tAsg teV gV D σ H := by
  obtain ⟨ρ, M, DD, s, m, h, k⟩ := h
  exact h1 _ _ _ ⟨ρ, M, _, s, m, h, fun d M1 v H1 q x m1 e1 => h2 _ _ _ _ ⟨d, ρ, M1, _, e1, s.ext x, m1, q, fun ρ2 M2 σ2 H2 q2 x2 s2 m2 => k.nx ρ2 M2 σ2 H2 q2 (x.trans x2) s2 m2⟩⟩
noncomputable def dSet (i : Nat) (te : DTE) : DTS := fun D ρ M => te ρ M fun x M1 => D.nx (ρ.set i (some x)) M1
theorem ds_set {i : Nat} {x : Str} {pos' : Pos} (hN : X.N.Nodup) (hi : X.N[i]? = some x) (hx : Loc X.env.scope x) (he : DE X e te) (hs : swapsWith e (some (.Name x pos')) pos.line X.env = pure false := by rfl) (hf : X.fn x = true ∨ X.env.scope.names.lookup x = some .local := by first | exact .inl rfl | exact .inr rfl | assumption) :
    DS X (.Assign [.Name x pos'] e pos) (dSet i te) :=
  (ps_set hN hi hx he hs hf).imp fun D σ H h => by
    obtain ⟨ρ, M, DD, s, m, h, k⟩ := h
    exact ⟨ρ, M, _, s, m, h, fun d M1 v H1 q x m1 e1 => k.nx _ M1 _ H1 q x ((s.ext x).set e1 i) m1⟩

structure Yields (K : PySem.W.Frag) (J : It) (items : List D) (Cd : DH → Prop) (H : Hp) : Prop where
  go : ∀ i H' M, Ext H H' → SimM K M H' → Cd M → i < items.length → J.go i H'
  yld : ∀ i H' M x H'', Ext H H' → SimM K M H' → Cd M → J.yld i H' x H'' → i < items.length → Ext H' H'' ∧ SimM K M H'' ∧ ∃ d, items[i]? = some d ∧ Den K H'' d x
  stop : ∀ i H' M, Ext H H' → SimM K M H' → Cd M → items.length ≤ i → J.stop i H'
noncomputable abbrev DTI := DSt → DH → (List D → (DH → Prop) → DH → Prop) → Prop
noncomputable def lI (K : PySem.W.Frag) (wi : DTI) : TI := fun σ H R => ∃ ρ M RD, SimS K H ρ σ ∧ SimM K M H ∧ wi ρ M RD ∧ ∀ items Cd M' H' J, RD items Cd M' → Ext H H' → SimM K M' H' → Yields K J items Cd H' → R J H'
noncomputable abbrev DI (X : Cx) (tg iter : Expr) (wi : DTI) : Prop := PI X tg iter (lI X.K wi)
noncomputable def dLoop (g : DTG) (tb : DTS) (DD : DEnds) (Cd : DH → Prop) : List D → DSt → DH → Prop
  | [], ρ, M => Cd M ∧ DD.nx ρ M
  | d :: ds, ρ, M => Cd M ∧ g d ρ M fun ρ' M' => tb { DD with nx := dLoop g tb DD Cd ds, ct := dLoop g tb DD Cd ds, bk := DD.nx } ρ' M'
noncomputable def dFor (wi : DTI) (g : DTG) (tb : DTS) : DTS := fun DD ρ M => wi ρ M fun items Cd M1 => dLoop g tb DD Cd items ρ M1
theorem ds_for {wi : DTI} {g : DTG} {tb : DTS} (hp : PassesOwn (model X.prog X.w) X.A X.env X.xe) (hc : X.calm = true) (hi : DI X tg iter wi) (hg : DG X tg g) (hb : DSs X body tb)
    (hs : ∀ x, foldedSetIterable iter X.env x = pure x := by intro _; rfl) : DS X (.For tg iter body [] pos) (dFor wi g tb) :=
  (ps_for hp hc hi hg hb hs).imp fun D σ H ⟨ρ, M, DD, s, m, h, k⟩ => ⟨ρ, M, _, s, m, h, fun items Cd M1 H1 J h1 x1 m1 Y => by
    refine ⟨fun i mm σ' H' => mm = items.length - i ∧ i ≤ items.length ∧ ∃ ρ' M', Ext H1 H' ∧ SimS X.K H' ρ' σ' ∧ SimM X.K M' H' ∧ dLoop g tb DD Cd (items.drop i) ρ' M', ⟨_, rfl, Nat.zero_le _, ρ, M1, Ext.refl _, s.ext x1, m1, h1⟩, ?_⟩
    rintro i mm σ' H' ⟨rfl, hi, ρ', M', x', s', m', h'⟩
    by_cases hlt : i < items.length
    · right
      have hd : items.drop i = items[i] :: items.drop (i + 1) := List.drop_eq_getElem_cons hlt
      rw [hd] at h'
      obtain ⟨cd, h'⟩ := h'
      refine ⟨Y.go i H' M' x' m' cd hlt, fun σ2 H2 => ∃ ρ2 M2, Ext H1 H2 ∧ SimS X.K H2 ρ2 σ2 ∧ SimM X.K M2 H2 ∧ dLoop g tb DD Cd (items.drop (i + 1)) ρ2 M2, fun σ2 H2 ⟨ρ2, M2, x2, s2, m2, h2⟩ => ⟨_, (show items.length - (i + 1) < items.length - i by omega), rfl, hlt, ρ2, M2, x2, s2, m2, h2⟩, fun x Hy yl => ?_⟩
      obtain ⟨xy, my, d, ed, den⟩ := Y.yld i H' M' x Hy x' m' cd yl hlt
      have : items[i] = d := by
        rw [List.getElem?_eq_getElem hlt] at ed
        exact Option.some.inj ed
      rw [this] at h'
      have xx := x'.trans xy
      refine ⟨d, ρ', M', _, den, s'.ext xy, my, h', fun ρ3 M3 σ3 H3 q3 x3 s3 m3 => ⟨ρ3, M3, _, s3, m3, q3, ?_⟩⟩
      have xz := xx.trans x3
      exact ⟨fun ρ4 M4 σ4 H4 q4 x4 s4 m4 => ⟨ρ4, M4, xz.trans x4, s4, m4, q4⟩, (k.ext (x1.trans xz)).rt, fun ρ4 M4 σ4 H4 q4 x4 s4 m4 => (k.ext (x1.trans xz)).nx ρ4 M4 σ4 H4 q4 x4 s4 m4, fun ρ4 M4 σ4 H4 q4 x4 s4 m4 => ⟨ρ4, M4, xz.trans x4, s4, m4, q4⟩⟩
    · left
      have hd : items.drop i = [] := List.drop_eq_nil_of_le (Nat.le_of_not_lt hlt)
      rw [hd] at h'
      exact ⟨Y.stop i H' M' x' m' h'.1 (Nat.le_of_not_lt hlt), (k.ext (x1.trans x')).nx ρ' M' σ' H' h'.2 (Ext.refl _) s' m'⟩⟩

noncomputable def dCLoop (fr : DSt) (unp : D → Option (List D)) (tc : DTT) (te : DTE) (Cd : DH → Prop) (Q : List D → DH → Prop) : List D → List D → DH → Prop
  | [], ys, M => Cd M ∧ Q ys M
  | d :: ds, ys, M => Cd M ∧ match unp d with
    | some us => tc (us.map some ++ fr) M fun b M3 =>
      if b = true then te (us.map some ++ fr) M3 fun z M4 => ys.length < sizeLine ∧ dCLoop fr unp tc te Cd Q ds (ys ++ [z]) M4 else dCLoop fr unp tc te Cd Q ds ys M3
    | none => False
noncomputable def dComp (wi : DTI) (ix : List Nat) (unp : D → Option (List D)) (tc : DTT) (te : DTE) : DTE := fun ρ M Q => wi ρ M fun items Cd M1 =>
  dCLoop (ix.map fun i => (ρ[i]?).getD none) unp tc te Cd (fun ys M2 => ys.length ≤ sizeLine ∧ ∀ a, M2 a = none → Q (.ref a) (dupd M2 a (.lst ys))) items [] M1
structure Unp (K : PySem.W.Frag) (k : Nat) (unp : D → Option (List D)) (gV : TG) : Prop where
  len : ∀ d us, unp d = some us → us.length = k
  to : ∀ d v us frV H Q, Den K H d v → unp d = some us → (∀ ws, Dens K H us ws → Q (ws.map some ++ frV) H) → gV v (List.replicate k none ++ frV) H Q
theorem unp1 : Unp K 1 (fun d => some [d]) (gName 0) where
  len := fun d us e => by cases e; rfl
  to := fun d v us frV H Q den e h => by cases e; exact h [v] (.cons den .nil)
noncomputable def unpair : D → Option (List D)
  | .tup [a, b] => some [a, b]
  | _ => none
theorem unp2 : Unp K 2 unpair (gTup K 2 (gCons (gName 0) (gCons (gName 1) gNil))) where
  len := fun d us e => by
    unfold unpair at e
    split at e
    · cases e; rfl
    · cases e
  to := fun d v us frV H Q den e h => by
    unfold unpair at e
    split at e
    · cases e
      cases den with
      | tup q r =>
        cases r with
        | cons r1 r =>
          cases r with
          | cons r2 r =>
            cases r
            exact ⟨_, _, rfl, .of q, rfl, _, _, rfl, _, _, rfl, rfl, h _ (.cons r1 (.cons r2 .nil))⟩
    · cases e
theorem comp_low {wi : DTI} {k : Nat} {ix : List Nat} {unp : D → Option (List D)} {gV : TG} {tc : DTT} {te : DTE} {σ : St} {H : Hp} {Q : VK} (hu : Unp K k unp gV)
    (h : lE K (dComp wi ix unp tc te) σ H Q) : tComp (lI K wi) k ix gV (lT K tc) (lE K te) σ H Q := by
  obtain ⟨ρ, M, R, s, m, h, kk⟩ := h
  refine ⟨ρ, M, _, s, m, h, fun items Cd M1 H1 J h1 x1 m1 Y => ?_⟩
  refine ⟨fun i mm ys H' => mm = items.length - i ∧ i ≤ items.length ∧ ∃ M' zs, Ext H1 H' ∧ SimM K M' H' ∧ Dens K H' zs ys ∧ dCLoop (ix.map fun i => (ρ[i]?).getD none) unp tc te Cd (fun ys M2 => ys.length ≤ sizeLine ∧ ∀ a, M2 a = none → R (.ref a) (dupd M2 a (.lst ys))) (items.drop i) zs M', ⟨_, rfl, Nat.zero_le _, M1, [], Ext.refl _, m1, .nil, h1⟩, ?_⟩
  rintro i mm ys H' ⟨rfl, hi, M', zs, x', m', dz, h'⟩
  by_cases hlt : i < items.length
  · right
    have hd : items.drop i = items[i] :: items.drop (i + 1) := List.drop_eq_getElem_cons hlt
    rw [hd] at h'
    obtain ⟨cd, h'⟩ := h'
    refine ⟨Y.go i H' M' x' m' cd hlt, fun y Hy yl => ?_⟩
    obtain ⟨xy, my, d, ed, den⟩ := Y.yld i H' M' y Hy x' m' cd yl hlt
    have : items[i] = d := by
      rw [List.getElem?_eq_getElem hlt] at ed
      exact Option.some.inj ed
    rw [this] at h'
    cases eu : unp d with
    | none => rw [eu] at h'; exact h'.elim
    | some us =>
      rw [eu] at h'
      refine hu.to d y us _ Hy _ den eu fun ws dw => ?_
      have hk : ws.length = k := by rw [← dw.length]; exact hu.len d us eu
      refine ⟨?_, ?_, ?_⟩
      · rw [List.drop_left' (by rw [List.length_map]; exact hk)]
      · rw [List.length_append, List.length_map, List.length_map, hk]
      · have xx := x'.trans xy
        have sρ : SimS K Hy (us.map some ++ ix.map fun i => (ρ[i]?).getD none) (ws.map some ++ ix.map fun i => (σ[i]?).getD none) := (SimS.ofDens dw).append ((s.ext (x1.trans xx)).pick ix)
        refine ⟨_, M', _, sρ, my, h', fun b M3 H3 h3 x3 m3 => ?_⟩
        cases b with
        | true =>
          refine iteT ⟨_, M3, _, sρ.ext x3, m3, (if_pos rfl).mp h3, fun z M4 v H4 ⟨hz, h4⟩ x4 m4 e4 => ⟨by rw [← dz.length]; exact hz, _, (show items.length - (i + 1) < items.length - i by omega), rfl, hlt, M4, _, (xx.trans x3).trans x4, m4, (dz.ext (xy.trans (x3.trans x4))).append (.cons e4 .nil), h4⟩⟩
        | false => exact iteF ⟨_, (show items.length - (i + 1) < items.length - i by omega), rfl, hlt, M3, zs, xx.trans x3, m3, dz.ext (xy.trans x3), (if_neg Bool.false_ne_true).mp h3⟩
  · left
    have hd : items.drop i = [] := List.drop_eq_nil_of_le (Nat.le_of_not_lt hlt)
    rw [hd] at h'
    obtain ⟨cd, hz, q⟩ := h'
    exact ⟨Y.stop i H' M' x' m' cd (Nat.le_of_not_lt hlt), by rw [← dz.length]; exact hz, fun a ha => kk _ _ _ _ (q a (m'.free ha)) ((x1.trans x').trans (Ext.new ha)) (m'.newL ha dz) (.ref a)⟩
section
variable {scope : Scope} {N fn : List Str} {k : Nat} {ix : List Nat} {elt : Expr} {ifs : List Expr} {wi : DTI} {unp : D → Option (List D)} {gV : TG} {tc : DTT}
noncomputable abbrev DIfs (X : Cx) (ifs : List Expr) (t : DTT) : Prop := PIfs X ifs (lT X.K t)
noncomputable def dTrue : DTT := fun _ M Q => Q true M
theorem difs_nil : DIfs X [] dTrue := fun pins s σ H Q I ⟨ρ, M, R, sm, m, h, k⟩ => pifs_nil pins s σ H Q I (k true M H h (Ext.refl H) m)
theorem difs_one (h : DT X c tc) : DIfs X [c] tc := pifs_one h
theorem de_comp (tp : Top X) {R0 : Value → Hp → Prop} (hx0 : Takes X fun cls _ H => R0 cls H) (hu : Unp X.K k unp gV) (hc : X.calm = true) (ok : CompOk X.env.scope scope N k fn) (hix : ix.map (fun i => X.N[i]?) = fn.map some) (hi : DI X tg iter wi)
    (hg : ∀ cl C s₀ H₀ ex E, PG (cxComp X scope N cl C s₀ H₀ ex E) tg gV) (ht : ∀ cl C s₀ H₀ ex E, Takes (cxComp X scope N cl C s₀ H₀ ex E) (fun cls _ H => R0 cls H) → DIfs (cxComp X scope N cl C s₀ H₀ ex E) ifs tc) (he : ∀ cl C s₀ H₀ ex E, Takes (cxComp X scope N cl C s₀ H₀ ex E) (fun cls _ H => R0 cls H) → DE (cxComp X scope N cl C s₀ H₀ ex E) elt te)
    (hs : ∀ x, foldedSetIterable iter X.env x = pure x := by intro _; rfl) : DE X (.ListComp elt [⟨tg, iter, ifs, 0⟩] scope pos) (dComp wi ix unp tc te) :=
  (pe_compX tp hx0 hc ok hix hi hg ht he hs).imp fun _ _ _ h => comp_low hu h
theorem ds_setcomp {i : Nat} {x : Str} {pos' spos : Pos} (tp : Top X) {R0 : Value → Hp → Prop} (hx0 : Takes X fun cls _ H => R0 cls H) (hsw : swapsWith (.ListComp elt [⟨tg, iter, ifs, 0⟩] scope pos) (some (.Name x pos')) spos.line X.env = pure true)
    (hN : X.N.Nodup) (hiN : X.N[i]? = some x) (hx : X.env.scope.names.lookup x = some .local) (hu : Unp X.K k unp gV) (hc : X.calm = true) (ok : CompOk X.env.scope scope N k fn) (hix : ix.map (fun i => X.N[i]?) = fn.map some) (hi : DI X tg iter wi)
    (hg : ∀ cl C s₀ H₀ ex E, PG (cxComp X scope N cl C s₀ H₀ ex E) tg gV) (ht : ∀ cl C s₀ H₀ ex E, Takes (cxComp X scope N cl C s₀ H₀ ex E) (fun cls _ H => R0 cls H) → DIfs (cxComp X scope N cl C s₀ H₀ ex E) ifs tc) (he : ∀ cl C s₀ H₀ ex E, Takes (cxComp X scope N cl C s₀ H₀ ex E) (fun cls _ H => R0 cls H) → DE (cxComp X scope N cl C s₀ H₀ ex E) elt te)
    (hs : ∀ x, foldedSetIterable iter X.env x = pure x := by intro _; rfl) : DS X (.Assign [.Name x pos'] (.ListComp elt [⟨tg, iter, ifs, 0⟩] scope pos) spos) (dAsg (dComp wi ix unp tc te) (dgName i)) :=
  (ps_setcompX tp hx0 hsw hN hiN hx hc ok hix hi hg ht he hs).imp fun D σ H h => asg_low (fun _ _ _ q => comp_low hu q) (fun v σ H Q ⟨d, ρ, M, R, e, s, m, h, k⟩ => k _ M _ H h (Ext.refl H) (s.set e i) m) h
end

theorem Yields.tup {a : Addr} {ds : List D} {vs : List V} {H : Hp} {Cd : DH → Prop} (q : SqT K H a vs) (r : Dens K H ds vs) : Yields K (Itt K a) ds Cd H where
  go := fun i H' M x m c hi => by
    have hi' : i < vs.length := by rw [← r.length]; exact hi
    exact ⟨vs, vs[i], SqT.ext x q, List.getElem?_eq_getElem hi'⟩
  yld := fun i H' M y H'' x m c ⟨e, h⟩ hi => by
    subst e
    obtain ⟨d, e1, e2⟩ := r.get' (h vs (SqT.ext x q))
    exact ⟨Ext.refl _, m, d, e1, e2.ext x⟩
  stop := fun i H' M x m c hi => ⟨vs, SqT.ext x q, by rw [← r.length]; exact hi⟩
theorem Yields.fz {a : Addr} {ds : List D} {vs : List V} {H : Hp} {Cd : DH → Prop} (q : FzL K H a vs) (r : Dens K H ds vs) : Yields K (Itl K a) ds Cd H where
  go := fun i H' M x m c hi => by
    have hi' : i < vs.length := by rw [← r.length]; exact hi
    exact ⟨vs, vs[i], (FzL.ext x q).sq, List.getElem?_eq_getElem hi'⟩
  yld := fun i H' M y H'' x m c ⟨e, h⟩ hi => by
    subst e
    obtain ⟨d, e1, e2⟩ := r.get' (h vs (FzL.ext x q).sq)
    exact ⟨Ext.refl _, m, d, e1, e2.ext x⟩
  stop := fun i H' M x m c hi => ⟨vs, (FzL.ext x q).sq, by rw [← r.length]; exact hi⟩
theorem Yields.mut {a : Addr} {ds : List D} {H : Hp} : Yields K (Itl K a) ds (fun M => M a = some (.lst ds)) H where
  go := fun i H' M x m c hi => by
    obtain ⟨vs, e, r⟩ := m.get c
    have hi' : i < vs.length := by rw [← r.length]; exact hi
    exact ⟨vs, vs[i], .of e, List.getElem?_eq_getElem hi'⟩
  yld := fun i H' M y H'' x m c ⟨e, h⟩ hi => by
    subst e
    obtain ⟨vs, e, r⟩ := m.get c
    obtain ⟨d, e1, e2⟩ := r.get' (h vs (.of e))
    exact ⟨Ext.refl _, m, d, e1, e2⟩
  stop := fun i H' M x m c hi => by
    obtain ⟨vs, e, r⟩ := m.get c
    exact ⟨vs, .of e, by rw [← r.length]; exact hi⟩
noncomputable def rngD (lo : Int) (n : Nat) : List D := (List.range n).map fun (i : Nat) => D.int (lo + (i : Int))
theorem Yields.rng {lo : Int} {n : Nat} {H : Hp} {Cd : DH → Prop} : Yields K (Itr lo n) (rngD lo n) Cd H where
  go := fun i H' M x m c hi => by
    show i < n
    simpa [rngD] using hi
  yld := fun i H' M y H'' x m c ⟨e, h⟩ hi => by
    subst e h
    have hi' : i < n := by simpa [rngD] using hi
    exact ⟨Ext.refl _, m, .int (lo + i), by simp [rngD, hi'], .int _⟩
  stop := fun i H' M x m c hi => by
    have : (rngD lo n).length = n := by simp [rngD]
    rw [this] at hi
    exact hi
noncomputable def diRng1 (ta : DTA) : DTI := fun ρ M R => ta ρ M fun ds M1 => match ds with
  | [.int j] => -(2 ^ 62) ≤ j ∧ j < 2 ^ 62 ∧ R (rngD 0 j.toNat) (fun _ => True) M1
  | _ => False
noncomputable def diRng2 (ta : DTA) : DTI := fun ρ M R => ta ρ M fun ds M1 => match ds with
  | [.int i, .int j] => (-(2 ^ 62) ≤ i ∧ i < 2 ^ 62 ∧ -(2 ^ 62) ≤ j ∧ j < 2 ^ 62) ∧ R (rngD i (j - i).toNat) (fun _ => True) M1
  | _ => False
theorem di_range1 {tr : DTA} {p pos : Pos} (hg : Gl X "range") (hm : X.mg "range" = none) (ha : DA X [a] tr) (hs : starEach [a] X.env = [(false, eval a X.env)] := by rfl) : DI X tg (.Call (.Name "range" p) [a] [] pos) (diRng1 tr) :=
  (pi_range1 hg hm ha hs).imp fun σ H R ⟨ρ, M, RD, s, m, h, k⟩ => ⟨ρ, M, _, s, m, h, fun ds M1 vs H1 h1 x1 m1 e1 => by
    unfold diRng1 at h
    cases e1 with
    | nil => exact h1.elim
    | cons d1 e2 =>
      cases e2 with
      | cons d2 e3 => cases d1 <;> exact h1.elim
      | nil =>
        cases d1 with
        | int j => exact ⟨j, rfl, h1.1, h1.2.1, k _ _ M1 H1 _ h1.2.2 x1 m1 Yields.rng⟩
        | _ => exact h1.elim⟩
end

noncomputable def dstart (N : List Str) (ds : List D) : DSt := ds.map some ++ List.replicate (N.length - ds.length) none
noncomputable def dLaw (n : Nat) : DSp := fun ds M R => match ds with
  | [.lst ds] => ∃ ns : List Int, ds = ns.map D.int ∧ ns.length ≤ n ∧ R (.bl true) M
  | _ => False
theorem dens_ints {K : PySem.W.Frag} {H : Hp} : ∀ ns : List Int, Dens K H (ns.map D.int) (ns.map V.int)
  | [] => .nil
  | n :: r => .cons (.int n) (dens_ints r)
theorem law_sp {K : PySem.W.Frag} {H : Hp} {a : Addr} {ns : List Int} {n : Nat} (hl : ns.length ≤ n) (hO : Only H) (hS : SqL K H a (ns.map V.int)) : lSp K (dLaw n) [.ref a] H (fun v _ => v = .bl true) fun _ _ _ => False := by
  refine ⟨[.lst (ns.map D.int)], fun _ => none, fun d _ => d = .bl true, .cons (.lst ?_ (dens_ints ns)) .nil, (fun b o e => nomatch e), ⟨ns, rfl, hl, rfl⟩, fun d M v H' q _ _ e => ?_⟩
  · rcases hS with (h | ⟨o, h⟩) | h
    · rcases hO a with z | ⟨o, xs, z⟩
      · rw [h] at z; cases z
      · rw [h] at z; cases z
    · exact .inl ⟨o, h⟩
    · exact .inr h
  · have q' : d = .bl true := q
    subst q'
    cases e
    rfl
end DL

set_option Elab.async false
set_option linter.all false
set_option maxRecDepth 100000
namespace DL
open PySem PySem.Spec L2
open PyProof.Rows hiding St
section
variable {X : Cx} {a b c e : Expr} {es : List Expr} {ta tb te : DTE} {tt tu : DTT} {pos : Pos} {K : PySem.W.Frag}
noncomputable abbrev cpOk (x : List Nat) : Prop := (x.all fun c => decide (c < 1114112)) = true
theorem cpOk.app {x y : List Nat} (h : cpOk x) (h' : cpOk y) : cpOk (x ++ y) := by
  show ((x ++ y).all _) = true
  rw [List.all_append, h, h']; rfl
theorem cpOk.sub {x y : List Nat} (h : cpOk x) (hs : ∀ c ∈ y, c ∈ x) : cpOk y := List.all_eq_true.mpr fun c hc => (List.all_eq_true.mp h) c (hs c hc)
theorem S_append (x y : List Nat) : S x ++ S y = S (x ++ y) := by
  show Str.append (S x) (S y) = S (x ++ y)
  unfold Str.append S
  simp
theorem S_length (x : List Nat) : (S x).length = x.length := by unfold S Str.length; simp
theorem S_inj {x y : List Nat} (h : S x = S y) : x = y := by
  unfold S at h
  have := congrArg (fun z : Str => z.cps.toList) h
  simpa using this
theorem S_toList (x : List Nat) : (S x).cps.toList = x := by unfold S; simp
noncomputable def rI2 (C : Int → Int → Prop) (g : Int → Int → Int) : DR2 := fun x y M Q => match x, y with
  | .int i, .int j => C i j ∧ Q (.int (g i j)) M
  | _, _ => False
theorem opI2 {f : Value → Value → Sem Value} {C : Int → Int → Prop} {g : Int → Int → Int} (h : OpR X f (rI C fun i j => .int (g i j))) : OpD X f (rI2 C g) := by
  intro pins s σ H x y v u Q I rx ry ⟨dx, dy, M, R, ex, ey, m, q, k⟩
  cases ex <;> cases ey <;> first | exact False.elim q | skip
  exact h pins s σ H _ _ v u Q I rx ry ⟨_, _, rfl, rfl, q.1, k _ M _ H q.2 (Ext.refl H) m (.int _)⟩
theorem rI_of0 {f : Value → Value → Sem Value} {g : Int → Int → V} (h : OpR X f (rI0 g)) : OpR X f (rI (fun _ _ => True) g) := h.imp fun x y H Q ⟨i, j, e1, e2, _, q⟩ => ⟨i, j, e1, e2, q⟩
theorem od_sub : OpD X (binaryOp .Sub) (rI2 (fun _ _ => True) fun i j => i - j) := opI2 (rI_of0 op_sub)
theorem od_mul : OpD X (binaryOp .Mult) (rI2 CMul fun i j => i * j) := opI2 op_mul
theorem od_fdiv : OpD X (binaryOp .FloorDiv) (rI2 CDiv fun i j => i / j) := opI2 op_fdiv
theorem od_mod : OpD X (binaryOp .Mod) (rI2 (fun _ j => 0 < j) fun i j => i % j) := opI2 op_mod
noncomputable def rAddD : DR2 := fun x y M Q => match x, y with
  | .int i, .int j => Q (.int (i + j)) M
  | .str a, .str b => a.length + b.length ≤ sizeLine ∧ Q (.str (a ++ b)) M
  | .tup xs, .tup ys => xs.length + ys.length ≤ sizeLine ∧ Q (.tup (xs ++ ys)) M
  | _, _ => False
theorem add_tup {s : Shared} {A : Around} {prog : Program} {w : World} {E : Value → Shared → Prop} {t b : Addr} {vs ws : List Value} {Q : Value → Shared → Prop} (ht : IsTup s.heap t vs.toArray) (hb : IsTup s.heap b ws.toArray)
    (h0 : vs = [] → Q (.ref b) s) (h1 : ws = [] → Q (.ref t) s) (h2 : Q (.ref s.heap.objs.size) { s with heap := s.heap.push { cls := .type "tuple", data := .seq (vs ++ ws).toArray } })
    (hsz : vs.length + ws.length ≤ sizeLine) : wpAny (model prog w) A (binaryOp .Add (.ref t) (.ref b)) Q E s := by
  obtain ⟨⟨cls, dd, data, sl⟩, ho, hc, n, hd⟩ := id ht
  obtain ⟨⟨cls2, dd2, data2, sl2⟩, ho2, hc2, n2, hd2⟩ := id hb
  simp only at hc hd hc2 hd2
  subst hc hd hc2 hd2
  have e : vs.toArray ++ ws.toArray = (vs ++ ws).toArray := by simp
  by_cases hv : vs = []
  · exact concat_meets ⟨_, ho, rfl⟩ ⟨_, ho2, rfl⟩ noFill_tuple_add seq_tuple_add PySem.F.slot_tuple_add PySem.F.entry_tuple_add (PySem.F.args_tuple_add_2 _ _)
      (tuple_addW0 t b vs.toArray ws.toArray n n2 dd dd2 sl sl2 (by simp [hv])) ⟨ho, ho2, h0 hv⟩
  · by_cases hw : ws = []
    · exact concat_meets ⟨_, ho, rfl⟩ ⟨_, ho2, rfl⟩ noFill_tuple_add seq_tuple_add PySem.F.slot_tuple_add PySem.F.entry_tuple_add (PySem.F.args_tuple_add_2 _ _)
        (tuple_addW1 t b vs.toArray ws.toArray n n2 dd dd2 sl sl2 (by simpa using hv) (by simp [hw])) ⟨ho, ho2, h1 hw⟩
    · refine concat_meets ⟨_, ho, rfl⟩ ⟨_, ho2, rfl⟩ noFill_tuple_add seq_tuple_add PySem.F.slot_tuple_add PySem.F.entry_tuple_add (PySem.F.args_tuple_add_2 _ _)
        (tuple_addW2 t b vs.toArray ws.toArray n n2 dd dd2 sl sl2 (by simpa using hv) (by simpa using hw) (by rw [List.size_toArray, List.size_toArray]; exact hsz)) ⟨ho, ho2, ?_⟩
      rw [e]
      exact h2
theorem od_add : OpD X (binaryOp .Add) rAddD := by
  intro pins s σ H x y v u Q I rx ry ⟨dx, dy, M, R, ex, ey, m, q, k⟩
  cases ex with
  | int i => cases ey <;> first | exact False.elim q | skip
             exact op_add pins s σ H _ _ v u Q I rx ry ⟨_, _, rfl, rfl, k _ M _ H q (Ext.refl H) m (.int _)⟩
  | str i hi => cases ey <;> first | exact False.elim q | skip
                rename_i j hj
                exact op_add_str pins s σ H _ _ v u Q I rx ry ⟨_, _, rfl, rfl, by rw [S_length, S_length]; exact q.1, k _ M _ H q.2 (Ext.refl H) m (by rw [S_append]; exact .str _ (cpOk.app hi hj))⟩
  | tup qx dx => cases ey <;> first | exact False.elim q | skip
                 rename_i ds vs b es ws qy dy
                 cases rx
                 cases ry
                 obtain ⟨its, r1, p1, z1⟩ := I.tuple (.of qx)
                 obtain ⟨jts, r2, p2, z2⟩ := I.tuple (.of qy)
                 have l1 := dx.length
                 have l2 := dy.length
                 have l3 := r1.length
                 have l4 := r2.length
                 refine add_tup p1 p2 (fun e => ?_) (fun e => ?_) ?_ (by rw [← l3, ← l4, ← l1, ← l2]; exact q.1)
                 · subst e
                   cases r1
                   cases dx
                   exact ⟨.ref b, H, I, rfl, k _ M _ H q.2 (Ext.refl H) m (.tup qy dy)⟩
                 · subst e
                   cases r2
                   cases dy
                   refine ⟨.ref _, H, I, rfl, k _ M _ H q.2 (Ext.refl H) m ?_⟩
                   rw [List.append_nil]
                   exact .tup qx dx
                 · have hn := I.fresh
                   refine ⟨.ref s.heap.objs.size, _, I.laid (t' := s.toks) (o := .tup (vs ++ ws)) (fun b ob q => Heap.get?_push_of_some _ q) (Nat.le_refl _) ⟨?_, _, r1.append r2, IsTup.new _ _⟩, rfl, k _ M _ _ q.2 (Ext.new hn) (m.new hn) (.tup upd_same ((dx.append dy).ext (Ext.new hn)))⟩
                   rw [List.length_append, ← l1, ← l2]
                   exact q.1
  | _ => exact False.elim q

mutual
noncomputable def toPy : D → PyData
  | .non => .none
  | .bl b => .bool b
  | .int i => .int i
  | .str x => .str (S x)
  | .tup xs => .tuple (toPys xs)
  | .lst xs => .list (toPys xs)
  | .ref _ => .none
noncomputable def toPys : List D → List PyData
  | [] => []
  | x :: r => toPy x :: toPys r
end
noncomputable def plain : Nat → D → Bool
  | _, .non => true
  | _, .int _ => true
  | _, .str _ => true
  | n + 1, .tup xs => xs.all (plain n)
  | n + 1, .lst xs => xs.all (plain n)
  | _, _ => false
theorem plain_lay {K : PySem.W.Frag} {H : Hp} : ∀ (n : Nat) (d : D) (v : V), plain n d = true → Den K H d v → (toPy d).canLay0 = true ∧ (toPy d).depth ≤ n := by
  have all : ∀ (n : Nat), (∀ d v, plain n d = true → Den K H d v → (toPy d).canLay0 = true ∧ (toPy d).depth ≤ n) → ∀ (ds : List D) (vs : List V), ds.all (plain n) = true → Dens K H ds vs → PyData.canLayAll0 (toPys ds) = true ∧ PyData.depthAll (toPys ds) ≤ n := by
    intro n ih ds
    induction ds with
    | nil => intro vs _ _; simp [toPys, PyData.canLayAll0, PyData.depthAll]
    | cons d ds hi =>
      intro vs h r
      cases r with
      | cons r1 r2 =>
        rw [List.all_cons, Bool.and_eq_true] at h
        have h1 := ih d _ h.1 r1
        have h2 := hi _ h.2 r2
        simp only [toPys, PyData.canLayAll0, PyData.depthAll, h1.1, h2.1, Bool.and_self, true_and]
        have a1 := h1.2
        have a2 := h2.2
        omega
  intro n
  induction n with
  | zero =>
    intro d v h r
    cases r with
    | str x hx => simp [toPy, PyData.canLay0, PyData.depth, PyData.strOk, S]; simpa using hx
    | _ => simp_all [plain, toPy, PyData.canLay0, PyData.depth]
  | succ n ih =>
    intro d v h r
    cases r with
    | str x hx => simp [toPy, PyData.canLay0, PyData.depth, PyData.strOk, S]; simpa using hx
    | tup q r =>
      have q := all n ih _ _ (by simpa [plain] using h) r
      have q2 := q.2
      simp only [toPy, PyData.canLay0, PyData.depth, q.1, true_and]
      omega
    | lst q r =>
      have q := all n ih _ _ (by simpa [plain] using h) r
      have q2 := q.2
      simp only [toPy, PyData.canLay0, PyData.depth, q.1, true_and]
      omega
    | _ => simp_all [plain, toPy, PyData.canLay0, PyData.depth]
theorem plain_eqv : ∀ (n : Nat) (d e : D) (k : Nat), plain n d = true → plain k e = true → (PyData.eqv (toPy d) (toPy e) = true ↔ d = e) := by
  have all : ∀ (n : Nat), (∀ d e k, plain n d = true → plain k e = true → (PyData.eqv (toPy d) (toPy e) = true ↔ d = e)) → ∀ (k : Nat) (ds es : List D), ds.all (plain n) = true → es.all (plain k) = true →
      (PyData.eqvAll (toPys ds) (toPys es) = true ↔ ds = es) := by
    intro n ih k ds
    induction ds with
    | nil => intro es _ _; cases es <;> simp [toPys, PyData.eqvAll]
    | cons d ds hi =>
      intro es h1 h2
      cases es with
      | nil => simp [toPys, PyData.eqvAll]
      | cons e es =>
        rw [List.all_cons, Bool.and_eq_true] at h1 h2
        have q1 := ih d e k h1.1 h2.1
        have q2 := hi es h1.2 h2.2
        simp only [toPys, PyData.eqvAll, Bool.and_eq_true, q1, q2, List.cons.injEq]
  have st : ∀ x y : List Nat, (S x == S y) = true ↔ x = y := fun x y => ⟨fun h => S_inj (by simpa using h), fun h => by simp [h]⟩
  intro n
  induction n with
  | zero =>
    intro d e k h1 h2
    cases d <;> cases e <;> cases k <;> simp_all [plain, toPy, PyData.eqv]
  | succ n ih =>
    intro d e k h1 h2
    cases d with
    | tup ds =>
      cases e with
      | tup es =>
        cases k with
        | zero => simp [plain] at h2
        | succ k =>
          simp only [toPy, PyData.eqv, D.tup.injEq]
          exact all n ih k ds es (by simpa [plain] using h1) (by simpa [plain] using h2)
      | _ => clear ih all; cases k <;> simp_all [plain, toPy, PyData.eqv]
    | lst ds =>
      cases e with
      | lst es =>
        cases k with
        | zero => simp [plain] at h2
        | succ k =>
          simp only [toPy, PyData.eqv, D.lst.injEq]
          exact all n ih k ds es (by simpa [plain] using h1) (by simpa [plain] using h2)
      | _ => clear ih all; cases k <;> simp_all [plain, toPy, PyData.eqv]
    | non => clear ih all; cases e <;> cases k <;> simp_all [plain, toPy, PyData.eqv]
    | bl b => simp [plain] at h1
    | int i => clear ih all; cases e <;> cases k <;> simp_all [plain, toPy, PyData.eqv]
    | str x => clear ih all; cases e <;> cases k <;> simp_all [plain, toPy, PyData.eqv]
    | ref a => simp [plain] at h1
theorem plain_reads {pins : List (Addr × Obj)} {σ : St} {H : Hp} {s : Shared} (I : Inv X pins σ H s) : ∀ (n : Nat) (d : D) (v : V) (u : Value), plain n d = true → Den X.K H d v → L2.RelV v u → ∃ as, Reads s.heap u (toPy d) as := by
  have all : ∀ (n : Nat), (∀ d v u, plain n d = true → Den X.K H d v → L2.RelV v u → ∃ as, Reads s.heap u (toPy d) as) → ∀ (ds : List D) (vs : List V) (us : List Value), ds.all (plain n) = true → Dens X.K H ds vs → Vals vs us → ∃ as, ReadsAll s.heap us (toPys ds) as := by
    intro n ih ds
    induction ds with
    | nil => intro vs us _ r q; cases r; cases q; exact ⟨_, .nil⟩
    | cons d ds hi =>
      intro vs us h r q
      rw [List.all_cons, Bool.and_eq_true] at h
      cases r with
      | cons r1 r2 =>
        cases q with
        | cons q1 q2 =>
          obtain ⟨as, h1⟩ := ih d _ _ h.1 r1 q1
          obtain ⟨bs, h2⟩ := hi _ _ h.2 r2 q2
          exact ⟨_, .cons h1 h2⟩
  have base : ∀ n d v u, plain n d = true → Den X.K H d v → L2.RelV v u → (∀ ds, d ≠ .tup ds) → (∀ ds, d ≠ .lst ds) → ∃ as, Reads s.heap u (toPy d) as := by
    intro n d v u h r q n1 n2
    cases r with
    | non => cases q; exact ⟨_, .none⟩
    | bl b => cases q; exact ⟨_, .bool b⟩
    | int i => obtain ⟨t, rfl⟩ := q; exact ⟨_, .int i t⟩
    | str x hx => obtain ⟨t, rfl⟩ := q; exact ⟨_, .str _ t⟩
    | tup _ _ => exact absurd rfl (n1 _)
    | lst _ _ => exact absurd rfl (n2 _)
    | ref a => cases n <;> simp [plain] at h
  intro n
  induction n with
  | zero =>
    intro d v u h r q
    exact base 0 d v u h r q (fun ds e => by subst e; simp [plain] at h) (fun ds e => by subst e; simp [plain] at h)
  | succ n ih =>
    intro d v u h r q
    cases r with
    | tup sq r =>
      obtain ⟨its, rv, ⟨o, ho, hc, k, hd⟩, z⟩ := I.tuple (.of sq)
      cases q
      obtain ⟨as, ra⟩ := all n ih _ _ _ (by simpa [plain] using h) r rv
      exact ⟨_, .tuple ho hc hd (by simpa using ra)⟩
    | lst sq r =>
      obtain ⟨its, rv, ⟨o, k, ho, hc, hdd, hd⟩, z⟩ := I.list sq.sq
      cases q
      obtain ⟨as, ra⟩ := all n ih _ _ _ (by simpa [plain] using h) r rv
      exact ⟨_, .list ho hc hd (by simpa using ra)⟩
    | non => exact base _ _ _ _ h .non q (fun ds e => nomatch e) (fun ds e => nomatch e)
    | bl b => exact base _ _ _ _ h (.bl b) q (fun ds e => nomatch e) (fun ds e => nomatch e)
    | int i => exact base _ _ _ _ h (.int i) q (fun ds e => nomatch e) (fun ds e => nomatch e)
    | str x hx => exact base _ _ _ _ h (.str x hx) q (fun ds e => nomatch e) (fun ds e => nomatch e)
    | ref a => simp [plain] at h
noncomputable def res (M : DH) : D → D
  | .ref a => match M a with
    | some (.lst ds) => .lst ds
    | _ => .ref a
  | d => d
open Classical in
noncomputable def eqB (x y : D) : Bool := decide (x = y)
open Classical in
theorem eqB_iff (x y : D) : eqB x y = true ↔ x = y := by unfold eqB; exact decide_eq_true_iff
open Classical in
theorem eqB_not (x y : D) : eqB x y = false ↔ ¬ x = y := by unfold eqB; exact decide_eq_false_iff_not
theorem eqB_str (x y : List Nat) : eqB (.str x) (.str y) = decide (x = y) := by
  by_cases h : x = y
  · rw [decide_eq_true h, (eqB_iff _ _).mpr (by rw [h])]
  · rw [decide_eq_false h, (eqB_not _ _).mpr (fun e => h (D.str.inj e))]
theorem eqB_int (x y : Int) : eqB (.int x) (.int y) = decide (x = y) := by
  by_cases h : x = y
  · rw [decide_eq_true h, (eqB_iff _ _).mpr (by rw [h])]
  · rw [decide_eq_false h, (eqB_not _ _).mpr (fun e => h (D.int.inj e))]
theorem eqB_self (x : D) : eqB x x = true := (eqB_iff x x).mpr rfl
noncomputable def rEqN (f : Bool → Bool) : DR2 := fun x y M Q => match x, y with
  | .bl a, .bl b => Q (.bl (f (a == b))) M
  | x, y => plain 12 (res M x) = true ∧ plain 12 (res M y) = true ∧ Q (.bl (f (eqB (res M x) (res M y)))) M
theorem res_reads {pins : List (Addr × Obj)} {σ : St} {H : Hp} {s : Shared} {M : DH} (I : Inv X pins σ H s) (m : SimM X.K M H) {n : Nat} {d : D} {v : V} {u : Value} (h : plain n (res M d) = true) (e : Den X.K H d v) (r : L2.RelV v u) :
    (∃ as, Reads s.heap u (toPy (res M d)) as) ∧ (toPy (res M d)).canLay0 = true ∧ (toPy (res M d)).depth ≤ n := by
  by_cases hr : ∃ a, d = .ref a
  · obtain ⟨a, rfl⟩ := hr
    cases e
    cases q : M a with
    | none => simp only [res, q] at h; cases n <;> simp [plain] at h
    | some o =>
      cases o with
      | oth _ => simp only [res, q] at h; cases n <;> simp [plain] at h
      | lst ds =>
        simp only [res, q] at h ⊢
        cases n with
        | zero => simp [plain] at h
        | succ n =>
          obtain ⟨vs, e1, e2⟩ := m.get q
          -- as if it were finished
          obtain ⟨o, I2⟩ := I.frozen e1
          have x := Ext.lst (o := .frz o (.lst vs)) e1
          have den : Den X.K (upd H a (.frz o (.lst vs))) (.lst ds) (.ref a) := .lst (.inl ⟨o, upd_same⟩) (e2.ext x)
          exact ⟨plain_reads I2 _ _ _ _ h den r, plain_lay _ _ _ h den⟩
  · have e2 : res M d = d := by cases d <;> first | rfl | exact absurd ⟨_, rfl⟩ hr
    rw [e2] at h ⊢
    exact ⟨plain_reads I _ _ _ _ h e r, plain_lay _ _ _ h e⟩
theorem bEq (x y : D) (n k : Nat) (h1 : plain n x = true) (h2 : plain k y = true) : PyData.eqv (toPy x) (toPy y) = eqB x y := by
  have h := plain_eqv n x y k h1 h2
  cases q : eqB x y with
  | true => exact h.mpr ((eqB_iff x y).mp q)
  | false =>
    cases q2 : PyData.eqv (toPy x) (toPy y) with
    | false => rfl
    | true => exact absurd (h.mp q2) ((eqB_not x y).mp q)
theorem od_eqn {op : CmpOp} {f : Bool → Bool} (hu : X.A.units + 64 < cLine)
    (r1 : ∀ {a b : Value} {da db : PyData} {as bs : List Addr} {Q : Value → Shared → Prop} {s : Shared} (ra : Reads s.heap a da as) (rb : Reads s.heap b db bs) (ha : SeqAt.shaped da = true) (hb : SeqAt.shaped db = true), Q (.bool (f (PyData.eqv da db))) s → wpAny (model X.prog X.w) X.A (compareOp op a b) Q X.xe s) : OpD X (compareOp op) (rEqN f) := by
  intro pins s σ H x y v u Q I rx ry ⟨dx, dy, M, R, ex, ey, m, q, k⟩
  by_cases hb : (∃ a, dx = .bl a) ∧ ∃ b, dy = .bl b
  · obtain ⟨⟨a, rfl⟩, ⟨b, rfl⟩⟩ := hb
    cases ex
    cases ey
    cases rx
    cases ry
    refine r1 (Reads.bool a) (Reads.bool b) rfl rfl ⟨.bl (f (a == b)), H, I, ?_, k _ M _ H q (Ext.refl H) m (.bl _)⟩
    simp [PyData.eqv, L2.RelV]
  · have q' : plain 12 (res M dx) = true ∧ plain 12 (res M dy) = true ∧ R (.bl (f (eqB (res M dx) (res M dy)))) M := by
      unfold rEqN at q
      split at q
      · exact absurd ⟨⟨_, rfl⟩, ⟨_, rfl⟩⟩ hb
      · exact q
    obtain ⟨h1, h2, q⟩ := q'
    obtain ⟨⟨as, ra⟩, c1, d1⟩ := res_reads I m h1 ex rx
    obtain ⟨⟨bs, rb⟩, c2, d2⟩ := res_reads I m h2 ey ry
    have sh : ∀ d : PyData, d.canLay0 = true → d.depth ≤ 12 → SeqAt.shaped d = true := fun d h1 h2 => by
      unfold SeqAt.shaped
      rw [h1, Bool.true_and]
      exact decide_eq_true (by omega)
    refine r1 ra rb (sh _ c1 d1) (sh _ c2 d2) ?_
    rw [bEq _ _ _ _ h1 h2]
    exact ⟨.bl _, H, I, rfl, k _ M _ H q (Ext.refl H) m (.bl _)⟩
theorem od_eq (hu : X.A.units + 64 < cLine) : OpD X (compareOp .Eq) (rEqN id) := od_eqn hu fun ra rb ha hb h => SeqAt.compareEq_shaped ra rb ha hb hu h
theorem od_ne (hu : X.A.units + 64 < cLine) : OpD X (compareOp .NotEq) (rEqN not) := od_eqn hu fun ra rb ha hb h => SeqAt.compareNe_shaped ra rb ha hb hu h
end
end DL

set_option Elab.async false
set_option linter.all false
set_option maxRecDepth 100000
namespace DL
open PySem PySem.Spec L2
open PyProof.Rows hiding St
noncomputable def cut {α : Type} (xs : List α) (lo hi : Option Int) : List α := (xs.drop (HT.sIx xs.length 0 lo)).take (HT.sIx xs.length xs.length hi - HT.sIx xs.length 0 lo)
theorem cut_sub {α : Type} {xs : List α} {lo hi : Option Int} {c : α} (h : c ∈ cut xs lo hi) : c ∈ xs := List.mem_of_mem_drop (List.mem_of_mem_take h)
theorem cut_len {α : Type} (xs : List α) (lo hi : Option Int) : (cut xs lo hi).length ≤ xs.length := by
  unfold cut
  rw [List.length_take, List.length_drop]
  omega
theorem range_pick {α : Type} (xs : List α) (i : Nat) : ∀ k : Nat, ((List.range k).map fun m => i + m).filterMap (fun j => xs[j]?) = (xs.drop i).take k := by
  intro k
  induction k with
  | zero => simp
  | succ k ih =>
    rw [List.range_succ, List.map_append, List.filterMap_append, ih]
    simp only [List.map_cons, List.map_nil, List.filterMap_cons, List.filterMap_nil]
    rw [List.take_succ, List.getElem?_drop]
    cases xs[i + k]? <;> simp
theorem sliceIdx (lo hi : Option Int) (n : Nat) : Builtin.Str.strSliceIndices lo hi 1 n = (List.range (HT.sIx n n hi - HT.sIx n 0 lo)).map fun m => HT.sIx n 0 lo + m := by
  have h1 : (1 : Int) > 0 := by decide
  have cl : ∀ (v : Int) (d : Nat), max 0 (min (if v < 0 then v + (n : Int) else v) (n : Int)) = ((HT.sIx n d (some v) : Nat) : Int) := fun v d => by
    show _ = ((if v < 0 then (v + (n : Int)).toNat else min v.toNat n : Nat) : Int)
    split <;> omega
  have key : ∀ I J : Nat, sliceRange (I : Int) (J : Int) 1 = (List.range (J - I)).map fun m => I + m := fun I J => by
    unfold sliceRange
    have hc : (if (1 : Int) > 0 then (if (I : Int) < (J : Int) then ((J : Int) - (I : Int) + 1 - 1) / 1 else 0) else (if (I : Int) > (J : Int) then ((I : Int) - (J : Int) - 1 - 1) / (-1) else 0)) = ((J - I : Nat) : Int) := by
      rw [if_pos h1]
      split <;> omega
    simp only [hc, Int.toNat_natCast]
    refine List.map_congr_left fun k _ => ?_
    omega
  unfold Builtin.Str.strSliceIndices
  simp only [h1, if_true]
  cases lo with
  | none =>
    cases hi with
    | none => exact key 0 n
    | some j => exact (congrArg (fun z => sliceRange 0 z 1) (cl j n)).trans (key 0 _)
  | some i =>
    cases hi with
    | none => exact (congrArg (fun z => sliceRange z n 1) (cl i 0)).trans (key _ n)
    | some j => exact (congr (congrArg (fun z y => sliceRange z y 1) (cl i 0)) (cl j n)).trans (key _ _)
theorem slice_S (x : List Nat) (lo hi : Option Int) : Txt.slice (S x) lo hi = S (cut x lo hi) := by
  unfold Txt.slice
  rw [S_length, sliceIdx]
  split
  · rename_i h
    have h' : HT.sIx x.length x.length hi - HT.sIx x.length 0 lo = x.length := by simpa using h
    have h2 : HT.sIx x.length x.length hi ≤ x.length := HT.sIx_le _ _ (Nat.le_refl _) hi
    unfold cut
    have h3 : HT.sIx x.length 0 lo = 0 := by
      by_cases hx : x.length = 0
      · have := HT.sIx_le x.length 0 (Nat.zero_le _) lo
        omega
      · omega
    rw [h', h3, List.drop_zero, List.take_length]
  · unfold cut S
    rw [← range_pick]
    simp
section
variable {X : Cx} {a b c e : Expr} {es : List Expr} {ta tb te : DTE} {tt tu : DTT} {pos p2 : Pos} {K : PySem.W.Frag}
noncomputable abbrev DTO := DSt → DH → (Option Int → DH → Prop) → Prop
noncomputable def lO (K : PySem.W.Frag) (t : DTO) : TO := fun σ H Q => ∃ ρ M R, SimS K H ρ σ ∧ SimM K M H ∧ t ρ M R ∧ ∀ o M' H', R o M' → Ext H H' → SimM K M' H' → Q o H'
noncomputable abbrev DO (X : Cx) (e : Option Expr) (t : DTO) : Prop := PO X e (lO X.K t)
theorem PO.imp {e : Option Expr} {T T' : TO} (h : PO X e T) (i : ∀ σ H Q, T' σ H Q → T σ H Q) : PO X e T' := fun pins s σ H Q I q => h pins s σ H Q I (i σ H Q q)
noncomputable def doNone : DTO := fun _ M Q => Q none M
noncomputable def doSome (t : DTE) : DTO := fun ρ M Q => t ρ M fun x M1 => match x with
  | .int i => Q (some i) M1
  | _ => False
theorem do_none : DO X none doNone := PO.imp po_none fun σ H Q ⟨ρ, M, R, s, m, h, k⟩ => k none M H h (Ext.refl H) m
theorem do_some (h : DE X e te) : DO X (some e) (doSome te) := PO.imp (po_some h) fun σ H Q ⟨ρ, M, R, s, m, h, k⟩ => ⟨ρ, M, _, s, m, h, fun d M1 v H1 h1 x1 m1 e1 => by
  cases e1 <;> first | exact False.elim h1 | exact ⟨_, rfl, k _ M1 H1 h1 x1 m1⟩⟩
noncomputable def rSlD : D → Option Int → Option Int → DH → DK → Prop := fun x lo hi M Q => match x with
  | .str z => z.length ≤ sizeLine ∧ Q (.str (cut z lo hi)) M
  | .tup xs => Q (.tup (cut xs lo hi)) M
  | .lst xs => ∀ p, M p = none → Q (.ref p) (dupd M p (.lst (cut xs lo hi)))
  | .ref a => match M a with
    | some (.lst xs) => ∀ p, M p = none → Q (.ref p) (dupd M p (.lst (cut xs lo hi)))
    | _ => False
  | _ => False
noncomputable def lSl (K : PySem.W.Frag) (r : D → Option Int → Option Int → DH → DK → Prop) : V → Option Int → Option Int → Hp → VK → Prop := fun x lo hi H Q => ∃ d M R, Den K H d x ∧ SimM K M H ∧ r d lo hi M R ∧ Aft K H R Q
theorem Dens.cut {K : PySem.W.Frag} {H : Hp} {ds : List D} {vs : List V} (h : Dens K H ds vs) (lo hi : Option Int) : Dens K H (DL.cut ds lo hi) (cutV vs lo hi) := by
  unfold DL.cut cutV
  rw [h.length]
  exact (h.drop _).take _
theorem tup_whole {prog : Program} {w : World} {A : Around} {E : Value → Shared → Prop} {s : Shared} {t sl : Addr} {items : Array Value} {vl vu : Value} {lo hi : Option Int} {Q : Value → Shared → Prop} (ht : IsTup s.heap t items) (hs : s.heap.IsSliceOf sl vl vu .none) (pl : IsPart vl lo) (pu : IsPart vu hi)
    (hw : HT.sIx items.size 0 lo = 0 ∧ HT.sIx items.size items.size hi = items.size) (h : Q (.ref t) s) : wpAny (model prog w) A (getItem (.ref t) (.ref sl)) Q E s := by
  obtain ⟨os, hos, hcs, hds⟩ := id hs
  have hTs : s.TypeIs (.ref sl) "slice" := ⟨os, hos, hcs⟩
  unfold getItem
  try with_reducible refine wpAny_holding ?_
  first | refine wpAny_bind (wpAny_pure ?_) | skip
  refine wpAny_bind (wpAny_sequenceKey ht.typeIs (by decide) ?_)
  refine wpAny_bind (wpAny_callSpecial?_slot (name := Str.ofString "__getitem__") ht.typeIs PyProof.Rows.slot_tuple_getitem
    (wpAny_call_entry PyProof.Rows.slot_tuple_getitem ht.typeIs entry_tuple_getitem ?_ (args_tuple_getitem _ _)))
  show wpAny _ _ (Builtin.Tuple.tupleItemsOf (.ref t) >>= _) _ _ s
  refine wpAny_bind (tupleItemsOf_ ht ?_)
  refine wpAny_bind (wpAny_typeOf hTs ?_)
  rw [if_pos (by decide)]
  refine wpAny_bind (HT.sliceApplied_gen hs pl pu ?_)
  have hyes : ((((HT.sIx items.size 0 lo : Nat) : Int) == 0 && (1 : Int) == 1 && (HT.sIx items.size items.size hi - HT.sIx items.size 0 lo) == items.size) = true) := by
    rw [hw.1, hw.2]
    simp
  show wpAny _ _ (if (((HT.sIx items.size 0 lo : Nat) : Int) == 0 && (1 : Int) == 1 && (HT.sIx items.size items.size hi - HT.sIx items.size 0 lo) == items.size) = true then _ else _) _ _ s
  rw [if_pos hyes]
  unfold Builtin.Tuple.tupleIsExact
  refine wpAny_bind (wpAny_bind (wpAny_typeOf ht.typeIs (wpAny_pure ?_)))
  rw [if_pos (by decide)]
  exact wpAny_bind (wpAny_rule (wpAny_pure ⟨_, rfl, wpAny_pure h⟩))
theorem sl_all : SlR X (lSl X.K rSlD) := by
  intro pins s σ H x v vl vu lo hi sl Q I rx hs pl pu ⟨d, M, R, e, m, q, k⟩
  have viaL : ∀ {p : Addr} {ds : List D} {vs : List V}, x = .ref p → SqL X.K H p vs → Dens X.K H ds vs → (∀ p, M p = none → R (.ref p) (dupd M p (.lst (DL.cut ds lo hi)))) → ∃ T id, typeLookup (.type T) "__getitem__" = pure (some (.builtin id)) ∧ s.TypeIs v T ∧ wpAny (model X.prog X.w) X.A (getItem v (.ref sl)) (EP X pins σ Q) X.xe s := by
    intro p ds vs ex sq dn q
    subst ex
    exact sl_list pins s σ H _ v vl vu lo hi sl Q I rx hs pl pu ⟨p, vs, rfl, sq, fun p hp => k _ _ _ _ (q p (m.free hp)) (Ext.new hp) (m.newL hp (Dens.cut dn lo hi)) (.ref p)⟩
  cases e with
  | str z hz =>
    obtain ⟨t, rfl⟩ := rx
    refine ⟨"str", _, F.slot_str_getitem.lookup, typeIs_str s _ t, ?_⟩
    have go : ∀ (l u : Option (Int × Tok)), l.map (·.1) = lo → u.map (·.1) = hi → s.heap.IsSlice sl l u none → wpAny (model X.prog X.w) X.A (getItem (.str (S z) t) (.ref sl)) (EP X pins σ Q) X.xe s := by
      intro l u e1 e2 hsl
      have es : Txt.slice (S z) lo hi = S (DL.cut z lo hi) := slice_S z lo hi
      have fin : ∀ (t' : Tok) (tk : Nat), EP X pins σ Q (.str (S (DL.cut z lo hi)) t') { s with toks := tk } := fun t' tk => ⟨.str (S (DL.cut z lo hi)), H, I.tok tk, ⟨t', rfl⟩, k _ M _ H q.2 (Ext.refl H) m (.str _ (cpOk.sub hz fun c hc => cut_sub hc))⟩
      refine wpAny_getItem_str_slice (l := l) (u := u) (st := none) hsl rfl ?_
      unfold sliceMade
      unfold Txt.slice at es
      unfold slicePicked
      rw [e1, e2]
      simp only [Option.map_none, Option.getD_none]
      by_cases hc : ((1 : Int) == 1 && (Builtin.Str.strSliceIndices lo hi 1 (S z).length).length == (S z).length) = true
      · rw [if_pos hc] at es ⊢
        have := fin t s.toks
        rw [← es] at this
        exact this
      · rw [if_neg hc] at es ⊢
        rw [es]
        refine ⟨?_, fin _ _⟩
        show (S (DL.cut z lo hi)).length ≤ sizeLine
        rw [S_length]
        exact Nat.le_trans (cut_len z lo hi) q.1
    obtain ⟨os, hos, hcs, hds⟩ := hs
    cases pl with
    | none =>
      cases pu with
      | none => exact go none none rfl rfl ⟨os, hos, hcs, hds⟩
      | int j u => exact go none (some (j, u)) rfl rfl ⟨os, hos, hcs, hds⟩
    | int i t =>
      cases pu with
      | none => exact go (some (i, t)) none rfl rfl ⟨os, hos, hcs, hds⟩
      | int j u => exact go (some (i, t)) (some (j, u)) rfl rfl ⟨os, hos, hcs, hds⟩
  | tup sq dn =>
    rename_i p ds vs
    cases rx
    have hl := dn.length
    by_cases hw : HT.sIx vs.length 0 lo = 0 ∧ HT.sIx vs.length vs.length hi = vs.length
    · obtain ⟨its, r, ht, hz⟩ := I.tuple (.of sq)
      have hlen : its.toArray.size = vs.length := by rw [List.size_toArray]; exact r.length.symm
      refine ⟨"tuple", _, PyProof.Rows.slot_tuple_getitem.lookup, ht.typeIs, tup_whole ht hs pl pu (by rw [hlen]; exact hw) ⟨.ref p, H, I, rfl, k _ M _ H q (Ext.refl H) m ?_⟩⟩
      have : DL.cut ds lo hi = ds := by
        unfold DL.cut
        rw [hl, hw.1, hw.2, List.drop_zero, ← hl, Nat.sub_zero, List.take_length]
      rw [this]
      exact .tup sq dn
    · exact sl_tup pins s σ H (.ref p) _ vl vu lo hi sl Q I rfl hs pl pu ⟨p, vs, rfl, .of sq, hw, fun p hp => k _ M _ _ q (Ext.new hp) (m.new hp) (.tup upd_same ((Dens.cut dn lo hi).ext (Ext.new hp)))⟩
  | lst sq dn => exact viaL rfl sq.sq dn q
  | ref p =>
    cases qa : M p with
    | none => simp only [rSlD, qa] at q
    | some o =>
      cases o with
      | oth _ => simp only [rSlD, qa] at q
      | lst ds =>
        simp only [rSlD, qa] at q
        obtain ⟨vs, e2, dn⟩ := m.get qa
        exact viaL rfl (.of e2) dn q
  | _ => exact False.elim q
noncomputable def dSl (te : DTE) (tl th : DTO) : DTE := fun ρ M Q => te ρ M fun x M1 => tl ρ M1 fun l M2 => th ρ M2 fun u M3 => rSlD x l u M3 Q
theorem de_slice {lo hi : Option Expr} {tl th : DTO} (he : DE X e te) (hl : DO X lo tl) (hh : DO X hi th) : DE X (.Subscript e (.Slice lo hi none p2) pos) (dSl te tl th) :=
  (pe_slice sl_all he hl hh).imp fun σ H Q ⟨ρ, M, R, s, m, h, k⟩ => ⟨ρ, M, _, s, m, h, fun d1 M1 v1 H1 h1 x1 m1 e1 => ⟨ρ, M1, _, s.ext x1, m1, h1, fun l M2 H2 h2 x2 m2 => ⟨ρ, M2, _, s.ext (x1.trans x2), m2, h2, fun u M3 H3 h3 x3 m3 =>
    ⟨d1, M3, R, e1.ext (x2.trans x3), m3, h3, k.ext (x1.trans (x2.trans x3))⟩⟩⟩⟩

noncomputable def rIxD : DR2 := fun x y M Q => match x, y with
  | .str z, .int i => match atI z i with
    | some c => z.length ≤ sizeLine ∧ Q (.str [c]) M
    | none => False
  | .tup xs, .int i => match atI xs i with
    | some d => Q d M
    | none => False
  | .lst xs, .int i => match atI xs i with
    | some d => Q d M
    | none => False
  | .ref a, .int i => match M a with
    | some (.lst xs) => match atI xs i with
      | some d => Q d M
      | none => False
    | _ => False
  | _, _ => False
theorem Dens.atI {K : PySem.W.Frag} {H : Hp} {ds : List D} {vs : List V} {i : Int} {d : D} (h : Dens K H ds vs) (e : L2.atI ds i = some d) : ∃ v, L2.atI vs i = some v ∧ Den K H d v := by
  unfold L2.atI at e ⊢
  rw [h.length] at e
  cases q : ixN vs.length i with
  | none => rw [q] at e; cases e
  | some j =>
    rw [q] at e
    obtain ⟨v, e1, e2⟩ := h.get (i := j) (d := d) e
    exact ⟨v, e1, e2⟩
theorem ix_all : IxR X (lR2 X.K rIxD) := by
  intro value slice pins s σ H x y v u Q I rx ry ⟨dx, dy, M, R, ex, ey, m, q, k⟩ hsub
  have viaL : ∀ {p : Addr} {ds : List D} {vs : List V} {i : Int}, x = .ref p → y = .int i → SqL X.K H p vs → Dens X.K H ds vs → (match atI ds i with | some d => R d M | none => False) → wpAny (model X.prog X.w) X.A (subscriptTail value slice v u) (EP X pins σ Q) X.xe s := by
    intro p ds vs i e1 e2 sq dn q
    subst e1 e2
    cases ei : atI ds i with
    | none => rw [ei] at q; exact q.elim
    | some d =>
      rw [ei] at q
      obtain ⟨w, e3, e4⟩ := Dens.atI dn ei
      exact ix_list value slice pins s σ H _ _ v u Q I rx ry ⟨p, vs, i, w, rfl, rfl, sq, e3, k _ M _ H q (Ext.refl H) m e4⟩ hsub
  cases ex with
  | str z hz =>
    cases ey <;> first | exact False.elim q | skip
    rename_i i
    have q : (match atI z i with | some c => z.length ≤ sizeLine ∧ R (.str [c]) M | none => False) := q
    cases ei : atI z i with
    | none => rw [ei] at q; exact q.elim
    | some c =>
      rw [ei] at q
      obtain ⟨j, _, ej, _⟩ := atI_get ei
      exact ix_str value slice pins s σ H _ _ v u Q I rx ry ⟨S z, i, c, rfl, rfl, by rw [S_length]; exact q.1, by rw [S_toList]; exact ei, k _ M _ H q.2 (Ext.refl H) m (.str [c] (cpOk.sub hz fun c' hc => by rw [List.mem_singleton.mp hc]; exact List.mem_of_getElem? ej))⟩ hsub
  | tup sq dn =>
    cases ey <;> first | exact False.elim q | skip
    rename_i p ds vs i
    have q : (match atI ds i with | some d => R d M | none => False) := q
    cases ei : atI ds i with
    | none => rw [ei] at q; exact q.elim
    | some d =>
      rw [ei] at q
      obtain ⟨w, e3, e4⟩ := Dens.atI dn ei
      exact ix_tup value slice pins s σ H _ _ v u Q I rx ry ⟨p, vs, i, w, rfl, rfl, .of sq, e3, k _ M _ H q (Ext.refl H) m e4⟩ hsub
  | lst sq dn =>
    cases ey <;> first | exact False.elim q | skip
    exact viaL rfl rfl sq.sq dn q
  | ref p =>
    cases ey <;> first | exact False.elim q | skip
    cases qa : M p with
    | none => simp only [rIxD, qa] at q
    | some o =>
      cases o with
      | oth _ => simp only [rIxD, qa] at q
      | lst ds =>
        simp only [rIxD, qa] at q
        obtain ⟨vs, e2, dn⟩ := m.get qa
        exact viaL rfl rfl (.of e2) dn q
  | _ => exact False.elim q
theorem de_ix (ha : DE X a ta) (hb : DE X b tb) (hs : PlainIx b := by intro _ _; rfl) : DE X (.Subscript a b pos) (dOp rIxD ta tb) :=
  (pe_ix ix_all ha hb hs).imp fun σ H Q h => op_low (fun _ _ _ _ q => q) h

noncomputable def rLtD (f : Int → Int → Bool) : DR2 := fun x y M Q => match x, y with
  | .int i, .int j => Q (.bl (f i j)) M
  | _, _ => False
theorem opB2 {op : CmpOp} {f : Int → Int → Bool} (h : OpR X (compareOp op) (rI0 fun i j => .bl (f i j))) : OpD X (compareOp op) (rLtD f) := by
  intro pins s σ H x y v u Q I rx ry ⟨dx, dy, M, R, ex, ey, m, q, k⟩
  cases ex <;> cases ey <;> first | exact False.elim q | skip
  exact h pins s σ H _ _ v u Q I rx ry ⟨_, _, rfl, rfl, k _ M _ H q (Ext.refl H) m (.bl _)⟩
theorem od_lt : OpD X (compareOp .Lt) (rLtD fun i j => decide (i < j)) := opB2 op_lt
noncomputable def rLtS : DR2 := fun x y M Q => match x, y with
  | .str i, .str j => Q (.bl (decide (i < j))) M
  | _, _ => False
theorem od_lt_str : OpD X (compareOp .Lt) rLtS := by
  intro pins s σ H x y v u Q I rx ry ⟨dx, dy, M, R, ex, ey, m, q, k⟩
  cases ex <;> cases ey <;> first | exact False.elim q | skip
  refine op_lt_str pins s σ H _ _ v u Q I rx ry ⟨_, _, rfl, rfl, k _ M _ H ?_ (Ext.refl H) m (.bl _)⟩
  rw [S_toList, S_toList]
  exact q
noncomputable def isNon : D → Bool
  | .non => true
  | _ => false
noncomputable def rIsN (f : Bool → Bool) : DR2 := fun x y M Q => match y with
  | .non => Q (.bl (f (isNon x))) M
  | _ => False
noncomputable def dChain (r r' : DR2) (ta tb tc : DTE) : DTE := fun ρ M Q => ta ρ M fun x M1 => tb ρ M1 fun y M2 => r x y M2 fun z M3 => match z with
  | .bl k => if k = true then tc ρ M3 fun z' M4 => r' y z' M4 Q else Q (.bl false) M3
  | _ => False
end
end DL

set_option Elab.async false
set_option linter.all false
set_option maxRecDepth 100000
namespace DL
open PySem PySem.Spec L2
open PyProof.Rows hiding St
section
variable {X : Cx} {a b c e : Expr} {es : List Expr} {ta tb te : DTE} {tt tu : DTT} {pos p2 : Pos} {K : PySem.W.Frag}
inductive Ty where
  | non | bool | int | str | tuple | list
  deriving DecidableEq
noncomputable def Ty.nm : Ty → String
  | .non => "NoneType" | .bool => "bool" | .int => "int" | .str => "str" | .tuple => "tuple" | .list => "list"
noncomputable def Ty.sub : Ty → Ty → Bool
  | .bool, .int => true
  | a, b => decide (a = b)
noncomputable def tyD : D → Ty
  | .non => .non | .bl _ => .bool | .int _ => .int | .str _ => .str | .tup _ => .tuple | .lst _ => .list | .ref _ => .list
theorem kit_all (K : PySem.W.Frag) (a b : Ty) (hb : b ≠ .non) : PySem.W.kitOne K (.type a.nm) (.type b.nm) = some (a.sub b) := by
  cases a <;> cases b <;> first | exact absurd rfl hb | with_unfolding_all rfl
noncomputable def dIsI (T : Ty) (te : DTE) : DTE := fun ρ M Q => te ρ M fun d M1 => match d with
  | .ref a => match M1 a with
    | some (.lst _) => Q (.bl (Ty.sub .list T)) M1
    | _ => False
  | d => Q (.bl ((tyD d).sub T)) M1
theorem de_isi (T : Ty) (hT : T ≠ .non) {p p3 : Pos} {x : Str} (hx : bootBuiltins x = some (.type T.nm)) (he : DE X e te) (hg : Gl X "isinstance") (hm : X.mg "isinstance" = none) (hg2 : Gl X x) (hm2 : X.mg x = none) (hn : x ≠ "__name__" := by decide) (hdb : (x == ("__debug__" : Str)) = false := by decide)
    (hs : starEach [e, .Name x p3] X.env = (false, eval e X.env) :: starEach [.Name x p3] X.env := by rfl) (hs2 : starEach [.Name x p3] X.env = (false, eval (.Name x p3) X.env) :: starEach [] X.env := by rfl) (hpl : (backTo pos (starEach [.Name x p3] X.env)).any (·.1) = false := by rfl) :
    DE X (.Call (.Name "isinstance" p) [e, .Name x p3] [] pos) (dIsI T te) := by
  have hc : CallR X (.builtin "isinstance") (fun xs H Q => ∃ d M R v, xs = [v, .ty T.nm] ∧ Den X.K H d v ∧ SimM X.K M H ∧ Aft X.K H R Q ∧ (match d with
    | .ref a => match M a with
      | some (.lst _) => R (.bl (Ty.sub .list T)) M
      | _ => False
    | d => R (.bl ((tyD d).sub T)) M)) := by
    intro pins s σ H xs us Q I rv ⟨d, M, R, v, e, den, m, k, q⟩
    subst e
    cases rv with
    | cons r1 rv =>
      cases rv with
      | cons r2 rv =>
        cases rv
        cases r2
        have fin : ∀ b, R (.bl b) M → ∀ tk, EP X pins σ Q (.bool b) { s with toks := tk } := fun b hb tk => ⟨.bl b, H, I.tok tk, rfl, k _ M _ H hb (Ext.refl H) m (.bl b)⟩
        cases den with
        | non => exact isinst_ok I r1 .non (kit_all X.K .non T hT) (fin _ q)
        | bl b => exact isinst_ok I r1 (.bl b) (kit_all X.K .bool T hT) (fin _ q)
        | int i => exact isinst_ok I r1 (.int i) (kit_all X.K .int T hT) (fin _ q)
        | str z hz => exact isinst_ok I r1 (.str _) (kit_all X.K .str T hT) (fin _ q)
        | tup sq dn =>
          cases r1
          obtain ⟨its, r, ⟨o, h1, h2, _⟩, hz⟩ := I.tuple (.of sq)
          exact PySem.W.kia_one PySem.W.kitx_tuple I.kIn ⟨o, h1, h2⟩ (kit_all X.K .tuple T hT) (fun z => nomatch z) (fin _ q)
        | lst sq dn =>
          cases r1
          obtain ⟨its, r, ⟨o, n, h1, h2, _⟩, hz⟩ := I.list sq.sq
          exact PySem.W.kia_one PySem.W.kitx_list I.kIn ⟨o, h1, h2⟩ (kit_all X.K .list T hT) (fun z => nomatch z) (fin _ q)
        | ref p =>
          cases qa : M p with
          | none => simp only [qa] at q
          | some o =>
            cases o with
            | oth _ => simp only [qa] at q
            | lst ds =>
              simp only [qa] at q
              cases r1
              obtain ⟨vs, e2, dn⟩ := m.get qa
              exact isinst_ok (x := .ref p) I rfl (.lst e2) (kit_all X.K .list T hT) (fin _ q)
  refine (pe_callB hc hg hm (by rfl) (pa_cons he (pa_cons (pe_bltn hg2 hm2 hx (v := .ty T.nm) rfl hn hdb) pa_nil hs2) hs) (by decide) (by decide) hs hpl).imp fun σ H Q ⟨ρ, M, R, s, m, h, k⟩ => ?_
  exact ⟨ρ, M, _, s, m, h, fun d M1 v H1 h1 x1 m1 e1 => ⟨d, M1, R, v, rfl, e1, m1, k.ext x1, by
    cases d <;> exact h1⟩⟩

noncomputable def rLen1 : D → DH → DK → Prop := fun d M Q => match d with
  | .str z => z.length ≤ sizeLine ∧ Q (.int z.length) M
  | .tup xs => Q (.int xs.length) M
  | .lst xs => Q (.int xs.length) M
  | .ref a => match M a with
    | some (.lst xs) => Q (.int xs.length) M
    | _ => False
  | _ => False
noncomputable def rLen : List D → DH → DK → Prop := fun ds M Q => match ds with
  | [d] => rLen1 d M Q
  | _ => False
theorem cd_len : CallD X (.builtin "len") rLen := by
  intro pins s σ H xs us Q I rv ⟨ds, M, R, dn, m, q, k⟩
  match ds, dn, q with
  | [d], .cons den .nil, q =>
    cases den with
    | str z hz => exact call_len_str pins s σ H _ us Q I rv ⟨_, rfl, by rw [S_length]; exact q.1, k _ M _ H q.2 (Ext.refl H) m (by rw [S_length]; exact .int _)⟩
    | tup sq d => exact call_len_seq pins s σ H _ us Q I rv ⟨_, _, rfl, .inr (.of sq), k _ M _ H q (Ext.refl H) m (by rw [d.length]; exact .int _)⟩
    | lst sq d => exact call_len_seq pins s σ H _ us Q I rv ⟨_, _, rfl, .inl sq.sq, k _ M _ H q (Ext.refl H) m (by rw [d.length]; exact .int _)⟩
    | ref p =>
      cases qa : M p with
      | none => simp only [rLen, rLen1, qa] at q
      | some o =>
        cases o with
        | oth _ => simp only [rLen, rLen1, qa] at q
        | lst ds =>
          simp only [rLen, rLen1, qa] at q
          obtain ⟨vs, e2, d⟩ := m.get qa
          exact call_len_seq pins s σ H _ us Q I rv ⟨_, _, rfl, .inl (.of e2), k _ M _ H q (Ext.refl H) m (by rw [d.length]; exact .int _)⟩
    | _ => exact False.elim q
noncomputable def seqOf (M : DH) : D → Option (List D)
  | .tup xs => some xs
  | .lst xs => some xs
  | .ref a => match M a with
    | some (.lst xs) => some xs
    | _ => none
  | _ => none
noncomputable def rTuple : List D → DH → DK → Prop := fun ds M Q => match ds with
  | [d] => match seqOf M d with
    | some xs => Q (.tup xs) M
    | none => False
  | _ => False
noncomputable def rList : List D → DH → DK → Prop := fun ds M Q => match ds with
  | [d] => match seqOf M d with
    | some xs => ∀ p, M p = none → Q (.ref p) (dupd M p (.lst xs))
    | none => False
  | _ => False
theorem seq_sq {M : DH} {H : Hp} {d : D} {v : V} {xs : List D} (m : SimM K M H) (den : Den K H d v) (e : seqOf M d = some xs) : ∃ p vs, v = .ref p ∧ (SqL K H p vs ∨ SqT K H p vs) ∧ Dens K H xs vs ∧ (SqL K H p vs ∨ H p = some (.tup vs)) := by
  cases den with
  | tup sq d => cases e; exact ⟨_, _, rfl, .inr (.of sq), d, .inr sq⟩
  | lst sq d => cases e; exact ⟨_, _, rfl, .inl sq.sq, d, .inl sq.sq⟩
  | ref p =>
    cases qa : M p with
    | none => simp [seqOf, qa] at e
    | some o =>
      cases o with
      | oth _ => simp [seqOf, qa] at e
      | lst ds =>
        simp [seqOf, qa] at e
        subst e
        obtain ⟨vs, e2, d⟩ := m.get qa
        exact ⟨_, _, rfl, .inl (.of e2), d, .inl (.of e2)⟩
  | _ => simp [seqOf] at e
theorem cd_list : CallD X (.type "list") rList := by
  intro pins s σ H xs us Q I rv ⟨ds, M, R, dn, m, q, k⟩
  match ds, dn, q with
  | [d], .cons den .nil, q =>
    unfold rList at q
    cases e : seqOf M d with
    | none => simp only [e] at q
    | some ys =>
      simp only [e] at q
      obtain ⟨p, vs, rfl, sq, d, _⟩ := seq_sq m den e
      exact call_list_of pins s σ H _ us Q I rv ⟨p, vs, rfl, sq, fun l hl => k _ _ _ _ (q l (m.free hl)) (Ext.new hl) (m.newL hl d) (.ref l)⟩
noncomputable def rMin : List D → DH → DK → Prop := fun ds M Q => match ds with
  | [.int i, .int j] => Q (.int (if j < i then j else i)) M
  | _ => False
theorem cd_min (hc : X.calm = true) : CallD X (.builtin "min") rMin := by
  intro pins s σ H xs us Q I rv ⟨ds, M, R, dn, m, q, k⟩
  cases dn with
  | nil => exact q.elim
  | cons d1 e2 =>
    cases e2 with
    | nil => cases d1 <;> exact q.elim
    | cons d2 e3 =>
      cases e3 with
      | cons d3 e4 => cases d1 <;> cases d2 <;> exact q.elim
      | nil =>
        cases d1 with
        | int i =>
          cases d2 with
          | int j => exact call_min2 hc pins s σ H _ us Q I rv ⟨i, j, rfl, k _ M _ H q (Ext.refl H) m (.int _)⟩
          | _ => exact q.elim
        | _ => cases d2 <;> exact q.elim
noncomputable def rMax : List D → DH → DK → Prop := fun ds M Q => match ds with
  | [.int i, .int j] => Q (.int (if j > i then j else i)) M
  | _ => False
noncomputable def rOrd1 : D → DH → DK → Prop := fun d M Q => match d with
  | .str z => match z with
    | [c] => Q (.int (c : Nat)) M
    | _ => False
  | _ => False
noncomputable def rOrd : List D → DH → DK → Prop := fun ds M Q => match ds with
  | [d] => rOrd1 d M Q
  | _ => False
noncomputable def lM (K : PySem.W.Frag) (r : D → List D → DH → DK → Prop) : V → List V → Hp → VK → Prop := fun x vs H Q => ∃ d ds M R, Den K H d x ∧ Dens K H ds vs ∧ SimM K M H ∧ r d ds M R ∧ Aft K H R Q
noncomputable abbrev MtD (X : Cx) (id : String) (r : D → List D → DH → DK → Prop) : Prop := MtR X id (lM X.K r)
noncomputable def dMS (r : D → List D → DH → DK → Prop) (to : DTE) (t : DTA) : DTE := fun ρ M Q => to ρ M fun d M1 => match d with
  | .str z => t ρ M1 fun ds M2 => r (.str z) ds M2 Q
  | _ => False
noncomputable def dML (r : D → List D → DH → DK → Prop) (to : DTE) (t : DTA) : DTE := fun ρ M Q => to ρ M fun d M1 => match d with
  | .ref a => match M1 a with
    | some (.lst _) => t ρ M1 fun ds M2 => r (.ref a) ds M2 Q
    | _ => False
  | .lst xs => t ρ M1 fun ds M2 => r (.lst xs) ds M2 Q
  | _ => False
theorem de_ml {o : Expr} {to : DTE} {tr : DTA} {name : Str} {apos cpos : Pos} {id : String} {r : D → List D → DH → DK → Prop} (slot : Slot "list" name id) (hty : typeOf (.builtin id) = pure (.type "method_descriptor")) (hm : MtD X id r) (ho : DE X o to) (ha : DA X (e :: es) tr)
    (hbase : attributeBase o name X.env (eval o X.env) = eval o X.env := by rfl)
    (hfew : ((backTo cpos (starEach (e :: es) X.env)).all (fun x => !x.1) && (backToKw cpos (keywordEach [] X.env)).all (fun x => x.1.isSome)
      && decide ((e :: es).length + ([] : List Keyword).length + (if ([] : List Keyword).isEmpty then 0 else 1) < 30)) = true := by rfl)
    (hline : (apos.endLine == cpos.line) = true := by rfl) (hs : starEach (e :: es) X.env = (false, eval e X.env) :: starEach es X.env := by rfl) (hplain : (backTo cpos (starEach es X.env)).any (·.1) = false := by rfl) :
    DE X (.Call (.Attribute o name apos) (e :: es) [] cpos) (dML r to tr) :=
  (pe_bm PySem.F.plainAttrs_list slot hty hm ho ha hbase hfew hline hs hplain).imp fun σ H Q ⟨ρ, M, R, s, m, h, k⟩ => ⟨ρ, M, _, s, m, h, fun d M1 v H1 h1 x1 m1 e1 => by
    cases e1 with
    | ref a =>
      cases qa : M1 a with
      | none => simp only [qa] at h1
      | some o =>
        cases o with
        | oth _ => simp only [qa] at h1
        | lst xs =>
          simp only [qa] at h1
          obtain ⟨vs, e2, d⟩ := m1.get qa
          exact ⟨.inl ⟨rfl, vs, .of e2⟩, ρ, M1, _, s.ext x1, m1, h1, fun ds M2 vs H2 h2 x2 m2 e2 => ⟨.ref a, ds, M2, R, .ref a, e2, m2, h2, k.ext (x1.trans x2)⟩⟩
    | lst fz dd => exact ⟨.inl ⟨rfl, _, fz.sq⟩, ρ, M1, _, s.ext x1, m1, h1, fun ds M2 vs H2 h2 x2 m2 e2 => ⟨_, ds, M2, R, Den.ext x2 (.lst fz dd), e2, m2, h2, k.ext (x1.trans x2)⟩⟩
    | _ => exact False.elim h1⟩
theorem de_ml0 {o : Expr} {to : DTE} {name : Str} {apos cpos : Pos} {id : String} {r : D → List D → DH → DK → Prop} (slot : Slot "list" name id) (hty : typeOf (.builtin id) = pure (.type "method_descriptor")) (hm : MtD X id r) (ho : DE X o to)
    (hbase : attributeBase o name X.env (eval o X.env) = eval o X.env := by rfl) (hline : (apos.endLine == cpos.line) = true := by rfl) : DE X (.Call (.Attribute o name apos) [] [] cpos) (dML r to dNil) :=
  (pe_bm0 PySem.F.plainAttrs_list slot hty hm ho hbase hline).imp fun σ H Q ⟨ρ, M, R, s, m, h, k⟩ => ⟨ρ, M, _, s, m, h, fun d M1 v H1 h1 x1 m1 e1 => by
    cases e1 with
    | ref a =>
      cases qa : M1 a with
      | none => simp only [qa] at h1
      | some o =>
        cases o with
        | oth _ => simp only [qa] at h1
        | lst xs =>
          simp only [qa] at h1
          obtain ⟨vs, e2, d⟩ := m1.get qa
          exact ⟨.inl ⟨rfl, vs, .of e2⟩, .ref a, [], M1, R, .ref a, .nil, m1, h1, k.ext x1⟩
    | lst fz dd => exact ⟨.inl ⟨rfl, _, fz.sq⟩, _, [], M1, R, .lst fz dd, .nil, m1, h1, k.ext x1⟩
    | _ => exact False.elim h1⟩
noncomputable def mAppend : D → List D → DH → DK → Prop := fun d ds M Q => match d, ds with
  | .ref a, [y] => match M a with
    | some (.lst xs) => xs.length < sizeLine ∧ Q .non (dupd M a (.lst (xs ++ [y])))
    | _ => False
  | _, _ => False
theorem md_append : MtD X "list.append" mAppend := by
  intro pins s σ H x xs v us Q I rx rv ⟨d, ds, M, R, e, dn, m, q, k⟩
  cases e <;> first | exact False.elim q | skip
  rename_i a
  match ds, dn, q with
  | [y], .cons dy .nil, q =>
    cases qa : M a with
    | none => simp only [mAppend, qa] at q
    | some o =>
      cases o with
      | oth _ => simp only [mAppend, qa] at q
      | lst ys =>
        simp only [mAppend, qa] at q
        obtain ⟨vs, e2, d⟩ := m.get qa
        exact mt_append pins s σ H _ _ v us Q I rx rv ⟨a, vs, _, rfl, rfl, e2, by rw [← d.length]; exact q.1, k _ _ _ _ q.2 (Ext.lst e2) (m.write e2 (d.append (.cons dy .nil))) .non⟩
noncomputable def mReverse : D → List D → DH → DK → Prop := fun d ds M Q => match d, ds with
  | .ref a, [] => match M a with
    | some (.lst xs) => Q .non (dupd M a (.lst xs.reverse))
    | _ => False
  | _, _ => False
end
end DL

set_option Elab.async false
set_option linter.all false
set_option maxRecDepth 100000
namespace DL
open PySem PySem.Spec L2
open PyProof.Rows hiding St
section
variable {X : Cx} {a b c e : Expr} {es : List Expr} {ta tb te : DTE} {tt tu : DTT} {pos p2 : Pos} {K : PySem.W.Frag}
noncomputable def mIndex : D → List D → DH → DK → Prop := fun d ds M Q => match d, ds with
  | .str z, [.str y] => match y with
    | [c] => c ∈ z ∧ ∀ i : Nat, z[i]? = some c → (∀ j, j < i → ¬ z[j]? = some c) → Q (.int i) M
    | _ => False
  | _, _ => False
noncomputable def tFzS (T : TS) : TS := fun D σ H => T { D with nx := fun σ' H' => ∃ a xs, H' a = some (.lst xs) ∧ ∀ o, D.nx σ' (upd H' a (.frz o (.lst xs))) } σ H
theorem ps_fz {st : Stmt} {T : TS} (h : PS X st T) : PS X st (tFzS T) := by
  intro pins s σ H D I q
  refine thn (h pins s σ H _ I q) fun f s' q' => ?_
  cases f with
  | next =>
    obtain ⟨σ', H', I', a, xs, ha, k⟩ := q'
    obtain ⟨o, I2⟩ := I'.frozen ha
    exact ⟨σ', _, I2, k o⟩
  | brk => exact q'
  | cont => exact q'
  | ret v => exact q'
noncomputable def dFzS (i : Nat) (t : DTS) : DTS := fun DD ρ M => t { DD with nx := fun ρ' M' => match ρ'[i]? with
  | some (some (.ref a)) => match M' a with
    | some (.lst ds) => DD.nx (ρ'.set i (some (.lst ds))) (ddel M' a)
    | _ => False
  | _ => False } ρ M
end
end DL

set_option Elab.async false
set_option linter.all false
set_option maxRecDepth 100000
namespace DL
open PySem PySem.Spec L2
open PyProof.Rows hiding St
noncomputable def Sub (M M' : DH) : Prop := ∀ a o, M a = some o → M' a = some o
theorem Sub.refl (M : DH) : Sub M M := fun _ _ e => e
theorem Sub.trans {M M1 M2 : DH} (a : Sub M M1) (b : Sub M1 M2) : Sub M M2 := fun c o e => b c o (a c o e)
theorem Sub.new {M : DH} {p : Addr} {o : MO} (h : M p = none) : Sub M (dupd M p o) := fun a u e => by rw [dupd_ne (dne e h)]; exact e
theorem Sub.put {M M' : DH} {p : Addr} {o : MO} (s : Sub M M') (h : M p = none) : Sub M (dupd M' p o) := fun a u e => by rw [dupd_ne (dne e h)]; exact s a u e
theorem Sub.none {M M' : DH} (s : Sub M M') {p : Addr} (h : M' p = Option.none) : M p = Option.none := by
  cases e : M p with
  | none => rfl
  | some o => rw [s p o e] at h; cases h
theorem SimM.sub {K : PySem.W.Frag} {H : Hp} {M M' : DH} (h : SimM K M' H) (s : Sub M M') : SimM K M H := fun a o e => h a o (s a o e)

section
variable {X : Cx} {a b c e tg iter : Expr} {es : List Expr} {st : Stmt} {sts body : List Stmt} {ta tb te : DTE} {tt tu : DTT} {t u : DTS} {pos : Pos} {K : PySem.W.Frag}
noncomputable def dCompZ (wi : DTI) (ix : List Nat) (unp : D → Option (List D)) (tc : DTT) (te : DTE) : DTE := fun ρ M Q => wi ρ M fun items Cd M1 =>
  dCLoop (ix.map fun i => (ρ[i]?).getD none) unp tc te Cd (fun ys M2 => ys.length ≤ sizeLine ∧ Q (.lst ys) M2) items [] M1
theorem comp_lowG {wi : DTI} {k : Nat} {ix : List Nat} {unp : D → Option (List D)} {gV : TG} {tc : DTT} {te : DTE} {ρ : DSt} {σ : St} {M : DH} {H : Hp} {Q : VK} {F : List D → DH → Prop} (hu : Unp K k unp gV) (s : SimS K H ρ σ) (m : SimM K M H)
    (h : wi ρ M fun items Cd M1 => dCLoop (ix.map fun i => (ρ[i]?).getD none) unp tc te Cd (fun ys M2 => ys.length ≤ sizeLine ∧ F ys M2) items [] M1)
    (kk : ∀ zs M' ys H' a, F zs M' → Ext H H' → SimM K M' H' → Dens K H' zs ys → H' a = none → Q (.ref a) (upd H' a (.lst ys))) : tComp (lI K wi) k ix gV (lT K tc) (lE K te) σ H Q := by
  refine ⟨ρ, M, _, s, m, h, fun items Cd M1 H1 J h1 x1 m1 Y => ?_⟩
  refine ⟨fun i mm ys H' => mm = items.length - i ∧ i ≤ items.length ∧ ∃ M' zs, Ext H1 H' ∧ SimM K M' H' ∧ Dens K H' zs ys ∧ dCLoop (ix.map fun i => (ρ[i]?).getD none) unp tc te Cd (fun ys M2 => ys.length ≤ sizeLine ∧ F ys M2) (items.drop i) zs M', ⟨_, rfl, Nat.zero_le _, M1, [], Ext.refl _, m1, .nil, h1⟩, ?_⟩
  rintro i mm ys H' ⟨rfl, hi, M', zs, x', m', dz, h'⟩
  by_cases hlt : i < items.length
  · right
    have hd : items.drop i = items[i] :: items.drop (i + 1) := List.drop_eq_getElem_cons hlt
    rw [hd] at h'
    obtain ⟨cd, h'⟩ := h'
    refine ⟨Y.go i H' M' x' m' cd hlt, fun y Hy yl => ?_⟩
    obtain ⟨xy, my, d, ed, den⟩ := Y.yld i H' M' y Hy x' m' cd yl hlt
    have : items[i] = d := by
      rw [List.getElem?_eq_getElem hlt] at ed
      exact Option.some.inj ed
    rw [this] at h'
    cases eu : unp d with
    | none => rw [eu] at h'; exact h'.elim
    | some us =>
      rw [eu] at h'
      refine hu.to d y us _ Hy _ den eu fun ws dw => ?_
      have hk : ws.length = k := by rw [← dw.length]; exact hu.len d us eu
      refine ⟨?_, ?_, ?_⟩
      · rw [List.drop_left' (by rw [List.length_map]; exact hk)]
      · rw [List.length_append, List.length_map, List.length_map, hk]
      · have xx := x'.trans xy
        have sρ : SimS K Hy (us.map some ++ ix.map fun i => (ρ[i]?).getD none) (ws.map some ++ ix.map fun i => (σ[i]?).getD none) := (SimS.ofDens dw).append ((s.ext (x1.trans xx)).pick ix)
        refine ⟨_, M', _, sρ, my, h', fun b M3 H3 h3 x3 m3 => ?_⟩
        cases b with
        | true =>
          refine iteT ⟨_, M3, _, sρ.ext x3, m3, (if_pos rfl).mp h3, fun z M4 v H4 ⟨hz, h4⟩ x4 m4 e4 => ⟨by rw [← dz.length]; exact hz, _, (show items.length - (i + 1) < items.length - i by omega), rfl, hlt, M4, _, (xx.trans x3).trans x4, m4, (dz.ext (xy.trans (x3.trans x4))).append (.cons e4 .nil), h4⟩⟩
        | false => exact iteF ⟨_, (show items.length - (i + 1) < items.length - i by omega), rfl, hlt, M3, zs, xx.trans x3, m3, dz.ext (xy.trans x3), (if_neg Bool.false_ne_true).mp h3⟩
  · left
    have hd : items.drop i = [] := List.drop_eq_nil_of_le (Nat.le_of_not_lt hlt)
    rw [hd] at h'
    obtain ⟨cd, hz, q⟩ := h'
    exact ⟨Y.stop i H' M' x' m' cd (Nat.le_of_not_lt hlt), by rw [← dz.length]; exact hz, fun a ha => kk _ _ _ _ a q (x1.trans x') m' dz ha⟩
section
variable {scope : Scope} {N fn : List Str} {k : Nat} {ix : List Nat} {elt : Expr} {ifs : List Expr} {wi : DTI} {unp : D → Option (List D)} {gV : TG} {tc : DTT}
theorem de_compz (tp : Top X) {R0 : Value → Hp → Prop} (hx0 : Takes X fun cls _ H => R0 cls H) (hu : Unp X.K k unp gV) (hc : X.calm = true) (ok : CompOk X.env.scope scope N k fn) (hix : ix.map (fun i => X.N[i]?) = fn.map some) (hi : DI X tg iter wi)
    (hg : ∀ cl C s₀ H₀ ex E, PG (cxComp X scope N cl C s₀ H₀ ex E) tg gV) (ht : ∀ cl C s₀ H₀ ex E, Takes (cxComp X scope N cl C s₀ H₀ ex E) (fun cls _ H => R0 cls H) → DIfs (cxComp X scope N cl C s₀ H₀ ex E) ifs tc) (he : ∀ cl C s₀ H₀ ex E, Takes (cxComp X scope N cl C s₀ H₀ ex E) (fun cls _ H => R0 cls H) → DE (cxComp X scope N cl C s₀ H₀ ex E) elt te)
    (hs : ∀ x, foldedSetIterable iter X.env x = pure x := by intro _; rfl) : DE X (.ListComp elt [⟨tg, iter, ifs, 0⟩] scope pos) (dCompZ wi ix unp tc te) :=
  (pe_frz (pe_compX tp hx0 hc ok hix hi hg ht he hs)).imp fun σ H Q ⟨ρ, M, R, s, m, h, kk⟩ => comp_lowG hu s m h fun zs M' ys H' a q x' m' dz ha =>
    ⟨a, ys, rfl, upd_same, fun o => by
      rw [upd_upd]
      exact kk _ M' _ _ q (x'.trans (Ext.new ha)) (m'.new ha) (.lst (.inl ⟨o, upd_same⟩) (dz.ext (Ext.new ha)))⟩
theorem ds_setcompz {i : Nat} {x : Str} {pos' spos : Pos} (tp : Top X) {R0 : Value → Hp → Prop} (hx0 : Takes X fun cls _ H => R0 cls H) (hsw : swapsWith (.ListComp elt [⟨tg, iter, ifs, 0⟩] scope pos) (some (.Name x pos')) spos.line X.env = pure true)
    (hN : X.N.Nodup) (hiN : X.N[i]? = some x) (hx : X.env.scope.names.lookup x = some .local) (hu : Unp X.K k unp gV) (hc : X.calm = true) (ok : CompOk X.env.scope scope N k fn) (hix : ix.map (fun i => X.N[i]?) = fn.map some) (hi : DI X tg iter wi)
    (hg : ∀ cl C s₀ H₀ ex E, PG (cxComp X scope N cl C s₀ H₀ ex E) tg gV) (ht : ∀ cl C s₀ H₀ ex E, Takes (cxComp X scope N cl C s₀ H₀ ex E) (fun cls _ H => R0 cls H) → DIfs (cxComp X scope N cl C s₀ H₀ ex E) ifs tc) (he : ∀ cl C s₀ H₀ ex E, Takes (cxComp X scope N cl C s₀ H₀ ex E) (fun cls _ H => R0 cls H) → DE (cxComp X scope N cl C s₀ H₀ ex E) elt te)
    (hs : ∀ x, foldedSetIterable iter X.env x = pure x := by intro _; rfl) : DS X (.Assign [.Name x pos'] (.ListComp elt [⟨tg, iter, ifs, 0⟩] scope pos) spos) (dSet i (dCompZ wi ix unp tc te)) :=
  by
  have h0 := ps_setcompX (tc := lT X.K tc) (te := lE X.K te) tp hx0 hsw hN hiN hx hc ok hix hi hg ht he hs
  refine (ps_fz h0).imp fun D σ H ⟨ρ, M, DD, s, m, h, kk⟩ => ?_
  unfold tFzS tAsg
  refine comp_lowG hu s m h fun zs M' ys H' a q x' m' dz ha => ?_
  refine ⟨a, ys, upd_same, fun o => ?_⟩
  rw [upd_upd]
  have xa : Ext H (upd H' a (.frz o (.lst ys))) := x'.trans (Ext.new ha)
  exact kk.nx _ M' _ _ q xa ((s.ext xa).set (d := .lst zs) (v := .ref a) (.lst (.inl ⟨o, upd_same⟩) (dz.ext (Ext.new ha))) i) (m'.new ha)
end
noncomputable def dNeg (te : DTE) : DTE := fun ρ M Q => te ρ M fun x M1 => match x with
  | .int i => Q (.int (-i)) M1
  | _ => False
noncomputable def dLstZ (t : DTA) : DTE := fun ρ M Q => t ρ M fun xs M1 => xs.length ≤ sizeLine ∧ Q (.lst xs) M1
theorem de_lstz (h : DA X es tr) : DE X (.List es pos) (dLstZ tr) :=
  (pe_frz (pe_lst h)).imp fun σ H Q ⟨ρ, M, R, s, m, h, k⟩ => ⟨ρ, M, _, s, m, h, fun ds M1 vs H1 ⟨hl, h1⟩ x1 m1 e1 => ⟨by rw [← e1.length]; exact hl, fun p hp => ⟨p, vs, rfl, upd_same, fun o => by
    rw [upd_upd]
    exact k _ M1 _ _ h1 (x1.trans (Ext.new hp)) (m1.new hp) (.lst (.inl ⟨o, upd_same⟩) (e1.ext (Ext.new hp)))⟩⟩⟩

noncomputable def dends' (R : DK) : DEnds := { nx := fun _ M' => ∃ M0, Sub M0 M' ∧ R .non M0, rt := fun d M' => ∃ M0, Sub M0 M' ∧ R d M0, bk := fun _ _ => False, ct := fun _ _ => False }
end
end DL

set_option Elab.async false
set_option linter.all false
set_option maxRecDepth 100000
namespace DL
open PySem PySem.Spec L2
open PyProof.Rows hiding St
section
variable {X : Cx} {a b c e tg : Expr} {es : List Expr} {ta tb te : DTE} {tt tu : DTT} {pos p2 : Pos} {K : PySem.W.Frag}
noncomputable def Its (z : List Nat) : It := ⟨fun i _ => i < z.length, fun i H x H' => H' = H ∧ ∃ c, z[i]? = some c ∧ x = .str (S [c]), fun i _ => z.length ≤ i⟩
theorem S_size (z : List Nat) : (S z).cps.size = z.length := by unfold S; simp
theorem S_get (z : List Nat) (i : Nat) : (S z).cps[i]? = z[i]? := by unfold S; simp
theorem turn_str {P : Program} {w : World} {z : List Nat} {t : Tok} {it : Addr} {ty : String} (hty : ty = "str_ascii_iterator" ∨ ty = "str_iterator") : Turn P w K tg (Its z) [it] it (fun i h => h.IsStrIter it ty (S z) t i) where
  mem := by simp
  obj := fun i h st b hb => by
    have e : b = it := by simpa using hb
    subst e
    obtain ⟨o, e, c, d⟩ := st
    exact ⟨o, e, fun v q => by rw [d] at q; cases q⟩
  keep := fun i h h' st k => by
    obtain ⟨o, e, r⟩ := st
    exact ⟨o, k it (by simp) o e, r⟩
  item := by
    intro X hP hw hK hc i pins s σ H E I hf st hg
    subst hP hw
    obtain ⟨f0, f1, f2, f3, f4, f5⟩ := hf it (by simp)
    have hlt : i < (S z).cps.size := by rw [S_size]; exact hg
    have fin : ∀ v h' tk, SignAt (S z) i v → h'.IsStrIter it ty (S z) t (i + 1) → (∀ b o, b ∉ [it] → s.heap.get? b = some o → h'.get? b = some o) → ∃ u, some v = some u ∧
        wpAny (model X.prog X.w) X.A (letOwnedTupleGo tg (.ref it) u) (fun _ s2 => ∃ x H', Inv X pins σ H' s2 ∧ L2.RelV x u ∧ (Its z).yld i H x H' ∧ s2.heap.IsStrIter it ty (S z) t (i + 1) ∧ ∀ b ∈ [it], H' b = none) E { s with heap := h', toks := tk } := by
      rintro v h' tk ⟨c, u, hcu, rfl⟩ st' kk
      have I1 : Inv X pins σ H { s with heap := h', toks := tk } := I.turned (fun b o hb e => kk b o (by simpa using hb) e) f0 f1 f3 f4 f5
      obtain ⟨o, e, cl, d⟩ := id st'
      refine ⟨_, rfl, go_of (s := { s with heap := h', toks := tk }) (n := ty) e cl d (by rcases hty with rfl | rfl <;> decide) ⟨.str (S [c]), H, I1, ⟨u, rfl⟩, ⟨rfl, c, by rw [← S_get]; exact hcu, rfl⟩, st', fun b hb => (hf b hb).1⟩⟩
    rcases hty with rfl | rfl
    · exact (Walks.strAscii (prog := X.prog) (w := X.w) (I.ok.hd hc) it (S z) t).item i s _ _ hlt st fun v h' tk hv st' kk => fin v h' tk hv st' kk
    · exact (Walks.strWide (prog := X.prog) (w := X.w) (I.ok.hd hc) it (S z) t).item i s _ _ hlt st fun v h' tk hv st' kk => fin v h' tk hv st' kk
  done := by
    intro X hP hw hK hc i pins s σ H E I hf st hg
    subst hP hw
    obtain ⟨f0, f1, f2, f3, f4, f5⟩ := hf it (by simp)
    have hx : (S z).cps[i]? = none := by rw [S_get]; exact List.getElem?_eq_none_iff.mpr hg
    rcases hty with rfl | rfl
    · exact wpAny_pyNext_ascii_end (I.ok.hd hc) st hx fun h' eb => ⟨rfl, I.turned (t' := s.toks) (fun b o hb e => eb b o hb e) f0 f1 f3 f4 f5⟩
    · exact wpAny_pyNext_wide_end (I.ok.hd hc) st hx fun h' eb => ⟨rfl, I.turned (t' := s.toks) (fun b o hb e => eb b o hb e) f0 f1 f3 f4 f5⟩
  self := fun _ _ _ _ _ st h => by
    rcases hty with rfl | rfl
    · exact wpAny_pyIter_striter_ascii st h
    · exact wpAny_pyIter_striter_wide st h
theorem Yields.str {z : List Nat} {H : Hp} {Cd : DH → Prop} (hz : cpOk z) : Yields K (Its z) (z.map fun c => D.str [c]) Cd H where
  go := fun i H' M x m c hi => by simpa [Its] using hi
  yld := fun i H' M y H'' x m c ⟨e, ch, h1, h2⟩ hi => by
    subst e h2
    refine ⟨Ext.refl _, m, .str [ch], by rw [List.getElem?_map, h1]; rfl, .str [ch] (cpOk.sub hz fun c' hc => ?_)⟩
    rw [List.mem_singleton.mp hc]
    exact List.mem_of_getElem? h1
  stop := fun i H' M x m c hi => by simpa [Its] using hi
noncomputable def diAny (tl : DTE) : DTI := fun ρ M R => tl ρ M fun d M1 => match d with
  | .tup ds => R ds (fun _ => True) M1
  | .lst ds => R ds (fun _ => True) M1
  | .str z => R (z.map fun c => D.str [c]) (fun _ => True) M1
  | .ref a => match M1 a with
    | some (.lst ds) => R ds (fun M => M a = some (.lst ds)) M1
    | _ => False
  | _ => False
theorem di_any {l : Expr} {tl : DTE} (hl : DE X l tl) : DI X tg l (diAny tl) := by
  intro pins s σ H R I ⟨ρ, M, RD, sm, m, h, k⟩
  have q0 : tl ρ M (fun d M1 => match d with
    | .tup ds => RD ds (fun _ => True) M1
    | .lst ds => RD ds (fun _ => True) M1
    | .str z => RD (z.map fun c => D.str [c]) (fun _ => True) M1
    | .ref a => match M1 a with
      | some (.lst ds) => RD ds (fun M => M a = some (.lst ds)) M1
      | _ => False
    | _ => False) := h
  refine thn (hl pins s σ H (fun v H1 => ∃ d M1, Ext H H1 ∧ SimM X.K M1 H1 ∧ Den X.K H1 d v ∧ (match d with
    | .tup ds => RD ds (fun _ => True) M1
    | .lst ds => RD ds (fun _ => True) M1
    | .str z => RD (z.map fun c => D.str [c]) (fun _ => True) M1
    | .ref a => match M1 a with
      | some (.lst ds) => RD ds (fun M => M a = some (.lst ds)) M1
      | _ => False
    | _ => False)) I ⟨ρ, M, _, sm, m, q0, fun d M1 v H1 h1 x1 m1 e1 => ⟨d, M1, x1, m1, e1, h1⟩⟩) fun u s1 ⟨v, H1, I1, r1, d, M1, x1, m1, e1, h1⟩ => ?_
  have viaL : ∀ {a : Addr} {vs : List V} (_ : v = .ref a) (_ : SqL X.K H1 a vs) {items : List D} {Cd : DH → Prop}, RD items Cd M1 → Yields X.K (Itl X.K a) items Cd H1 →
      wpAny (model X.prog X.w) X.A (pyIter u) (PIE X pins σ tg R) X.xe s1 := fun {a vs} ev hq {items Cd} q Y => by
    subst ev
    cases r1
    obtain ⟨its, rv, p, hz⟩ := I1.list hq
    refine wpAny_pyIter_list p.isList ?_
    refine ⟨s1.heap.objs.size, [s1.heap.objs.size], _, _, H1, rfl, I1.kept (t' := s1.toks) fun b o e => Heap.get?_push_of_some _ e, turn_list a _, ⟨_, Heap.get?_push_size _ rfl, rfl, rfl⟩, fun b hb => ?_, k items Cd M1 H1 _ q x1 m1 Y⟩
    have e : b = s1.heap.objs.size := by simpa using hb
    subst e
    exact I1.fpOk (Nat.le_refl _) (I1.hok.fresh (Nat.le_refl _))
  cases e1 with
  | tup q0 r =>
    have q := SqT.of (K := X.K) q0
    cases r1
    obtain ⟨its, rv, p, hz⟩ := I1.tuple q
    refine wpAny_pyIter_tuple (show s1.heap.IsTuple _ its.toArray from p) ?_
    refine ⟨s1.heap.objs.size, [s1.heap.objs.size], _, _, H1, rfl, I1.kept (t' := s1.toks) fun b o e => Heap.get?_push_of_some _ e, turn_tuple _ _, ⟨_, Heap.get?_push_size _ rfl, rfl, rfl⟩, fun b hb => ?_, k _ _ M1 H1 _ h1 x1 m1 (Yields.tup q r)⟩
    have e : b = s1.heap.objs.size := by simpa using hb
    subst e
    exact I1.fpOk (Nat.le_refl _) (I1.hok.fresh (Nat.le_refl _))
  | lst q r => exact viaL rfl q.sq h1 (Yields.fz q r)
  | str z hz =>
    obtain ⟨t, rfl⟩ := r1
    have go : ∀ (ty : String), ty = "str_ascii_iterator" ∨ ty = "str_iterator" → PIE X pins σ tg R (.ref s1.heap.objs.size) { s1 with heap := s1.heap.push { cls := .type ty, data := .fields #[.str (S z) t, .int 0 0] } } := fun ty hty => by
      refine ⟨s1.heap.objs.size, [s1.heap.objs.size], _, _, H1, rfl, I1.kept (t' := s1.toks) fun b o e => Heap.get?_push_of_some _ e, turn_str (z := z) (t := t) hty, ⟨_, Heap.get?_push_size _ rfl, rfl, rfl⟩, fun b hb => ?_, k _ _ M1 H1 _ h1 x1 m1 (Yields.str hz)⟩
      have e : b = s1.heap.objs.size := by simpa using hb
      subst e
      exact I1.fpOk (Nat.le_refl _) (I1.hok.fresh (Nat.le_refl _))
    cases ha : (S z).cps.all (· < 128)
    · exact wpAny_pyIter_wide ha (go _ (.inr rfl))
    · exact wpAny_pyIter_ascii ha (go _ (.inl rfl))
  | ref a =>
    cases qa : M1 a with
    | none => simp only [qa] at h1
    | some o =>
      cases o with
      | oth _ => simp only [qa] at h1
      | lst ds =>
        simp only [qa] at h1
        obtain ⟨vs, e2, _⟩ := m1.get qa
        exact viaL rfl (.of e2) h1 Yields.mut
  | _ => exact h1.elim

noncomputable def strip2 (l r : Bool) (y x : List Nat) : List Nat :=
  let lo := if l then (x.takeWhile fun c => y.contains c).length else 0
  let hi := if r then x.length - ((x.drop lo).reverse.takeWhile fun c => y.contains c).length else x.length
  (x.drop lo).take (hi - lo)
noncomputable def m1S (C : List Nat → List Nat → Prop) (f : List Nat → List Nat → D) : D → List D → DH → DK → Prop := fun d ds M Q => match d, ds with
  | .str z, [.str y] => C z y ∧ Q (f z y) M
  | _, _ => False
noncomputable def mFind : D → List D → DH → DK → Prop := fun d ds M Q => match d, ds with
  | .str z, [.str y] => match y with
    | [c] => (∀ i : Nat, z[i]? = some c → (∀ j, j < i → ¬ z[j]? = some c) → Q (.int i) M) ∧ (c ∉ z → Q (.int (-1)) M)
    | _ => False
  | _, _ => False
noncomputable def joinL (s : List Nat) : List (List Nat) → List Nat
  | [] => []
  | [w] => w
  | w :: v :: r => w ++ s ++ joinL s (v :: r)
noncomputable def weight (s : List Nat) (ws : List (List Nat)) : Nat := ws.foldl (fun n w => n + w.length + s.length) 0
noncomputable def mJoin : D → List D → DH → DK → Prop := fun d ds M Q => match d, ds with
  | .str s, [l] => ∃ ws : List (List Nat), seqOf M l = some (ws.map D.str) ∧ (∀ xs, l ≠ .tup xs) ∧ weight s ws ≤ 16000000 ∧ Q (.str (joinL s ws)) M
  | _, _ => False
end
end DL

set_option Elab.async false
set_option linter.all false
set_option maxRecDepth 100000
namespace DL
open PySem PySem.Spec L2
open PyProof.Rows hiding St
section
variable {X : Cx} {a b c e tg : Expr} {es : List Expr} {ta tb te : DTE} {tt tu : DTT} {pos p2 : Pos} {K : PySem.W.Frag}
noncomputable def digs (m : Nat) : List Nat := (Nat.toDigits 10 m).map Char.toNat
noncomputable def rStr : List D → DH → DK → Prop := fun ds M Q => match ds with
  | [.int i] => 0 ≤ i ∧ i.natAbs.log2 < 1920 ∧ Q (.str (digs i.toNat)) M
  | _ => False
noncomputable def rInt : List D → DH → DK → Prop := fun ds M Q => match ds with
  | [d] => match d with
    | .str z => z ≠ [] ∧ (∀ c ∈ z, 48 ≤ c ∧ c ≤ 57) ∧ z.length ≤ 640 ∧ Q (.int (NumText.digitsVal z : Nat)) M
    | .int i => Q (.int i) M
    | .bl b => Q (.int (if b then 1 else 0)) M
    | _ => False
  | _ => False
noncomputable def rAll (any : Bool) : List D → DH → DK → Prop := fun ds M Q => match ds with
  | [d] => ∃ bs : List Bool, seqOf M d = some (bs.map D.bl) ∧ (∀ xs, d ≠ .tup xs) ∧ Q (.bl (if any then bs.any id else bs.all id)) M
  | _ => False
noncomputable def rIn1 (f : Bool → Bool) : DR2 := fun x y M Q => match y with
  | .str z => match x with
    | .str w => match w with
      | [c] => Q (.bl (f (decide (c ∈ z)))) M
      | _ => False
    | _ => False
  | y => ∃ xs, seqOf M y = some xs ∧ plain 11 (res M x) = true ∧ xs.all (plain 11) = true ∧ Q (.bl (f (xs.any fun d => eqB d (res M x)))) M
open Classical in
theorem in_seq {pins : List (Addr × Obj)} {σ : St} {H : Hp} {s : Shared} {M : DH} (I : Inv X pins σ H s) (m : SimM X.K M H) (hu : X.A.units + 64 < cLine) {x : D} {vx : V} {ux : Value} (hx : plain 11 (res M x) = true) (ex : Den X.K H x vx) (rx : L2.RelV vx ux)
    {xs : List D} {vs : List V} {its : List Value} (hp : xs.all (plain 11) = true) (dn : Dens X.K H xs vs) (rv : Vals vs its) :
    ∃ e : Value → Bool, (∀ y ∈ its, SeqAt.EqAt X.A.in1 s y ux (e y)) ∧ its.map e = xs.map fun d => eqB d (res M x) := by
  obtain ⟨⟨as, ra⟩, c1, d1⟩ := res_reads I m hx ex rx
  refine ⟨fun y => decide (∃ da bs, Reads s.heap y da bs ∧ PyData.eqv da (toPy (res M x)) = true), ?_, ?_⟩
  · intro y hy
    have : ∃ d v, d ∈ xs ∧ Den X.K H d v ∧ L2.RelV v y := by
      clear hp
      induction xs generalizing vs its with
      | nil => cases dn; cases rv; cases hy
      | cons d0 xs ih =>
        cases dn with
        | cons a t =>
          cases rv with
          | cons r1 r2 =>
            rcases List.mem_cons.mp hy with rfl | hy
            · exact ⟨_, _, List.mem_cons_self, a, r1⟩
            · obtain ⟨d, v, h1, h2⟩ := ih t r2 hy
              exact ⟨d, v, List.mem_cons_of_mem _ h1, h2⟩
    obtain ⟨d, v, hd, den, rr⟩ := this
    have pd : plain 11 d = true := (List.all_eq_true.mp hp) d hd
    obtain ⟨bs, rb⟩ := plain_reads I 11 d v y pd den rr
    obtain ⟨c2, d2⟩ := plain_lay 11 d v pd den
    have h := SeqAt.eqAt_reads (toPy d) (toPy (res M x)) X.A.in1 s y ux bs as rb ra c2 c1 (by
      have : X.A.in1.units ≤ X.A.units + 1 := by simp [Around.in1]
      have h2 : min (toPy d).depth (toPy (res M x)).depth ≤ 11 := Nat.le_trans (Nat.min_le_left _ _) d2
      omega)
    have e : decide (∃ da bs, Reads s.heap y da bs ∧ PyData.eqv da (toPy (res M x)) = true) = PyData.eqv (toPy d) (toPy (res M x)) := by
      cases hq : PyData.eqv (toPy d) (toPy (res M x)) with
      | true => exact decide_eq_true ⟨_, _, rb, hq⟩
      | false =>
        refine decide_eq_false ?_
        rintro ⟨da, cs, r, he⟩
        have := (Reads.unique rb _ _ r).1
        rw [← this, hq] at he
        cases he
    show SeqAt.EqAt X.A.in1 s y ux (decide (∃ da bs, Reads s.heap y da bs ∧ PyData.eqv da (toPy (res M x)) = true))
    rw [e]
    exact h
  · induction xs generalizing vs its with
    | nil => cases dn; cases rv; rfl
    | cons d xs ih =>
      cases dn with
      | cons a t =>
        cases rv with
        | cons r1 r2 =>
          rw [List.all_cons, Bool.and_eq_true] at hp
          rw [List.map_cons, List.map_cons, ih hp.2 t r2]
          congr 1
          obtain ⟨bs, rb⟩ := plain_reads I 11 _ _ _ hp.1 a r1
          have be := bEq _ (res M x) 11 11 hp.1 hx
          rw [← be]
          cases hq : PyData.eqv (toPy d) (toPy (res M x)) with
          | true => exact decide_eq_true ⟨_, _, rb, hq⟩
          | false =>
            refine decide_eq_false ?_
            rintro ⟨da, cs, r, he⟩
            have := (Reads.unique rb _ _ r).1
            rw [← this, hq] at he
            cases he
theorem any_of_map {α β : Type} {f : α → Bool} {g : β → Bool} {xs : List α} {ys : List β} (h : xs.map f = ys.map g) : xs.any f = ys.any g := by
  have e := congrArg (List.any · id) h
  simpa [List.any_map] using e
theorem od_inG {op : CmpOp} {f : Bool → Bool} (hu : X.A.units + 64 < cLine)
    (hS : ∀ {z : List Nat} {c : Nat} {t u : Tok} {s : Shared} {Q : Value → Shared → Prop}, Q (.bool (f (decide (c ∈ z)))) s → wpAny (model X.prog X.w) X.A (compareOp op (.str (S [c]) t) (.str (S z) u)) Q X.xe s)
    (hL : ∀ {l : Addr} {items : Array Value} {x : Value} {s : Shared} {Q : Value → Shared → Prop} (e : Value → Bool), s.heap.IsList l items → (∀ y, y ∈ items → SeqAt.EqAt X.A.in1 s y x (e y)) → Q (.bool (f (items.any e))) s → wpAny (model X.prog X.w) X.A (compareOp op x (.ref l)) Q X.xe s)
    (hT : ∀ {l : Addr} {items : Array Value} {x : Value} {s : Shared} {Q : Value → Shared → Prop} (e : Value → Bool), s.heap.IsTuple l items → (∀ y, y ∈ items → SeqAt.EqAt X.A.in1 s y x (e y)) → Q (.bool (f (items.any e))) s → wpAny (model X.prog X.w) X.A (compareOp op x (.ref l)) Q X.xe s) : OpD X (compareOp op) (rIn1 f) := by
  intro pins s σ H x y v u Q I rx ry ⟨dx, dy, M, R, ex, ey, m, q, k⟩
  by_cases hz : ∃ z, dy = .str z
  · obtain ⟨z, rfl⟩ := hz
    cases ey
    cases ex <;> first | exact False.elim q | skip
    rename_i hz w hw
    match w, hw, q, rx with
    | [c], hw, q, rx =>
      obtain ⟨t, rfl⟩ := rx
      obtain ⟨t', rfl⟩ := ry
      exact hS ⟨.bl _, H, I, rfl, k _ M _ H q (Ext.refl H) m (.bl _)⟩
  · have q' : ∃ xs, seqOf M dy = some xs ∧ plain 11 (res M dx) = true ∧ xs.all (plain 11) = true ∧ R (.bl (f (xs.any fun d => eqB d (res M dx)))) M := by
      unfold rIn1 at q
      split at q
      · exact absurd ⟨_, rfl⟩ hz
      · exact q
    obtain ⟨xs, e1, h1, h2, q⟩ := q'
    obtain ⟨p, vs, rfl, sq, d, _⟩ := seq_sq m ey e1
    cases ry
    rcases sq with sq | sq
    · obtain ⟨its, rv, pl, hzz⟩ := I.list sq
      obtain ⟨e, h3, h4⟩ := in_seq I m hu h1 ex rx h2 d rv
      refine hL e pl.isList (fun y hy => h3 y (by simpa using hy)) ⟨.bl _, H, I, rfl, k _ M _ H ?_ (Ext.refl H) m (.bl _)⟩
      rw [show its.toArray.any e = its.any e by simp, any_of_map h4]
      exact q
    · obtain ⟨its, rv, pl, hzz⟩ := I.tuple sq
      obtain ⟨e, h3, h4⟩ := in_seq I m hu h1 ex rx h2 d rv
      refine hT e pl (fun y hy => h3 y (by simpa using hy)) ⟨.bl _, H, I, rfl, k _ M _ H ?_ (Ext.refl H) m (.bl _)⟩
      rw [show its.toArray.any e = its.any e by simp, any_of_map h4]
      exact q
theorem od_notin (hu : X.A.units + 64 < cLine) : OpD X (compareOp .NotIn) (rIn1 not) := by
  refine od_inG hu (fun {z c t u s Q} h => ?_) (fun e h1 h2 h3 => SeqAt.notIn_listAt e h1 h2 h3) (fun e h1 h2 h3 => SeqAt.notIn_tupleAt e h1 h2 h3)
  refine notIn_str ?_
  have := StrLaws.found_one (S z) c
  rw [S_toList] at this
  have e : S [c] = ⟨#[c]⟩ := rfl
  rw [e, this]
  exact h
end
end DL

set_option Elab.async false
set_option linter.all false
set_option maxRecDepth 100000
namespace DL
open PySem PySem.Spec L2
open PyProof.Rows hiding St
open AutoSeq1 (wpAny_loadPart')
noncomputable def rvObj (t : Addr) (i : Int) : Obj := { cls := .type "reversed", data := .fields #[.ref t, rawInt i] }
section
variable {prog : Program} {w : World} {A : Around} {E : Value → Shared → Prop} {s : Shared}
noncomputable def IsRv (h : Heap) (a t : Addr) (i : Int) : Prop := ∃ o, h.get? a = some o ∧ o.cls = .type "reversed" ∧ o.data = .fields #[.ref t, rawInt i]
theorem IsRv.typeIs {a t : Addr} {i : Int} (x : IsRv s.heap a t i) : s.TypeIs (.ref a) "reversed" := let ⟨o, ho, hc, _⟩ := x; ⟨o, ho, hc⟩
end
theorem IsRv.at {h h' : Heap} {a t : Addr} {i : Int} (x : IsRv h a t i) (e : ∀ o, h.get? a = some o → h'.get? a = some o) : IsRv h' a t i := let ⟨o, ho, r⟩ := x; ⟨o, e _ ho, r⟩
end DL

set_option Elab.async false
set_option linter.all false
set_option maxRecDepth 100000
namespace DL
open PySem PySem.Spec L2
open PyProof.Rows hiding St
section
variable {prog : Program} {w : World} {A : Around} {E : Value → Shared → Prop} {s : Shared}
end
end DL

set_option Elab.async false
set_option linter.all false
set_option maxRecDepth 100000
namespace DL
open PySem PySem.Spec L2
open PyProof.Rows hiding St
section
variable {prog : Program} {w : World} {A : Around} {E : Value → Shared → Prop} {s : Shared}
end
section
variable {X : Cx} {a b c e o tg : Expr} {es : List Expr} {ta tb te to : DTE} {pos p2 p apos cpos : Pos} {K : PySem.W.Frag}
noncomputable def dJoinR (to te : DTE) : DTE := fun ρ M Q => to ρ M fun d M1 => match d with
  | .str z => te ρ M1 fun d2 M2 => match d2 with
    | .tup ds => ∃ ws : List (List Nat), ds = ws.map D.str ∧ weight z ws.reverse ≤ 16000000 ∧ Q (.str (joinL z ws.reverse)) M2
    | _ => False
  | _ => False
end
end DL

set_option Elab.async false
set_option linter.all false
set_option maxRecDepth 100000
namespace DL
open PySem PySem.Spec L2
open PyProof.Rows hiding St
noncomputable def splitC (c : Nat) : List Nat → List (List Nat)
  | [] => [[]]
  | x :: r => if x = c then [] :: splitC c r else match splitC c r with
    | w :: ws => (x :: w) :: ws
    | [] => [[x]]
section
variable {X : Cx} {a b c e tg : Expr} {es : List Expr} {ta tb te : DTE} {tt tu : DTT} {pos p2 p : Pos} {K : PySem.W.Frag}
noncomputable def mSplit : D → List D → DH → DK → Prop := fun d ds M Q => match d, ds with
  | .str z, [.str y] => match y with
    | [c] => z.length + 2 ≤ sizeLine ∧ Q (.lst ((splitC c z).map D.str)) M
    | _ => False
  | _, _ => False
noncomputable def m0S (f : Nat → Nat) : D → List D → DH → DK → Prop := fun d ds M Q => match d, ds with
  | .str z, [] => (∀ c ∈ z, c < 128) ∧ z.length ≤ 5592405 ∧ Q (.str (z.map f)) M
  | _, _ => False
noncomputable def Itv (K : PySem.W.Frag) (a : Addr) (n : Nat) : It :=
  ⟨fun i H => ∃ xs x, SqL K H a xs ∧ xs.length = n ∧ i < n ∧ xs[n - 1 - i]? = some x, fun i H x H' => H' = H ∧ ∀ xs, SqL K H a xs → xs[n - 1 - i]? = some x, fun i _ => n ≤ i⟩
theorem Yields.rev {a : Addr} {ds : List D} {vs : List V} {H : Hp} {Cd : DH → Prop} (q : FzL K H a vs) (r : Dens K H ds vs) : Yields K (Itv K a vs.length) ds.reverse Cd H where
  go := fun i H' M x m c hi => by
    have hi' : i < vs.length := by rw [← r.length, ← List.length_reverse]; exact hi
    exact ⟨vs, vs[vs.length - 1 - i], (FzL.ext x q).sq, rfl, hi', List.getElem?_eq_getElem (by omega)⟩
  yld := fun i H' M y H'' x m c ⟨e, h⟩ hi => by
    subst e
    have hi' : i < ds.length := by rw [← List.length_reverse]; exact hi
    obtain ⟨d, e1, e2⟩ := r.get' (h vs (FzL.ext x q).sq)
    refine ⟨Ext.refl _, m, d, ?_, e2.ext x⟩
    rw [List.getElem?_reverse hi', r.length]
    exact e1
  stop := fun i H' M x m c hi => by
    rw [← r.length, ← List.length_reverse]; exact hi
noncomputable def diRev (te : DTE) : DTI := fun ρ M R => te ρ M fun d M1 => match d with
  | .lst ds => R ds.reverse (fun _ => True) M1
  | _ => False
theorem _root_.L2.PK.imp' {X : Cx} {kws : List Keyword} {t t' : TA} (h : PK X kws t) (i : ∀ σ H Q, t' σ H Q → t σ H Q) : PK X kws t' := fun pos pins s σ H Q I q => h pos pins s σ H Q I (i σ H Q q)
noncomputable def dCallK (sp : DSp) (g : List D → List D → List D) (t tk : DTA) : DTE := fun ρ M Q => t ρ M fun ds M1 => tk ρ M1 fun zs M2 => sp (g ds zs) M2 Q
noncomputable abbrev DKw (X : Cx) (kws : List Keyword) (t : DTA) : Prop := PK X kws (lA X.K t)
theorem dkw_nil : DKw X [] dNil := pk_nil.imp' fun σ H Q ⟨ρ, M, R, s, m, h, k⟩ => k [] M [] H h (Ext.refl H) m .nil
theorem dkw_cons {kws : List Keyword} {tr : DTA} {nm : Option Str} {kpos : Pos} (ha : DE X e te) (hr : DKw X kws tr) : DKw X (⟨nm, e, kpos⟩ :: kws) (dCons te tr) :=
  (pk_cons ha hr).imp' fun σ H Q ⟨ρ, M, R, s, m, h, k⟩ => ⟨ρ, M, _, s, m, h, fun d M1 v H1 h1 x1 m1 e1 => ⟨ρ, M1, _, s.ext x1, m1, h1, fun ds M2 vs H2 h2 x2 m2 e2 => k _ M2 _ H2 h2 (x1.trans x2) m2 (.cons (e1.ext x2) e2)⟩⟩
noncomputable def dBot : DTS := fun _ _ _ => False
end
end DL

set_option Elab.async false
set_option linter.all false
set_option maxRecDepth 100000
namespace DL
open PySem PySem.Spec L2
open PyProof.Rows hiding St
noncomputable abbrev DX := Nat → DH → Prop
noncomputable abbrev DSpX := List D → DH → DK → DX → Prop
noncomputable abbrev CN := Nat → Option Str
noncomputable def AftX (K : PySem.W.Frag) (mg : Str → Option Value) (cn : CN) (H : Hp) (RX : DX) (R0 : Value → Hp → Prop) : Prop := ∀ c x u M' H', RX c M' → cn c = some x → mg x = some u → Ext H H' → SimM K M' H' → R0 u H'
noncomputable def lX (K : PySem.W.Frag) (mg : Str → Option Value) (cn : CN) (RX : DX) : Value → Hp → Prop := fun u H => ∃ c x M, cn c = some x ∧ mg x = some u ∧ SimM K M H ∧ RX c M
noncomputable def lSpX (K : PySem.W.Frag) (mg : Str → Option Value) (cn : CN) (sp : DSpX) : Sp := fun vs H Q E => ∃ ds M R RX, Dens K H ds vs ∧ SimM K M H ∧ sp ds M R RX ∧ Aft K H R Q ∧ AftX K mg cn H RX fun u H' => E u none H'
section
variable {X : Cx} {a b c e : Expr} {es : List Expr} {te : DTE} {pos p2 p np cpos : Pos} {K : PySem.W.Frag} {cn : CN}
noncomputable def dCallX (sp : DSpX) (dds : List D) (xd : DX) (t : DTA) : DTE := fun ρ M Q => t ρ M fun ds M1 => sp (ds ++ dds) M1 Q xd
noncomputable def dRaise (t : DTA) (R : DH → Prop) : DTS := fun _ ρ M => t ρ M fun ds M1 => ds.length ≤ sizeLine ∧ R M1
noncomputable def setOpt : Option Nat → D → DSt → DSt
  | none, _, ρ => ρ
  | some i, d, ρ => ρ.set i (some d)
noncomputable def dTryC (sp : DSpX) (dds : List D) (c : Nat) (tgt : Option Nat) (j : Nat) (l : D) (t : DTA) : DTS := fun DD ρ M => t ρ M fun ds M1 => sp (ds ++ dds) M1 (fun d M2 => DD.nx (setOpt tgt d ρ) M2) fun c' M2 => c' = c ∧ DD.nx (ρ.set j (some l)) M2
end
end DL

set_option Elab.async false
set_option linter.all false
set_option maxRecDepth 100000
namespace DL
open PySem PySem.Spec L2
open PyProof.Rows hiding St

section
variable {X : Cx} {pos : Pos}
noncomputable def dWhile (c : DTT) (tb : DTS) : DTS := fun DD ρ M => ∃ W : Nat → DSt → DH → Prop, (∃ m, W m ρ M) ∧ ∀ m ρ M, W m ρ M →
  c ρ M fun b M1 => if b = true then ∃ N : DSt → DH → Prop, (∀ ρ' M', N ρ' M' → ∃ m', m' < m ∧ W m' ρ' M') ∧ tb { DD with nx := N, ct := N, bk := DD.nx } ρ M1 else DD.nx ρ M1
end

section
variable {X : Cx} {K : PySem.W.Frag} {H : Hp}
noncomputable def lstOf (M : DH) : D → Option (List D)
  | .lst xs => some xs
  | .ref a => match M a with
    | some (.lst xs) => some xs
    | _ => none
  | _ => none
theorem lst_sq {M : DH} {d : D} {v : V} {xs : List D} (m : SimM K M H) (den : Den K H d v) (e : lstOf M d = some xs) : ∃ p vs, v = .ref p ∧ SqL K H p vs ∧ Dens K H xs vs := by
  cases den with
  | lst sq d => cases e; exact ⟨_, _, rfl, sq.sq, d⟩
  | ref p =>
    cases qa : M p with
    | none => simp [lstOf, qa] at e
    | some o =>
      cases o with
      | oth _ => simp only [lstOf, qa] at e; cases e
      | lst ds =>
        simp only [lstOf, qa] at e
        cases e
        obtain ⟨vs, e2, dn⟩ := m.get qa
        exact ⟨_, _, rfl, .inl (.inl e2), dn⟩
  | _ => cases e
noncomputable def rSorted : List D → DH → DK → Prop := fun ds M Q => match ds with
  | [d] => ∃ zs : List (List Nat), lstOf M d = some (zs.map .str) ∧ zs.length < 64 ∧ ∀ zs' : List (List Nat), zs'.Perm zs → zs'.Pairwise (fun a b => a ≤ b) → ∀ p, M p = none → Q (.ref p) (dupd M p (.lst (zs'.map .str)))
  | _ => False
end

section
variable {X : Cx}
noncomputable def rMulS : DR2 := fun x y M Q => match x, y with
  | .str z, .int n => 0 ≤ n ∧ n ≤ 100 ∧ z.length ≤ 1000 ∧ Q (.str (List.replicate n.toNat z).flatten) M
  | _, _ => False
end

noncomputable abbrev tupO (dd : Option Addr) (xs : Array Value) (n : Nat) (sl : Array (Option Value)) : Obj := { cls := .type "tuple", dict := dd, data := .seq xs n, slots := sl }
section
variable {l : Addr} {dd : Option Addr} {xs : Array Value} {n : Nat} {sl : Array (Option Value)}
end
section
variable {X : Cx}
noncomputable def rMulT : DR2 := fun x y M Q => match x, y with
  | .tup xs, .int n => (n = 1 ∧ Q (.tup xs) M) ∨ (n = 0 ∧ Q (.tup []) M)
  | _, _ => False
end
section
variable {X : Cx} {pos p p2 p3 cpos np : Pos} {cn : CN} {e : Expr} {es : List Expr}
theorem SimS.gone {K : PySem.W.Frag} {H : Hp} : ∀ {ds : DSt} {vs : St} (i : Nat), SimS K H ds vs → SimS K H (ds.set i none) (vs.set i none)
  | _, _, _, .nil => .nil
  | _, _, 0, .cons _ t => .cons trivial t
  | _, _, i + 1, .cons q t => .cons q (SimS.gone i t)
noncomputable def gone (D : DEnds) (i : Nat) : DEnds := ⟨fun ρ M => D.nx (ρ.set i none) M, D.rt, fun ρ M => D.bk (ρ.set i none) M, fun ρ M => D.ct (ρ.set i none) M⟩
theorem Fin.gone {K : PySem.W.Frag} {H : Hp} {DD : DEnds} {D : Ends} (a : Fin K H DD D) (i : Nat) : Fin K H (gone DD i) (D.gone i) :=
  ⟨fun r M s H2 q x y m => a.nx _ M _ H2 q x (y.gone i) m, a.rt, fun r M s H2 q x y m => a.bk _ M _ H2 q x (y.gone i) m, fun r M s H2 q x y m => a.ct _ M _ H2 q x (y.gone i) m⟩
noncomputable def dIsE (je : Nat) (a : Addr) (b : Bool) : DTE := fun ρ M Q => dVar je ρ M fun d M1 => d = .ref a ∧ Q (.bl b) M1
noncomputable def dTryA (sp : DSpX) (dds : List D) (je : Nat) (okc : Nat → Prop) (th : Nat → Addr → DTS) (t : DTA) : DTS := fun DD ρ M => t ρ M fun ds M1 => sp (ds ++ dds) M1 (fun d M2 => DD.nx ρ M2) fun c M2 => okc c ∧ ∀ a, th c a (gone DD je) (ρ.set je (some (.ref a))) M2
end

section
variable {X : Cx}
noncomputable def flat : D → Bool
  | .non => true
  | .bl _ => true
  | .int _ => true
  | .str _ => true
  | _ => false
noncomputable def alike : D → D → Bool
  | .bl _, .int _ => false
  | .int _, .bl _ => false
  | _, _ => true
noncomputable def alikes : List D → List D → Bool
  | x :: xs, y :: ys => alike x y && alikes xs ys
  | _, _ => true
noncomputable def rEqT : DR2 := fun x y M Q => match x, y with
  | .tup xs, .tup ys => xs.all flat = true ∧ ys.all flat = true ∧ alikes xs ys = true ∧ Q (.bl (eqB (.tup xs) (.tup ys))) M
  | _, _ => False
end
end DL

set_option Elab.async false
set_option linter.all false
set_option maxRecDepth 100000
namespace DL
open PySem PySem.Spec L2
open PyProof.Rows hiding St

section
variable {α : Type}
noncomputable def valD (kvs : List (List (List Nat) × D)) (k : List (List Nat)) : Option D := (kvs.find? fun kv => decide (kv.1 = k)).map (·.2)
noncomputable def putD (kvs : List (List (List Nat) × D)) (k : List (List Nat)) (v : D) : List (List (List Nat) × D) :=
  if (kvs.any fun kv => decide (kv.1 = k)) = true then kvs.map (fun kv => if kv.1 = k then (kv.1, v) else kv) else kvs ++ [(k, v)]
theorem valD_pos {p : List (List Nat) × D} {r : List (List (List Nat) × D)} {k : List (List Nat)} (e : p.1 = k) : valD (p :: r) k = some p.2 := by simp [valD, List.find?_cons, e]
theorem valD_neg {p : List (List Nat) × D} {r : List (List (List Nat) × D)} {k : List (List Nat)} (e : ¬ p.1 = k) : valD (p :: r) k = valD r k := by simp [valD, List.find?_cons, e]
theorem valD_any (k : List (List Nat)) : ∀ kvs : List (List (List Nat) × D), (kvs.any fun kv => decide (kv.1 = k)) = (valD kvs k).isSome
  | [] => rfl
  | p :: r => by
    rw [List.any_cons]
    by_cases e : p.1 = k
    · simp only [valD_pos e, decide_eq_true e, Bool.true_or, Option.isSome_some]
    · rw [valD_neg e, decide_eq_false e, Bool.false_or]; exact valD_any k r
end
theorem nk_inj : ∀ {a b : List (List Nat)}, nk a = nk b → a = b
  | [], [], _ => rfl
  | [], _ :: _, e => by simp [nk] at e
  | _ :: _, [], e => by simp [nk] at e
  | x :: xs, y :: ys, e => by
    have e' : (Sum.inr (S x) : Key) :: nk xs = Sum.inr (S y) :: nk ys := e
    injection e' with e1 e2
    injection e1 with e1
    rw [S_inj e1, nk_inj e2]
section
variable {K : PySem.W.Frag} {H : Hp}
theorem KDs.val {kvs : List (List (List Nat) × D)} {vs : List (List Key × V)} (r : KDs K H kvs vs) (k : List (List Nat)) :
    (valD kvs k = none ∧ valV vs (nk k) = none) ∨ ∃ d v, valD kvs k = some d ∧ valV vs (nk k) = some v ∧ Den K H d v := by
  induction r with
  | nil => exact .inl ⟨rfl, rfl⟩
  | @cons p q ps qs h t ih =>
    by_cases e : p.1 = k
    · exact .inr ⟨p.2, q.2, valD_pos e, valV_pos (by rw [h.1, e]), h.2⟩
    · rw [valD_neg e, valV_neg (by rw [h.1]; exact fun z => e (nk_inj z))]; exact ih
theorem KDs.put {kvs : List (List (List Nat) × D)} {vs : List (List Key × V)} (r : KDs K H kvs vs) (k : List (List Nat)) {d : D} {v : V} (den : Den K H d v) : KDs K H (putD kvs k d) (putK vs (nk k) v) := by
  have an : (kvs.any fun kv => decide (kv.1 = k)) = vs.any fun kv => decide (kv.1 = nk k) := by
    rw [valD_any, valV_any]
    rcases r.val k with ⟨a, b⟩ | ⟨x, y, a, b, _⟩ <;> rw [a, b] <;> rfl
  unfold putD putK
  rw [an]
  by_cases e : (vs.any fun kv => decide (kv.1 = nk k)) = true
  · rw [if_pos e, if_pos e]
    clear an e
    induction r with
    | nil => exact .nil
    | @cons p q ps qs h t ih =>
      rw [List.map_cons, List.map_cons]
      refine .cons ?_ ih
      by_cases e : p.1 = k
      · rw [if_pos e, if_pos (by rw [h.1, e])]; exact ⟨h.1, den⟩
      · rw [if_neg e, if_neg (by rw [h.1]; exact fun z => e (nk_inj z))]; exact h
  · rw [if_neg e, if_neg e]
    exact Paired.snoc r ⟨rfl, den⟩
theorem KDs.length {kvs : List (List (List Nat) × D)} {vs : List (List Key × V)} (r : KDs K H kvs vs) : kvs.length = vs.length := Paired.length r
noncomputable def putFD (f : Str) (v : D) : List (Str × D) → List (Str × D)
  | [] => [(f, v)]
  | (g, x) :: r => if g = f then (g, v) :: r else (g, x) :: putFD f v r
theorem FDs.lookup {fs : List (Str × D)} {vs : List (Str × V)} (r : FDs K H fs vs) {f : Str} {d : D} (e : fs.lookup f = some d) : ∃ v, vs.lookup f = some v ∧ Den K H d v := by
  induction r with
  | nil => cases e
  | @cons p q ps qs h t ih =>
    obtain ⟨p1, p2⟩ := p
    obtain ⟨q1, q2⟩ := q
    obtain ⟨h1, h2⟩ := h
    cases h1
    rw [List.lookup_cons] at e ⊢
    cases c : f == p1 with
    | true => rw [c] at e; cases e; exact ⟨q2, rfl, h2⟩
    | false => rw [c] at e; exact ih e
theorem FDs.no {fs : List (Str × D)} {vs : List (Str × V)} (r : FDs K H fs vs) {f : Str} (e : fs.lookup f = none) : vs.lookup f = none := by
  induction r with
  | nil => rfl
  | @cons p q ps qs h t ih =>
    obtain ⟨p1, p2⟩ := p
    obtain ⟨q1, q2⟩ := q
    obtain ⟨h1, h2⟩ := h
    cases h1
    rw [List.lookup_cons] at e ⊢
    cases c : f == p1 with
    | true => rw [c] at e; cases e
    | false => rw [c] at e; exact ih e
theorem FDs.put {fs : List (Str × D)} {vs : List (Str × V)} (r : FDs K H fs vs) (f : Str) {d : D} {v : V} (den : Den K H d v) : FDs K H (putFD f d fs) (putF f v vs) := by
  induction r with
  | nil => exact .cons ⟨rfl, den⟩ .nil
  | @cons p q ps qs h t ih =>
    obtain ⟨p1, p2⟩ := p
    obtain ⟨q1, q2⟩ := q
    obtain ⟨h1, h2⟩ := h
    cases h1
    show FDs K H (if p1 = f then (p1, d) :: ps else (p1, p2) :: putFD f d ps) (if p1 = f then (p1, v) :: qs else (p1, q2) :: putF f v qs)
    by_cases e : p1 = f
    · rw [if_pos e, if_pos e]; exact .cons ⟨rfl, den⟩ t
    · rw [if_neg e, if_neg e]; exact .cons ⟨rfl, h2⟩ ih
theorem FDs.length {fs : List (Str × D)} {vs : List (Str × V)} (r : FDs K H fs vs) : fs.length = vs.length := Paired.length r
end
theorem SimM.dct {K : PySem.W.Frag} {H : Hp} {M : DH} (h : SimM K M H) {a : Addr} {kvs : List (List (List Nat) × D)} (e : M a = some (.oth (.dct kvs))) : ∃ vs, H a = some (.dT vs) ∧ KDs K H kvs vs := h a _ e
theorem SimM.ins {K : PySem.W.Frag} {H : Hp} {M : DH} (h : SimM K M H) {a : Addr} {c : Str} {fs : List (Str × D)} (e : M a = some (.oth (.ins c fs))) : ∃ C dx vs, PySem.W.nsIn K mainGlobals c = some (some (.ref C)) ∧ H a = some (.ins C dx vs) ∧ FDs K H fs vs := h a _ e
section
variable {X : Cx} {e o value a b k : Expr} {es : List Expr} {pos pos' apos cpos p : Pos} {te tv tk td : DTE} {t : DTA}
noncomputable def dFld (c f : Str) (te : DTE) : DTE := fun ρ M Q => te ρ M fun x M1 => ∃ a fs d, x = .ref a ∧ M1 a = some (.oth (.ins c fs)) ∧ fs.lookup f = some d ∧ Q d M1
noncomputable def dSetF (c f : Str) (to tv : DTE) : DTS := fun DD ρ M => tv ρ M fun y M1 => to ρ M1 fun x M2 => ∃ a fs, x = .ref a ∧ M2 a = some (.oth (.ins c fs)) ∧ fs.length < 1000 ∧ DD.nx ρ (dupd M2 a (.oth (.ins c (putFD f y fs))))
noncomputable def dMeth (c m : Str) (sp : DSp) (to : DTE) (t : DTA) : DTE := fun ρ M Q => to ρ M fun x M1 => ∃ a fs, x = .ref a ∧ M1 a = some (.oth (.ins c fs)) ∧ fs.lookup m = none ∧ t ρ M1 fun ds M2 => sp (.ref a :: ds) M2 Q
noncomputable def dMake (c : Str) (sp : DSp) (t : DTA) : DTE := fun ρ M Q => t ρ M fun ds M1 => ∀ x, M1 x = none → sp (.ref x :: ds) (dupd M1 x (.oth (.ins c []))) fun d M2 => d = .non ∧ Q (.ref x) M2
noncomputable def dDNew : DTE := fun _ M Q => ∀ q, M q = none → Q (.ref q) (dupd M q (.oth (.dct [])))
noncomputable def dDisp1 (tk tv : DTE) : DTE := fun ρ M Q => ∀ q, M q = none → tk ρ (dupd M q (.oth (.dct []))) fun x M1 => tv ρ M1 fun y M2 => ∃ n : List (List Nat), x = .tup (n.map .str) ∧ M2 q = some (.oth (.dct [])) ∧ Q (.ref q) (dupd M2 q (.oth (.dct [(n, y)])))
noncomputable def rInD (f : Bool → Bool) : DR2 := fun x y M Q => ∃ (n : List (List Nat)) (a : Addr) (kvs : List (List (List Nat) × D)), x = .tup (n.map .str) ∧ y = .ref a ∧ M a = some (.oth (.dct kvs)) ∧ Q (.bl (f (valD kvs n).isSome)) M
noncomputable def rDIx : DR2 := fun x y M Q => ∃ (n : List (List Nat)) (a : Addr) (kvs : List (List (List Nat) × D)) (d : D), y = .tup (n.map .str) ∧ x = .ref a ∧ M a = some (.oth (.dct kvs)) ∧ valD kvs n = some d ∧ Q d M
noncomputable def dDGet2 (td tk tx : DTE) : DTE := fun ρ M Q => td ρ M fun x M1 => ∃ (a : Addr) (kvs0 : List (List (List Nat) × D)), x = .ref a ∧ M1 a = some (.oth (.dct kvs0)) ∧ tk ρ M1 fun y M2 => tx ρ M2 fun z M3 => ∃ (n : List (List Nat)) (kvs : List (List (List Nat) × D)), y = .tup (n.map .str) ∧ M3 a = some (.oth (.dct kvs)) ∧ Q ((valD kvs n).getD z) M3
noncomputable def dDSetd (td tk tx : DTE) : DTE := fun ρ M Q => td ρ M fun x M1 => ∃ (a : Addr) (kvs0 : List (List (List Nat) × D)), x = .ref a ∧ M1 a = some (.oth (.dct kvs0)) ∧ tk ρ M1 fun y M2 => tx ρ M2 fun z M3 => ∃ (n : List (List Nat)) (kvs : List (List (List Nat) × D)), y = .tup (n.map .str) ∧ M3 a = some (.oth (.dct kvs)) ∧ kvs.length < sizeLine ∧
  (∀ d, valD kvs n = some d → Q d M3) ∧ (valD kvs n = none → Q z (dupd M3 a (.oth (.dct (putD kvs n z)))))
noncomputable def dDPut (td tk tv : DTE) : DTS := fun DD ρ M => tv ρ M fun v M1 => td ρ M1 fun x M2 => tk ρ M2 fun y M3 => ∃ (a : Addr) (n : List (List Nat)) (kvs : List (List (List Nat) × D)), x = .ref a ∧ y = .tup (n.map .str) ∧ M3 a = some (.oth (.dct kvs)) ∧ kvs.length < sizeLine ∧ DD.nx ρ (dupd M3 a (.oth (.dct (putD kvs n v))))
end
section
variable {X : Cx}
noncomputable def rAddL : DR2 := fun x y M Q => ∃ xs ys, lstOf M x = some xs ∧ lstOf M y = some ys ∧ xs.length + ys.length ≤ sizeLine ∧ ∀ p, M p = none → Q (.ref p) (dupd M p (.lst (xs ++ ys)))
noncomputable def rMin1 : List D → DH → DK → Prop := fun ds M Q => match ds with
  | [d] => ∃ ns : List Int, lstOf M d = some (ns.map .int) ∧ 0 < ns.length ∧ ∀ z : Int, z ∈ ns → (∀ a ∈ ns, z ≤ a) → Q (.int z) M
  | _ => False
end
section
variable {X : Cx}
noncomputable def rInB : DR2 := fun x y M Q => ∃ (b : Bool) (bs : List Bool), x = .bl b ∧ lstOf M y = some (bs.map .bl) ∧ Q (.bl (bs.any fun c => c == b)) M
noncomputable def subR (a : Addr) (ds : List D) : D → D
  | .ref b => if b = a then .lst ds else .ref b
  | d => d
noncomputable def subT (a : Addr) (ds : List D) : D → D
  | .tup xs => .tup (xs.map (subR a ds))
  | d => d
noncomputable def rNeR : DR2 := fun x y M Q => (∃ (a : Addr) (ds : List D), M a = some (.lst ds) ∧ plain 12 (subT a ds x) = true ∧ plain 12 y = true ∧ Q (.bl (!eqB (subT a ds x) y)) M) ∨ (plain 12 x = true ∧ plain 12 y = true ∧ Q (.bl (!eqB x y)) M)
theorem Den.subR {K : PySem.W.Frag} {H H' : Hp} {a : Addr} {ds : List D} (x : Ext H H') (den : Den K H' (.lst ds) (.ref a)) {d : D} {v : V} (h : Den K H d v) : Den K H' (subR a ds d) v := by
  by_cases hr : ∃ b, d = .ref b
  · obtain ⟨b, rfl⟩ := hr
    cases h
    show Den K H' (if b = a then .lst ds else .ref b) (.ref b)
    by_cases e : b = a
    · rw [if_pos e, e]; exact den
    · rw [if_neg e]; exact .ref b
  · have e2 : DL.subR a ds d = d := by cases d <;> first | rfl | exact absurd ⟨_, rfl⟩ hr
    rw [e2]
    exact h.ext x
theorem Dens.subR {K : PySem.W.Frag} {H H' : Hp} {a : Addr} {ds : List D} (x : Ext H H') (den : Den K H' (.lst ds) (.ref a)) : ∀ {xs : List D} {vs : List V}, Dens K H xs vs → Dens K H' (xs.map (DL.subR a ds)) vs
  | [], _, .nil => .nil
  | _ :: _, _, .cons h r => .cons (Den.subR x den h) (Dens.subR x den r)
theorem Den.subT {K : PySem.W.Frag} {H H' : Hp} {a : Addr} {ds : List D} (x : Ext H H') (den : Den K H' (.lst ds) (.ref a)) {d : D} {v : V} (h : Den K H d v) : Den K H' (subT a ds d) v := by
  cases h with
  | tup e r => exact .tup (x.tup _ _ e) (Dens.subR x den r)
  | non => exact .non
  | bl b => exact .bl b
  | int i => exact .int i
  | str y hy => exact .str y hy
  | ref b => exact .ref b
  | lst f r => exact (Den.lst f r).ext x
noncomputable def mClear : D → List D → DH → DK → Prop := fun d ds M Q => ∃ (a : Addr) (xs : List D), d = .ref a ∧ ds = [] ∧ M a = some (.lst xs) ∧ Q .non (dupd M a (.lst []))
end
end DL

set_option Elab.async false
set_option linter.all false
set_option maxRecDepth 100000
namespace L2
open PySem PySem.Spec PyProof.Rows
end L2
namespace DL
open PySem PySem.Spec L2
open PyProof.Rows hiding St
section
variable {X : Cx}
noncomputable def dFmt (te : DTE) : DTE := fun ρ M Q => te ρ M fun d M1 => match d with
  | .str z => z.length ≤ sizeLine ∧ Q (.str z) M1
  | .int i => 0 ≤ i ∧ i.natAbs.log2 < 1920 ∧ Q (.str (digs i.toNat)) M1
  | _ => False
noncomputable def dJoin : List DTE → List Nat → DTE
  | [], out => fun _ M Q => Q (.str out) M
  | t :: r, out => fun ρ M Q => t ρ M fun d M1 => ∃ y, d = .str y ∧ (out ++ y).length ≤ sizeLine ∧ dJoin r (out ++ y) ρ M1 Q
inductive DJs (X : Cx) : List Expr → List DTE → Prop
  | nil : DJs X [] []
  | cons {e : Expr} {t : DTE} {es : List Expr} {ts : List DTE} : DE X e t → DJs X es ts → DJs X (e :: es) (t :: ts)
end
end DL

set_option Elab.async false
set_option linter.all false
set_option maxRecDepth 100000
namespace L2
open PySem PySem.Spec PyProof.Rows
noncomputable abbrev liOf (l : Addr) : Obj := { cls := .type "list_iterator", data := .fields #[.ref l, .int 0 0] }
noncomputable abbrev enOf (a b : Value) (it : Addr) (c : Int) (x : Value) : Obj := { cls := .type "enumerate", dict := none, data := .fields #[a, b, .ref it, rawInt c, .none, x], slots := #[] }
section
variable {P : Program} {w : World} {A : Around} {E : Value → Shared → Prop} {s : Shared}
end
section
variable {X : Cx} {pins : List (Addr × Obj)} {σ : St} {H : Hp} {s : Shared} {h' : Heap}
end
end L2
namespace L2
open PySem PySem.Spec PyProof.Rows
noncomputable def Ite (K : PySem.W.Frag) (a : Addr) : It :=
  ⟨fun i H => ∃ xs x, SqL K H a xs ∧ xs[i]? = some x, fun i H v H' => ∃ T x, v = .ref T ∧ H T = none ∧ H' = upd H T (.tup [.int (1 + (i : Int)), x]) ∧ ∀ xs, SqL K H a xs → xs[i]? = some x, fun i H => ∃ xs, SqL K H a xs ∧ xs.length ≤ i⟩
end L2
namespace DL
open PySem PySem.Spec L2
open PyProof.Rows hiding St
section
variable {X : Cx} {K : PySem.W.Frag} {e : Expr} {te : DTE}
noncomputable def enumD (ds : List D) : List D := (ds.zipIdx 1).map fun p => D.tup [.int p.2, p.1]
noncomputable def diEnum (te : DTE) : DTI := fun ρ M R => te ρ M fun d M1 => match d with
  | .lst ds => R (enumD ds) (fun _ => True) M1
  | .ref a => match M1 a with
    | some (.lst ds) => R (enumD ds) (fun M => M a = some (.lst ds)) M1
    | _ => False
  | _ => False
end
end DL

set_option Elab.async false
set_option linter.all false
set_option maxRecDepth 100000
namespace DL
open PySem PySem.Spec L2
open PyProof.Rows hiding St
section
variable {α : Type}
noncomputable def valT (kvs : List (List Nat × D)) (k : List Nat) : Option D := (kvs.find? fun kv => decide (kv.1 = k)).map (·.2)
noncomputable def putT (kvs : List (List Nat × D)) (k : List Nat) (v : D) : List (List Nat × D) :=
  if (kvs.any fun kv => decide (kv.1 = k)) = true then kvs.map (fun kv => if kv.1 = k then (kv.1, v) else kv) else kvs ++ [(k, v)]
theorem valT_pos {p : List Nat × D} {r : List (List Nat × D)} {k : List Nat} (e : p.1 = k) : valT (p :: r) k = some p.2 := by simp [valT, List.find?_cons, e]
theorem valT_neg {p : List Nat × D} {r : List (List Nat × D)} {k : List Nat} (e : ¬ p.1 = k) : valT (p :: r) k = valT r k := by simp [valT, List.find?_cons, e]
theorem valT_any (k : List Nat) : ∀ kvs : List (List Nat × D), (kvs.any fun kv => decide (kv.1 = k)) = (valT kvs k).isSome
  | [] => rfl
  | p :: r => by
    rw [List.any_cons]
    by_cases e : p.1 = k
    · simp only [valT_pos e, decide_eq_true e, Bool.true_or, Option.isSome_some]
    · rw [valT_neg e, decide_eq_false e, Bool.false_or]; exact valT_any k r
end
theorem tkk_inj {a b : List Nat} (e : tkk a = tkk b) : a = b := S_inj (Sum.inr.inj e)
section
variable {K : PySem.W.Frag} {H : Hp}
theorem KTs.val {kvs : List (List Nat × D)} {vs : List (Key × V)} (r : KTs K H kvs vs) (k : List Nat) :
    (valT kvs k = none ∧ valV vs (tkk k) = none) ∨ ∃ d v, valT kvs k = some d ∧ valV vs (tkk k) = some v ∧ Den K H d v := by
  induction r with
  | nil => exact .inl ⟨rfl, rfl⟩
  | @cons p q ps qs h t ih =>
    by_cases e : p.1 = k
    · exact .inr ⟨p.2, q.2, valT_pos e, valV_pos (by rw [h.1, e]), h.2⟩
    · rw [valT_neg e, valV_neg (by rw [h.1]; exact fun z => e (tkk_inj z))]; exact ih
theorem KTs.put {kvs : List (List Nat × D)} {vs : List (Key × V)} (r : KTs K H kvs vs) (k : List Nat) {d : D} {v : V} (den : Den K H d v) : KTs K H (putT kvs k d) (putK vs (tkk k) v) := by
  have an : (kvs.any fun kv => decide (kv.1 = k)) = vs.any fun kv => decide (kv.1 = tkk k) := by
    rw [valT_any, valV_any]
    rcases r.val k with ⟨a, b⟩ | ⟨x, y, a, b, _⟩ <;> rw [a, b] <;> rfl
  unfold putT putK
  rw [an]
  by_cases e : (vs.any fun kv => decide (kv.1 = tkk k)) = true
  · rw [if_pos e, if_pos e]
    clear an e
    induction r with
    | nil => exact .nil
    | @cons p q ps qs h t ih =>
      rw [List.map_cons, List.map_cons]
      refine .cons ?_ ih
      by_cases e : p.1 = k
      · rw [if_pos e, if_pos (by rw [h.1, e])]; exact ⟨h.1, den⟩
      · rw [if_neg e, if_neg (by rw [h.1]; exact fun z => e (tkk_inj z))]; exact h
  · rw [if_neg e, if_neg e]
    exact Paired.snoc r ⟨rfl, den⟩
theorem KTs.length {kvs : List (List Nat × D)} {vs : List (Key × V)} (r : KTs K H kvs vs) : kvs.length = vs.length := Paired.length r
end
theorem SimM.dkt {K : PySem.W.Frag} {H : Hp} {M : DH} (h : SimM K M H) {a : Addr} {kvs : List (List Nat × D)} (e : M a = some (.oth (.dkt kvs))) : ∃ vs, H a = some (.dK vs) ∧ KTs K H kvs vs := h a _ e
section
variable {X : Cx} {e o value a b k : Expr} {es : List Expr} {pos pos' apos cpos p : Pos} {te tv tk td : DTE} {t : DTA}
noncomputable def dTNew : DTE := fun _ M Q => ∀ q, M q = none → Q (.ref q) (dupd M q (.oth (.dkt [])))
noncomputable def rInT (f : Bool → Bool) : DR2 := fun x y M Q => ∃ (n : List Nat) (a : Addr) (kvs : List (List Nat × D)), x = .str n ∧ y = .ref a ∧ M a = some (.oth (.dkt kvs)) ∧ Q (.bl (f (valT kvs n).isSome)) M
noncomputable def rTIx : DR2 := fun x y M Q => ∃ (n : List Nat) (a : Addr) (kvs : List (List Nat × D)) (d : D), y = .str n ∧ x = .ref a ∧ M a = some (.oth (.dkt kvs)) ∧ valT kvs n = some d ∧ Q d M
noncomputable def dTGet2 (td tk tx : DTE) : DTE := fun ρ M Q => td ρ M fun x M1 => ∃ (a : Addr) (kvs0 : List (List Nat × D)), x = .ref a ∧ M1 a = some (.oth (.dkt kvs0)) ∧ tk ρ M1 fun y M2 => tx ρ M2 fun z M3 => ∃ (n : List Nat) (kvs : List (List Nat × D)), y = .str n ∧ M3 a = some (.oth (.dkt kvs)) ∧ Q ((valT kvs n).getD z) M3
noncomputable def dTPut (td tk tv : DTE) : DTS := fun DD ρ M => tv ρ M fun v M1 => td ρ M1 fun x M2 => tk ρ M2 fun y M3 => ∃ (a : Addr) (n : List Nat) (kvs : List (List Nat × D)), x = .ref a ∧ y = .str n ∧ M3 a = some (.oth (.dkt kvs)) ∧ kvs.length < sizeLine ∧ DD.nx ρ (dupd M3 a (.oth (.dkt (putT kvs n v))))
noncomputable def dDispT (tk tv : DTE) : DTE := fun ρ M Q => ∀ q, M q = none → tk ρ (dupd M q (.oth (.dkt []))) fun x M1 => tv ρ M1 fun y M2 => ∃ n : List Nat, x = .str n ∧ M2 q = some (.oth (.dkt [])) ∧ Q (.ref q) (dupd M2 q (.oth (.dkt [(n, y)])))
end
end DL

set_option Elab.async false
set_option linter.all false
set_option maxRecDepth 100000
namespace L2
open PySem PySem.Spec PyProof.Rows
section
variable {prog : Program} {w : World} {A : Around} {E : Value → Shared → Prop} {s : Shared} {a : Addr}
end
section
variable {X : Cx} {pins : List (Addr × Obj)} {σ : St} {H : Hp} {s : Shared} {A : Around} {E : Value → Shared → Prop}
end
theorem paired_at {α β : Type} {F : α → β → Prop} : ∀ {xs : List α} {ys : List β} {i : Nat} {x : α} {y : β}, Paired F xs ys → xs[i]? = some x → ys[i]? = some y → F x y
  | _, _, 0, _, _, .cons r t, h1, h2 => by cases h1; cases h2; exact r
  | _, _, i + 1, _, _, .cons r t, h1, h2 => paired_at t h1 h2
  | _, _, _, _, _, .nil, h1, _ => by cases h1
noncomputable abbrev PairsOk {κ : Type} (kr : Hp → κ → V → Prop) (H : Hp) : List V → List (κ × V) → Prop := Paired fun x p => ∃ t y, x = .ref t ∧ H t = some (.tup [y, p.2]) ∧ kr H p.1 y
noncomputable def putAll {κ : Type} [DecidableEq κ] (kvs : List (κ × V)) (ps : List (κ × V)) : List (κ × V) := ps.foldl (fun a p => putK a p.1 p.2) kvs
noncomputable abbrev KeySet {κ : Type} [DecidableEq κ] (X : Cx) (pins : List (Addr × Obj)) (σ : St) (H : Hp) (mk : List (κ × V) → HO) (kr : Hp → κ → V → Prop) (d : Addr) : Prop := ∀ (A : Around) (E : Value → Shared → Prop) (s : Shared) (kvs : List (κ × V)) (k : κ) (y v : V) (u r : Value) (Q : Unit → Shared → Prop), Inv X pins σ (upd H d (mk kvs)) s → kr H k y → RelV y u → RelV v r → kvs.length < sizeLine → A.units < cLine →
  (∀ s', Inv X pins σ (upd H d (mk (putK kvs k v))) s' → (∀ c o, c ≠ d → s.heap.get? c = some o → s'.heap.get? c = some o) → Q () s') → wpAny (model X.prog X.w) A (dictSet d u r) Q E s
noncomputable def krT (H : Hp) (k : List Key) (y : V) : Prop := ∃ b, y = .ref b ∧ H b = some (.tup (k.map kV))
section
variable {X : Cx} {pins : List (Addr × Obj)} {σ : St} {H : Hp} {A : Around} {R : Result → Shared → Prop} {d it l : Addr} {xs : List V} {κ : Type} [DecidableEq κ] {mk : List (κ × V) → HO} {kr : Hp → κ → V → Prop} {ps : List (κ × V)}
end
section
variable {X : Cx} {pins : List (Addr × Obj)} {σ : St} {H : Hp} {s : Shared} {l : Addr} {xs : List V} {κ : Type} [DecidableEq κ] {mk : List (κ × V) → HO} {kr : Hp → κ → V → Prop} {ps : List (κ × V)} {Q : Value → Shared → Prop}
end
end L2
namespace DL
open PySem PySem.Spec L2
open PyProof.Rows hiding St
section
variable {X : Cx} {K : PySem.W.Frag} {H : Hp}
noncomputable def pairD (p : List (List Nat) × D) : D := .tup [.tup (p.1.map .str), p.2]
noncomputable def putAllD (kvs ps : List (List (List Nat) × D)) : List (List (List Nat) × D) := ps.foldl (fun a p => putD a p.1 p.2) kvs
noncomputable def rDictOf : List D → DH → DK → Prop := fun ds M Q => match ds with
  | [d] => ∃ ps : List (List (List Nat) × D), lstOf M d = some (ps.map pairD) ∧ ps.length ≤ sizeLine ∧ ∀ q, M q = none → Q (.ref q) (dupd M q (.oth (.dct (putAllD [] ps))))
  | _ => False
end
end DL
namespace DL
open PySem PySem.Spec L2
open PyProof.Rows hiding St
section
variable {X : Cx}
noncomputable def rNeK : DR2 := fun x y M Q => ∃ (a b : Addr) (ka kb : List (List Nat × D)), x = .ref a ∧ y = .ref b ∧ M a = some (.oth (.dkt ka)) ∧ M b = some (.oth (.dkt kb)) ∧ ka.length = kb.length ∧
  (∀ p ∈ ka, ∃ d, valT kb p.1 = some d ∧ plain 11 (res M p.2) = true ∧ res M d = res M p.2) ∧ Q (.bl false) M
noncomputable def rEqK : DR2 := fun x y M Q => ∃ (a b : Addr) (ka kb : List (List Nat × D)), x = .ref a ∧ y = .ref b ∧ M a = some (.oth (.dkt ka)) ∧ M b = some (.oth (.dkt kb)) ∧ ka.length = kb.length ∧
  (∀ p ∈ ka, ∃ d, valT kb p.1 = some d ∧ plain 11 (res M p.2) = true ∧ res M d = res M p.2) ∧ Q (.bl true) M
end
end DL
namespace DL
open PySem PySem.Spec L2
open PyProof.Rows hiding St
section
variable {X : Cx} {e : Expr} {te : DTE}
noncomputable def rEqR : DR2 := fun x y M Q => ∃ (a : Addr) (ds : List D), M a = some (.lst ds) ∧ plain 12 (subT a ds x) = true ∧ plain 12 y = true ∧ Q (.bl (eqB (subT a ds x) y)) M
noncomputable def subL (a : Addr) (ds : List D) : D → D
  | .lst xs => .lst (xs.map (subT a ds))
  | d => d
theorem Dens.subT {K : PySem.W.Frag} {H H' : Hp} {a : Addr} {ds : List D} (x : Ext H H') (den : Den K H' (.lst ds) (.ref a)) : ∀ {xs : List D} {vs : List V}, Dens K H xs vs → Dens K H' (xs.map (DL.subT a ds)) vs
  | [], _, .nil => .nil
  | _ :: _, _, .cons h r => .cons (Den.subT x den h) (Dens.subT x den r)
theorem Den.subL {K : PySem.W.Frag} {H H' : Hp} {a : Addr} {ds : List D} (x : Ext H H') (den : Den K H' (.lst ds) (.ref a)) {d : D} {v : V} (h : Den K H d v) : Den K H' (subL a ds d) v := by
  cases h with
  | lst f r => exact .lst (FzL.ext x f) (Dens.subT x den r)
  | tup e r => exact (Den.tup e r).ext x
  | non => exact .non
  | bl b => exact .bl b
  | int i => exact .int i
  | str y hy => exact .str y hy
  | ref b => exact .ref b
noncomputable def dfzL : List Addr → D → DH → DK → Prop
  | [], d, M, Q => Q d M
  | a :: as, d, M, Q => ∃ ds, M a = some (.lst ds) ∧ dfzL as (subL a ds d) (ddel M a) Q
noncomputable def dDfz (te : DTE) : DTE := fun ρ M Q => dFrz te ρ M fun d M1 => ∃ as : List Addr, dfzL as d M1 Q
end
end DL

set_option Elab.async false
set_option linter.all false
set_option maxRecDepth 100000
namespace L2
open PySem PySem.Spec PyProof.Rows
section
variable {prog : Program} {w : World} {K : Type} [DecidableEq K] {knd : HeapKind prog w K} {A : Around} {E : Value → Shared → Prop} {s : Shared}
end
end L2
namespace DL
open PySem PySem.Spec L2
open PyProof.Rows hiding St
section
variable {X : Cx}
noncomputable def rEqE : DR2 := fun x y M Q => ∃ xs, lstOf M x = some xs ∧ y = .lst [] ∧ Q (.bl xs.isEmpty) M
noncomputable def rInO : DR2 := fun x y M Q => (∃ (n : List (List Nat)) (a : Addr) (kvs : List (List (List Nat) × D)), x = .tup (n.map .str) ∧ y = .ref a ∧ M a = some (.oth (.dct kvs)) ∧ Q (.bl (valD kvs n).isSome) M) ∨ (∃ (a : Addr) (kvs : List (List (List Nat) × D)), x = .non ∧ y = .ref a ∧ M a = some (.oth (.dct kvs)) ∧ Q (.bl false) M)
noncomputable def dDGet1 (td tk : DTE) : DTE := fun ρ M Q => td ρ M fun x M1 => ∃ (a : Addr) (kvs0 : List (List (List Nat) × D)), x = .ref a ∧ M1 a = some (.oth (.dct kvs0)) ∧ tk ρ M1 fun y M2 => ∃ kvs : List (List (List Nat) × D), M2 a = some (.oth (.dct kvs)) ∧ ((∃ n : List (List Nat), y = .tup (n.map .str) ∧ Q ((valD kvs n).getD .non) M2) ∨ (y = .non ∧ Q .non M2))
end
section
variable {X : Cx}
noncomputable def subU (a : Addr) (ds : List D) : D → D
  | .tup xs => .tup (xs.map (subT a ds))
  | d => d
theorem Dens.subU {K : PySem.W.Frag} {H H' : Hp} {a : Addr} {ds : List D} (x : Ext H H') (den : Den K H' (.lst ds) (.ref a)) : ∀ {xs : List D} {vs : List V}, Dens K H xs vs → Dens K H' (xs.map (DL.subU a ds)) vs := by
  have inner : ∀ {xs : List D} {vs : List V}, Dens K H xs vs → Dens K H' (xs.map (DL.subT a ds)) vs := by
    intro xs
    induction xs with
    | nil => intro vs h; cases h; exact .nil
    | cons d r ih => intro vs h; cases h with | cons h1 h2 => exact .cons (Den.subT x den h1) (ih h2)
  have one : ∀ {d : D} {v : V}, Den K H d v → Den K H' (DL.subU a ds d) v := by
    intro d v h
    cases h with
    | tup e r => exact .tup (x.tup _ _ e) (inner r)
    | lst e r => exact Den.ext x (.lst e r)
    | ref b => exact .ref b
    | str z hz => exact .str z hz
    | int i => exact .int i
    | bl b => exact .bl b
    | non => exact .non
  intro xs
  induction xs with
  | nil => intro vs h; cases h; exact .nil
  | cons d r ih => intro vs h; cases h with | cons h1 h2 => exact .cons (one h1) (ih h2)
noncomputable def rEqL : DR2 := fun x y M Q => (∃ (q a : Addr) (ds xs : List D), x = .ref q ∧ q ≠ a ∧ M q = some (.lst ds) ∧ M a = some (.lst xs) ∧ plain 12 (.lst (ds.map (subU a xs))) = true ∧ plain 12 y = true ∧ Q (.bl (eqB (.lst (ds.map (subU a xs))) y)) M) ∨ rEqN id x y M Q
end
section
variable {X : Cx} {o k : Expr} {td tk : DTE} {pos : Pos}
theorem Dens.put {K : PySem.W.Frag} {H : Hp} {d : D} {v : V} (r : Den K H d v) : ∀ {ds : List D} {vs : List V} (j : Nat), Dens K H ds vs → Dens K H (ds.set j d) (vs.set j v)
  | _, _, _, .nil => .nil
  | _, _, 0, .cons _ t => .cons r t
  | _, _, j + 1, .cons h t => .cons h (Dens.put r j t)
noncomputable def dLPut (td tk tv : DTE) : DTS := fun DD ρ M => tv ρ M fun v M1 => td ρ M1 fun x M2 => tk ρ M2 fun y M3 => ∃ (a : Addr) (xs : List D) (j : Nat), x = .ref a ∧ y = .int j ∧ M3 a = some (.lst xs) ∧ j < xs.length ∧ DD.nx ρ (dupd M3 a (.lst (xs.set j v)))
end
end DL

set_option Elab.async false
set_option linter.all false
set_option maxRecDepth 100000
namespace L2
open PySem PySem.Spec PyProof.Rows
noncomputable def rExtendF (K : PySem.W.Frag) : V → List V → Hp → VK → Prop := fun x vs H Q => ∃ l b xs zs, x = .ref l ∧ vs = [.ref b] ∧ H l = some (.lst xs) ∧ SqL K H b zs ∧ xs.length + zs.length ≤ sizeLine ∧ Q .non (upd H l (.lst (xs ++ zs)))
end L2
namespace DL
open PySem PySem.Spec L2
open PyProof.Rows hiding St
section
variable {X : Cx}
noncomputable def mExtend : D → List D → DH → DK → Prop := fun d ds M Q => ∃ (a : Addr) (xs ys : List D), d = .ref a ∧ ds = [.lst ys] ∧ M a = some (.lst xs) ∧ xs.length + ys.length ≤ sizeLine ∧ Q .non (dupd M a (.lst (xs ++ ys)))
noncomputable def rNinB : DR2 := fun x y M Q => ∃ (b : Bool) (bs : List Bool), x = .bl b ∧ lstOf M y = some (bs.map .bl) ∧ Q (.bl (!(bs.any fun c => c == b))) M
noncomputable def mIdx : D → List D → DH → DK → Prop := fun d ds M Q => ∃ (x : D) (xs : List D) (j : Nat), ds = [x] ∧ lstOf M d = some xs ∧ plain 11 (res M x) = true ∧ xs.all (plain 11) = true ∧
  (xs.map fun d => eqB d (res M x))[j]? = some true ∧ (∀ i, i < j → (xs.map fun d => eqB d (res M x))[i]? = some false) ∧ Q (.int j) M
end
end DL

set_option Elab.async false
set_option linter.all false
set_option maxRecDepth 100000
namespace L2
open PySem PySem.Spec PyProof.Rows
section
variable {X : Cx} {pins : List (Addr × Obj)} {σ : St} {H : Hp} {s : Shared} {a : Addr} {v : V} {r u : Value} {A : Around} {E : Value → Shared → Prop} {kvs : List (Key × V)} {k : Key}
end
noncomputable def tKSetd (td ty tx : TE) : TE := fun σ H Q => td σ H fun x H1 => ∃ a, x = .ref a ∧ IsD H1 a ∧ ty σ H1 fun y H2 => tx σ H2 fun z H3 => ∃ kvs k, H3 a = some (.dK kvs) ∧ y = kV k ∧ kvs.length < sizeLine ∧
  (∀ v, valV kvs k = some v → Q v H3) ∧ (valV kvs k = none → Q z (upd H3 a (.dK (putK kvs k z))))
section
variable {X : Cx} {pins : List (Addr × Obj)} {σ : St} {H : Hp} {s : Shared} {a b : Addr} {v : V} {r : Value} {A : Around} {E : Value → Shared → Prop} {kvs : List (List Key × V)} {k : List Key}
end
noncomputable def tTPop (td ty tx : TE) : TE := fun σ H Q => td σ H fun x H1 => ∃ a, x = .ref a ∧ IsD H1 a ∧ ty σ H1 fun y H2 => tx σ H2 fun z H3 => ∃ kvs k b, H3 a = some (.dT kvs) ∧ y = .ref b ∧ H3 b = some (.tup (k.map kV)) ∧ valV kvs k = none ∧ Q z H3
end L2
namespace DL
open PySem PySem.Spec L2
open PyProof.Rows hiding St
section
variable {X : Cx} {o k : Expr} {apos cpos : Pos} {td tk : DTE}
noncomputable def dTSetd (td tk tx : DTE) : DTE := fun ρ M Q => td ρ M fun x M1 => ∃ (a : Addr) (kvs0 : List (List Nat × D)), x = .ref a ∧ M1 a = some (.oth (.dkt kvs0)) ∧ tk ρ M1 fun y M2 => tx ρ M2 fun z M3 => ∃ (n : List Nat) (kvs : List (List Nat × D)), y = .str n ∧ M3 a = some (.oth (.dkt kvs)) ∧ kvs.length < sizeLine ∧
  (∀ d, valT kvs n = some d → Q d M3) ∧ (valT kvs n = none → Q z (dupd M3 a (.oth (.dkt (putT kvs n z)))))
noncomputable def dDPop0 (td tk tx : DTE) : DTE := fun ρ M Q => td ρ M fun x M1 => ∃ (a : Addr) (kvs0 : List (List (List Nat) × D)), x = .ref a ∧ M1 a = some (.oth (.dct kvs0)) ∧ tk ρ M1 fun y M2 => tx ρ M2 fun z M3 => ∃ (n : List (List Nat)) (kvs : List (List (List Nat) × D)), y = .tup (n.map .str) ∧ M3 a = some (.oth (.dct kvs)) ∧ valD kvs n = none ∧ Q z M3
end
section
variable {X : Cx} {o value : Expr} {pos pos' : Pos} {tv : DTE}
noncomputable def dFAug (c f : Str) (to tv : DTE) : DTS := fun DD ρ M => to ρ M fun x M1 => ∃ a fs i, x = .ref a ∧ M1 a = some (.oth (.ins c fs)) ∧ fs.lookup f = some (.int i) ∧
  tv ρ M1 fun y M2 => ∃ j fs', y = .int j ∧ M2 a = some (.oth (.ins c fs')) ∧ fs'.length < 1000 ∧ DD.nx ρ (dupd M2 a (.oth (.ins c (putFD f (.int (i + j)) fs'))))
end
end DL

set_option Elab.async false
set_option linter.all false
set_option maxRecDepth 100000
namespace L2
open PySem PySem.Spec PyProof.Rows
noncomputable def IsDct (u : HO) : Prop := (∃ kvs, u = .dK kvs) ∨ ∃ kvs, u = .dT kvs
noncomputable def sizeD : HO → Nat
  | .dK kvs => kvs.length
  | .dT kvs => kvs.length
  | _ => 0
noncomputable def KeyAt (H : Hp) (i : Nat) (x : V) : HO → Prop
  | .dK kvs => ∃ p, kvs[i]? = some p ∧ x = kV p.1
  | .dT kvs => ∃ p b, kvs[i]? = some p ∧ x = .ref b ∧ H b = some (.tup (p.1.map kV))
  | _ => False
noncomputable def ItF (a : Addr) (ob : Obj) (u : HO) : It := ⟨fun i H => H a = some (.frz ob u) ∧ i < sizeD u, fun i H x H' => H' = H ∧ KeyAt H i x u, fun i H => H a = some (.frz ob u) ∧ sizeD u ≤ i⟩
section
variable {P : Program} {w : World} {H : Hp} {h : Heap} {a : Addr} {ob : Obj} {u : HO}
end
section
variable {X : Cx} {tg : Expr}
noncomputable def iKeysF (tl : TE) : TI := fun σ H R => tl σ H fun x H1 => ∃ a u, x = .ref a ∧ IsDct u ∧ H1 a = some u ∧ ∀ ob, R (ItF a ob u) (upd H1 a (.frz ob u))
end
section
variable {X : Cx} {pins : List (Addr × Obj)} {σ : St} {H : Hp} {s : Shared} {A : Around} {E : Value → Shared → Prop}
end
noncomputable def krK (_ : Hp) (k : Key) (y : V) : Prop := y = kV k
end L2
namespace DL
open PySem PySem.Spec L2
open PyProof.Rows hiding St
noncomputable def gdT (x : List Nat) : Prop := (x.all fun c => decide (c < 1114112)) = true
section
variable {K : PySem.W.Frag} {H : Hp} {M : DH} {a : Addr} {ob : Obj}
theorem SimM.dkf (h : SimM K M H) {kvs : List (List Nat × D)} (e : M a = some (.oth (.dkf ob kvs))) : ∃ vs, H a = some (.frz ob (.dK vs)) ∧ KTs K H kvs vs := h a _ e
theorem SimM.dcf (h : SimM K M H) {kvs : List (List (List Nat) × D)} (e : M a = some (.oth (.dcf ob kvs))) : ∃ vs, H a = some (.frz ob (.dT vs)) ∧ KDs K H kvs vs := h a _ e
end
section
variable {X : Cx} {tg e o k : Expr} {te td tk : DTE} {pos : Pos}
noncomputable def diKeysT (te : DTE) : DTI := fun ρ M R => te ρ M fun d M1 => ∃ (a : Addr) (kvs : List (List Nat × D)), d = .ref a ∧ M1 a = some (.oth (.dkt kvs)) ∧ (∀ p ∈ kvs, gdT p.1) ∧ ∀ ob, R (kvs.map fun p => .str p.1) (fun _ => True) (dupd M1 a (.oth (.dkf ob kvs)))
noncomputable def diKeysD (te : DTE) : DTI := fun ρ M R => te ρ M fun d M1 => ∃ (a : Addr) (kvs : List (List (List Nat) × D)), d = .ref a ∧ M1 a = some (.oth (.dct kvs)) ∧ (∀ p ∈ kvs, ∀ w ∈ p.1, gdT w) ∧ ∀ ob, R (kvs.map fun p => .tup (p.1.map .str)) (fun _ => True) (dupd M1 a (.oth (.dcf ob kvs)))
noncomputable def rTIxF : DR2 := fun x y M Q => ∃ (n : List Nat) (a : Addr) (ob : Obj) (kvs : List (List Nat × D)) (d : D), y = .str n ∧ x = .ref a ∧ M a = some (.oth (.dkf ob kvs)) ∧ valT kvs n = some d ∧ Q d M
noncomputable def rDIxF : DR2 := fun x y M Q => ∃ (n : List (List Nat)) (a : Addr) (ob : Obj) (kvs : List (List (List Nat) × D)) (d : D), y = .tup (n.map .str) ∧ x = .ref a ∧ M a = some (.oth (.dcf ob kvs)) ∧ valD kvs n = some d ∧ Q d M
noncomputable def rInF : DR2 := fun x y M Q => ∃ (n : List (List Nat)) (a : Addr) (ob : Obj) (kvs : List (List (List Nat) × D)), x = .tup (n.map .str) ∧ y = .ref a ∧ M a = some (.oth (.dcf ob kvs)) ∧ Q (.bl (valD kvs n).isSome) M
noncomputable def dFzT (te : DTE) : DTE := fun ρ M Q => te ρ M fun d M1 => (∃ (a : Addr) (ds : List D), M1 a = some (.lst ds) ∧ Q (subT a ds d) (ddel M1 a)) ∨ Q d M1
noncomputable def pairT (p : List Nat × D) : D := .tup [.str p.1, p.2]
noncomputable def putAllT (kvs ps : List (List Nat × D)) : List (List Nat × D) := ps.foldl (fun a p => putT a p.1 p.2) kvs
noncomputable def rDictT : List D → DH → DK → Prop := fun ds M Q => match ds with
  | [d] => ∃ ps : List (List Nat × D), lstOf M d = some (ps.map pairT) ∧ ps.length ≤ sizeLine ∧ ∀ q, M q = none → Q (.ref q) (dupd M q (.oth (.dkt (putAllT [] ps))))
  | _ => False
noncomputable def rSortT : List D → DH → DK → Prop := fun ds M Q => match ds with
  | [d] => ∃ (a : Addr) (kvs : List (List Nat × D)), d = .ref a ∧ M a = some (.oth (.dkt kvs)) ∧ kvs.length < 64 ∧ (∀ p ∈ kvs, gdT p.1) ∧ ∀ zs' : List (List Nat), zs'.Perm (kvs.map (·.1)) → zs'.Pairwise (fun a b => a ≤ b) → ∀ p, M p = none → Q (.ref p) (dupd M p (.lst (zs'.map .str)))
  | _ => False
end
end DL

set_option Elab.async false
set_option linter.all false
set_option maxRecDepth 100000
namespace DL
open PySem PySem.Spec PyProof.Rows L2
noncomputable abbrev tupS (z : List (List Nat)) : D := .tup (z.map .str)
noncomputable def ltZ : List (List Nat) → List (List Nat) → Bool
  | [], [] => false
  | [], _ :: _ => true
  | _ :: _, [] => false
  | x :: r, y :: q => if x = y then ltZ r q else decide (x < y)
theorem ltZ_S : ∀ x y : List (List Nat), STb.ltN (x.map S) (y.map S) = ltZ x y
  | [], [] => rfl
  | [], _ :: _ => rfl
  | _ :: _, [] => rfl
  | x :: r, y :: q => by
    rw [List.map_cons, List.map_cons, STb.ltN_cons]
    unfold ltZ
    by_cases e : x = y
    · rw [if_pos e, if_pos (by rw [e]), ltZ_S r q]
    · rw [if_neg e, if_neg fun z => e (S_inj z)]
      exact decide_eq_decide.mpr (by simp [S])
theorem mapS_inj : ∀ {x y : List (List Nat)}, x.map S = y.map S → x = y
  | [], [], _ => rfl
  | [], _ :: _, h => by cases h
  | _ :: _, [], h => by cases h
  | a :: x, b :: y, h => by
    rw [List.map_cons, List.map_cons] at h
    injection h with h1 h2
    rw [S_inj h1, mapS_inj h2]
section
variable {X : Cx} {pins : List (Addr × Obj)} {σ : L2.St} {H : Hp} {s : Shared}
theorem _root_.L2.Inv.drew (I : Inv X pins σ H s) (d : Drawn) : Inv X pins σ H { s with drawn := d } := by
  obtain ⟨a1, a2, a3, a4, a5, a6, a7, a8, a9, a10, a11⟩ := I
  exact ⟨a1, a2, a3, a4, a5, a6, a7, a8, a9, a10, a11⟩
theorem items_strs {K : PySem.W.Frag} : ∀ {z : List (List Nat)} {vs : List V} {its : List Value}, Dens K H (z.map .str) vs → Vals vs its → ItemsAre (STb.kd X.prog X.w) (z.map S) its
  | [], _, _, .nil, .nil => .nil
  | x :: r, _, _, .cons (.str _ _) t, .cons ⟨tk, e⟩ u => by
    subst e
    exact .cons (strKind_is _ _ _ _) (items_strs t u)
theorem name_at (I : Inv X pins σ H s) {z : List (List Nat)} {v : V} {u : Value} (d : Den X.K H (tupS z) v) (r : RelV v u) : ∃ b, u = .ref b ∧ v = .ref b ∧ STb.Nm X.prog X.w s.heap u (z.map S) := by
  cases d with
  | @tup a _ vs e dd =>
    cases r
    obtain ⟨its, rv, ⟨o, ho, hc, n, hd⟩, _⟩ := I.tuple (.inl (.inl e))
    exact ⟨a, rfl, rfl, a, rfl, o, its.toArray, n, ho, hc, hd, items_strs dd rv⟩
theorem pick_list {α β : Type} {P : α → β → Prop} : ∀ (xs : List α), (∀ x ∈ xs, ∃ y, P x y) → ∃ ys : List β, ys.length = xs.length ∧ ∀ (i : Nat) (x : α) (y : β), xs[i]? = some x → ys[i]? = some y → P x y
  | [], _ => ⟨[], rfl, fun i x y h => by simp at h⟩
  | x :: xs, h => by
    obtain ⟨y, hy⟩ := h x List.mem_cons_self
    obtain ⟨ys, l, k⟩ := pick_list xs fun u hu => h u (List.mem_cons_of_mem _ hu)
    refine ⟨y :: ys, by rw [List.length_cons, List.length_cons, l], fun i a b ha hb => ?_⟩
    cases i with
    | zero => cases ha; cases hb; exact hy
    | succ i => exact k i a b ha hb
theorem paired_at {K : PySem.W.Frag} : ∀ {zs : List (List (List Nat))} {vs : List V} {its : List Value}, Dens K H (zs.map tupS) vs → Vals vs its → ∀ (i : Nat) (u : Value), its[i]? = some u → ∃ z v, zs[i]? = some z ∧ Den K H (tupS z) v ∧ RelV v u
  | [], _, _, .nil, .nil, i, u, h => by simp at h
  | z :: zs, _, _, .cons d t, .cons r q, 0, u, h => by cases h; exact ⟨z, _, rfl, d, r⟩
  | z :: zs, _, _, .cons d t, .cons r q, i + 1, u, h => paired_at t q i u h
noncomputable def rSortSet : List D → DH → DK → Prop := fun ds M Q => match ds with
  | [d] => ∃ zs : List (List (List Nat)), lstOf M d = some (zs.map tupS) ∧ zs.length ≤ 63 ∧ ∀ zs' : List (List (List Nat)), zs'.Pairwise (fun x y => ltZ x y = true) → (∀ z, z ∈ zs' ↔ z ∈ zs) → ∀ p, M p = none → Q (.ref p) (dupd M p (.lst (zs'.map tupS)))
  | _ => False
theorem dens_of {K : PySem.W.Frag} : ∀ {zs : List (List (List Nat))} {bs : List Addr}, zs.length = bs.length → (∀ (i : Nat) z b, zs[i]? = some z → bs[i]? = some b → Den K H (tupS z) (.ref b)) → Dens K H (zs.map tupS) (bs.map V.ref)
  | [], [], _, _ => .nil
  | [], _ :: _, h, _ => by cases h
  | _ :: _, [], h, _ => by cases h
  | z :: zs, b :: bs, h, k => .cons (k 0 z b rfl rfl) (dens_of (Nat.succ.inj h) fun i z b h1 h2 => k (i + 1) z b h1 h2)
theorem ss_ok (hc : X.calm = true) (hu : X.A.units + 64 < cLine) {xs : List V} {us : List Value} {Q : VK} (I : Inv X pins σ H s) (rv : Vals xs us) (h : lC X.K rSortSet xs H Q) :
    wpAny (model X.prog X.w) X.A (call (.type "set") us) (fun u s1 => wpAny (model X.prog X.w) X.A (call (.builtin "sorted") [u]) (EP X pins σ Q) X.xe s1) X.xe s := by
  obtain ⟨ds, M, R, dn, m, q, k⟩ := h
  match ds, dn, q with
  | [d], .cons den .nil, ⟨zs, e, hz, q⟩ =>
    obtain ⟨l, vs, rfl, sq, dd⟩ := lst_sq m den e
    obtain ⟨u, rfl, rx⟩ := vals1 rv
    cases rx
    obtain ⟨its, r', pl, zl⟩ := I.list sq
    have hlen : its.length = zs.length := by rw [← r'.length, ← dd.length, List.length_map]
    have each : ∀ v ∈ its, ∃ z, z ∈ zs ∧ ∃ b, v = .ref b ∧ Den X.K H (tupS z) (.ref b) ∧ STb.Nm X.prog X.w s.heap v (z.map S) := fun v hv => by
      obtain ⟨i, hi⟩ := List.mem_iff_getElem?.mp hv
      obtain ⟨z, x, e1, e2, e3⟩ := paired_at dd r' i v hi
      obtain ⟨b, rfl, rfl, nn⟩ := name_at I e2 e3
      exact ⟨z, List.mem_of_getElem? e1, b, rfl, e2, nn⟩
    have every : ∀ z ∈ zs, ∃ v ∈ its, STb.Nm X.prog X.w s.heap v (z.map S) := fun z hz => by
      obtain ⟨i, hi⟩ := List.mem_iff_getElem?.mp hz
      have hl : i < its.length := by rw [hlen]; exact (List.getElem?_eq_some_iff.mp hi).1
      obtain ⟨z', x, e1, e2, e3⟩ := paired_at dd r' i _ (List.getElem?_eq_getElem hl)
      rw [hi] at e1
      cases e1
      obtain ⟨b, _, _, nn⟩ := name_at I e2 e3
      exact ⟨_, List.getElem_mem hl, nn⟩
    refine STb.call_set hu (I.ok.hd hc) pl.isList (by rw [List.size_toArray, hlen]; exact hz) (fun v hv => let ⟨z, _, _, _, _, nn⟩ := each v (by simpa using hv); ⟨_, nn⟩) fun h1 tk kp SS => ?_
    have I1 := I.kept (t' := tk) (h' := h1) kp
    refine Calls.call_function_entry kind_sorted plain_sorted entry_sorted (args_sorted1 _) ?_
    unfold Builtin.«sorted»
    refine wpAny_bind (m := checkCount "sorted" 1 1 _) (wpAny_pure ?_)
    refine wpAny_bind (STb.collect_ok (s := { s with heap := h1, toks := tk }) (h₀ := s.heap) (vs := its) (by rw [hlen]; exact hz) (I.ok.hd hc) (by simpa using SS) fun xs h2 d2 tk2 hx kp2 => ?_)
    obtain ⟨es, en, px, le⟩ := hx
    have I2 := (I1.kept (t' := tk2) (h' := h2) kp2).drew d2
    have xl : xs.length ≤ 63 := by rw [px.length_eq, List.length_map]; omega
    refine wpAny_bind (wpAny_newList ?_ (by rw [sizeLine_eq]; omega))
    have gL : (h2.push (seqObj "list" xs.toArray 0)).get? h2.objs.size = some (seqObj "list" xs.toArray 0) := Heap.get?_push_size _ rfl
    have I3 : Inv X pins σ H { s with heap := h2.push (seqObj "list" xs.toArray 0), toks := tk2, drawn := d2 } := I2.kept (t' := tk2) fun _ _ z => Heap.get?_push_of_some _ z
    have fp := I2.fpOk (Nat.le_refl _) I2.fresh
    have sub : ∀ v ∈ xs, v ∈ its := fun v hv => by
      obtain ⟨x, hx, rfl⟩ := List.mem_map.mp (px.mem_iff.mp hv)
      exact (en.of x hx).1
    obtain ⟨zs2, zl2, hz2⟩ := pick_list xs fun v hv => each v (sub v hv)
    have kp3 : STb.Kp s.heap (h2.push (seqObj "list" xs.toArray 0)) := fun b o e => Heap.get?_push_of_some _ (kp2 b o (kp b o e))
    have at2 : ∀ i, i < xs.length → ∃ (hi : i < xs.length) (hi' : i < zs2.length), xs.getD i .none = xs[i] ∧ (zs2.map (·.map S)).getD i [] = zs2[i].map S := fun i hi => ⟨hi, by rw [zl2]; exact hi, by simp [hi], by simp [zl2, hi]⟩
    have N : STb.Nms X.prog X.w (h2.push (seqObj "list" xs.toArray 0)) xs (zs2.map (·.map S)) := ⟨by rw [List.length_map, zl2], fun i hi => by
      obtain ⟨g1, g2, g3, g4⟩ := at2 i hi
      rw [g3, g4]
      obtain ⟨_, _, _, _, nn⟩ := hz2 i _ _ (List.getElem?_eq_getElem g1) (List.getElem?_eq_getElem g2)
      exact nn.kp kp3⟩
    have pw : xs.Pairwise fun u v => ∀ k, STb.Nm X.prog X.w s.heap u k → ¬ STb.Nm X.prog X.w s.heap v k := by
      refine (List.pairwise_map.mpr en.one).perm px.symm fun z k a b => z k b a
    have nd : (zs2.map (·.map S)).Nodup := by
      refine List.pairwise_iff_getElem.mpr fun i j hi hj ij => ?_
      rw [List.length_map] at hi hj
      have hi' : i < xs.length := by rw [← zl2]; exact hi
      have hj' : j < xs.length := by rw [← zl2]; exact hj
      rw [List.getElem_map, List.getElem_map]
      intro e
      obtain ⟨_, _, _, _, n1⟩ := hz2 i _ _ (List.getElem?_eq_getElem hi') (List.getElem?_eq_getElem hi)
      obtain ⟨_, _, _, _, n2⟩ := hz2 j _ _ (List.getElem?_eq_getElem hj') (List.getElem?_eq_getElem hj)
      rw [← e] at n2
      exact List.pairwise_iff_getElem.mp pw i j hi' hj' ij _ n1 n2
    refine wpAny_bind (wpAny_holding (wpAny_call_entry slot_list_sort ⟨_, gL, rfl⟩ entry_list_sort ?_ (args_list_sort _)))
    refine STb.sort_list (s := { s with heap := h2.push (seqObj "list" xs.toArray 0), toks := tk2, drawn := d2 }) (by show X.A.units + 1 + 1 < _; omega) gL N nd (by omega) fun p h3 c pp srt g3 kp4 => ⟨_, rfl, wpAny_pure ⟨_, rfl, ?_⟩⟩
    obtain ⟨f0, f1, f2, f3, f4, f5⟩ := id fp
    have I4 := I3.turned (it := h2.objs.size) (h' := h3) (t' := tk2) (fun c u hc e => kp4 c u hc e) f0 f1 f3 f4 f5
    have refs : ∀ v ∈ xs, ∃ b, v = Value.ref b := fun v hv => let ⟨_, _, b, e, _⟩ := each v (sub v hv); ⟨b, e⟩
    have hp : ∀ i ∈ p, i < xs.length := fun i hi => List.mem_range.mp (pp.mem_iff.mp hi)
    obtain ⟨bs, bl, hb⟩ := pick_list (P := fun (i : Nat) (b : Addr) => xs.getD i .none = .ref b) p fun i hi => by
      obtain ⟨b, hb⟩ := refs (xs[i]'(hp i hi)) (List.getElem_mem _)
      exact ⟨b, by rw [← hb]; simp [hp i hi]⟩
    have out : p.map (fun i => xs.getD i .none) = bs.map Value.ref := by
      refine List.ext_getElem? fun i => ?_
      rw [List.getElem?_map, List.getElem?_map]
      rcases Nat.lt_or_ge i p.length with lt | ge
      · rw [List.getElem?_eq_getElem lt, List.getElem?_eq_getElem (by rw [bl]; exact lt)]
        exact congrArg some (hb i _ _ (List.getElem?_eq_getElem lt) (List.getElem?_eq_getElem (by rw [bl]; exact lt)))
      · rw [List.getElem?_eq_none ge, List.getElem?_eq_none (by rw [bl]; exact ge)]; rfl
    have zat : ∀ i, i < xs.length → zs2[i]? = some (zs2.getD i []) := fun i hi => by
      have : i < zs2.length := by rw [zl2]; exact hi
      simp [this]
    have xat : ∀ i, i < xs.length → xs[i]? = some (xs.getD i .none) := fun i hi => by simp [hi]
    have hdn : Dens X.K H ((p.map fun i => zs2.getD i []).map tupS) (bs.map V.ref) := by
      refine dens_of (by rw [List.length_map, bl]) fun i z b h1 h2 => ?_
      rw [List.getElem?_map] at h1
      obtain ⟨j, hj, rfl⟩ := Option.map_eq_some_iff.mp h1
      have lj := hp j (List.mem_of_getElem? hj)
      obtain ⟨_, b', e1, e2, _⟩ := hz2 j _ _ (xat j lj) (zat j lj)
      have e3 := hb i j b hj h2
      rw [e1] at e3
      cases e3
      exact e2
    have hsz : X.s₀.heap.objs.size ≤ h2.objs.size := I2.sz
    have bz : bs.length ≤ sizeLine := by rw [bl, pp.length_eq, List.length_range, sizeLine_eq]; omega
    rw [out] at g3
    have I5 := I4.adopt (o := .lst (bs.map V.ref)) fp hsz ⟨by rw [List.length_map]; exact bz, bs.map Value.ref, c, vals_refs bs, g3⟩
    refine ⟨.ref h2.objs.size, _, I5, rfl, k _ _ _ _ (q (p.map fun i => zs2.getD i []) ?_ (fun z => ⟨fun h => ?_, fun h => ?_⟩) _ (m.free f0)) (Ext.new f0) (m.newL f0 hdn) (.ref _)⟩
    · rw [List.pairwise_map] at srt ⊢
      refine srt.imp fun {i j} h => ?_
      have em : ∀ i, (zs2.map (·.map S)).getD i [] = (zs2.getD i []).map S := fun i => by
        rw [List.getD_eq_getElem?_getD, List.getD_eq_getElem?_getD, List.getElem?_map]
        cases zs2[i]? <;> rfl
      rw [em, em, ltZ_S] at h
      exact h
    · obtain ⟨i, hi, rfl⟩ := List.mem_map.mp h
      have li := hp i hi
      exact (hz2 i _ _ (xat i li) (zat i li)).1
    · obtain ⟨v, hv, nv⟩ := every z h
      obtain ⟨x, hx, nx⟩ := en.all v hv _ nv
      have mx : x.2 ∈ xs := px.mem_iff.mpr (List.mem_map.mpr ⟨x, hx, rfl⟩)
      obtain ⟨i, hi⟩ := List.mem_iff_getElem?.mp mx
      have li := (List.getElem?_eq_some_iff.mp hi).1
      obtain ⟨_, _, _, _, ni⟩ := hz2 i _ _ hi (zat i li)
      refine List.mem_map.mpr ⟨i, pp.mem_iff.mpr (List.mem_range.mpr li), mapS_inj (ni.inj nx)⟩
variable {e : Expr} {es : List Expr} {p p' pos pos' : Pos} {t : DTA}
theorem de_sortSet (hc : X.calm = true) (hu : X.A.units + 64 < cLine) (hg : Gl X "sorted") (hm : X.mg "sorted" = none) (hg2 : Gl X "set") (hm2 : X.mg "set" = none) (ha : DA X (e :: es) t)
    (he : starEach (e :: es) X.env = (false, eval e X.env) :: starEach es X.env := by rfl) (hpl : (backTo pos' (starEach es X.env)).any (·.1) = false := by rfl) :
    DE X (.Call (.Name "sorted" p) [.Call (.Name "set" p') (e :: es) [] pos'] [] pos) (dCB rSortSet t) := by
  intro pins s σ H Q I h
  refine wpAny_Call_Name_kw (ld_blt I hg hm (by rfl) ?_)
  refine PyProof.Rows.callWith_builtin1 (Calls.spliced_cons ?_) rfl rfl
  refine wpAny_Call_Name_kw (ld_blt I hg2 hm2 (by rfl) ?_)
  refine PyProof.Rows.callWith_type1 (thn (ha pos' pins s σ H _ I (cb_low h)) fun us s1 ⟨vs, H1, I1, r1, q1⟩ => ?_) he hpl
  exact thn (ss_ok hc hu I1 r1 q1) fun u s2 z => Calls.spliced_nil z
end
end DL

set_option Elab.async false
set_option linter.all false
set_option maxRecDepth 100000
namespace DL
open PySem PySem.Spec L2
open PyProof.Rows hiding St
noncomputable abbrev ND := List Nat × List (List Nat) × List (List Nat)
noncomputable def kd3 (k : ND) : D := .tup (.str k.1 :: .tup (k.2.1.map .str) :: k.2.2.map .str)
section
noncomputable def valN (kvs : List (ND × D)) (k : ND) : Option D := (kvs.find? fun kv => decide (kv.1 = k)).map (·.2)
noncomputable def putN (kvs : List (ND × D)) (k : ND) (v : D) : List (ND × D) :=
  if (kvs.any fun kv => decide (kv.1 = k)) = true then kvs.map (fun kv => if kv.1 = k then (kv.1, v) else kv) else kvs ++ [(k, v)]
theorem valN_pos {p : ND × D} {r : List (ND × D)} {k : ND} (e : p.1 = k) : valN (p :: r) k = some p.2 := by simp [valN, List.find?_cons, e]
theorem valN_neg {p : ND × D} {r : List (ND × D)} {k : ND} (e : ¬ p.1 = k) : valN (p :: r) k = valN r k := by simp [valN, List.find?_cons, e]
theorem valN_any (k : ND) : ∀ kvs : List (ND × D), (kvs.any fun kv => decide (kv.1 = k)) = (valN kvs k).isSome
  | [] => rfl
  | p :: r => by
    rw [List.any_cons]
    by_cases e : p.1 = k
    · simp only [valN_pos e, decide_eq_true e, Bool.true_or, Option.isSome_some]
    · rw [valN_neg e, decide_eq_false e, Bool.false_or]; exact valN_any k r
end
theorem nk3_inj {a b : ND} (e : nk3 a = nk3 b) : a = b := by
  obtain ⟨a1, a2, a3⟩ := a
  obtain ⟨b1, b2, b3⟩ := b
  simp only [nk3, Prod.mk.injEq] at e
  rw [tkk_inj e.1, nk_inj e.2.1, nk_inj e.2.2]
section
variable {K : PySem.W.Frag} {H : Hp}
theorem KNs.val {kvs : List (ND × D)} {vs : List (NK.Key3 Key × V)} (r : KNs K H kvs vs) (k : ND) :
    (valN kvs k = none ∧ valV vs (nk3 k) = none) ∨ ∃ d v, valN kvs k = some d ∧ valV vs (nk3 k) = some v ∧ Den K H d v := by
  induction r with
  | nil => exact .inl ⟨rfl, rfl⟩
  | @cons p q ps qs h t ih =>
    by_cases e : p.1 = k
    · exact .inr ⟨p.2, q.2, valN_pos e, valV_pos (by rw [h.1, e]), h.2.1⟩
    · rw [valN_neg e, valV_neg (by rw [h.1]; exact fun z => e (nk3_inj z))]; exact ih
theorem KNs.put {kvs : List (ND × D)} {vs : List (NK.Key3 Key × V)} (r : KNs K H kvs vs) (k : ND) {d : D} {v : V} (den : Den K H d v) (kg : kGood k) : KNs K H (putN kvs k d) (putK vs (nk3 k) v) := by
  have an : (kvs.any fun kv => decide (kv.1 = k)) = vs.any fun kv => decide (kv.1 = nk3 k) := by
    rw [valN_any, valV_any]
    rcases r.val k with ⟨a, b⟩ | ⟨x, y, a, b, _⟩ <;> rw [a, b] <;> rfl
  unfold putN putK
  rw [an]
  by_cases e : (vs.any fun kv => decide (kv.1 = nk3 k)) = true
  · rw [if_pos e, if_pos e]
    clear an e
    induction r with
    | nil => exact .nil
    | @cons p q ps qs h t ih =>
      rw [List.map_cons, List.map_cons]
      refine .cons ?_ ih
      by_cases e : p.1 = k
      · rw [if_pos e, if_pos (by rw [h.1, e])]; exact ⟨h.1, den, h.2.2⟩
      · rw [if_neg e, if_neg (by rw [h.1]; exact fun z => e (nk3_inj z))]; exact h
  · rw [if_neg e, if_neg e]
    exact Paired.snoc r ⟨rfl, den, kg⟩
theorem KNs.length {kvs : List (ND × D)} {vs : List (NK.Key3 Key × V)} (r : KNs K H kvs vs) : kvs.length = vs.length := Paired.length r
noncomputable def TbN (M : DH) (a : Addr) (kvs : List (ND × D)) : Prop := ∃ ep, M a = some (.oth (.dnt ep kvs))
theorem TbN.put {M : DH} {a q : Addr} {o : MO} {kvs : List (ND × D)} (h : TbN M a kvs) (n : a ≠ q) : TbN (dupd M q o) a kvs := h.imp fun _ e => by rw [dupd_ne n]; exact e
theorem TbN.dn {M : DH} {a q : Addr} {kvs : List (ND × D)} (h : TbN M a kvs) (e : M q = none) : a ≠ q := fun z => by
  obtain ⟨_, h⟩ := h
  rw [z, e] at h
  cases h
theorem TbN.no {M : DH} {a : Addr} {kvs : List (ND × D)} {xs : List D} (h : TbN M a kvs) (e : M a = some (.lst xs)) : False := by
  obtain ⟨_, h⟩ := h
  rw [e] at h
  cases h
theorem SimM.dnt {M : DH} (h : SimM K M H) {a : Addr} {kvs : List (ND × D)} (e : TbN M a kvs) : ∃ vs, (∃ ep, H a = some (.dN ep vs)) ∧ KNs K H kvs vs := by
  obtain ⟨ep, e⟩ := e
  obtain ⟨vs, q1, q2⟩ := h a _ e
  exact ⟨vs, ⟨ep, q1⟩, q2⟩
end
section
variable {X : Cx} {o k value : Expr} {pos pos' : Pos} {td tk tv : DTE}
noncomputable def dNNew : DTE := fun _ M Q => ∀ q, M q = none → Q (.ref q) (dupd M q (.oth (.dnt 0 [])))
noncomputable def dDispN (tk tv : DTE) : DTE := fun ρ M Q => ∀ q, M q = none → tk ρ (dupd M q (.oth (.dnt 0 []))) fun x M1 => tv ρ M1 fun y M2 => ∃ n : ND, x = kd3 n ∧ TbN M2 q [] ∧ ∀ ep, Q (.ref q) (dupd M2 q (.oth (.dnt ep [(n, y)])))
noncomputable def rInN (f : Bool → Bool) : DR2 := fun x y M Q => ∃ (n : ND) (a : Addr) (kvs : List (ND × D)), x = kd3 n ∧ y = .ref a ∧ TbN M a kvs ∧ Q (.bl (f (valN kvs n).isSome)) M
noncomputable def rNIx : DR2 := fun x y M Q => ∃ (n : ND) (a : Addr) (kvs : List (ND × D)) (d : D), y = kd3 n ∧ x = .ref a ∧ TbN M a kvs ∧ valN kvs n = some d ∧ Q d M
noncomputable def dNPut (td tk tv : DTE) : DTS := fun DD ρ M => tv ρ M fun v M1 => td ρ M1 fun x M2 => tk ρ M2 fun y M3 => ∃ (a : Addr) (n : ND) (kvs : List (ND × D)), x = .ref a ∧ y = kd3 n ∧ TbN M3 a kvs ∧ kvs.length < sizeLine ∧ ∀ ep', DD.nx ρ (dupd M3 a (.oth (.dnt ep' (putN kvs n v))))
noncomputable def rLenN : List D → DH → DK → Prop := fun ds M Q => match ds with
  | [d] => ∃ (a : Addr) (kvs : List (ND × D)), d = .ref a ∧ TbN M a kvs ∧ Q (.int kvs.length) M
  | _ => False
end
end DL

set_option Elab.async false
set_option linter.all false
set_option maxRecDepth 100000
namespace DL
open PySem PySem.Spec L2
open PyProof.Rows hiding St
section
variable {K : PySem.W.Frag} {H : Hp}
theorem KNs.at {kvs : List (ND × D)} {vs : List (NK.Key3 Key × V)} (r : KNs K H kvs vs) : ∀ {i : Nat} {q : NK.Key3 Key × V}, vs[i]? = some q → ∃ p, kvs[i]? = some p ∧ q.1 = nk3 p.1 ∧ Den K H p.2 q.2 ∧ kGood p.1 := by
  induction r with
  | nil => intro i q h; cases h
  | cons h t ih =>
    intro i q hq
    cases i with
    | zero => cases hq; exact ⟨_, rfl, h⟩
    | succ j => exact ih (i := j) hq
noncomputable def CdN (a : Addr) (ep : Nat) (kvs : List (ND × D)) (M : DH) : Prop := M a = some (.oth (.dnt ep kvs))
theorem CdN.hp {M : DH} {a : Addr} {ep : Nat} {kvs : List (ND × D)} (c : CdN a ep kvs M) (m : SimM K M H) : ∃ vs, H a = some (.dN ep vs) ∧ KNs K H kvs vs := m a _ c
end
section
variable {X : Cx} {tg e f o k : Expr} {te td tk : DTE} {p pos kpos apos cpos : Pos}
noncomputable def diKeysN (te : DTE) : DTI := fun ρ M R => te ρ M fun d M1 => ∃ (a : Addr) (kvs : List (ND × D)), d = .ref a ∧ TbN M1 a kvs ∧ ∀ ep, CdN a ep kvs M1 → R (kvs.map fun p => kd3 p.1) (CdN a ep kvs) M1
noncomputable def diValsN (te : DTE) : DTI := fun ρ M R => te ρ M fun d M1 => ∃ (a : Addr) (kvs : List (ND × D)), d = .ref a ∧ TbN M1 a kvs ∧ ∀ ep, CdN a ep kvs M1 → R (kvs.map fun p => p.2) (CdN a ep kvs) M1
noncomputable def dropN (kvs : List (ND × D)) (k : ND) : List (ND × D) := kvs.filter fun p => !decide (p.1 = k)
theorem KNs.drop {K : PySem.W.Frag} {H : Hp} {kvs : List (ND × D)} {vs : List (NK.Key3 Key × V)} (r : KNs K H kvs vs) (k : ND) : KNs K H (dropN kvs k) (dropNk vs (nk3 k)) := by
  unfold dropN dropNk
  induction r with
  | nil => exact .nil
  | @cons p q ps qs h t ih =>
    by_cases e : p.1 = k
    · rw [List.filter_cons_of_neg (by simp [e]), List.filter_cons_of_neg (by simp [h.1, e])]; exact ih
    · have e' : ¬ q.1 = nk3 k := by rw [h.1]; exact fun z => e (nk3_inj z)
      rw [List.filter_cons_of_pos (by simp [e]), List.filter_cons_of_pos (by simp [e'])]; exact .cons h ih
noncomputable def dNPop (td tk : DTE) : DTE := fun ρ M Q => td ρ M fun x M1 => ∃ a, x = .ref a ∧ (∃ kvs, TbN M1 a kvs) ∧ tk ρ M1 fun y M2 => ∃ (n : ND) (kvs : List (ND × D)) (d : D), y = kd3 n ∧ TbN M2 a kvs ∧ valN kvs n = some d ∧ ∀ ep, Q d (dupd M2 a (.oth (.dnt ep (dropN kvs n))))
theorem Dens.dropLast {K : PySem.W.Frag} {H : Hp} : ∀ {ds : List D} {vs : List V}, Dens K H ds vs → Dens K H ds.dropLast vs.dropLast
  | [], _, h => by cases h; exact .nil
  | [_], _, h => by cases h with | cons _ t => cases t; exact .nil
  | _ :: _ :: _, _, h => by cases h with | cons h1 t => cases t with | cons h2 t2 => exact .cons h1 (Dens.dropLast (.cons h2 t2))
noncomputable def mPop : D → List D → DH → DK → Prop := fun d ds M Q => ∃ (a : Addr) (xs : List D) (y : D), d = .ref a ∧ ds = [] ∧ M a = some (.lst xs) ∧ xs[xs.length - 1]? = some y ∧ Q y (dupd M a (.lst xs.dropLast))
noncomputable def dMinD (te td : DTE) : DTE := fun ρ M Q => te ρ M fun x M1 => td ρ M1 fun y M2 => ∃ ns : List Int, x = .lst (ns.map .int) ∧ (ns = [] → Q y M2) ∧ ∀ z, z ∈ ns → (∀ a ∈ ns, z ≤ a) → Q (.int z) M2
noncomputable def sortEnd (c m : Str) (sp : DSp) (x : D) (Q : DK) : DK := fun y M2 => ∃ (a o : Addr) (fs : List (Str × D)) (kvs : List (ND × D)) (ns : List Int), x = .ref a ∧ y = .ref o ∧ M2 o = some (.oth (.ins c fs)) ∧ fs.lookup m = none ∧ TbN M2 a kvs ∧ kvs.length < 64 ∧ ns.length = kvs.length ∧
  (∀ (i : Nat) (p : ND × D) (n : Int), kvs[i]? = some p → ns[i]? = some n → sp [.ref o, kd3 p.1] M2 (fun d M' => d = .int n ∧ M' = M2)) ∧
  ∀ (qs : List (Int × ND)) (l : Addr), qs.Perm (ns.zip (kvs.map (·.1))) → qs.Pairwise (fun p q => p.1 ≤ q.1) → M2 l = none → Q (.ref l) (dupd M2 l (.lst (qs.map fun p => kd3 p.2)))
noncomputable def dSortK (c m : Str) (sp : DSp) (td to : DTE) : DTE := fun ρ M Q => td ρ M fun x M1 => to ρ M1 (sortEnd c m sp x Q)
noncomputable def subS (a : Addr) (ds : List D) : D → D
  | .tup xs => .tup (xs.map (subT a ds))
  | d => d
noncomputable def rNeS : DR2 := fun x y M Q => (∃ (a : Addr) (ds : List D), M a = some (.lst ds) ∧ plain 12 (subS a ds x) = true ∧ plain 12 y = true ∧ Q (.bl (!eqB (subS a ds x) y)) M) ∨ (plain 12 x = true ∧ plain 12 y = true ∧ Q (.bl (!eqB x y)) M)
theorem Dens.subS {K : PySem.W.Frag} {H H' : Hp} {a : Addr} {ds : List D} (x : Ext H H') (den : Den K H' (.lst ds) (.ref a)) : ∀ {xs : List D} {vs : List V}, Dens K H xs vs → Dens K H' (xs.map (DL.subT a ds)) vs
  | [], _, .nil => .nil
  | _ :: _, _, .cons h r => .cons (Den.subT x den h) (Dens.subS x den r)
theorem Den.subS {K : PySem.W.Frag} {H H' : Hp} {a : Addr} {ds : List D} (x : Ext H H') (den : Den K H' (.lst ds) (.ref a)) {d : D} {v : V} (h : Den K H d v) : Den K H' (subS a ds d) v := by
  cases h with
  | tup e r => exact .tup (x.tup _ _ e) (Dens.subS x den r)
  | lst f r => exact (Den.lst f r).ext x
  | ref b => exact .ref b
  | str y hy => exact .str y hy
  | int i => exact .int i
  | bl b => exact .bl b
  | non => exact .non
noncomputable def rEqS : DR2 := fun x y M Q => (∃ (a : Addr) (ds : List D), M a = some (.lst ds) ∧ plain 12 (subS a ds x) = true ∧ plain 12 y = true ∧ Q (.bl (eqB (subS a ds x) y)) M) ∨ (plain 12 x = true ∧ plain 12 y = true ∧ Q (.bl (eqB x y)) M)
noncomputable def dNClear (td : DTE) : DTE := fun ρ M Q => td ρ M fun x M1 => ∃ (a : Addr) (kvs : List (ND × D)), x = .ref a ∧ TbN M1 a kvs ∧ ∀ ep, Q .non (dupd M1 a (.oth (.dnt ep [])))
noncomputable def rListN : List D → DH → DK → Prop := fun ds M Q => ∃ (a : Addr) (kvs : List (ND × D)), ds = [.ref a] ∧ TbN M a kvs ∧ ∀ l, M l = none → Q (.ref l) (dupd M l (.lst (kvs.map fun p => kd3 p.1)))
end
end DL

set_option Elab.async false
set_option linter.all false
set_option maxRecDepth 100000
namespace IR
open PySem PySem.Spec L2 DL
open PyProof.Rows hiding St

inductive Lit where
  | non | bl (b : Bool) | int (i : Int) | str (x : List Nat)
noncomputable def Lit.d : Lit → D
  | .non => .non | .bl b => .bl b | .int i => .int i | .str x => .str x
noncomputable def Lit.ck : Lit → Const → Bool
  | .non, .none => true
  | .bl b, .bool c => b == c
  | .int i, .int j => i == j
  | .str x, .str y => x == y.cps.toList && (x.all fun c => decide (c < 1114112))
  | _, _ => false

inductive Bn where
  | add | sub | mul | fdiv | mod
  deriving DecidableEq
noncomputable def Bn.op : Bn → Operator
  | .add => .Add
  | .sub => .Sub
  | .mul => .Mult
  | .fdiv => .FloorDiv
  | .mod => .Mod
noncomputable def Bn.r : Bn → DR2
  | .add => rAddD
  | .sub => rI2 (fun _ _ => True) (fun i j => i - j)
  | .mul => rI2 CMul (fun i j => i * j)
  | .fdiv => rI2 CDiv (fun i j => i / j)
  | .mod => rI2 (fun _ j => 0 < j) (fun i j => i % j)
theorem Bn.ok {X : Cx} : ∀ b : Bn, OpD X (binaryOp b.op) b.r
  | .add => od_add
  | .sub => od_sub
  | .mul => od_mul
  | .fdiv => od_fdiv
  | .mod => od_mod
inductive Cp where
  | eq | ne | lt | ltS | nin
  deriving DecidableEq
noncomputable def Cp.op : Cp → CmpOp
  | .eq => .Eq
  | .ne => .NotEq
  | .lt => .Lt
  | .ltS => .Lt
  | .nin => .NotIn
noncomputable def Cp.r : Cp → DR2
  | .eq => rEqN id
  | .ne => rEqN not
  | .lt => rLtD (fun i j => decide (i < j))
  | .ltS => rLtS
  | .nin => rIn1 not
theorem l64 {n : Nat} (h : n + 100 < cLine) : n + 64 < cLine := Nat.lt_of_le_of_lt (Nat.add_le_add_left (by decide) _) h
theorem Cp.ok {X : Cx} (hu' : X.A.units + 100 < cLine) : ∀ b : Cp, OpD X (compareOp b.op) b.r
  | .eq => od_eq (l64 hu')
  | .ne => od_ne (l64 hu')
  | .lt => od_lt
  | .ltS => od_lt_str
  | .nin => od_notin (l64 hu')
inductive Bl where
  | len | list | min
  deriving DecidableEq
noncomputable def Bl.nm : Bl → Str
  | .len => "len"
  | .list => "list"
  | .min => "min"
noncomputable def Bl.r : Bl → List D → DH → DK → Prop
  | .len => rLen
  | .list => rList
  | .min => rMin
inductive Ms where
  | index | strip | rstrip | startswith | endswith | find | join | split | lower | upper
  deriving DecidableEq
noncomputable def Ms.nm : Ms → Str
  | .index => "index" | .strip => "strip" | .rstrip => "rstrip" | .startswith => "startswith" | .endswith => "endswith" | .find => "find" | .join => "join" | .split => "split" | .lower => "lower" | .upper => "upper"
noncomputable def Ms.r : Ms → D → List D → DH → DK → Prop
  | .index => mIndex
  | .strip => m1S (fun z _ => z.length ≤ sizeLine) fun z y => .str (strip2 true true y z)
  | .rstrip => m1S (fun z _ => z.length ≤ sizeLine) fun z y => .str (strip2 false true y z)
  | .startswith => m1S (fun _ _ => True) fun z y => .bl (decide (z.take y.length = y))
  | .endswith => m1S (fun _ _ => True) fun z y => .bl (decide (y.length ≤ z.length ∧ z.drop (z.length - y.length) = y))
  | .find => mFind
  | .join => mJoin
  | .split => mSplit
  | .lower => m0S lo1
  | .upper => m0S up1
inductive Ml where
  | append
  deriving DecidableEq
noncomputable def Ml.nm : Ml → Str
  | .append => "append"
noncomputable def Ml.r : Ml → D → List D → DH → DK → Prop
  | .append => mAppend
inductive FP where
  | lit (w : List Nat)
  | var (i : Nat)
noncomputable def FP.d : FP → DTE
  | .lit w => dC (.str w)
  | .var i => dFmt (dVar i)
set_option genSizeOf false in
set_option genInjectivity false in
inductive CE where
  | var (i : Nat)
  | con (l : Lit)
  | bin (op : Bn) (a b : CE)
  | cmp (op : Cp) (a b : CE)
  | and (a b : CE) | or (a b : CE) | not (a : CE)
  | ite (c a b : CE)
  | ix (a b : CE)
  | sl (a lo hi : CE)
  | tup (as : CE) | lst (as : CE) | lstz (as : CE) | frz (e : CE)
  | call (f : Nat) (as : CE)
  | blt (b : Bl) (as : CE)
  | isi (T : Ty) (e : CE)
  | ml (m : Ml) (o as : CE)
  | sortSet (as : CE)
  | comp (two : Bool) (ix : List Nat) (it c e : CE)
  | compz (two : Bool) (ix : List Nat) (it c e : CE)
  | rng1 (a : CE)
  | nil | cons (a as : CE)
noncomputable def CE.len : CE → Nat
  | .cons _ as => as.len + 1
  | _ => 0

structure FI where
  nm : Str
  np : Nat
  dds : List D
  sp : DSp
structure KI where
  nm : Str
  ks : List Str
  g : List D → List D → List D
  sp : DSp
structure FX where
  nm : Str
  np : Nat
  dds : List D
  sp : DSpX
structure MI where
  cl : Str
  nm : Str
  np : Nat
  sp : DSp
structure TabC where
  fn : Nat → Option FI
  kfn : Nat → Option KI
  con : Nat → Option (Str × D)
  bl : List Str
  fx : Nat → Option FX := fun _ => none
  cl : CN := fun _ => none
  isx : Nat → Str → Option Bool := fun _ _ => none
  lk : List Str := []
  mt : Nat → Option MI := fun _ => none
  ini : Nat → Option MI := fun _ => none
  fd : List (Str × Str) := []
structure Tab extends TabC where
  xd : DX := fun _ _ => False

structure Evs where
  e : DTE
  t : DTT
  a : DTA
  i : DTI
  o : DTO
noncomputable def botE : DTE := fun _ _ _ => False
noncomputable def botT : DTT := fun _ _ _ => False
noncomputable def botA : DTA := fun _ _ _ => False
noncomputable def botI : DTI := fun _ _ _ => False
noncomputable def botO : DTO := fun _ _ _ => False
noncomputable def mkE (t : DTE) : Evs := ⟨t, dB t, botA, diAny t, doSome t⟩
noncomputable def unpOf : Bool → D → Option (List D)
  | false => fun d => some [d]
  | true => unpair

noncomputable def ev (T : Tab) : CE → Evs
  | .var i => mkE (dVar i)
  | .con l => mkE (dC l.d)
  | .bin op a b => mkE (dOp op.r (ev T a).e (ev T b).e)
  | .cmp op a b => mkE (dOp op.r (ev T a).e (ev T b).e)
  | .and a b => { mkE (dAndV (ev T a).e (ev T b).e) with t := dAnd (ev T a).t (ev T b).t }
  | .or a b => { mkE (dOrV (ev T a).e (ev T b).e) with t := dOr (ev T a).t (ev T b).t }
  | .not a => { mkE (dNotV (ev T a).e) with t := dNot (ev T a).t }
  | .ite c a b => { mkE (dIf (ev T c).t (ev T a).e (ev T b).e) with t := botT }
  | .ix a b => mkE (dOp rIxD (ev T a).e (ev T b).e)
  | .sl a lo hi => mkE (dSl (ev T a).e (ev T lo).o (ev T hi).o)
  | .tup as => mkE (dTup (ev T as).a)
  | .lst as => mkE (dLst (ev T as).a)
  | .lstz as => mkE (dLstZ (ev T as).a)
  | .frz e => { mkE (dFrz (ev T e).e) with t := botT }
  | .call f as => mkE (match T.fn f with | some fi => dCall fi.sp (fi.dds.drop (fi.dds.length - (fi.np - as.len))) (ev T as).a | none => botE)
  | .blt b as => mkE (dCB b.r (ev T as).a)
  | .isi y e => mkE (dIsI y (ev T e).e)
  | .ml m o as => mkE (dML m.r (ev T o).e (ev T as).a)
  | .sortSet as => mkE (dCB rSortSet (ev T as).a)
  | .comp two ix it c e => mkE (dComp (ev T it).i ix (unpOf two) (ev T c).t (ev T e).e)
  | .compz two ix it c e => mkE (dCompZ (ev T it).i ix (unpOf two) (ev T c).t (ev T e).e)
  | .rng1 a => ⟨botE, botT, botA, diRng1 (dCons (ev T a).e dNil), botO⟩
  | .nil => ⟨botE, dTrue, dNil, botI, doNone⟩
  | .cons a as => ⟨botE, botT, dCons (ev T a).e (ev T as).a, botI, botO⟩
theorem ev_var (T : Tab) {i} : ev T (.var i) = (mkE (dVar i)) := rfl
theorem ev_con (T : Tab) {l} : ev T (.con l) = (mkE (dC l.d)) := rfl
theorem ev_bin (T : Tab) {op} {a} {b} : ev T (.bin op a b) = (mkE (dOp op.r (ev T a).e (ev T b).e)) := rfl
theorem ev_cmp (T : Tab) {op} {a} {b} : ev T (.cmp op a b) = (mkE (dOp op.r (ev T a).e (ev T b).e)) := rfl
theorem ev_and (T : Tab) {a} {b} : ev T (.and a b) = ({ mkE (dAndV (ev T a).e (ev T b).e) with t := dAnd (ev T a).t (ev T b).t }) := rfl
theorem ev_or (T : Tab) {a} {b} : ev T (.or a b) = ({ mkE (dOrV (ev T a).e (ev T b).e) with t := dOr (ev T a).t (ev T b).t }) := rfl
theorem ev_not (T : Tab) {a} : ev T (.not a) = ({ mkE (dNotV (ev T a).e) with t := dNot (ev T a).t }) := rfl
theorem ev_ite (T : Tab) {c} {a} {b} : ev T (.ite c a b) = ({ mkE (dIf (ev T c).t (ev T a).e (ev T b).e) with t := botT }) := rfl
theorem ev_ix (T : Tab) {a} {b} : ev T (.ix a b) = (mkE (dOp rIxD (ev T a).e (ev T b).e)) := rfl
theorem ev_sl (T : Tab) {a} {lo} {hi} : ev T (.sl a lo hi) = (mkE (dSl (ev T a).e (ev T lo).o (ev T hi).o)) := rfl
theorem ev_tup (T : Tab) {as} : ev T (.tup as) = (mkE (dTup (ev T as).a)) := rfl
theorem ev_lst (T : Tab) {as} : ev T (.lst as) = (mkE (dLst (ev T as).a)) := rfl
theorem ev_lstz (T : Tab) {as} : ev T (.lstz as) = (mkE (dLstZ (ev T as).a)) := rfl
theorem ev_frz (T : Tab) {e} : ev T (.frz e) = ({ mkE (dFrz (ev T e).e) with t := botT }) := rfl
theorem ev_call (T : Tab) {f} {as} : ev T (.call f as) = (mkE (match T.fn f with | some fi => dCall fi.sp (fi.dds.drop (fi.dds.length - (fi.np - as.len))) (ev T as).a | none => botE)) := rfl
theorem ev_blt (T : Tab) {b} {as} : ev T (.blt b as) = (mkE (dCB b.r (ev T as).a)) := rfl
theorem ev_isi (T : Tab) {y} {e} : ev T (.isi y e) = (mkE (dIsI y (ev T e).e)) := rfl
theorem ev_ml (T : Tab) {m} {o} {as} : ev T (.ml m o as) = (mkE (dML m.r (ev T o).e (ev T as).a)) := rfl
theorem ev_sortSet (T : Tab) {as} : ev T (.sortSet as) = (mkE (dCB rSortSet (ev T as).a)) := rfl
theorem ev_comp (T : Tab) {two} {ix} {it} {c} {e} : ev T (.comp two ix it c e) = (mkE (dComp (ev T it).i ix (unpOf two) (ev T c).t (ev T e).e)) := rfl
theorem ev_compz (T : Tab) {two} {ix} {it} {c} {e} : ev T (.compz two ix it c e) = (mkE (dCompZ (ev T it).i ix (unpOf two) (ev T c).t (ev T e).e)) := rfl
theorem ev_rng1 (T : Tab) {a} : ev T (.rng1 a) = (⟨botE, botT, botA, diRng1 (dCons (ev T a).e dNil), botO⟩) := rfl
theorem ev_nil (T : Tab) : ev T (.nil) = (⟨botE, dTrue, dNil, botI, doNone⟩) := rfl
theorem ev_cons (T : Tab) {a} {as} : ev T (.cons a as) = (⟨botE, botT, dCons (ev T a).e (ev T as).a, botI, botO⟩) := rfl

structure GI where
  N : List Str
  names : List (Str × NameKind)
noncomputable def GI.kd (g : GI) (x : Str) : Option NameKind := g.names.lookup x
noncomputable def notStar : Expr → Bool
  | .Starred _ _ => false
  | _ => true
noncomputable def notSet : Expr → Bool
  | .Set _ _ _ => false
  | _ => true
noncomputable def notSlice : Expr → Bool
  | .Slice _ _ _ _ => false
  | _ => true
noncomputable def notSup : Expr → Bool
  | .Call (.Name _ _) [] [] _ => false
  | _ => true
noncomputable def isGlob (g : GI) (x : Str) : Bool := g.kd x == some .globalImplicit && !(x == ("__debug__" : Str)) && !(x == ("__name__" : Str))
noncomputable def isVis (g : GI) (x : Str) : Bool := (g.kd x == some .local || g.kd x == some .cell || g.kd x == some .free) && !(x == ("__debug__" : Str)) && !(x == ("__classdict__" : Str))
noncomputable def isBlt (T : TabC) (g : GI) (x : Str) : Bool := isGlob g x && T.bl.contains x

noncomputable def vCall : (x : Expr) → Option { p : Str × Pos × Expr × List Expr × Pos // x = .Call (.Name p.1 p.2.1) (p.2.2.1 :: p.2.2.2.1) [] p.2.2.2.2 }
  | .Call (.Name f fp) (z :: zs) [] p => some ⟨(f, fp, z, zs, p), rfl⟩
  | _ => none
noncomputable def vNm : (x : Expr) → Option { p : Str × Pos // x = .Name p.1 p.2 }
  | .Name y p => some ⟨(y, p), rfl⟩
  | _ => none
noncomputable def vCst : (x : Expr) → Option { p : Const × Nat × Pos // x = .Constant p.1 p.2.1 p.2.2 }
  | .Constant k n p => some ⟨(k, n, p), rfl⟩
  | _ => none
noncomputable def vTup : (x : Expr) → Option { p : List Expr × Nat × Pos // x = .Tuple p.1 p.2.1 p.2.2 }
  | .Tuple es n p => some ⟨(es, n, p), rfl⟩
  | _ => none
noncomputable def vAdd : (x : Expr) → Option { p : Expr × Expr × Pos // x = .BinOp p.1 .Add p.2.1 p.2.2 }
  | .BinOp a .Add b p => some ⟨(a, b, p), rfl⟩
  | _ => none
noncomputable def vMeth : (x : Expr) → Option { p : Expr × Str × Pos × List Expr × Pos // x = .Call (.Attribute p.1 p.2.1 p.2.2.1) p.2.2.2.1 [] p.2.2.2.2 }
  | .Call (.Attribute z n ap) es [] cp => some ⟨(z, n, ap, es, cp), rfl⟩
  | _ => none
noncomputable def vCall0 : (x : Expr) → Option { p : Str × Pos × Pos // x = .Call (.Name p.1 p.2.1) [] [] p.2.2 }
  | .Call (.Name f fp) [] [] p => some ⟨(f, fp, p), rfl⟩
  | _ => none
noncomputable def vBin : (x : Expr) → Option { p : Expr × Operator × Expr × Pos // x = .BinOp p.1 p.2.1 p.2.2.1 p.2.2.2 }
  | .BinOp l o r p => some ⟨(l, o, r, p), rfl⟩
  | _ => none
noncomputable def vCmp : (x : Expr) → Option { p : Expr × CmpOp × Expr × Pos // x = .Compare p.1 [p.2.1] [p.2.2.1] p.2.2.2 }
  | .Compare l [o] [r] p => some ⟨(l, o, r, p), rfl⟩
  | _ => none
noncomputable def vIfE : (x : Expr) → Option { p : Expr × Expr × Expr × Pos // x = .IfExp p.1 p.2.1 p.2.2.1 p.2.2.2 }
  | .IfExp l o r p => some ⟨(l, o, r, p), rfl⟩
  | _ => none
noncomputable def vSub : (x : Expr) → Option { p : Expr × Expr × Pos // x = .Subscript p.1 p.2.1 p.2.2 }
  | .Subscript y z p => some ⟨(y, z, p), rfl⟩
  | _ => none
noncomputable def vSl : (x : Expr) → Option { p : Option Expr × Option Expr × Pos // x = .Slice p.1 p.2.1 none p.2.2 }
  | .Slice l u none p => some ⟨(l, u, p), rfl⟩
  | _ => none
noncomputable def vNot : (x : Expr) → Option { p : UnaryOp × Expr × Pos // x = .UnaryOp p.1 p.2.1 p.2.2 }
  | .UnaryOp o y p => some ⟨(o, y, p), rfl⟩
  | _ => none
noncomputable def vLst : (x : Expr) → Option { p : List Expr × Pos // x = .List p.1 p.2 }
  | .List es p => some ⟨(es, p), rfl⟩
  | _ => none
noncomputable def vAtt : (x : Expr) → Option { p : Expr × Str × Pos // x = .Attribute p.1 p.2.1 p.2.2 }
  | .Attribute z n p => some ⟨(z, n, p), rfl⟩
  | _ => none
noncomputable def vLc : (x : Expr) → Option { p : Expr × Expr × Expr × List Expr × Scope × Pos // x = .ListComp p.1 [⟨p.2.1, p.2.2.1, p.2.2.2.1, 0⟩] p.2.2.2.2.1 p.2.2.2.2.2 }
  | .ListComp elt [⟨tg, iter, ifs, 0⟩] scope p => some ⟨(elt, tg, iter, ifs, scope, p), rfl⟩
  | _ => none
noncomputable def vBo : (x : Expr) → Option { p : PySem.BoolOp × List Expr × Pos // x = .BoolOp p.1 p.2.1 p.2.2 }
  | .BoolOp o vs p => some ⟨(o, vs, p), rfl⟩
  | _ => none
noncomputable def vD0 : (x : Expr) → Option { p : Pos // x = .Dict [] [] p }
  | .Dict [] [] p => some ⟨p, rfl⟩
  | _ => none
noncomputable def vD1 : (x : Expr) → Option { p : Expr × Expr × Pos // x = .Dict [some p.1] [p.2.1] p.2.2 }
  | .Dict [some y] [z] p => some ⟨(y, z, p), rfl⟩
  | _ => none
noncomputable def vJn : (x : Expr) → Option { p : List Expr × Pos // x = .JoinedStr p.1 p.2 }
  | .JoinedStr es p => some ⟨(es, p), rfl⟩
  | _ => none
noncomputable def vFm : (x : Expr) → Option { p : Expr × Pos // x = .FormattedValue p.1 (-1) none p.2 }
  | .FormattedValue e c none p => if h : c = -1 then some ⟨(e, p), by rw [h]⟩ else none
  | _ => none
noncomputable def v1 {α : Type} : (xs : List α) → Option { p : α // xs = [p] }
  | [z] => some ⟨z, rfl⟩
  | _ => none
noncomputable def v2 {α : Type} : (xs : List α) → Option { p : α × α // xs = [p.1, p.2] }
  | [z, z'] => some ⟨(z, z'), rfl⟩
  | _ => none
noncomputable def onV {α : Type} {P : α → Prop} (o : Option { p : α // P p }) (f : α → Bool) : Bool := match o with
  | some p => f p.1
  | none => false
theorem of_onV {α : Type} {P : α → Prop} {o : Option { p : α // P p }} {f : α → Bool} (h : onV o f = true) : ∃ p, P p ∧ f p = true := by
  cases o with
  | none => cases h
  | some p => exact ⟨p.1, p.2, h⟩
structure Chk where
  e : GI → Expr → Bool
  b : PySem.BoolOp → GI → List Expr → Bool
  a : GI → List Expr → Bool
  i : GI → Expr → Bool
  o : GI → Option Expr → Bool
  c : GI → List Expr → Bool
noncomputable def mkC (f : GI → Expr → Bool) : Chk :=
  ⟨f, fun _ g vs => match vs with | [x] => f g x | _ => false, fun _ _ => false, f, fun g o => match o with | some x => f g x | none => false, fun g vs => match vs with | [x] => f g x | _ => false⟩
noncomputable def ckBool (op : PySem.BoolOp) (ca cb : Chk) : GI → List Expr → Bool := fun g vs => match vs with
  | x :: y :: r => ca.e g x && cb.b op g (y :: r)
  | _ => false
noncomputable def ckOpE (op : PySem.BoolOp) (ca cb : Chk) : GI → Expr → Bool := fun g x => onV (vBo x) fun c => c.1 == op && ckBool op ca cb g c.2.1
noncomputable def ckOpB (op : PySem.BoolOp) (ca cb : Chk) : PySem.BoolOp → GI → List Expr → Bool := fun o g vs => if o = op then ckBool op ca cb g vs else match vs with
  | [x] => ckOpE op ca cb g x
  | _ => false
noncomputable def tgNames : Bool → Expr → Option (List Str)
  | false, e => (vNm e).bind fun p => some [p.1.1]
  | true, e => (vTup e).bind fun t => (v2 t.1.1).bind fun p => (vNm p.1.1).bind fun a => (vNm p.1.2).bind fun b => some [a.1.1, b.1.1]
noncomputable def compOkB (g : GI) (scope : Scope) (N : List Str) (k : Nat) (fn : List Str) : Bool :=
  scope.kind == .function && scope.names.all (fun y => !(y.2 == .cell)) && scope.names.all (fun y => !(y.2 == .local) || scope.names.lookup y.1 == some .local)
    && scope.names.all (fun y => !(y.2 == .free) || (g.kd y.1 == some .cell || g.kd y.1 == some .free)) && decide N.Nodup && decide (N.drop k = fn) && decide (N.length = k + fn.length)
    && fn.all (fun y => (g.kd y == some .cell || g.kd y == some .free) && scope.names.lookup y == some .free)
noncomputable def ckComp (two : Bool) (ix : List Nat) (ci cc ce : Chk) : GI → Expr → Bool := fun g x => onV (vLc x) fun c => match tgNames two c.2.1 with
  | some ts => let fn := ix.filterMap fun i => g.N[i]?
    compOkB g c.2.2.2.2.1 (ts ++ fn) ts.length fn && decide (ix.map (fun i => g.N[i]?) = fn.map some) && ts.all (fun y => c.2.2.2.2.1.names.lookup y == some .local) && notSet c.2.2.1 && ci.i g c.2.2.1 && cc.c ⟨ts ++ fn, c.2.2.2.2.1.names⟩ c.2.2.2.1 && ce.e ⟨ts ++ fn, c.2.2.2.2.1.names⟩ c.1
  | none => false

noncomputable def ckR1 (T : TabC) (nm : Str) (f : GI → Expr → Bool) (g : GI) (x : Expr) : Bool := onV (vCall x) fun c => c.2.2.2.1.isEmpty && isBlt T g c.1 && c.1 == nm && notStar c.2.2.1 && f g c.2.2.1
noncomputable def ckR2 (T : TabC) (f f' : GI → Expr → Bool) (g : GI) (x : Expr) : Bool := onV (vCall x) fun c => onV (v1 c.2.2.2.1) fun d => isBlt T g c.1 && c.1 == ("range" : Str) && notStar c.2.2.1 && notStar d && f g c.2.2.1 && f' g d
noncomputable def ckEn (T : TabC) (f : GI → Expr → Bool) (g : GI) (x : Expr) : Bool := onV (vCall x) fun c => onV (v1 c.2.2.2.1) fun d => onV (vCst d) fun n => isBlt T g c.1 && c.1 == ("enumerate" : Str) && notStar c.2.2.1 && (Lit.int 1).ck n.1 && f g c.2.2.1
noncomputable def ckF1 (g : GI) (e : Expr) : FP → Bool
  | .lit w => onV (vCst e) fun c => (Lit.str w).ck c.1
  | .var i => onV (vFm e) fun c => onV (vNm c.1) fun n => g.N[i]? == some n.1 && isVis g n.1
noncomputable def ckF (g : GI) : List FP → List Expr → Bool
  | [], es => es.isEmpty
  | p :: ps, es => match es with
    | e :: es => ckF1 g e p && ckF g ps es
    | [] => false
noncomputable def chkC (T : TabC) : CE → Chk
  | .var i => mkC fun g x => onV (vNm x) fun c => g.N[i]? == some c.1 && isVis g c.1
  | .con l => mkC fun _ x => onV (vCst x) fun c => l.ck c.1
  | .bin op a b => mkC fun g x => onV (vBin x) fun c => c.2.1 == op.op && (chkC T a).e g c.1 && (chkC T b).e g c.2.2.1
  | .cmp op a b => mkC fun g x => onV (vCmp x) fun c => c.2.1 == op.op && notSet c.2.2.1 && (chkC T a).e g c.1 && (chkC T b).e g c.2.2.1
  | .and a b => { mkC (ckOpE .And (chkC T a) (chkC T b)) with b := ckOpB .And (chkC T a) (chkC T b) }
  | .or a b => { mkC (ckOpE .Or (chkC T a) (chkC T b)) with b := ckOpB .Or (chkC T a) (chkC T b) }
  | .not a => mkC fun g x => onV (vNot x) fun c => c.1 == .Not && (chkC T a).e g c.2.1
  | .ite c a b => mkC fun g x => onV (vIfE x) fun t => (chkC T c).e g t.1 && (chkC T a).e g t.2.1 && (chkC T b).e g t.2.2.1
  | .ix a b => mkC fun g x => onV (vSub x) fun c => notSlice c.2.1 && (chkC T a).e g c.1 && (chkC T b).e g c.2.1
  | .sl a lo hi => mkC fun g x => onV (vSub x) fun c => onV (vSl c.2.1) fun s => (chkC T a).e g c.1 && (chkC T lo).o g s.1 && (chkC T hi).o g s.2.1
  | .tup as => mkC fun g x => onV (vTup x) fun c => (chkC T as).a g c.1
  | .lst as => mkC fun g x => onV (vLst x) fun c => (chkC T as).a g c.1
  | .lstz as => mkC fun g x => onV (vLst x) fun c => (chkC T as).a g c.1
  | .frz e => mkC fun g x => (chkC T e).e g x
  | .call f as => mkC fun g x => onV (vCall x) fun c => match T.fn f with
    | some fi => isGlob g c.1 && c.1 == fi.nm && decide (as.len ≤ fi.np) && decide (fi.np - as.len ≤ fi.dds.length) && (chkC T as).a g (c.2.2.1 :: c.2.2.2.1)
    | none => false
  | .blt b as => mkC fun g x => onV (vCall x) fun c => isBlt T g c.1 && c.1 == b.nm && (chkC T as).a g (c.2.2.1 :: c.2.2.2.1)
  | .isi ty e => mkC fun g x => onV (vCall x) fun c => onV (v1 c.2.2.2.1) fun d => onV (vNm d) fun m => isBlt T g c.1 && c.1 == ("isinstance" : Str) && isBlt T g m.1 && (m.1 == (Str.ofString ty.nm)) && !(ty == .non) && notStar c.2.2.1 && (chkC T e).e g c.2.2.1
  | .ml m o as => mkC fun g x => onV (vMeth x) fun c => c.2.1 == m.nm && (c.2.2.1.endLine == c.2.2.2.2.line) && notSup c.1 && (chkC T o).e g c.1 && (chkC T as).a g c.2.2.2.1 && decide (c.2.2.2.1.length < 30)
  | .sortSet as => mkC fun g x => match x with
    | .Call (.Name y _) [.Call (.Name z _) (a :: ar) [] _] [] _ => isBlt T g y && y == ("sorted" : Str) && isBlt T g z && z == ("set" : Str) && (chkC T as).a g (a :: ar)
    | _ => false
  | .comp two ix it c e => mkC (ckComp two ix (chkC T it) (chkC T c) (chkC T e))
  | .compz two ix it c e => mkC (ckComp two ix (chkC T it) (chkC T c) (chkC T e))
  | .rng1 a => { (mkC fun _ _ => false) with
      i := ckR1 T "range" (chkC T a).e }
  | .nil => ⟨fun _ _ => false, fun _ _ _ => false, fun _ es => es.isEmpty, fun _ _ => false, fun _ o => o.isNone, fun _ es => es.isEmpty⟩
  | .cons a as => ⟨fun _ _ => false, fun _ _ _ => false, fun g es => match es with | x :: r => notStar x && (chkC T a).e g x && (chkC T as).a g r | [] => false, fun _ _ => false, fun _ _ => false, fun _ _ => false⟩
noncomputable abbrev chk (T : Tab) (c : CE) : Chk := chkC T.toTabC c
end IR

set_option Elab.async false
set_option linter.all false
set_option maxRecDepth 100000
namespace IR
open PySem PySem.Spec L2 DL
open PyProof.Rows hiding St

structure FRel (X : Cx) (fi : FI) : Prop where
  ex : ∃ (k : Nat) (f : Addr) (fd : FuncData) (ps : List Str), FnOk X.prog X.w X.K X.mg X.base CX0 k f fd ps (lSp X.K fi.sp) ∧ Room k X.A ∧ X.mg fi.nm = some (.ref f) ∧ PySem.W.keepIn X.K (.ref f) = true ∧ ps.length = fi.np ∧
    ∀ j, j ≤ fi.dds.length → ∃ (ds : List Value) (dvs : List V), Binds X.K fd ps ds ∧ Vals dvs ds ∧ ∀ H, Dens X.K H (fi.dds.drop j) dvs
structure KRel (X : Cx) (ki : KI) : Prop where
  ex : ∃ (k : Nat) (f : Addr) (fd : FuncData) (ps : List Str) (gv : List Value → List Value → List Value) (gV : List V → List V → List V), FnOk X.prog X.w X.K X.mg X.base CX0 k f fd ps (lSp X.K ki.sp) ∧ Room k X.A ∧ X.mg ki.nm = some (.ref f) ∧ PySem.W.keepIn X.K (.ref f) = true ∧
    KBinds X.K fd ps ki.ks gv gV ∧ ∀ H ds vs zs ws, Dens X.K H ds vs → Dens X.K H zs ws → Dens X.K H (ki.g ds zs) (gV vs ws)
structure XFRel (X : Cx) (cn : CN) (fi : FX) : Prop where
  ex : ∃ (k : Nat) (f : Addr) (fd : FuncData) (ps : List Str), FnOk X.prog X.w X.K X.mg X.base (CX1 X.prog X.w) k f fd ps (lSpX X.K X.mg cn fi.sp) ∧ Room k X.A ∧ X.mg fi.nm = some (.ref f) ∧ PySem.W.keepIn X.K (.ref f) = true ∧ ps.length = fi.np ∧
    ∀ j, j ≤ fi.dds.length → ∃ (ds : List Value) (dvs : List V), Binds X.K fd ps ds ∧ Vals dvs ds ∧ ∀ H, Dens X.K H (fi.dds.drop j) dvs
noncomputable def IsxOk (K : PySem.W.Frag) (mg : Str → Option Value) (cl : CN) (c : Nat) (nm : Str) (b : Bool) : Prop :=
  ∃ (x : Str) (C : Addr) (u : Value) (v : V), cl c = some x ∧ mg x = some (.ref C) ∧ XLook K C ∧ (mg nm = some u ∨ (mg nm = none ∧ bootBuiltins nm = some u)) ∧ L2.RelV v u ∧ (∀ u', L2.RelV v u' → u' = u) ∧ PySem.W.kitOne K (.ref C) u = some b
structure MRel (X : Cx) (mi : MI) : Prop where
  ex : ∃ (k : Nat) (C f : Addr) (fd : FuncData) (ps : List Str), PySem.W.nsIn X.K mainGlobals mi.cl = some (some (.ref C)) ∧ Cls X.K C ∧ Meth X.K C mi.nm f ∧ FnOk X.prog X.w X.K X.mg X.base CX0 k f fd ps (lSp X.K mi.sp) ∧ Room (k + 1) X.A ∧ Binds X.K fd ps []
structure MkRel (X : Cx) (mi : MI) : Prop where
  ex : ∃ (k : Nat) (C f : Addr) (fd : FuncData) (ps : List Str), PySem.W.nsIn X.K mainGlobals mi.cl = some (some (.ref C)) ∧ X.mg mi.cl = some (.ref C) ∧ Mk X.K C f ∧ FnOk X.prog X.w X.K X.mg X.base CX0 k f fd ps (lSp X.K mi.sp) ∧ Room (k + 1) X.A ∧ Binds X.K fd ps []
noncomputable def FdOk (K : PySem.W.Frag) (c f : Str) : Prop := ∃ C, PySem.W.nsIn K mainGlobals c = some (some (.ref C)) ∧ Cls K C ∧ NoAttr K C f
structure Rel (X : Cx) (T : Tab) (g : GI) : Prop where
  N : X.N = g.N
  nd : g.N.Nodup
  calm : X.calm = true
  gl : ∀ x, g.kd x = some .globalImplicit → X.env.scope.names.lookup x = some .globalImplicit
  lc : ∀ x, g.kd x = some .local → X.env.scope.names.lookup x = some .local
  cf : ∀ x, (g.kd x = some .cell ∨ g.kd x = some .free) → (X.env.scope.names.lookup x = some .cell ∨ X.env.scope.names.lookup x = some .free)
  fns : ∀ f fi, T.fn f = some fi → FRel X fi
  kfs : ∀ f ki, T.kfn f = some ki → KRel X ki
  fxs : ∀ f fi, T.fx f = some fi → XFRel X T.cl fi
  cls : ∀ c x, T.cl c = some x → ∃ C, X.mg x = some (.ref C) ∧ XCls X.K C
  tk : Takes X fun cls _ H => lX X.K X.mg T.cl T.xd cls H
  tp : Top X
  con : ∀ i p, T.con i = some p → ∃ u v, X.mg p.1 = some u ∧ L2.RelV v u ∧ ∀ H, Den X.K H p.2 v
  nob : ∀ x ∈ T.bl, X.mg x = none
  isx : ∀ c nm b, T.isx c nm = some b → IsxOk X.K X.mg T.cl c nm b
  lks : ∀ x ∈ T.lk, ∃ C, X.mg x = some (.ref C) ∧ XLook X.K C
  mts : ∀ f mi, T.mt f = some mi → MRel X mi
  mks : ∀ f mi, T.ini f = some mi → MkRel X mi
  fds : ∀ p ∈ T.fd, FdOk X.K p.1 p.2
  un : X.A.units + 100 < cLine

section
variable {X : Cx} {T : Tab} {g : GI} {e : Expr} {es : List Expr} {env : Env}
theorem star_cons (h : notStar e = true) : starEach (e :: es) env = (false, eval e env) :: starEach es env := by
  cases e <;> first | rfl | cases h
theorem star_any {pos : Pos} : ∀ {es : List Expr}, es.all notStar = true → (backTo pos (starEach es env)).any (·.1) = false
  | [], _ => rfl
  | e :: r, h => by
    rw [List.all_cons, Bool.and_eq_true] at h
    rw [star_cons h.1]
    have ih := star_any (pos := pos) h.2
    unfold backTo at ih ⊢
    simp only [List.map_cons, List.any_cons, ih, Bool.false_or]
theorem star_few {pos : Pos} : ∀ {es : List Expr}, es.all notStar = true → (backTo pos (starEach es env)).all (fun x => !x.1) = true
  | [], _ => rfl
  | e :: r, h => by
    rw [List.all_cons, Bool.and_eq_true] at h
    rw [star_cons h.1]
    have ih := star_few (pos := pos) h.2
    unfold backTo at ih ⊢
    simp only [List.map_cons, List.all_cons, ih, Bool.not_false, Bool.true_and]
theorem sup_base {n : Str} (h : notSup e = true) : attributeBase e n env (eval e env) = eval e env := by
  unfold attributeBase
  split
  · rename_i q
    cases q
    cases h
  · rfl
theorem set_marks {op : CmpOp} (h : notSet e = true) : behindInMarks op e = false := by
  cases e <;> first | rfl | cases h
theorem set_fold (h : notSet e = true) (x : Value) : foldedSetIterable e env x = pure x := by
  cases e <;> first | rfl | cases h
theorem slice_plain (h : notSlice e = true) : PlainIx e := by
  intro o i
  cases e <;> first | rfl | cases h

theorem Rel.glob (R : Rel X T g) {x : Str} (h : isGlob g x = true) : Gl X x ∧ (x == ("__debug__" : Str)) = false ∧ x ≠ "__name__" := by
  unfold isGlob at h
  simp only [Bool.and_eq_true, beq_iff_eq, Bool.not_eq_true'] at h
  refine ⟨R.gl x h.1.1, h.1.2, fun e => ?_⟩
  have q := h.2
  rw [e] at q
  simp at q
theorem Rel.blt (R : Rel X T g) {x : Str} (h : isBlt T.toTabC g x = true) : Gl X x ∧ (x == ("__debug__" : Str)) = false ∧ x ≠ "__name__" ∧ X.mg x = none := by
  unfold isBlt at h
  rw [Bool.and_eq_true] at h
  obtain ⟨a, b, c⟩ := R.glob h.1
  exact ⟨a, b, c, R.nob x (by simpa using h.2)⟩
theorem Rel.vis (R : Rel X T g) {x : Str} (h : isVis g x = true) : Vis X.env.scope x ∧ (x == ("__debug__" : Str)) = false ∧ (x == ("__classdict__" : Str)) = false := by
  unfold isVis at h
  simp only [Bool.and_eq_true, Bool.or_eq_true, beq_iff_eq, Bool.not_eq_true'] at h
  refine ⟨?_, h.1.2, h.2⟩
  rcases h.1.1 with (h | h) | h
  · exact .inl (R.lc x h)
  · rcases R.cf x (.inl h) with q | q
    · exact .inr (.inl q)
    · exact .inr (.inr q)
  · rcases R.cf x (.inr h) with q | q
    · exact .inr (.inl q)
    · exact .inr (.inr q)

theorem relabel_keep {env : Env} {k : NameKind} (hk : k ≠ .free) : ∀ {names : List (Str × NameKind)} {x : Str}, names.lookup x = some k →
    (names.map fun (n, k) => if (k == NameKind.free && env.scope.kind == .function && env.kindOf n == some .cell) then (n, NameKind.cell) else (n, k)).lookup x = some k
  | [], _, h => by simp at h
  | (n, j) :: r, x, h => by
    have ih := @relabel_keep env k hk r x
    rw [List.map_cons]
    dsimp only
    rw [List.lookup_cons] at h
    by_cases hx : x = n
    · subst hx
      simp only [beq_self_eq_true] at h
      cases h
      have hc : ¬ (k == NameKind.free && env.scope.kind == .function && env.kindOf x == some .cell) = true := by
        intro q
        simp only [Bool.and_eq_true, beq_iff_eq] at q
        exact hk q.1.1
      rw [if_neg hc]
      simp [List.lookup_cons]
    · have hne : (x == n) = false := by simpa using hx
      rw [hne] at h
      have ih' := ih h
      by_cases hc : (j == NameKind.free && env.scope.kind == .function && env.kindOf n == some .cell) = true
      · rw [if_pos hc]; simp only [List.lookup_cons, hne]; exact ih'
      · rw [if_neg hc]; simp only [List.lookup_cons, hne]; exact ih'
theorem compOk_of (R : Rel X T g) {scope : Scope} {N fn : List Str} {k : Nat} (h : compOkB g scope N k fn = true) : CompOk X.env.scope scope N k fn := by
  unfold compOkB at h
  simp only [Bool.and_eq_true, beq_iff_eq, List.all_eq_true, Bool.not_eq_true', Bool.or_eq_true, decide_eq_true_eq, beq_eq_false_iff_ne, ne_eq] at h
  obtain ⟨⟨⟨⟨⟨⟨⟨h1, h2⟩, h3⟩, h4⟩, h5⟩, h6⟩, h7⟩, h8⟩ := h
  refine ⟨h1, fun y hy => h2 y hy, fun y hy e => ?_, fun y hy e => ?_, h5, h6, h7, fun y hy => ?_⟩
  · rcases h3 y hy with q | q
    · exact absurd e q
    · exact q
  · rcases h4 y hy with q | q
    · exact absurd e q
    · exact R.cf y.1 q
  · exact ⟨R.cf y (h8 y hy).1, (h8 y hy).2⟩
theorem Rel.comp (R : Rel X T g) {scope : Scope} {N fn : List Str} {k : Nat} (h : compOkB g scope N k fn = true) (cl : List (Str × Addr)) (C : Addr) (s₀ : Shared) (H₀ : Hp) (ex : List Addr) (E : Value → Shared → Prop) (hE : Takes (cxComp X scope N cl C s₀ H₀ ex E) fun cls _ H => lX X.K X.mg T.cl T.xd cls H) : Rel (cxComp X scope N cl C s₀ H₀ ex E) T ⟨N, scope.names⟩ where
  N := rfl
  nd := (compOk_of R h).nd
  calm := R.calm
  gl := fun x e => relabel_keep (k := .globalImplicit) (by decide) e
  lc := fun x e => relabel_keep (k := .local) (by decide) e
  cf := fun x e => by
    rcases e with e | e
    · exact .inl (relabel_keep (k := .cell) (by decide) e)
    · exact relabel_free e
  fns := fun f fi e => ⟨(R.fns f fi e).ex⟩
  kfs := fun f ki e => ⟨(R.kfs f ki e).ex⟩
  fxs := fun f fi e => ⟨(R.fxs f fi e).ex⟩
  cls := R.cls
  tk := hE
  tp := ⟨R.tp.ex⟩
  con := R.con
  nob := R.nob
  isx := R.isx
  lks := R.lks
  mts := fun f mi e => ⟨(R.mts f mi e).ex⟩
  mks := fun f mi e => ⟨(R.mks f mi e).ex⟩
  fds := R.fds
  un := R.un
end

structure Snd (T : Tab) (c : CE) : Prop where
  e : ∀ {X : Cx} {g : GI}, Rel X T g → ∀ {x : Expr}, (chk T c).e g x = true → DE X x (ev T c).e
  t : ∀ {X : Cx} {g : GI}, Rel X T g → ∀ {x : Expr}, (chk T c).e g x = true → DT X x (ev T c).t
  be : ∀ {X : Cx} {g : GI}, Rel X T g → ∀ {op : PySem.BoolOp} {vs : List Expr} {pos : Pos}, (chk T c).b op g vs = true → DE X (.BoolOp op vs pos) (ev T c).e
  bt : ∀ {X : Cx} {g : GI}, Rel X T g → ∀ {op : PySem.BoolOp} {vs : List Expr} {pos : Pos}, (chk T c).b op g vs = true → DW X (.BoolOp op vs pos) (ev T c).t
  a : ∀ {X : Cx} {g : GI}, Rel X T g → ∀ {es : List Expr}, (chk T c).a g es = true → DA X es (ev T c).a ∧ es.all notStar = true ∧ es.length = c.len
  i : ∀ {X : Cx} {g : GI}, Rel X T g → ∀ {x tg : Expr}, (chk T c).i g x = true → DI X tg x (ev T c).i
  o : ∀ {X : Cx} {g : GI}, Rel X T g → ∀ {x : Option Expr}, (chk T c).o g x = true → DO X x (ev T c).o
  k : ∀ {X : Cx} {g : GI}, Rel X T g → ∀ {kws : List Keyword}, (chk T c).a g (kws.map (·.value)) = true → DKw X kws (ev T c).a
  c : ∀ {X : Cx} {g : GI}, Rel X T g → ∀ {xs : List Expr}, (chk T c).c g xs = true → DIfs X xs (ev T c).t

section
variable {T : Tab} {c : CE} {f : GI → Expr → Bool} {t : DTE} {u : DTT}
theorem dt_bot {X : Cx} {x : Expr} : DT X x botT := fun _ _ _ _ _ _ ⟨_, _, _, _, _, h, _⟩ => h.elim
theorem dw_one {X : Cx} {x : Expr} {op : PySem.BoolOp} {pos : Pos} (h : DT X x u) : DW X (.BoolOp op [x] pos) u := by
  cases op
  · exact dw_and1 h
  · exact dw_or1 h
theorem Snd.of (hc : chk T c = mkC f) (hv : ev T c = { mkE t with t := u }) (h : ∀ {X : Cx} {g : GI}, Rel X T g → ∀ {x : Expr}, f g x = true → DE X x t ∧ DT X x u) : Snd T c where
  e := fun R x q => by rw [hc] at q; rw [hv]; exact (h R q).1
  t := fun R x q => by rw [hc] at q; rw [hv]; exact (h R q).2
  be := fun {X g} R {op vs pos} q => by
    rw [hc] at q
    rw [hv]
    match vs, q with
    | [x], q => exact de_one (h R (show f g x = true from q)).1
  bt := fun {X g} R {op vs pos} q => by
    rw [hc] at q
    rw [hv]
    match vs, q with
    | [x], q => exact dw_one (h R (show f g x = true from q)).2
  a := fun R es q => by rw [hc] at q; cases q
  k := fun R kws q => by rw [hc] at q; cases q
  i := fun {X g} R {x tg} q => by
    rw [hc] at q
    rw [hv]
    exact di_any (h R (show f g x = true from q)).1
  o := fun {X g} R {x} q => by
    rw [hc] at q
    rw [hv]
    match x, q with
    | some x, q => exact do_some (h R (show f g x = true from q)).1
  c := fun {X g} R {xs} q => by
    rw [hc] at q
    rw [hv]
    match xs, q with
    | [x], q => exact difs_one (h R (show f g x = true from q)).2
end
end IR

set_option Elab.async false
set_option linter.all false
set_option maxRecDepth 100000
namespace IR
open PySem PySem.Spec L2 DL
open PyProof.Rows hiding St
section
variable {T : Tab} {X : Cx} {g : GI} {x : Expr}
theorem dtv {t : DTE} (h : DE X x t) (he : ∀ whole, isTrue x X.env whole = (do let v ← whole; standAt x.pos; holding [v] (truthy v))) : DE X x t ∧ DT X x (dB t) := ⟨h, dt_val h he⟩

theorem snd_var {i : Nat} : Snd T (.var i) := by
  refine Snd.of (u := dB (dVar i)) rfl rfl fun {X g} R {x} q => ?_
  have qv := of_onV q
  clear q
  obtain ⟨⟨y, p⟩, rfl, q⟩ := qv
  dsimp only at q ⊢
  rw [Bool.and_eq_true, beq_iff_eq] at q
  obtain ⟨v1, v2, v3⟩ := R.vis q.2
  exact dtv (dv i (by rw [R.N]; exact q.1) v1 v2 v3) fun _ => rfl
theorem snd_con {l : Lit} : Snd T (.con l) := by
  refine Snd.of (u := dB (dC l.d)) rfl rfl fun {X g} R {x} q => ?_
  have qv := of_onV q
  clear q
  obtain ⟨⟨c, k, p⟩, rfl, q⟩ := qv
  dsimp only at q ⊢
  refine dtv ?_ fun _ => rfl
  cases l with
  | non => cases c <;> first | exact de_non | cases q
  | bl b => cases c <;> first | cases q | skip
            rename_i c'
            have q' : b = c' := by simpa [Lit.ck] using q
            subst q'
            exact de_bl
  | int b => cases c <;> first | cases q | skip
             rename_i c'
             have q' : b = c' := by simpa [Lit.ck] using q
             subst q'
             exact de_int
  | str b => cases c <;> first | cases q | skip
             rename_i y
             unfold Lit.ck at q
             rw [Bool.and_eq_true, beq_iff_eq] at q
             obtain ⟨q1, q2⟩ := q
             subst q1
             exact de_str q2
theorem snd_bin {op : Bn} {a b : CE} (ha : Snd T a) (hb : Snd T b) : Snd T (.bin op a b) := by
  refine Snd.of (u := dB (dOp op.r (ev T a).e (ev T b).e)) rfl rfl fun {X g} R {x} q => ?_
  have qv := of_onV q
  clear q
  obtain ⟨⟨l, o, r, p⟩, rfl, q⟩ := qv
  dsimp only at q ⊢
  simp only [Bool.and_eq_true, beq_iff_eq] at q
  obtain ⟨⟨rfl, q1⟩, q2⟩ := q
  exact dtv (de_op (Bn.ok op) (ha.e R q1) (hb.e R q2)) fun _ => rfl
theorem snd_cmp {op : Cp} {a b : CE} (ha : Snd T a) (hb : Snd T b) : Snd T (.cmp op a b) := by
  refine Snd.of (u := dB (dOp op.r (ev T a).e (ev T b).e)) rfl rfl fun {X g} R {x} q => ?_
  have qv := of_onV q
  clear q
  obtain ⟨⟨l, o, r, p⟩, rfl, q⟩ := qv
  dsimp only at q ⊢
  simp only [Bool.and_eq_true, beq_iff_eq] at q
  obtain ⟨⟨⟨rfl, q0⟩, q1⟩, q2⟩ := q
  exact ⟨de_cmp (Cp.ok R.un op) (ha.e R q1) (hb.e R q2) (set_marks q0), dt_cmp (Cp.ok R.un op) (ha.e R q1) (hb.e R q2) (set_marks q0)⟩
theorem bool_and {a b : CE} (ha : Snd T a) (hb : Snd T b) (R : Rel X T g) {vs : List Expr} {pos : Pos} (q : ckBool .And (chk T a) (chk T b) g vs = true) :
    DE X (.BoolOp .And vs pos) (dAndV (ev T a).e (ev T b).e) ∧ DW X (.BoolOp .And vs pos) (dAnd (ev T a).t (ev T b).t) := by
  unfold ckBool at q
  split at q
  · rw [Bool.and_eq_true] at q
    exact ⟨de_and (ha.e R q.1) (hb.be R q.2), dw_and (ha.t R q.1) (hb.bt R q.2)⟩
  · cases q
theorem bool_or {a b : CE} (ha : Snd T a) (hb : Snd T b) (R : Rel X T g) {vs : List Expr} {pos : Pos} (q : ckBool .Or (chk T a) (chk T b) g vs = true) :
    DE X (.BoolOp .Or vs pos) (dOrV (ev T a).e (ev T b).e) ∧ DW X (.BoolOp .Or vs pos) (dOr (ev T a).t (ev T b).t) := by
  unfold ckBool at q
  split at q
  · rw [Bool.and_eq_true] at q
    exact ⟨de_or (ha.e R q.1) (hb.be R q.2), dw_or (ha.t R q.1) (hb.bt R q.2)⟩
  · cases q
theorem snd_and {a b : CE} (ha : Snd T a) (hb : Snd T b) : Snd T (.and a b) := by
  have base : ∀ {X : Cx} {g : GI}, Rel X T g → ∀ {x : Expr}, ckOpE .And (chk T a) (chk T b) g x = true → DE X x (dAndV (ev T a).e (ev T b).e) ∧ DT X x (dAnd (ev T a).t (ev T b).t) := fun {X g} R {x} q => by
    have qv := of_onV q
    clear q
    obtain ⟨⟨o, vs, p⟩, rfl, q⟩ := qv
    dsimp only at q ⊢
    rw [Bool.and_eq_true, beq_iff_eq] at q
    obtain ⟨rfl, q⟩ := q
    obtain ⟨h1, h2⟩ := bool_and ha hb R (pos := _) q
    exact ⟨h1, h2.dt⟩
  have bs : ∀ {X : Cx} {g : GI}, Rel X T g → ∀ {op : PySem.BoolOp} {vs : List Expr} {pos : Pos}, ckOpB .And (chk T a) (chk T b) op g vs = true → DE X (.BoolOp op vs pos) (dAndV (ev T a).e (ev T b).e) ∧ DW X (.BoolOp op vs pos) (dAnd (ev T a).t (ev T b).t) := fun {X g} R {op vs pos} q => by
    unfold ckOpB at q
    split at q
    · rename_i e
      subst e
      exact bool_and ha hb R q
    · split at q
      · obtain ⟨h1, h2⟩ := base R q
        exact ⟨de_one h1, dw_one h2⟩
      · cases q
  exact {
    e := fun R _ q => (base R q).1
    t := fun R _ q => (base R q).2
    be := fun R _ _ _ q => (bs R q).1
    bt := fun R _ _ _ q => (bs R q).2
    a := fun R _ q => nomatch q
    k := fun R _ q => nomatch q
    i := fun R _ _ q => di_any (base R q).1
    o := fun {X g} R {x} q => by match x, q with | some x, q => exact do_some (base R q).1
    c := fun {X g} R {xs} q => by match xs, q with | [x], q => exact difs_one (base R q).2 }
theorem snd_or {a b : CE} (ha : Snd T a) (hb : Snd T b) : Snd T (.or a b) := by
  have base : ∀ {X : Cx} {g : GI}, Rel X T g → ∀ {x : Expr}, ckOpE .Or (chk T a) (chk T b) g x = true → DE X x (dOrV (ev T a).e (ev T b).e) ∧ DT X x (dOr (ev T a).t (ev T b).t) := fun {X g} R {x} q => by
    have qv := of_onV q
    clear q
    obtain ⟨⟨o, vs, p⟩, rfl, q⟩ := qv
    dsimp only at q ⊢
    rw [Bool.and_eq_true, beq_iff_eq] at q
    obtain ⟨rfl, q⟩ := q
    obtain ⟨h1, h2⟩ := bool_or ha hb R (pos := _) q
    exact ⟨h1, h2.dt⟩
  have bs : ∀ {X : Cx} {g : GI}, Rel X T g → ∀ {op : PySem.BoolOp} {vs : List Expr} {pos : Pos}, ckOpB .Or (chk T a) (chk T b) op g vs = true → DE X (.BoolOp op vs pos) (dOrV (ev T a).e (ev T b).e) ∧ DW X (.BoolOp op vs pos) (dOr (ev T a).t (ev T b).t) := fun {X g} R {op vs pos} q => by
    unfold ckOpB at q
    split at q
    · rename_i e
      subst e
      exact bool_or ha hb R q
    · split at q
      · obtain ⟨h1, h2⟩ := base R q
        exact ⟨de_one h1, dw_one h2⟩
      · cases q
  exact {
    e := fun R _ q => (base R q).1
    t := fun R _ q => (base R q).2
    be := fun R _ _ _ q => (bs R q).1
    bt := fun R _ _ _ q => (bs R q).2
    a := fun R _ q => nomatch q
    k := fun R _ q => nomatch q
    i := fun R _ _ q => di_any (base R q).1
    o := fun {X g} R {x} q => by match x, q with | some x, q => exact do_some (base R q).1
    c := fun {X g} R {xs} q => by match xs, q with | [x], q => exact difs_one (base R q).2 }
theorem snd_not {a : CE} (ha : Snd T a) : Snd T (.not a) := by
  refine Snd.of (u := dNot (ev T a).t) rfl rfl fun {X g} R {x} q => ?_
  have qv := of_onV q
  clear q
  obtain ⟨⟨uo, y, p⟩, rfl, q⟩ := qv
  dsimp only at q ⊢
  rw [Bool.and_eq_true] at q
  obtain ⟨q0, q⟩ := q
  cases beq_iff_eq.mp q0
  exact ⟨de_not (ha.e R q), dt_not (ha.t R q)⟩
theorem snd_ite {c a b : CE} (hc : Snd T c) (ha : Snd T a) (hb : Snd T b) : Snd T (.ite c a b) := by
  refine Snd.of (u := botT) rfl rfl fun {X g} R {x} q => ?_
  have qv := of_onV q
  clear q
  obtain ⟨⟨y, z, z2, p⟩, rfl, q⟩ := qv
  dsimp only at q ⊢
  simp only [Bool.and_eq_true] at q
  exact ⟨de_ifExp (hc.t R q.1.1) (ha.e R q.1.2) (hb.e R q.2), dt_bot⟩
theorem snd_ix {a b : CE} (ha : Snd T a) (hb : Snd T b) : Snd T (.ix a b) := by
  refine Snd.of (u := dB (dOp rIxD (ev T a).e (ev T b).e)) rfl rfl fun {X g} R {x} q => ?_
  have qv := of_onV q
  clear q
  obtain ⟨⟨y, z, p⟩, rfl, q⟩ := qv
  dsimp only at q ⊢
  simp only [Bool.and_eq_true] at q
  exact dtv (de_ix (ha.e R q.1.2) (hb.e R q.2) (slice_plain q.1.1)) fun _ => rfl
theorem snd_sl {a lo hi : CE} (ha : Snd T a) (hl : Snd T lo) (hh : Snd T hi) : Snd T (.sl a lo hi) := by
  refine Snd.of (u := dB (dSl (ev T a).e (ev T lo).o (ev T hi).o)) rfl rfl fun {X g} R {x} q => ?_
  have qv := of_onV q
  clear q
  obtain ⟨⟨y, z, p⟩, rfl, q⟩ := qv
  have qv := of_onV q
  clear q
  obtain ⟨⟨sl, su, sp⟩, e, q⟩ := qv
  dsimp only at e q ⊢
  subst e
  simp only [Bool.and_eq_true] at q
  exact dtv (de_slice (ha.e R q.1.1) (hl.o R q.1.2) (hh.o R q.2)) fun _ => rfl
theorem snd_tup {as : CE} (ha : Snd T as) : Snd T (.tup as) := by
  refine Snd.of (u := dB (dTup (ev T as).a)) rfl rfl fun {X g} R {x} q => ?_
  have qv := of_onV q
  clear q
  obtain ⟨⟨es, k, p⟩, rfl, q⟩ := qv
  dsimp only at q ⊢
  exact dtv (de_tup (ha.a R q).1) fun _ => rfl
theorem snd_lst {as : CE} (ha : Snd T as) : Snd T (.lst as) := by
  refine Snd.of (u := dB (dLst (ev T as).a)) rfl rfl fun {X g} R {x} q => ?_
  have qv := of_onV q
  clear q
  obtain ⟨⟨es, p⟩, rfl, q⟩ := qv
  dsimp only at q ⊢
  exact dtv (de_lst (ha.a R q).1) fun _ => rfl
theorem snd_lstz {as : CE} (ha : Snd T as) : Snd T (.lstz as) := by
  refine Snd.of (u := dB (dLstZ (ev T as).a)) rfl rfl fun {X g} R {x} q => ?_
  have qv := of_onV q
  clear q
  obtain ⟨⟨es, p⟩, rfl, q⟩ := qv
  dsimp only at q ⊢
  exact dtv (de_lstz (ha.a R q).1) fun _ => rfl
theorem snd_frz {a : CE} (ha : Snd T a) : Snd T (.frz a) :=
  Snd.of (u := botT) rfl rfl fun {X g} R {x} q => ⟨de_frz (ha.e R q), dt_bot⟩
theorem snd_call {f : Nat} {as : CE} (ha : Snd T as) : Snd T (.call f as) := by
  refine Snd.of (u := dB (match T.fn f with | some fi => dCall fi.sp (fi.dds.drop (fi.dds.length - (fi.np - as.len))) (ev T as).a | none => botE)) rfl rfl fun {X g} R {x} q => ?_
  have qv := of_onV q
  clear q
  obtain ⟨⟨y, p, z, zs, pp⟩, rfl, q⟩ := qv
  dsimp only at q ⊢
  cases e : T.fn f with
  | none => rw [e] at q; cases q
  | some fi =>
    rw [e] at q
    simp only [Bool.and_eq_true, beq_iff_eq, decide_eq_true_eq] at q
    obtain ⟨⟨⟨⟨q1, rfl⟩, q2⟩, q3⟩, q4⟩ := q
    obtain ⟨g1, g2, g3⟩ := R.glob q1
    obtain ⟨k, fa, fd, ps, F, hr, hm, hk, hl, hd⟩ := (R.fns f fi e).ex
    obtain ⟨ds, dvs, b1, b2, b3⟩ := hd (fi.dds.length - (fi.np - as.len)) (Nat.sub_le _ _)
    obtain ⟨a1, a2, a3⟩ := ha.a R q4
    rw [List.all_cons, Bool.and_eq_true] at a2
    exact dtv (de_call F hr g1 hm hk b1 b2 b3 (E := E0) pass0 a1 g2 (star_cons a2.1) (star_any a2.2)) fun _ => rfl
theorem snd_blt {b : Bl} {as : CE} (ha : Snd T as) : Snd T (.blt b as) := by
  refine Snd.of (u := dB (dCB b.r (ev T as).a)) rfl rfl fun {X g} R {x} q => ?_
  have qv := of_onV q
  clear q
  obtain ⟨⟨y, p, z, zs, pp⟩, rfl, q⟩ := qv
  dsimp only at q ⊢
  simp only [Bool.and_eq_true, beq_iff_eq] at q
  obtain ⟨⟨q1, rfl⟩, q2⟩ := q
  obtain ⟨g1, g2, g3, g4⟩ := R.blt q1
  obtain ⟨a1, a2, a3⟩ := ha.a R q2
  rw [List.all_cons, Bool.and_eq_true] at a2
  refine dtv ?_ fun _ => rfl
  cases b with
  | len => exact de_callB cd_len g1 g4 (by rfl) a1 g3 g2 (star_cons a2.1) (star_any a2.2)
  | list => exact de_callTy cd_list g1 g4 (by rfl) a1 g3 g2 (star_cons a2.1) (star_any a2.2)
  | min => exact de_callB (cd_min R.calm) g1 g4 (by rfl) a1 g3 g2 (star_cons a2.1) (star_any a2.2)
theorem boot_ty (y : Ty) (h : y ≠ .non) : bootBuiltins (Str.ofString y.nm) = some (.type y.nm) := by
  cases y <;> first | exact absurd rfl h | rfl
theorem snd_isi {y : Ty} {a : CE} (ha : Snd T a) : Snd T (.isi y a) := by
  refine Snd.of (u := dB (dIsI y (ev T a).e)) rfl rfl fun {X g} R {x} q => ?_
  have qv := of_onV q
  clear q
  obtain ⟨⟨n, p, z, zs, pos⟩, rfl, q⟩ := qv
  have qv := of_onV q
  clear q
  obtain ⟨d, e, q⟩ := qv
  dsimp only at e
  subst e
  have qv := of_onV q
  clear q
  obtain ⟨⟨n', p3⟩, rfl, q⟩ := qv
  dsimp only at q ⊢
  simp only [Bool.and_eq_true, beq_iff_eq, Bool.not_eq_true', beq_eq_false_iff_ne, ne_eq] at q
  obtain ⟨⟨⟨⟨⟨⟨q1, rfl⟩, q2⟩, rfl⟩, q3⟩, q4⟩, q5⟩ := q
  obtain ⟨g1, g2, g3, g4⟩ := R.blt q1
  obtain ⟨k1, k2, k3, k4⟩ := R.blt q2
  exact dtv (de_isi y q3 (boot_ty y q3) (ha.e R q5) g1 g4 k1 k4 k3 k2 (star_cons q4) (star_cons rfl) (star_any rfl)) fun _ => rfl
theorem few_ok {es : List Expr} {env : Env} {cp : Pos} (h : es.all notStar = true) (hl : es.length < 30) : ((backTo cp (starEach es env)).all (fun x => !x.1) && (backToKw cp (keywordEach [] env)).all (fun x => x.1.isSome)
      && decide (es.length + ([] : List Keyword).length + (if ([] : List Keyword).isEmpty then 0 else 1) < 30)) = true := by
  rw [star_few h]
  simp [keywordEach, backToKw, hl]
theorem nil_of {as : CE} (h : (chk T as).a g [] = true) : as = .nil := by
  cases as <;> first | rfl | exact Bool.noConfusion (show false = true from h)
theorem snd_ml {m : Ml} {o as : CE} (ho : Snd T o) (ha : Snd T as) : Snd T (.ml m o as) := by
  refine Snd.of (u := dB (dML m.r (ev T o).e (ev T as).a)) rfl rfl fun {X g} R {x} q => ?_
  have qv := of_onV q
  clear q
  obtain ⟨⟨z, n, ap, es, cp⟩, rfl, q⟩ := qv
  dsimp only at q ⊢
  simp only [Bool.and_eq_true, decide_eq_true_eq] at q
  obtain ⟨⟨⟨⟨⟨q0, q1⟩, q2⟩, q3⟩, q4⟩, q5⟩ := q
  obtain rfl : n = m.nm := by simpa using q0
  obtain ⟨a1, a2, a3⟩ := ha.a R q4
  refine dtv ?_ fun _ => rfl
  cases es with
  | nil =>
    obtain rfl := nil_of q4
    cases m with
    | append => exact de_ml0 PySem.F.slot_list_append PySem.F.type_list_append md_append (ho.e R q3) (sup_base q2) q1
  | cons e es =>
    have a2' := a2
    rw [List.all_cons, Bool.and_eq_true] at a2'
    cases m with
    | append => exact de_ml PySem.F.slot_list_append PySem.F.type_list_append md_append (ho.e R q3) a1 (sup_base q2) (few_ok a2 q5) q1 (star_cons a2'.1) (star_any a2'.2)

theorem snd_sortSet {as : CE} (ha : Snd T as) : Snd T (.sortSet as) := by
  refine Snd.of (u := dB (dCB rSortSet (ev T as).a)) rfl rfl fun {X g} R {x} q => ?_
  split at q
  · rename_i y p z p' a ar pos' pos
    simp only [Bool.and_eq_true, beq_iff_eq] at q
    obtain ⟨⟨⟨⟨q1, rfl⟩, q2⟩, rfl⟩, q3⟩ := q
    obtain ⟨g1, g2, g3, g4⟩ := R.blt q1
    obtain ⟨k1, k2, k3, k4⟩ := R.blt q2
    obtain ⟨a1, a2, a3⟩ := ha.a R q3
    rw [List.all_cons, Bool.and_eq_true] at a2
    exact dtv (de_sortSet R.calm (Nat.lt_of_le_of_lt (Nat.add_le_add_left (by decide) _) R.un) g1 g4 k1 k4 a1 (star_cons a2.1) (star_any a2.2)) fun _ => rfl
  · cases q
theorem comp_parts {two : Bool} {ix : List Nat} {it c e : CE} (hi : Snd T it) (hc : Snd T c) (he : Snd T e) (R : Rel X T g) (q : ckComp two ix (chk T it) (chk T c) (chk T e) g x = true) :
    ∃ elt tg iter ifs scope pos ts fn gV, x = .ListComp elt [⟨tg, iter, ifs, 0⟩] scope pos ∧ Unp X.K ts.length (unpOf two) gV ∧ CompOk X.env.scope scope (ts ++ fn) ts.length fn ∧ ix.map (fun i => X.N[i]?) = fn.map some ∧ DI X tg iter (ev T it).i ∧
      (∀ cl C s₀ H₀ ex E, PG (cxComp X scope (ts ++ fn) cl C s₀ H₀ ex E) tg gV) ∧ (∀ cl C s₀ H₀ ex E, Takes (cxComp X scope (ts ++ fn) cl C s₀ H₀ ex E) (fun cls _ H => lX X.K X.mg T.cl T.xd cls H) → DIfs (cxComp X scope (ts ++ fn) cl C s₀ H₀ ex E) ifs (ev T c).t) ∧ (∀ cl C s₀ H₀ ex E, Takes (cxComp X scope (ts ++ fn) cl C s₀ H₀ ex E) (fun cls _ H => lX X.K X.mg T.cl T.xd cls H) → DE (cxComp X scope (ts ++ fn) cl C s₀ H₀ ex E) elt (ev T e).e) ∧
      (∀ y, foldedSetIterable iter X.env y = pure y) := by
  have qv := of_onV q
  clear q
  obtain ⟨⟨elt, tg, iter, ifs, scope, pos⟩, rfl, q⟩ := qv
  dsimp only at q ⊢
  · cases et : tgNames two tg with
    | none => rw [et] at q; cases q
    | some ts =>
      rw [et] at q
      dsimp only at q ⊢
      simp only [Bool.and_eq_true, decide_eq_true_eq] at q
      obtain ⟨⟨⟨⟨⟨⟨q1, q2⟩, q3⟩, q4⟩, q5⟩, q6⟩, q7⟩ := q
      have ok := compOk_of R q1
      have Rc := fun cl C s₀ H₀ ex E hE => R.comp q1 cl C s₀ H₀ ex E hE
      have loc : ∀ cl C s₀ H₀ ex E, ∀ (i : Nat) (y : Str) (p : Pos), ts[i]? = some y → PG (cxComp X scope (ts ++ ix.filterMap fun i => g.N[i]?) cl C s₀ H₀ ex E) (.Name y p) (gName i) := fun cl C s₀ H₀ ex E i y p hy => by
        have hm : y ∈ ts := List.mem_of_getElem? hy
        have hl : scope.names.lookup y = some .local := by simpa using (List.all_eq_true.mp q3) y hm
        have hl2 : (compEnvC scope cl C X.env).scope.names.lookup y = some .local := relabel_keep (k := .local) (by decide) hl
        exact pg_name ok.nd (by
          show (ts ++ _)[i]? = some y
          rw [List.getElem?_append_left (List.getElem?_eq_some_iff.mp hy).1]; exact hy) (.inl hl2) (.inr hl2)
      cases two with
      | false =>
        obtain ⟨⟨⟨y, p⟩, e0⟩, _, et⟩ := Option.bind_eq_some_iff.mp et
        cases e0
        cases et
        exact ⟨_, _, _, _, _, _, [y], _, gName 0, rfl, unp1, ok, by rw [R.N]; exact q2, hi.i R q5, fun cl C s₀ H₀ ex E => loc cl C s₀ H₀ ex E 0 y p rfl, fun cl C s₀ H₀ ex E hE => hc.c (Rc cl C s₀ H₀ ex E hE) q6, fun cl C s₀ H₀ ex E hE => he.e (Rc cl C s₀ H₀ ex E hE) q7, set_fold q4⟩
      | true =>
        obtain ⟨⟨⟨es, k', pp⟩, e0⟩, _, et⟩ := Option.bind_eq_some_iff.mp et
        obtain ⟨⟨⟨a, b⟩, e1⟩, _, et⟩ := Option.bind_eq_some_iff.mp et
        obtain ⟨⟨⟨y, p⟩, e2⟩, _, et⟩ := Option.bind_eq_some_iff.mp et
        obtain ⟨⟨⟨y', p'⟩, e3⟩, _, et⟩ := Option.bind_eq_some_iff.mp et
        dsimp only at e0 e1 e2 e3
        subst e2 e3
        subst e1
        cases e0
        cases et
        exact ⟨_, _, _, _, _, _, [y, y'], _, gTup X.K 2 (gCons (gName 0) (gCons (gName 1) gNil)), rfl, unp2, ok, by rw [R.N]; exact q2, hi.i R q5,
          fun cl C s₀ H₀ ex E => pg_tup R.calm (pgs_cons (loc cl C s₀ H₀ ex E 0 y p rfl) (pgs_cons (loc cl C s₀ H₀ ex E 1 y' p' rfl) pgs_nil)), fun cl C s₀ H₀ ex E hE => hc.c (Rc cl C s₀ H₀ ex E hE) q6, fun cl C s₀ H₀ ex E hE => he.e (Rc cl C s₀ H₀ ex E hE) q7, set_fold q4⟩
theorem snd_comp {two : Bool} {ix : List Nat} {it c e : CE} (hi : Snd T it) (hc : Snd T c) (he : Snd T e) : Snd T (.comp two ix it c e) := by
  refine Snd.of (u := dB (dComp (ev T it).i ix (unpOf two) (ev T c).t (ev T e).e)) rfl rfl fun {X g} R {x} q => ?_
  obtain ⟨elt, tg, iter, ifs, scope, pos, ts, fn, gV, rfl, h1, h2, h3, h4, h5, h6, h7, h8⟩ := comp_parts hi hc he R q
  exact dtv (de_comp R.tp R.tk h1 R.calm h2 h3 h4 h5 h6 h7 h8) fun _ => rfl
theorem snd_compz {two : Bool} {ix : List Nat} {it c e : CE} (hi : Snd T it) (hc : Snd T c) (he : Snd T e) : Snd T (.compz two ix it c e) := by
  refine Snd.of (u := dB (dCompZ (ev T it).i ix (unpOf two) (ev T c).t (ev T e).e)) rfl rfl fun {X g} R {x} q => ?_
  obtain ⟨elt, tg, iter, ifs, scope, pos, ts, fn, gV, rfl, h1, h2, h3, h4, h5, h6, h7, h8⟩ := comp_parts hi hc he R q
  exact dtv (de_compz R.tp R.tk h1 R.calm h2 h3 h4 h5 h6 h7 h8) fun _ => rfl

theorem snd_rng1 {a : CE} (ha : Snd T a) : Snd T (.rng1 a) where
  e := fun _ _ q => nomatch q
  t := fun _ _ q => nomatch q
  be := fun {X g} R {op vs pos} q => by match vs, q with | [x], q => cases q
  bt := fun {X g} R {op vs pos} q => by match vs, q with | [x], q => cases q
  a := fun _ _ q => nomatch q
  k := fun _ _ q => nomatch q
  o := fun {X g} R {x} q => by match x, q with | some x, q => cases q
  c := fun {X g} R {xs} q => by match xs, q with | [x], q => cases q
  i := fun {X g} R {x tg} q => by
    have qv := of_onV (show (ckR1 T.toTabC "range" (chk T a).e g x) = true from q)
    clear q
    obtain ⟨⟨y, p, z, zs, pp⟩, rfl, q⟩ := qv
    simp only [Bool.and_eq_true, beq_iff_eq, List.isEmpty_iff] at q
    obtain ⟨⟨⟨⟨rfl, q1⟩, rfl⟩, q2⟩, q3⟩ := q
    obtain ⟨g1, g2, g3, g4⟩ := R.blt q1
    exact di_range1 g1 g4 (da_cons (ha.e R q3) da_nil (star_cons q2)) (star_cons q2)
theorem snd_nil : Snd T .nil where
  e := fun _ _ q => nomatch q
  t := fun _ _ q => nomatch q
  be := fun _ _ _ _ q => nomatch q
  bt := fun _ _ _ _ q => nomatch q
  a := fun {X g} R {es} q => by
    have : es = [] := List.isEmpty_iff.mp q
    subst this
    exact ⟨da_nil, rfl, rfl⟩
  k := fun {X g} R {kws} q => by
    match kws, q with
    | [], _ => exact dkw_nil
    | _ :: _, q => cases q
  i := fun _ _ _ q => nomatch q
  o := fun {X g} R {x} q => by
    have : x = none := Option.isNone_iff_eq_none.mp q
    subst this
    exact do_none
  c := fun {X g} R {es} q => by
    have : es = [] := List.isEmpty_iff.mp q
    subst this
    exact difs_nil
theorem snd_cons {a as : CE} (ha : Snd T a) (hs : Snd T as) : Snd T (.cons a as) where
  e := fun _ _ q => nomatch q
  t := fun _ _ q => nomatch q
  be := fun _ _ _ _ q => nomatch q
  bt := fun _ _ _ _ q => nomatch q
  a := fun {X g} R {es} q => by
    match es, q with
    | x :: r, q =>
      have q' : (notStar x && (chk T a).e g x && (chk T as).a g r) = true := q
      simp only [Bool.and_eq_true] at q'
      obtain ⟨⟨q1, q2⟩, q3⟩ := q'
      obtain ⟨a1, a2, a3⟩ := hs.a R q3
      exact ⟨da_cons (ha.e R q2) a1 (star_cons q1), by rw [List.all_cons, q1, a2]; rfl, by rw [List.length_cons, a3]; rfl⟩
  k := fun {X g} R {kws} q => by
    match kws, q with
    | [], q => cases q
    | ⟨nm, x, kp⟩ :: r, q =>
      have q' : (notStar x && (chk T a).e g x && (chk T as).a g (r.map (·.value))) = true := q
      simp only [Bool.and_eq_true] at q'
      obtain ⟨⟨q1, q2⟩, q3⟩ := q'
      exact dkw_cons (ha.e R q2) (hs.k R q3)
  i := fun _ _ _ q => nomatch q
  o := fun _ _ q => nomatch q
  c := fun _ _ q => nomatch q
theorem snd : ∀ c : CE, Snd T c
  | .var _ => snd_var
  | .con _ => snd_con
  | .bin _ a b => snd_bin (snd a) (snd b)
  | .cmp _ a b => snd_cmp (snd a) (snd b)
  | .and a b => snd_and (snd a) (snd b)
  | .or a b => snd_or (snd a) (snd b)
  | .not a => snd_not (snd a)
  | .ite c a b => snd_ite (snd c) (snd a) (snd b)
  | .ix a b => snd_ix (snd a) (snd b)
  | .sl a lo hi => snd_sl (snd a) (snd lo) (snd hi)
  | .tup as => snd_tup (snd as)
  | .lst as => snd_lst (snd as)
  | .lstz as => snd_lstz (snd as)
  | .frz e => snd_frz (snd e)
  | .call _ as => snd_call (snd as)
  | .blt _ as => snd_blt (snd as)
  | .isi _ e => snd_isi (snd e)
  | .ml _ o as => snd_ml (snd o) (snd as)
  | .sortSet as => snd_sortSet (snd as)
  | .comp _ _ it c e => snd_comp (snd it) (snd c) (snd e)
  | .compz _ _ it c e => snd_compz (snd it) (snd c) (snd e)
  | .rng1 a => snd_rng1 (snd a)
  | .nil => snd_nil
  | .cons a as => snd_cons (snd a) (snd as)
end
end IR

set_option Elab.async false
set_option linter.all false
set_option maxRecDepth 100000
namespace IR
open PySem PySem.Spec L2 DL
open PyProof.Rows hiding St

inductive HP where
  | isx (nm : Str) | lit (l : Lit)
set_option genSizeOf false in
set_option genInjectivity false in
inductive CS where
  | nil | seq (s r : CS)
  | set (i : Nat) (e : CE)
  | ret (e : CE)
  | ite (c : CE) (a b : CS)
  | for1 (i : Nat) (it : CE) (b : CS)
  | ex (e : CE)
noncomputable def hP (T : Tab) (c je : Nat) (a : Addr) : HP → DTE
  | .isx nm => match T.isx c nm with
    | some b => dIsE je a b
    | none => botE
  | .lit l => dC l.d
noncomputable def hA (T : Tab) (c je : Nat) (a : Addr) : List HP → DTA
  | [] => dNil
  | p :: r => dCons (hP T c je a p) (hA T c je a r)
noncomputable def hS (T : Tab) (c je : Nat) (a : Addr) (y : Nat) : List (List HP) → DTS
  | [] => dNext
  | p :: r => dSeq (dSet y (dOp rAddD (dVar y) (dTup (hA T c je a p)))) (hS T c je a y r)
noncomputable def evS (T : Tab) : CS → DTS
  | .nil => dNext
  | .seq s r => dSeq (evS T s) (evS T r)
  | .set i e => dSet i (ev T e).e
  | .ret e => dRet (ev T e).e
  | .ite c a b => dIfS (ev T c).t (evS T a) (evS T b)
  | .for1 i it b => dFor (ev T it).i (dgName i) (evS T b)
  | .ex e => dDrop (ev T e).e
theorem evS_nil (T : Tab) : evS T (.nil) = (dNext) := rfl
theorem evS_seq (T : Tab) {s} {r} : evS T (.seq s r) = (dSeq (evS T s) (evS T r)) := rfl
theorem evS_set (T : Tab) {i} {e} : evS T (.set i e) = (dSet i (ev T e).e) := rfl
theorem evS_ret (T : Tab) {e} : evS T (.ret e) = (dRet (ev T e).e) := rfl
theorem evS_ite (T : Tab) {c} {a} {b} : evS T (.ite c a b) = (dIfS (ev T c).t (evS T a) (evS T b)) := rfl
theorem evS_for1 (T : Tab) {i} {it} {b} : evS T (.for1 i it b) = (dFor (ev T it).i (dgName i) (evS T b)) := rfl
theorem evS_ex (T : Tab) {e} : evS T (.ex e) = (dDrop (ev T e).e) := rfl
noncomputable def notComp : Expr → Bool
  | .ListComp .. | .SetComp .. | .DictComp .. => false
  | _ => true
noncomputable def notTup : Expr → Bool
  | .Tuple .. => false
  | _ => true
noncomputable def swapB (g : GI) (y : Str) (p : Pos) : Expr → Bool
  | .ListComp _ _ s q => g.kd y == some .local && p.line == q.line && !(s.names.any fun (n, k) => n == y && (k == .local || k == .cell))
  | _ => false
noncomputable def isOwn (g : GI) (i : Nat) (y : Str) : Bool := g.N[i]? == some y && (g.kd y == some .local || g.kd y == some .cell)
noncomputable def vTry : (x : Stmt) → Option { p : Stmt × ExceptHandler × Pos // x = .Try [p.1] [p.2.1] [] [] p.2.2 }
  | .Try [b] [h] [] [] p => some ⟨(b, h, p), rfl⟩
  | _ => none
noncomputable def vRet : (x : Stmt) → Option { p : Expr × Pos // x = .Return (some p.1) p.2 }
  | .Return (some v) p => some ⟨(v, p), rfl⟩
  | _ => none
noncomputable def vHan : (x : ExceptHandler) → Option { p : Str × Pos × Option Str × Stmt × List Stmt × Pos // x = .ExceptHandler (some (.Name p.1 p.2.1)) p.2.2.1 (p.2.2.2.1 :: p.2.2.2.2.1) p.2.2.2.2.2 }
  | .ExceptHandler (some (.Name x np)) n (b :: r) p => some ⟨(x, np, n, b, r, p), rfl⟩
  | _ => none
noncomputable def vEx : (x : Stmt) → Option { p : Expr × Pos // x = .Expr p.1 p.2 }
  | .Expr e p => some ⟨(e, p), rfl⟩
  | _ => none
noncomputable def vSet : (x : Stmt) → Option { p : Str × Pos × Expr × Pos // x = .Assign [.Name p.1 p.2.1] p.2.2.1 p.2.2.2 }
  | .Assign [.Name y yp] v p => some ⟨(y, yp, v, p), rfl⟩
  | _ => none
structure ChkS where
  s : GI → Stmt → Bool
  b : GI → List Stmt → Bool
noncomputable def mkS (f : GI → Stmt → Bool) : ChkS := ⟨f, fun _ _ => false⟩
noncomputable def isComp : CE → Bool
  | .comp .. | .compz .. => true
  | _ => false
noncomputable def ckP (g : GI) (n : Str) : HP → Expr → Bool
  | .isx nm => fun e => onV (vCall e) fun c => c.1 == ("isinstance" : Str) && onV (vNm c.2.2.1) (fun m => m.1 == n) && (match c.2.2.2.1 with
    | [k] => onV (vNm k) (fun k => k.1 == nm) && isGlob g nm
    | _ => false)
  | .lit l => fun e => onV (vCst e) fun k => l.ck k.1
noncomputable def ckA (g : GI) (n : Str) : List HP → List Expr → Bool
  | [] => fun es => es.isEmpty
  | p :: r => fun es => match es with
    | e :: es => ckP g n p e && ckA g n r es
    | [] => false
noncomputable def ckT (g : GI) (n : Str) (ps : List HP) (e : Expr) : Bool := onV (vTup e) fun t => ckA g n ps t.1
noncomputable def ckHs (g : GI) (n : Str) (y : Nat) : List (List HP) → List Stmt → Bool
  | [] => fun sts => sts.isEmpty
  | p :: r => fun sts => match sts with
    | st :: sts => onV (vSet st) (fun a => isOwn g y a.1 && isVis g a.1 && onV (vAdd a.2.2.1) fun b => onV (vNm b.1) (fun m => m.1 == a.1) && ckT g n p b.2.1) && ckHs g n y r sts
    | [] => false
noncomputable def ckX (T : TabC) (f : Nat) (as : CE) (g : GI) (e : Expr) : Bool := match T.fx f with
  | some fi => onV (vCall e) fun c => isGlob g c.1 && c.1 == fi.nm && decide (as.len ≤ fi.np) && decide (fi.np - as.len ≤ fi.dds.length) && (chkC T as).a g (c.2.2.1 :: c.2.2.2.1)
  | none => false
noncomputable def chkSC (T : TabC) : CS → ChkS
  | .nil => ⟨fun _ _ => false, fun _ sts => sts.isEmpty⟩
  | .seq s r => ⟨fun _ _ => false, fun g sts => match sts with | x :: xs => (chkSC T s).s g x && (chkSC T r).b g xs | [] => false⟩
  | .set i e => mkS fun g x => match x with
    | .Assign [.Name y p] v _ => isOwn g i y && (chkC T e).e g v && (notComp v || g.kd y == some .cell || (swapB g y p v && isComp e))
    | _ => false
  | .ret e => mkS fun g x => match x with
    | .Return (some v) _ => (chkC T e).e g v
    | _ => false
  | .ite c a b => mkS fun g x => match x with
    | .If t y z _ => (chkC T c).e g t && (chkSC T a).b g y && (chkSC T b).b g z
    | _ => false
  | .for1 i it b => mkS fun g x => match x with
    | .For (.Name y _) iter body [] _ => isOwn g i y && notSet iter && (chkC T it).i g iter && (chkSC T b).b g body
    | _ => false
  | .ex e => mkS fun g x => match x with
    | .Expr v _ => (chkC T e).e g v && notComp v
    | _ => false
noncomputable abbrev chkS (T : Tab) (c : CS) : ChkS := chkSC T.toTabC c

structure RelS (X : Cx) (T : Tab) (g : GI) : Prop extends Rel X T g where
  kind : X.env.scope.kind = .function
  pass : PassesOwn (model X.prog X.w) X.A X.env X.xe
  own : ∀ x, g.kd x = some .cell → X.env.scope.names.lookup x = some .cell
  fn : ∀ x, X.fn x = true

section
variable {X : Cx} {T : Tab} {g : GI}
theorem comp_swap {v : Expr} {t : Option Expr} {l : Nat} {env : Env} (h : notComp v = true) : swapsWith v t l env = pure false := by
  cases v <;> first | rfl | cases h
theorem cell_swap {v : Expr} {y : Str} {p : Pos} {l : Nat} {env : Env} (h : env.scope.names.lookup y = some .cell) : swapsWith v (some (.Name y p)) l env = pure false := by
  have hk : (env.kindOf y == some .local) = false := by rw [show env.kindOf y = some .cell from h]; rfl
  cases v with
  | ListComp el gens sc pp =>
    show (pure (env.blockKind == .function && env.kindOf y == some .local && p.line == pp.line && !(sc.names.any fun (n, k) => n == y && (k == .local || k == .cell))) : Sem Bool) = pure false
    rw [hk, Bool.and_false, Bool.false_and, Bool.false_and]
  | SetComp el gens sc pp =>
    show (pure (env.blockKind == .function && env.kindOf y == some .local && p.line == pp.line && !(sc.names.any fun (n, k) => n == y && (k == .local || k == .cell))) : Sem Bool) = pure false
    rw [hk, Bool.and_false, Bool.false_and, Bool.false_and]
  | DictComp k el gens sc pp =>
    show (pure (env.blockKind == .function && env.kindOf y == some .local && p.line == pp.line && !(sc.names.any fun (n, k) => n == y && (k == .local || k == .cell))) : Sem Bool) = pure false
    rw [hk, Bool.and_false, Bool.false_and, Bool.false_and]
  | _ => rfl
theorem RelS.loc (R : RelS X T g) {i : Nat} {y : Str} (h : isOwn g i y = true) : X.N.Nodup ∧ X.N[i]? = some y ∧ Loc X.env.scope y ∧ (X.fn y = true ∨ X.env.scope.names.lookup y = some .local) := by
  unfold isOwn at h
  simp only [Bool.and_eq_true, Bool.or_eq_true, beq_iff_eq] at h
  refine ⟨by rw [R.N]; exact R.nd, by rw [R.N]; exact h.1, ?_, .inl (R.fn y)⟩
  rcases h.2 with q | q
  · exact .inl (R.lc y q)
  · exact .inr (R.own y q)
theorem RelS.tg (R : RelS X T g) {i : Nat} {y : Str} {p : Pos} (h : isOwn g i y = true) : DL.DG X (.Name y p) (dgName i) := by
  obtain ⟨a, b, c, d⟩ := R.loc h
  exact dg_name a b c d

structure SndS (T : Tab) (c : CS) : Prop where
  s : ∀ {X : Cx} {g : GI}, RelS X T g → ∀ {x : Stmt}, (chkS T c).s g x = true → DL.DS X x (evS T c)
  b : ∀ {X : Cx} {g : GI}, RelS X T g → ∀ {xs : List Stmt}, (chkS T c).b g xs = true → DSs X xs (evS T c)
theorem SndS.of {c : CS} {f : GI → Stmt → Bool} (hc : chkS T c = mkS f) (h : ∀ {X : Cx} {g : GI}, RelS X T g → ∀ {x : Stmt}, f g x = true → DL.DS X x (evS T c)) : SndS T c where
  s := fun R x q => by rw [hc] at q; exact h R q
  b := fun R x q => by rw [hc] at q; cases q

theorem snds_set {i : Nat} {e : CE} : SndS T (.set i e) := by
  refine SndS.of rfl fun {X g} R {x} q => ?_
  split at q
  · rename_i y p v sp
    simp only [Bool.and_eq_true, Bool.or_eq_true] at q
    obtain ⟨⟨q1, q2⟩, q3⟩ := q
    obtain ⟨l1, l2, l3, l4⟩ := R.loc q1
    rcases q3 with (q3 | q3) | ⟨q3, q4⟩
    · exact ds_set l1 l2 l3 ((snd e).e R.toRel q2) (comp_swap q3) l4
    · exact ds_set l1 l2 l3 ((snd e).e R.toRel q2) (cell_swap (R.own y (beq_iff_eq.mp q3))) l4
    · unfold swapB at q3
      split at q3
      · rename_i el gens sc pp
        simp only [Bool.and_eq_true, beq_iff_eq, Bool.not_eq_true'] at q3
        obtain ⟨⟨r1, r2⟩, r3⟩ := q3
        have hl := R.lc y r1
        have hb : X.env.blockKind = .function := by unfold Env.blockKind; rw [R.kind]; rfl
        have hsw : swapsWith (.ListComp el gens sc pp) (some (.Name y p)) sp.line X.env = pure true := by
          show (pure (X.env.blockKind == .function && X.env.kindOf y == some .local && p.line == pp.line && !(sc.names.any fun (n, k) => n == y && (k == .local || k == .cell))) : Sem Bool) = pure true
          have hk : X.env.kindOf y = some .local := hl
          rw [hb, hk, r2, r3]
          simp
        unfold isComp at q4
        split at q4
        · rename_i two ix it c el'
          obtain ⟨elt, tg, iter, ifs, scope, pos, ts, fn, gV, e0, h1, h2, h3, h4, h5, h6, h7, h8⟩ := comp_parts (snd it) (snd c) (snd el') R.toRel q2
          cases e0
          exact ds_setcomp R.tp R.tk hsw l1 l2 hl h1 R.calm h2 h3 h4 h5 h6 h7 h8
        · rename_i two ix it c el'
          obtain ⟨elt, tg, iter, ifs, scope, pos, ts, fn, gV, e0, h1, h2, h3, h4, h5, h6, h7, h8⟩ := comp_parts (snd it) (snd c) (snd el') R.toRel q2
          cases e0
          exact ds_setcompz R.tp R.tk hsw l1 l2 hl h1 R.calm h2 h3 h4 h5 h6 h7 h8
        · cases q4
      · cases q3
  · cases q
theorem snds_ret {e : CE} : SndS T (.ret e) := by
  refine SndS.of rfl fun {X g} R {x} q => ?_
  split at q
  · exact ds_ret ((snd e).e R.toRel q)
  · cases q
theorem snds_ite {c : CE} {a b : CS} (ha : SndS T a) (hb : SndS T b) : SndS T (.ite c a b) := by
  refine SndS.of rfl fun {X g} R {x} q => ?_
  split at q
  · simp only [Bool.and_eq_true] at q
    exact ds_if ((snd c).t R.toRel q.1.1) (ha.b R q.1.2) (hb.b R q.2)
  · cases q
theorem snds_for1 {i : Nat} {it : CE} {b : CS} (hb : SndS T b) : SndS T (.for1 i it b) := by
  refine SndS.of rfl fun {X g} R {x} q => ?_
  split at q
  · simp only [Bool.and_eq_true] at q
    obtain ⟨⟨⟨q1, q2⟩, q3⟩, q4⟩ := q
    exact ds_for R.pass R.calm ((snd it).i R.toRel q3) (R.tg q1) (hb.b R q4) (set_fold q2)
  · cases q
theorem snds_ex {e : CE} : SndS T (.ex e) := by
  refine SndS.of rfl fun {X g} R {x} q => ?_
  split at q
  · simp only [Bool.and_eq_true] at q
    exact ds_expr ((snd e).e R.toRel q.1) (comp_swap q.2)
  · cases q
theorem Rel.holds (R : Rel X T g) (hno : ∀ c M, ¬ T.xd c M) (pins : List (Addr × Obj)) (E : Value → Shared → Prop) : Rel (X.holds pins E) T g where
  N := R.N
  nd := R.nd
  calm := R.calm
  gl := R.gl
  lc := R.lc
  cf := R.cf
  fns := fun f fi e => ⟨(R.fns f fi e).ex⟩
  kfs := fun f ki e => ⟨(R.kfs f ki e).ex⟩
  fxs := fun f fi e => ⟨(R.fxs f fi e).ex⟩
  cls := R.cls
  tk := fun _ _ _ _ _ _ _ ⟨c, _, M, _, _, _, h⟩ => (hno c M h).elim
  tp := ⟨R.tp.ex⟩
  con := R.con
  nob := R.nob
  isx := R.isx
  lks := R.lks
  mts := fun f mi e => ⟨(R.mts f mi e).ex⟩
  mks := fun f mi e => ⟨(R.mks f mi e).ex⟩
  fds := R.fds
  un := R.un
structure HRel (X : Cx) (T : Tab) (g : GI) (Y : Cx) (n : Str) (je c : Nat) (a C : Addr) (oe : Obj) : Prop where
  R : RelS X T g
  y : Y = L2.handlingAs X a oe
  vis : isVis g n = true
  own : X.N[je]? = some n
  bi : isBlt T.toTabC g "isinstance" = true
  cl : ∃ x, T.cl c = some x ∧ X.mg x = some (.ref C)
  oc : oe.cls = .ref C
theorem sndS : ∀ c : CS, SndS T c
  | .nil => ⟨fun _ _ q => (nomatch q), fun {X g} R {xs} q => by
      have : xs = [] := List.isEmpty_iff.mp q
      subst this
      exact dss_nil⟩
  | .seq s r => ⟨fun _ _ q => (nomatch q), fun {X g} R {xs} q => by
      match xs, q with
      | x :: xs, q =>
        have q' : ((chkS T s).s g x && (chkS T r).b g xs) = true := q
        rw [Bool.and_eq_true] at q'
        exact dss_cons ((sndS s).s R q'.1) ((sndS r).b R q'.2)⟩
  | .set _ _ => snds_set
  | .ret _ => snds_ret
  | .ite _ a b => snds_ite (sndS a) (sndS b)
  | .for1 _ _ b => snds_for1 (sndS b)
  | .ex _ => snds_ex
end

structure FunV (K : PySem.W.Frag) (x qual : Str) (st : Stmt) (f : Addr) (fd : FuncData) (dV : Value) : Prop where
  ex : ∃ (oc : Value) (od : Option Addr) (kV doc pm : Value) (an : Option Addr) (cdv ct : Value) (osl : Array (Option Value)),
    fd = PySem.W.fnOf x qual (defArgs st) (defBody st) (defScope st) dV kV doc pm an cdv ct ∧ K.lookup f = some ⟨oc, od, .func fd, osl⟩ ∧ PySem.W.codeIn K cdv qual = true
  kp : PySem.W.keepIn K (.ref f) = true
theorem _root_.L2.Fun.v {K : PySem.W.Frag} {x qual : Str} {st : Stmt} {f : Addr} {fd : FuncData} (F : Fun K x qual st f fd) : FunV K x qual st f fd .none := ⟨F.ex, F.kp⟩
theorem FunV.ok {P : Program} {w : World} {K : PySem.W.Frag} {mg : Str → Option Value} {base : Heap} {x qual : Str} {st : Stmt} {f : Addr} {fd : FuncData} {dV : Value} {N ps : List Str} {k : Nat} {sp : DSp} (F : FunV K x qual st f fd dV) (S : FnScope N ps (defScope st)) (len : ∀ ds M R, sp ds M R → ds.length = ps.length)
    (hb : ∀ (cdv : Value) (A : Around) (outer : List Env) (s : Shared) (H : Hp) (E : XK), Room k (A.deeper (envOfC qual (defScope st) s.heap.objs.size f cdv)) →
      ∃ td : DTS, DSs (cxOf CX0 P w K mg base N qual (defScope st) f cdv A outer s H E).nox (defBody st) td ∧ ∀ ds M R, sp ds M R → td (dends' R) (dstart N ds) M) : FnOk P w K mg base CX0 (k + 1) f fd ps (lSp K sp) := by
  obtain ⟨oc, od, kV, doc, pm, an, cdv, ct, osl, rfl, lk, hcd⟩ := F.ex
  refine fn_of lk hcd S (fun vs H Q E ⟨ds, M, R, e, m, h, k⟩ => by rw [← e.length]; exact len ds M R h) fun A outer s H vs Q E hr ⟨ds, M, R, e, m, h, k⟩ => ?_
  obtain ⟨td, ht, hq⟩ := hb cdv A outer s H E hr
  refine ⟨_, ht.nox, dstart N ds, M, dends' R, ?_, m, hq ds M R h, ⟨fun ρ' M' σ' H' ⟨M0, q0, q⟩ x' s' m' => k .non M0 .non H' q x' (m'.sub q0) .non, fun d M' v H' ⟨M0, q0, q⟩ x' m' e' => k d M0 v H' q x' (m'.sub q0) e', fun _ _ _ _ q => q.elim, fun _ _ _ _ q => q.elim⟩⟩
  unfold dstart L2.start
  rw [← e.length]
  exact (SimS.ofDens e).append (SimS.nones _)
structure TabOk (P : Program) (w : World) (K : PySem.W.Frag) (mg : Str → Option Value) (base : Heap) (T : Tab) (k : Nat) : Prop where
  fns : ∀ f fi, T.fn f = some fi → ∃ (j : Nat) (fa : Addr) (fd : FuncData) (ps : List Str), j ≤ k ∧ FnOk P w K mg base CX0 j fa fd ps (lSp K fi.sp) ∧ mg fi.nm = some (.ref fa) ∧ PySem.W.keepIn K (.ref fa) = true ∧ ps.length = fi.np ∧
    ∀ j, j ≤ fi.dds.length → ∃ (ds : List Value) (dvs : List V), Binds K fd ps ds ∧ Vals dvs ds ∧ ∀ H, Dens K H (fi.dds.drop j) dvs
  fxs : ∀ f fi, T.fx f = some fi → ∃ (j : Nat) (fa : Addr) (fd : FuncData) (ps : List Str), j ≤ k ∧ FnOk P w K mg base (CX1 P w) j fa fd ps (lSpX K mg T.cl fi.sp) ∧ mg fi.nm = some (.ref fa) ∧ PySem.W.keepIn K (.ref fa) = true ∧ ps.length = fi.np ∧
    ∀ j, j ≤ fi.dds.length → ∃ (ds : List Value) (dvs : List V), Binds K fd ps ds ∧ Vals dvs ds ∧ ∀ H, Dens K H (fi.dds.drop j) dvs
  cls : ∀ c x, T.cl c = some x → ∃ C, mg x = some (.ref C) ∧ XCls K C
  kfs : ∀ f ki, T.kfn f = some ki → ∃ (j : Nat) (fa : Addr) (fd : FuncData) (ps : List Str) (gv : List Value → List Value → List Value) (gV : List V → List V → List V), j ≤ k ∧ FnOk P w K mg base CX0 j fa fd ps (lSp K ki.sp) ∧ mg ki.nm = some (.ref fa) ∧ PySem.W.keepIn K (.ref fa) = true ∧
    KBinds K fd ps ki.ks gv gV ∧ ∀ H ds vs zs ws, Dens K H ds vs → Dens K H zs ws → Dens K H (ki.g ds zs) (gV vs ws)
  con : ∀ i p, T.con i = some p → ∃ u v, mg p.1 = some u ∧ L2.RelV v u ∧ ∀ H, Den K H p.2 v
  nob : ∀ x ∈ T.bl, mg x = none
  isx : ∀ c nm b, T.isx c nm = some b → IsxOk K mg T.cl c nm b
  lks : ∀ x ∈ T.lk, ∃ C, mg x = some (.ref C) ∧ XLook K C
  mts : ∀ f mi, T.mt f = some mi → ∃ (j : Nat) (C fa : Addr) (fd : FuncData) (ps : List Str), j + 1 ≤ k ∧ PySem.W.nsIn K mainGlobals mi.cl = some (some (.ref C)) ∧ Cls K C ∧ Meth K C mi.nm fa ∧ FnOk P w K mg base CX0 j fa fd ps (lSp K mi.sp) ∧ Binds K fd ps []
  mks : ∀ f mi, T.ini f = some mi → ∃ (j : Nat) (C fa : Addr) (fd : FuncData) (ps : List Str), j + 1 ≤ k ∧ PySem.W.nsIn K mainGlobals mi.cl = some (some (.ref C)) ∧ mg mi.cl = some (.ref C) ∧ Mk K C fa ∧ FnOk P w K mg base CX0 j fa fd ps (lSp K mi.sp) ∧ Binds K fd ps []
  fds : ∀ p ∈ T.fd, FdOk K p.1 p.2
theorem room100 {k : Nat} {A : Around} (r : Room k A) : A.units + 100 < cLine := by have := r.un; omega
theorem def_ok {P : Program} {w : World} {K : PySem.W.Frag} {mg : Str → Option Value} {base : Heap} {T : Tab} {k : Nat} {x qual : Str} {st : Stmt} {f : Addr} {fd : FuncData} {N ps : List Str} {sp : DSp} (body : CS)
    (O : TabOk P w K mg base T k) {dV : Value} (F : FunV K x qual st f fd dV) (S : FnScope N ps (defScope st)) (hc : (chkS T body).b ⟨N, (defScope st).names⟩ (defBody st) = true)
    (len : ∀ ds M R, sp ds M R → ds.length = ps.length) (hb : ∀ ds M R, sp ds M R → evS T body (dends' R) (dstart N ds) M) (hno : ∀ c M, ¬ T.xd c M := by intro _ _ h; exact h) : FnOk P w K mg base CX0 (k + 1) f fd ps (lSp K sp) := by
  refine F.ok S len fun cdv A outer s H E hr => ⟨evS T body, (sndS body).b (g := ⟨N, (defScope st).names⟩) ?_ hc, hb⟩
  refine { N := rfl, nd := S.nd, calm := rfl, gl := fun x e => e, lc := fun x e => e, cf := fun x e => e, fns := fun f fi e => ?_, kfs := fun f ki e => ?_, fxs := fun f fi e => ?_, cls := O.cls, tk := fun _ _ _ _ _ _ _ ⟨c, _, M, _, _, _, h⟩ => (hno c M h).elim, tp := ⟨_, _, _, rfl, rfl, rfl⟩, con := O.con, nob := O.nob, isx := O.isx, lks := O.lks, mts := fun f mi e => ?_, mks := fun f mi e => ?_, fds := O.fds, un := room100 hr, kind := S.kind, pass := PassesOwn.never, own := fun x e => e, fn := fun _ => rfl }
  · obtain ⟨j, fa, fd, ps, hj, F, h1, h2, h3, h4⟩ := O.fns f fi e
    exact ⟨⟨j, fa, fd, ps, F, hr.mono hj, h1, h2, h3, h4⟩⟩
  · obtain ⟨j, fa, fd, ps, gv, gV, hj, F, h1, h2, h3, h4⟩ := O.kfs f ki e
    exact ⟨⟨j, fa, fd, ps, gv, gV, F, hr.mono hj, h1, h2, h3, h4⟩⟩
  · obtain ⟨j, fa, fd, ps, hj, F, h1, h2, h3, h4⟩ := O.fxs f fi e
    exact ⟨⟨j, fa, fd, ps, F, hr.mono hj, h1, h2, h3, h4⟩⟩
  · obtain ⟨j, C, fa, fd, ps, hj, h1, h2, h3, F, h4⟩ := O.mts f mi e
    exact ⟨⟨j, C, fa, fd, ps, h1, h2, h3, F, hr.mono hj, h4⟩⟩
  · obtain ⟨j, C, fa, fd, ps, hj, h1, h2, h3, F, h4⟩ := O.mks f mi e
    exact ⟨⟨j, C, fa, fd, ps, h1, h2, h3, F, hr.mono hj, h4⟩⟩
noncomputable def Tab.only (T : Tab) (l : List Nat) : Tab := { T with fn := fun i => if i ∈ l then T.fn i else none, kfn := fun i => if i ∈ l then T.kfn i else none, fx := fun i => if i ∈ l then T.fx i else none, mt := fun i => if i ∈ l then T.mt i else none, ini := fun i => if i ∈ l then T.ini i else none }
noncomputable def KOk (P : Program) (w : World) (K : PySem.W.Frag) (mg : Str → Option Value) (base : Heap) (ki : KI) (k : Nat) : Prop :=
  ∃ (j : Nat) (fa : Addr) (fd : FuncData) (ps : List Str) (gv : List Value → List Value → List Value) (gV : List V → List V → List V), j ≤ k ∧ FnOk P w K mg base CX0 j fa fd ps (lSp K ki.sp) ∧ mg ki.nm = some (.ref fa) ∧ PySem.W.keepIn K (.ref fa) = true ∧
    KBinds K fd ps ki.ks gv gV ∧ ∀ H ds vs zs ws, Dens K H ds vs → Dens K H zs ws → Dens K H (ki.g ds zs) (gV vs ws)
noncomputable def FOk (P : Program) (w : World) (K : PySem.W.Frag) (mg : Str → Option Value) (base : Heap) (fi : FI) (k : Nat) : Prop :=
  ∃ (j : Nat) (fa : Addr) (fd : FuncData) (ps : List Str), j ≤ k ∧ FnOk P w K mg base CX0 j fa fd ps (lSp K fi.sp) ∧ mg fi.nm = some (.ref fa) ∧ PySem.W.keepIn K (.ref fa) = true ∧ ps.length = fi.np ∧
    ∀ j, j ≤ fi.dds.length → ∃ (ds : List Value) (dvs : List V), Binds K fd ps ds ∧ Vals dvs ds ∧ ∀ H, Dens K H (fi.dds.drop j) dvs
section
variable {P : Program} {w : World} {K : PySem.W.Frag} {mg : Str → Option Value} {base : Heap} {T : Tab} {k : Nat} {fi : FI}
theorem FOk.mono {j : Nat} (h : FOk P w K mg base fi j) (hk : j ≤ k) : FOk P w K mg base fi k := by
  obtain ⟨i, fa, fd, ps, h1, h2⟩ := h
  exact ⟨i, fa, fd, ps, Nat.le_trans h1 hk, h2⟩
theorem TabOk.nil (hc : ∀ i p, T.con i = some p → ∃ u v, mg p.1 = some u ∧ L2.RelV v u ∧ ∀ H, Den K H p.2 v) (hb : ∀ x ∈ T.bl, mg x = none) (hcl : ∀ c x, T.cl c = some x → ∃ C, mg x = some (.ref C) ∧ XCls K C)
    (hix : ∀ c nm b, T.isx c nm = some b → IsxOk K mg T.cl c nm b := by intro _ _ _ h; cases h) (hlk : ∀ x ∈ T.lk, ∃ C, mg x = some (.ref C) ∧ XLook K C := by intro _ h; cases h) (hfd : ∀ p ∈ T.fd, FdOk K p.1 p.2 := by intro _ h; cases h) : TabOk P w K mg base (T.only []) k :=
  ⟨fun f fi e => by simp [Tab.only] at e, fun f fi e => by simp [Tab.only] at e, hcl, fun f fi e => by simp [Tab.only] at e, hc, hb, hix, hlk, fun f fi e => by simp [Tab.only] at e, fun f fi e => by simp [Tab.only] at e, hfd⟩
theorem only_in {α : Type} {F : Nat → Option α} {f f' : Nat} {l : List Nat} {y : α} (h : (if f' ∈ f :: l then F f' else none) = some y) : (f' = f ∧ F f = some y) ∨ (if f' ∈ l then F f' else none) = some y := by
  by_cases hf : f' = f
  · subst hf
    rw [if_pos List.mem_cons_self] at h
    exact .inl ⟨rfl, h⟩
  · right
    by_cases hm : f' ∈ l
    · rw [if_pos (List.mem_cons_of_mem _ hm)] at h
      rw [if_pos hm]; exact h
    · rw [if_neg (by simp [hf, hm])] at h
      cases h
noncomputable def XOk (P : Program) (w : World) (K : PySem.W.Frag) (mg : Str → Option Value) (base : Heap) (cn : CN) (fi : FX) (k : Nat) : Prop :=
  ∃ (j : Nat) (fa : Addr) (fd : FuncData) (ps : List Str), j ≤ k ∧ FnOk P w K mg base (CX1 P w) j fa fd ps (lSpX K mg cn fi.sp) ∧ mg fi.nm = some (.ref fa) ∧ PySem.W.keepIn K (.ref fa) = true ∧ ps.length = fi.np ∧
    ∀ j, j ≤ fi.dds.length → ∃ (ds : List Value) (dvs : List V), Binds K fd ps ds ∧ Vals dvs ds ∧ ∀ H, Dens K H (fi.dds.drop j) dvs
theorem XOk.mono {cn : CN} {fi : FX} {j : Nat} (h : XOk P w K mg base cn fi j) (hk : j ≤ k) : XOk P w K mg base cn fi k := by
  obtain ⟨i, fa, fd, ps, h1, h2⟩ := h
  exact ⟨i, fa, fd, ps, Nat.le_trans h1 hk, h2⟩
noncomputable def MtOk (P : Program) (w : World) (K : PySem.W.Frag) (mg : Str → Option Value) (base : Heap) (mi : MI) (k : Nat) : Prop :=
  ∃ (j : Nat) (C fa : Addr) (fd : FuncData) (ps : List Str), j + 1 ≤ k ∧ PySem.W.nsIn K mainGlobals mi.cl = some (some (.ref C)) ∧ Cls K C ∧ Meth K C mi.nm fa ∧ FnOk P w K mg base CX0 j fa fd ps (lSp K mi.sp) ∧ Binds K fd ps []
noncomputable def MkOk (P : Program) (w : World) (K : PySem.W.Frag) (mg : Str → Option Value) (base : Heap) (mi : MI) (k : Nat) : Prop :=
  ∃ (j : Nat) (C fa : Addr) (fd : FuncData) (ps : List Str), j + 1 ≤ k ∧ PySem.W.nsIn K mainGlobals mi.cl = some (some (.ref C)) ∧ mg mi.cl = some (.ref C) ∧ Mk K C fa ∧ FnOk P w K mg base CX0 j fa fd ps (lSp K mi.sp) ∧ Binds K fd ps []
theorem MtOk.mono {mi : MI} {j : Nat} (h : MtOk P w K mg base mi j) (hk : j ≤ k) : MtOk P w K mg base mi k := by
  obtain ⟨i, C, fa, fd, ps, h1, h2⟩ := h
  exact ⟨i, C, fa, fd, ps, Nat.le_trans h1 hk, h2⟩
theorem MkOk.mono {mi : MI} {j : Nat} (h : MkOk P w K mg base mi j) (hk : j ≤ k) : MkOk P w K mg base mi k := by
  obtain ⟨i, C, fa, fd, ps, h1, h2⟩ := h
  exact ⟨i, C, fa, fd, ps, Nat.le_trans h1 hk, h2⟩
theorem TabOk.add {f : Nat} {l : List Nat} (r : TabOk P w K mg base (T.only l) k) (h1 : ∀ fi, T.fn f = some fi → FOk P w K mg base fi k) (h2 : ∀ ki, T.kfn f = some ki → KOk P w K mg base ki k) (h3 : ∀ fi, T.fx f = some fi → XOk P w K mg base T.cl fi k)
    (h4 : ∀ mi, T.mt f = some mi → MtOk P w K mg base mi k) (h5 : ∀ mi, T.ini f = some mi → MkOk P w K mg base mi k) : TabOk P w K mg base (T.only (f :: l)) k :=
  { cls := r.cls
    fxs := fun f' fi' e' => by
      rcases only_in e' with ⟨rfl, e'⟩ | e'
      · exact h3 _ e'
      · exact r.fxs f' fi' e'
    fns := fun f' fi' e' => by
      rcases only_in e' with ⟨rfl, e'⟩ | e'
      · exact h1 _ e'
      · exact r.fns f' fi' e'
    kfs := fun f' ki e' => by
      rcases only_in e' with ⟨rfl, e'⟩ | e'
      · exact h2 _ e'
      · exact r.kfs f' ki e'
    mts := fun f' mi e' => by
      rcases only_in e' with ⟨rfl, e'⟩ | e'
      · exact h4 _ e'
      · exact r.mts f' mi e'
    mks := fun f' mi e' => by
      rcases only_in e' with ⟨rfl, e'⟩ | e'
      · exact h5 _ e'
      · exact r.mks f' mi e'
    con := r.con
    nob := r.nob
    isx := r.isx
    lks := r.lks
    fds := r.fds }
theorem no_of {α : Type} {o : Option α} {p : α → Prop} (h : o = none) : ∀ x, o = some x → p x := fun x e => by rw [h] at e; cases e
theorem one_of {α : Type} {o : Option α} {p : α → Prop} {y : α} (h : o = some y) (hp : p y) : ∀ x, o = some x → p x := fun x e => by rw [h] at e; cases e; exact hp
theorem TabOk.cons {f : Nat} {l : List Nat} (e : T.fn f = some fi) (h : FOk P w K mg base fi k) (r : TabOk P w K mg base (T.only l) k) (en : T.kfn f = none) (ex : T.fx f = none) (em : T.mt f = none := by rfl) (ei : T.ini f = none := by rfl) : TabOk P w K mg base (T.only (f :: l)) k :=
  r.add (one_of e h) (no_of en) (no_of ex) (no_of em) (no_of ei)
theorem TabOk.consM {f : Nat} {l : List Nat} {mi : MI} (e : T.mt f = some mi) (h : MtOk P w K mg base mi k) (r : TabOk P w K mg base (T.only l) k) (en : T.fn f = none) (ek : T.kfn f = none) (ex : T.fx f = none := by rfl) (ei : T.ini f = none := by rfl) : TabOk P w K mg base (T.only (f :: l)) k :=
  r.add (no_of en) (no_of ek) (no_of ex) (one_of e h) (no_of ei)
theorem TabOk.consI {f : Nat} {l : List Nat} {mi : MI} (e : T.ini f = some mi) (h : MkOk P w K mg base mi k) (r : TabOk P w K mg base (T.only l) k) (en : T.fn f = none) (ek : T.kfn f = none) (ex : T.fx f = none := by rfl) (em : T.mt f = none := by rfl) : TabOk P w K mg base (T.only (f :: l)) k :=
  r.add (no_of en) (no_of ek) (no_of ex) (no_of em) (one_of e h)
theorem KOk.mono {ki : KI} {j : Nat} (h : KOk P w K mg base ki j) (hk : j ≤ k) : KOk P w K mg base ki k := by
  obtain ⟨i, fa, fd, ps, gv, gV, h1, h2⟩ := h
  exact ⟨i, fa, fd, ps, gv, gV, Nat.le_trans h1 hk, h2⟩
theorem funV_mk {x qual : Str} {st : Stmt} {f : Addr} {oc : Value} {od an : Option Addr} {osl : Array (Option Value)} {dV kV doc pm cdv ct : Value} (l : K.lookup f = some ⟨oc, od, .func (PySem.W.fnOf x qual (defArgs st) (defBody st) (defScope st) dV kV doc pm an cdv ct), osl⟩)
    (c : PySem.W.codeIn K cdv qual = true) (kp : PySem.W.keepIn K (.ref f) = true) : FunV K x qual st f (PySem.W.fnOf x qual (defArgs st) (defBody st) (defScope st) dV kV doc pm an cdv ct) dV := ⟨⟨oc, od, kV, doc, pm, an, cdv, ct, osl, rfl, l, c⟩, kp⟩
theorem fok {fa : Addr} {fd : FuncData} {ps : List Str} {nm : Str} {np : Nat} {sp : DSp} (F : FnOk P w K mg base CX0 k fa fd ps (lSp K sp)) (hm : mg nm = some (.ref fa)) (hk : PySem.W.keepIn K (.ref fa) = true) (hl : ps.length = np) (hb : Binds K fd ps []) :
    FOk P w K mg base ⟨nm, np, [], sp⟩ k :=
  ⟨k, fa, fd, ps, Nat.le_refl _, F, hm, hk, hl, fun j _ => ⟨[], [], hb, .nil, fun H => by simp; exact .nil⟩⟩
end
end IR

set_option Elab.async false
set_option linter.all false
set_option maxRecDepth 100000
namespace My
open PySem PySem.Spec L2 DL IR
open PyProof.Rows hiding St
noncomputable abbrev W := List Nat
noncomputable def dn (ws : List W) : D := .tup (ws.map D.str)
theorem sIx_nat (n d k : Nat) : HT.sIx n d (some (k : Int)) = min k n := by
  show (if ((k : Int) < 0) then ((k : Int) + (n : Int)).toNat else min (k : Int).toNat n) = min k n
  rw [if_neg (by omega)]
  simp
theorem cut_mid {α : Type} (xs : List α) (i j : Nat) : cut xs (some (i : Int)) (some (j : Int)) = (xs.drop i).take (j - i) := by
  unfold cut
  rw [sIx_nat, sIx_nat]
  rcases Nat.le_total i xs.length with h | h
  · rw [Nat.min_eq_left h]
    rcases Nat.le_total j xs.length with h' | h'
    · rw [Nat.min_eq_left h']
    · rw [Nat.min_eq_right h', List.take_of_length_le (by rw [List.length_drop]; exact Nat.le_refl _), List.take_of_length_le (by rw [List.length_drop]; omega)]
  · rw [Nat.min_eq_right h, List.drop_eq_nil_of_le (Nat.le_refl _), List.drop_eq_nil_of_le h]; simp
theorem atI_nat' {α : Type} (xs : List α) (k : Nat) : atI xs (k : Int) = xs[k]? := by
  unfold atI ixN
  by_cases h : k < xs.length
  · simp [h]
  · simp [h]
theorem seq_step {T : Tab} {s r : CS} {DD : DEnds} {ρ : DSt} {M : DH} (h : ∀ k : DSt → DH → Prop, k = evS T r DD → evS T s { DD with nx := k } ρ M) : evS T (.seq s r) DD ρ M := h _ rfl
theorem dseq_step {t u : DTS} {DD : DEnds} {ρ : DSt} {M : DH} (h : ∀ k : DSt → DH → Prop, k = u DD → t { DD with nx := k } ρ M) : dSeq t u DD ρ M := h _ rfl
theorem loop_inv {g : DTG} {tb : DTS} {DD : DEnds} {Cd : DH → Prop} {items : List D} {ρ : DSt} {M : DH} (I : Nat → DSt → DH → Prop) (h0 : I 0 ρ M) (hC : ∀ i ρ M, I i ρ M → Cd M)
    (hs : ∀ (i : Nat) (d : D) (ρ : DSt) (M : DH) (k : DSt → DH → Prop), items[i]? = some d → I i ρ M → (∀ ρ' M', I (i + 1) ρ' M' → k ρ' M') → g d ρ M fun ρ' M' => tb { DD with nx := k, ct := k, bk := DD.nx } ρ' M')
    (hd : ∀ ρ M, I items.length ρ M → DD.nx ρ M) : dLoop g tb DD Cd items ρ M := by
  have go : ∀ (n i : Nat) (ρ : DSt) (M : DH), i + n = items.length → I i ρ M → dLoop g tb DD Cd (items.drop i) ρ M := by
    intro n
    induction n with
    | zero =>
      intro i ρ M e h
      have e' : i = items.length := by omega
      subst e'
      rw [List.drop_eq_nil_of_le (Nat.le_refl _)]
      exact ⟨hC _ _ _ h, hd ρ M h⟩
    | succ n ih =>
      intro i ρ M e h
      have hlt : i < items.length := by omega
      rw [List.drop_eq_getElem_cons hlt]
      exact ⟨hC _ _ _ h, hs i items[i] ρ M _ (List.getElem?_eq_getElem hlt) h fun ρ' M' h' => ih (i + 1) ρ' M' (by omega) h'⟩
  have := go items.length 0 ρ M (by omega) h0
  simpa using this
theorem rngD_len (lo : Int) (n : Nat) : (rngD lo n).length = n := by simp [rngD]
theorem rngD_get {lo : Int} {n i : Nat} {d : D} (h : (rngD lo n)[i]? = some d) : i < n ∧ d = .int (lo + (i : Int)) := by
  unfold rngD at h
  rw [List.getElem?_map] at h
  cases e : (List.range n)[i]? with
  | none => rw [e] at h; cases h
  | some j =>
    rw [e] at h
    obtain ⟨h1, h2⟩ := List.getElem?_eq_some_iff.mp e
    rw [List.length_range] at h1
    rw [List.getElem_range] at h2
    subst h2
    cases h
    exact ⟨h1, rfl⟩
theorem loop_rng {g : DTG} {tb : DTS} {DD : DEnds} {Cd : DH → Prop} {lo : Int} {n : Nat} {ρ : DSt} {M : DH} (I : Nat → DSt → DH → Prop) (h0 : I 0 ρ M) (hC : ∀ i ρ M, I i ρ M → Cd M)
    (hs : ∀ (i : Nat) (ρ : DSt) (M : DH) (k : DSt → DH → Prop), i < n → I i ρ M → (∀ ρ' M', I (i + 1) ρ' M' → k ρ' M') → g (.int (lo + (i : Int))) ρ M fun ρ' M' => tb { DD with nx := k, ct := k, bk := DD.nx } ρ' M')
    (hd : ∀ ρ M, I n ρ M → DD.nx ρ M) : dLoop g tb DD Cd (rngD lo n) ρ M :=
  loop_inv I h0 hC (fun i d ρ M k e h hk => by obtain ⟨h1, rfl⟩ := rngD_get e; exact hs i ρ M k h1 h hk) (by rw [rngD_len]; exact hd)
theorem cloop_inv {fr : DSt} {unp : D → Option (List D)} {tc : DTT} {te : DTE} {Cd : DH → Prop} {Q : List D → DH → Prop} {items ys : List D} {M : DH} (I : Nat → List D → DH → Prop) (h0 : I 0 ys M) (hC : ∀ i ys M, I i ys M → Cd M)
    (hs : ∀ (i : Nat) (d : D) (ys : List D) (M : DH) (k : List D → DH → Prop), items[i]? = some d → I i ys M → (∀ ys' M', I (i + 1) ys' M' → k ys' M') → match unp d with
      | some us => tc (us.map some ++ fr) M fun b M3 => if b = true then te (us.map some ++ fr) M3 fun z M4 => ys.length < sizeLine ∧ k (ys ++ [z]) M4 else k ys M3
      | none => False)
    (hd : ∀ ys M, I items.length ys M → Q ys M) : dCLoop fr unp tc te Cd Q items ys M := by
  have go : ∀ (n i : Nat) (ys : List D) (M : DH), i + n = items.length → I i ys M → dCLoop fr unp tc te Cd Q (items.drop i) ys M := by
    intro n
    induction n with
    | zero =>
      intro i ys M e h
      have e' : i = items.length := by omega
      subst e'
      rw [List.drop_eq_nil_of_le (Nat.le_refl _)]
      exact ⟨hC _ _ _ h, hd ys M h⟩
    | succ n ih =>
      intro i ys M e h
      have hlt : i < items.length := by omega
      rw [List.drop_eq_getElem_cons hlt]
      exact ⟨hC _ _ _ h, hs i items[i] ys M _ (List.getElem?_eq_getElem hlt) h fun ys' M' h' => ih (i + 1) ys' M' (by omega) h'⟩
  have := go items.length 0 ys M (by omega) h0
  simpa using this
theorem cloop_some {fr : DSt} {te : DTE} {Cd : DH → Prop} {Q : List D → DH → Prop} {items : List D} {M : DH} (P : D → D → Prop) (hC : Cd M) (hl : items.length ≤ 1000)
    (hs : ∀ (d : D) (k : D → DH → Prop), d ∈ items → (∀ z, P d z → k z M) → te (some d :: fr) M k) (hd : ∀ zs : List D, zs.length = items.length → (∀ z ∈ zs, ∃ d ∈ items, P d z) → Q zs M) : dCLoop fr (fun d => some [d]) dTrue te Cd Q items [] M := by
  refine cloop_inv (fun i ys M' => M' = M ∧ ys.length = i ∧ ∀ z ∈ ys, ∃ d ∈ items, P d z) ⟨rfl, rfl, fun z h => nomatch h⟩ (fun i ys M' h => by rw [h.1]; exact hC) ?_ ?_
  · rintro i d ys M' k e ⟨rfl, hy, hp⟩ hk
    have hi := (List.getElem?_eq_some_iff.mp e).1
    simp only [dTrue, if_true, List.map_cons, List.map_nil, List.cons_append, List.nil_append]
    refine hs d _ (List.mem_of_getElem? e) fun z hz => ⟨small1000 (by omega), hk _ _ ⟨rfl, by rw [List.length_append, hy]; rfl, fun y h => ?_⟩⟩
    rcases List.mem_append.mp h with h | h
    · exact hp y h
    · rw [List.mem_singleton.mp h]
      exact ⟨d, List.mem_of_getElem? e, hz⟩
  · rintro ys M' ⟨rfl, hy, hp⟩
    exact hd ys hy hp
theorem ix_str {z : List Nat} {i : Int} {M : DH} {Q : DK} (h0 : 0 ≤ i) (h1 : i < z.length) (hz : z.length ≤ 1000) (h : ∀ c, z[i.toNat]? = some c → Q (.str [c]) M) : rIxD (.str z) (.int i) M Q := by
  obtain ⟨k, rfl⟩ := Int.eq_ofNat_of_zero_le h0
  show (match atI z (k : Int) with | some c => z.length ≤ sizeLine ∧ Q (.str [c]) M | none => False)
  rw [atI_nat', List.getElem?_eq_getElem (by omega)]
  exact ⟨Nat.le_of_lt (small1000 hz), h _ (List.getElem?_eq_getElem (by simpa using h1))⟩
theorem ix_tup {xs : List D} {i : Int} {M : DH} {Q : DK} (h0 : 0 ≤ i) (h1 : i < xs.length) (h : ∀ d, xs[i.toNat]? = some d → Q d M) : rIxD (.tup xs) (.int i) M Q := by
  obtain ⟨k, rfl⟩ := Int.eq_ofNat_of_zero_le h0
  show (match atI xs (k : Int) with | some c => Q c M | none => False)
  rw [atI_nat', List.getElem?_eq_getElem (by omega)]
  exact h _ (List.getElem?_eq_getElem (by simpa using h1))
theorem ix_lst {xs : List D} {i : Int} {M : DH} {Q : DK} (h0 : 0 ≤ i) (h1 : i < xs.length) (h : ∀ d, xs[i.toNat]? = some d → Q d M) : rIxD (.lst xs) (.int i) M Q := by
  obtain ⟨k, rfl⟩ := Int.eq_ofNat_of_zero_le h0
  show (match atI xs (k : Int) with | some c => Q c M | none => False)
  rw [atI_nat', List.getElem?_eq_getElem (by omega)]
  exact h _ (List.getElem?_eq_getElem (by simpa using h1))
theorem ret_ok {R : DK} {d : D} {M : DH} (h : R d M) : ∃ M0, Sub M0 M ∧ R d M0 := ⟨M, Sub.refl M, h⟩
@[elab_as_elim] theorem len1 {α : Type} {P : List α → Prop} (us : List α) (h : us.length = 1) (k : ∀ a, P [a]) : P us := by
  cases us with
  | nil => cases h
  | cons a t => cases t with
    | nil => exact k a
    | cons b t => cases h
@[elab_as_elim] theorem len2 {α : Type} {P : List α → Prop} (us : List α) (h : us.length = 2) (k : ∀ a b, P [a, b]) : P us := by
  cases us with
  | nil => cases h
  | cons a t => exact len1 t (Nat.succ.inj h) (k a)
set_option Elab.async false
set_option linter.all false
set_option maxRecDepth 100000
open PySem PySem.Spec L2 DL IR
open PyProof.Rows hiding St
local macro_rules | `(tactic| walk_at "ev") => `(tactic| simp only [IR.evS_nil, IR.evS_seq, IR.evS_set, IR.evS_ret, IR.evS_ite, IR.evS_for1, IR.evS_ex, IR.ev_var, IR.ev_con, IR.ev_bin, IR.ev_cmp, IR.ev_and, IR.ev_or, IR.ev_not, IR.ev_ite, IR.ev_ix, IR.ev_sl, IR.ev_tup, IR.ev_lst, IR.ev_lstz, IR.ev_frz, IR.ev_call, IR.ev_blt, IR.ev_isi, IR.ev_ml, IR.ev_sortSet, IR.ev_comp, IR.ev_compz, IR.ev_rng1, IR.ev_nil, IR.ev_cons, mkE, dSeq, dNext, dRet, dRetN, dSet, dIfS, dAsg, dFor, dDrop, dBreak, dCont, dOp, dSl, dVar, dC, dstart, dCB, dCall, dCons, dNil, dTup, dLst, dLstZ, dComp, dCompZ, doNone, doSome, dB, dAnd, dOr, dNot, dAndV, dOrV, dNotV, dNeg, dIf, dIsI, dMS, dML, dJoinR, dChain, diAny, diEnum, diRng1, diRng2, diRev, dCallK, dBot, dRaise, dCallX, dTryC, dTryA, gone, hP, hA, hS, dIsE, rMulS, rMulT, rSorted, lstOf, rEqT, setOpt, dFld, dMeth, dMake, dDNew, dJoin, FP.d, dFmt, dDisp1, dDispT, rEqL, rInD, rInO, rEqE, rInN, rLenN, dNNew, dDispN, botE, dNPop, dMinD, dSortK, sortEnd, diKeysN, diValsN, diKeysT, diKeysD, dFzT, rTIxF, rDIxF, rInF, rDictT, rSortT, rNIx, dNPut, dLPut, dFAug, rInB, rNinB, rNeR, rNeS, rEqS, rListN, dNClear, rDIx, dDGet2, dDGet1, dTGet2, dTSetd, dDPop0, dTNew, dTPut, rTIx, rInT, dDSetd, dSetF, dDPut, dFzS, mSplit, m0S, dgName, dgTup, dgCons, dgNil, dTrue, unpOf, Lit.d, Bn.r, Cp.r, Bl.r, Ms.r, Ml.r, rLen, rLen1, rSlD, rTuple, rList, seqOf, rAddD, rI2, rLtD, rEqN, rIsN, res, rMin, rMin1, rAddL, rMax, rStr, rInt, rIn1, m1S, mAppend, mReverse, mClear, mPop, mExtend, isNon, dends', eqB_int, eqB_str, CE.len, Nat.sub_self, List.drop_nil, List.drop_zero, List.append_nil,
  List.map_cons, List.map_nil, List.cons_append, List.nil_append, List.getElem?_cons_zero, List.getElem?_cons_succ, List.getElem?_nil, List.set_cons_zero, List.set_cons_succ, List.length_cons, List.length_nil, Nat.reduceAdd, Nat.reduceSub, List.replicate, Option.getD, if_true, if_false, Bool.false_eq_true, Bool.not_true, Bool.not_false, id, true_and, and_true])
noncomputable def b_l_cell_at : CS :=
    (.seq (.ite (.cmp .lt (.var 1) (.blt .len (.cons (.var 0) .nil)))
    (.seq (.ret (.ix (.var 0) (.var 1)))
    .nil)
    .nil)
    (.seq (.ret (.con (.int 0)))
    .nil))
noncomputable def signs : W := [97, 98, 99, 100, 101, 102, 103, 104, 105, 106, 107, 108, 109, 110, 111, 112, 113, 114, 115, 116, 117, 118, 119, 120, 121, 122, 48, 49, 50, 51, 52, 53, 54, 55, 56, 57, 45]
noncomputable def sp_l_cell_at : DSp := fun ds M R => ∃ (ns : List Int) (k : Nat), ds = [.lst (ns.map D.int), .int k] ∧ ∀ n, R (.int n) M
section
variable {T : Tab}
theorem ok_l_cell_at : ∀ ds M R, sp_l_cell_at ds M R → evS T b_l_cell_at (dends' R) (dstart ["a", "b"] ds) M := by
  rintro ds M R ⟨ns, k, rfl, h⟩
  simp only [b_l_cell_at, dn]
  walk_at "ev"
  refine ite2 (fun q => ?_) fun _ => ret_ok (h 0)
  rw [decide_eq_true_eq, List.length_map] at q
  refine ix_lst (by omega) (by rw [List.length_map]; exact q) fun d hd => ?_
  rw [List.getElem?_map] at hd
  cases e : ns[(k : Int).toNat]? with
  | none => rw [e] at hd; cases hd
  | some n => rw [e] at hd; cases hd; exact ret_ok (h n)
theorem mulOk {i j : Int} (h1 : -1000000000000 ≤ i) (h2 : i ≤ 1000000000000) : CMul i j := .inl ⟨by omega, by omega⟩
end
set_option Elab.async false
set_option linter.all false
set_option maxRecDepth 100000
open PySem PySem.Spec L2 DL IR
open PyProof.Rows hiding St
noncomputable def b_ordered : CS :=
    (.seq (.ret (.frz (.sortSet (.cons (.var 0) .nil))))
    .nil)
noncomputable def b_l_words3 : CS :=
    (.seq (.set 2 (.con (.str [97, 98, 99, 100, 101, 102, 103, 104, 105, 106, 107, 108, 109, 110, 111, 112, 113, 114, 115, 116, 117, 118, 119, 120, 121, 122, 48, 49, 50, 51, 52, 53, 54, 55, 56, 57, 45])))
    (.seq (.set 3 (.bin .add (.con (.int 1)) (.bin .mod (.var 0) (.con (.int 12)))))
    (.seq (.set 4 (.bin .mod (.var 1) (.var 3)))
    (.seq (.set 5 (.lst .nil))
    (.seq (.for1 6 (.rng1 (.con (.int 5)))
    (.seq (.set 7 (.con (.str [])))
    (.seq (.for1 8 (.rng1 (.con (.int 12)))
    (.seq (.set 9 (.bin .mod (.bin .mul (.bin .mul (.bin .add (.bin .mod (.bin .fdiv (.var 0) (.con (.int 12))) (.con (.int 99991))) (.con (.int 7))) (.bin .add (.var 8) (.con (.int 3)))) (.con (.int 48271))) (.con (.int 65537))))
    (.seq (.ite (.and (.cmp .eq (.var 8) (.var 4)) (.cmp .eq (.bin .mod (.bin .fdiv (.var 1) (.con (.int 12))) (.con (.int 2))) (.con (.int 0))))
    (.seq (.set 9 (.bin .add (.var 9) (.var 6)))
    .nil)
    .nil)
    (.seq (.set 7 (.bin .add (.var 7) (.ix (.var 2) (.bin .mod (.var 9) (.con (.int 37))))))
    .nil))))
    (.seq (.ite (.cmp .eq (.bin .mod (.bin .fdiv (.var 1) (.con (.int 12))) (.con (.int 2))) (.con (.int 0)))
    (.seq (.ex (.ml .append (.var 5) (.cons (.sl (.var 7) .nil (.var 3)) .nil)))
    .nil)
    (.seq (.ex (.ml .append (.var 5) (.cons (.sl (.var 7) .nil (.bin .add (.con (.int 1)) (.bin .mod (.bin .add (.var 3) (.var 6)) (.con (.int 12))))) .nil)))
    .nil))
    .nil))))
    (.seq (.ret (.frz (.var 5)))
    .nil))))))
noncomputable def b_l_name3 : CS :=
    (.seq (.set 2 (.tup .nil))
    (.seq (.set 3 (.bin .fdiv (.var 1) (.con (.int 5))))
    (.seq (.for1 4 (.rng1 (.bin .mod (.var 1) (.con (.int 5))))
    (.seq (.set 2 (.bin .add (.var 2) (.tup (.cons (.ix (.var 0) (.bin .mod (.var 3) (.con (.int 5)))) .nil))))
    (.seq (.set 3 (.bin .fdiv (.var 3) (.con (.int 5))))
    .nil)))
    (.seq (.ret (.var 2))
    .nil))))
noncomputable def b_l_ahead : CS :=
    (.seq (.for1 2 (.rng1 (.blt .min (.cons (.blt .len (.cons (.var 0) .nil)) (.cons (.blt .len (.cons (.var 1) .nil)) .nil))))
    (.seq (.ite (.cmp .ne (.ix (.var 0) (.var 2)) (.ix (.var 1) (.var 2)))
    (.seq (.ret (.cmp .ltS (.ix (.var 0) (.var 2)) (.ix (.var 1) (.var 2))))
    .nil)
    .nil)
    .nil))
    (.seq (.ret (.cmp .lt (.blt .len (.cons (.var 0) .nil)) (.blt .len (.cons (.var 1) .nil))))
    .nil))
noncomputable def b_law : CS :=
    (.seq (.set 1 (.call 101 (.cons (.call 100 (.cons (.var 0) (.cons (.con (.int 0)) .nil))) (.cons (.call 100 (.cons (.var 0) (.cons (.con (.int 1)) .nil))) .nil))))
    (.seq (.set 2 (.compz false [1] (.sl (.var 0) (.con (.int 2)) (.con (.int 65))) .nil (.call 102 (.cons (.var 1) (.cons (.var 0) .nil)))))
    (.seq (.set 3 (.frz (.blt .list (.cons (.var 2) .nil))))
    (.seq (.set 4 (.call 4 (.cons (.var 3) .nil)))
    (.seq (.ite (.or (.not (.isi .list (.var 4))) (.cmp .ne (.var 3) (.var 2)))
    (.seq (.ret (.con (.bl false)))
    .nil)
    .nil)
    (.seq (.for1 5 (.var 4)
    (.seq (.ite (.or (.not (.isi .tuple (.var 5))) (.cmp .nin (.var 5) (.var 2)))
    (.seq (.ret (.con (.bl false)))
    .nil)
    .nil)
    .nil))
    (.seq (.for1 5 (.var 2)
    (.seq (.ite (.cmp .nin (.var 5) (.var 4))
    (.seq (.ret (.con (.bl false)))
    .nil)
    .nil)
    .nil))
    (.seq (.for1 6 (.rng1 (.bin .sub (.blt .len (.cons (.var 4) .nil)) (.con (.int 1))))
    (.seq (.ite (.not (.call 103 (.cons (.ix (.var 4) (.var 6)) (.cons (.ix (.var 4) (.bin .add (.var 6) (.con (.int 1)))) .nil))))
    (.seq (.ret (.con (.bl false)))
    .nil)
    .nil)
    .nil))
    (.seq (.ret (.cmp .eq (.call 4 (.cons (.lstz .nil) .nil)) (.lstz .nil)))
    .nil)))))))))
noncomputable def sp_ordered : DSp := fun ds M R => ∃ zs : List (List W), ds = [.lst (zs.map dn)] ∧ zs.length ≤ 63 ∧ ∀ zs' : List (List W), zs'.Pairwise (fun x y => ltZ x y = true) → (∀ z, z ∈ zs' ↔ z ∈ zs) → R (.lst (zs'.map dn)) M
noncomputable def sp_l_words3 : DSp := fun ds M R => ∃ (a b : Int), ds = [.int a, .int b] ∧ ∀ ws : List W, ws.length = 5 → R (.lst (ws.map D.str)) M
noncomputable def sp_l_name3 : DSp := fun ds M R => ∃ (ws : List W) (c : Int), ds = [.lst (ws.map D.str), .int c] ∧ ws.length = 5 ∧ ∀ z : List W, z.length ≤ 4 → R (dn z) M
noncomputable def sp_l_ahead : DSp := fun ds M R => ∃ x y : List W, ds = [dn x, dn y] ∧ x.length ≤ 900 ∧ R (.bl (ltZ x y)) M
noncomputable def sp_law : DSp := dLaw 63
theorem szL {n : Nat} (h : n ≤ 1000) : n ≤ sizeLine := Nat.le_of_lt (small1000 h)
theorem ok_ordered {T : Tab} : ∀ ds M R, sp_ordered ds M R → evS T b_ordered (dends' R) (dstart ["a"] ds) M := by
  rintro ds M R ⟨zs, rfl, hz, h⟩
  simp only [b_ordered]
  walk_at "ev"
  simp only [dFrz]
  walk_at "ev"
  simp only [rSortSet, lstOf]
  refine ⟨zs, rfl, hz, fun zs' pw me p hp => ?_⟩
  simp only [dupd_same]
  refine ⟨M, fun c o e => ?_, h zs' pw me⟩
  unfold ddel dupd
  have : c ≠ p := dne e hp
  rw [if_neg this, if_neg this]
  exact e
theorem ok_l_words3 {T : Tab} : ∀ ds M R, sp_l_words3 ds M R → evS T b_l_words3 (dends' R) (dstart ["a", "b", "c", "d", "e", "f", "g", "h", "i", "j"] ds) M := by
  rintro ds M R ⟨a, b, rfl, h⟩
  simp only [b_l_words3]
  refine seq_step fun k1 e1 => ?_
  walk_at "ev"
  rw [e1]; clear e1
  refine seq_step fun k1 e1 => ?_
  walk_at "ev"
  refine ⟨by decide, ?_⟩
  have m1 : 0 ≤ a % 12 := Int.emod_nonneg _ (by decide)
  have m2 : a % 12 < 12 := Int.emod_lt_of_pos _ (by decide)
  obtain ⟨sz, es, hsz⟩ : ∃ sz : Nat, 1 + a % 12 = ((sz + 1 : Nat) : Int) ∧ sz < 12 := ⟨(a % 12).toNat, by omega, by omega⟩
  rw [es, e1]; clear e1
  refine seq_step fun k1 e1 => ?_
  walk_at "ev"
  refine ⟨by omega, ?_⟩
  generalize b % ((sz + 1 : Nat) : Int) = u
  rw [e1]; clear e1
  refine seq_step fun k1 e1 => ?_
  walk_at "ev"
  refine ⟨szL (by decide), fun p hp => ?_⟩
  rw [e1]; clear e1
  refine seq_step fun k1 e1 => ?_
  walk_at "ev"
  refine ⟨by decide, by decide, ?_⟩
  refine loop_rng (fun i ρ M' => ∃ (ws : List W) (v6 v7 v8 v9 : Option D), M' = dupd M p (.lst (ws.map D.str)) ∧ ρ = [some (.int a), some (.int b), some (.str signs), some (.int ((sz + 1 : Nat) : Int)), some (.int u), some (.ref p), v6, v7, v8, v9] ∧ ws.length = i)
    ⟨[], none, none, none, none, rfl, rfl, rfl⟩ (fun _ _ _ _ => trivial) ?_ ?_
  · rintro i ρ M' k hi ⟨ws, v6, v7, v8, v9, rfl, rfl, hw⟩ hk
    show dSeq _ _ _ _ _
    refine dseq_step fun k2 e2 => ?_
    walk_at "ev"
    rw [e2]; clear e2
    refine dseq_step fun k2 e2 => ?_
    walk_at "ev"
    refine ⟨by decide, by decide, ?_⟩
    refine loop_rng (fun j ρ M' => ∃ (w : W) (v8 v9 : Option D), M' = dupd M p (.lst (ws.map D.str)) ∧ ρ = [some (.int a), some (.int b), some (.str signs), some (.int ((sz + 1 : Nat) : Int)), some (.int u), some (.ref p), some (.int (0 + (i : Int))), some (.str w), v8, v9] ∧ w.length = j)
      ⟨[], v8, v9, rfl, rfl, rfl⟩ (fun _ _ _ _ => trivial) ?_ ?_
    · rintro j ρ M' k3 hj ⟨w, v8, v9, rfl, rfl, hwl⟩ hk3
      show dSeq _ _ _ _ _
      refine dseq_step fun k4 e4 => ?_
      walk_at "ev"
      have d1 : 0 ≤ a / 12 % 99991 := Int.emod_nonneg _ (by decide)
      have d2 : a / 12 % 99991 < 99991 := Int.emod_lt_of_pos _ (by decide)
      refine ⟨⟨by decide, by decide⟩, by decide, mulOk (by omega) (by omega), .inr ⟨by decide, by decide⟩, by decide, ?_⟩
      have n1 : 0 ≤ (a / 12 % 99991 + 7) * (0 + (j : Int) + 3) * 48271 % 65537 := Int.emod_nonneg _ (by decide)
      generalize (a / 12 % 99991 + 7) * (0 + (j : Int) + 3) * 48271 % 65537 = n at n1
      rw [e4]; clear e4
      refine dseq_step fun k4 e4 => ?_
      have last : ∀ z : Int, k4 [some (.int a), some (.int b), some (.str signs), some (.int ((sz + 1 : Nat) : Int)), some (.int u), some (.ref p), some (.int (0 + (i : Int))), some (.str w), some (.int (0 + (j : Int))), some (.int z)] (dupd M p (.lst (ws.map D.str))) := by
        intro z
        rw [e4]; clear e4
        walk_at "ev"
        have z1 : 0 ≤ z % 37 := Int.emod_nonneg _ (by decide)
        have z2 : z % 37 < 37 := Int.emod_lt_of_pos _ (by decide)
        refine ⟨by decide, ix_str z1 (show z % 37 < ((signs.length : Nat) : Int) from z2) (by decide) fun x hx => ?_⟩
        walk_at "ev"
        refine ⟨szL (by rw [hwl]; omega), hk3 _ _ ⟨w ++ [x], _, _, rfl, rfl, by rw [List.length_append, hwl]; rfl⟩⟩
      walk_at "ev"
      refine ⟨rfl, rfl, ite2 (fun _ => ?_) fun _ => last n⟩
      refine ⟨⟨by decide, by decide⟩, by decide, rfl, rfl, ite2 (fun _ => ?_) fun _ => last n⟩
      exact last _
    · rintro ρ M' ⟨w, v8, v9, rfl, rfl, hwl⟩
      rw [e2]; clear e2
      walk_at "ev"
      have hwz : w.length ≤ sizeLine := szL (by omega)
      refine ⟨⟨by decide, by decide⟩, by decide, rfl, rfl, ite2 (fun _ => ?_) fun _ => ?_⟩
      · simp only [dupd_same]
        refine ⟨hwz, small1000 (by rw [List.length_map]; omega), ?_⟩
        rw [dupd_dupd]
        exact hk _ _ ⟨ws ++ [cut w none (some ((sz + 1 : Nat) : Int))], _, _, _, _, by rw [List.map_append]; rfl, rfl, by rw [List.length_append, hw]; rfl⟩
      · simp only [dupd_same]
        refine ⟨by decide, hwz, small1000 (by rw [List.length_map]; omega), ?_⟩
        rw [dupd_dupd]
        exact hk _ _ ⟨ws ++ [cut w none (some (1 + (((sz + 1 : Nat) : Int) + (0 + (i : Int))) % 12))], _, _, _, _, by rw [List.map_append]; rfl, rfl, by rw [List.length_append, hw]; rfl⟩
  · rintro ρ M' ⟨ws, v6, v7, v8, v9, rfl, rfl, hw⟩
    rw [e1]; clear e1
    walk_at "ev"
    simp only [dFrz]
    walk_at "ev"
    simp only [dupd_same]
    refine ⟨M, fun c o e => ?_, h ws hw⟩
    unfold ddel dupd
    have : c ≠ p := dne e hp
    rw [if_neg this, if_neg this]
    exact e
theorem ok_l_name3 {T : Tab} : ∀ ds M R, sp_l_name3 ds M R → evS T b_l_name3 (dends' R) (dstart ["a", "b", "c", "d", "e"] ds) M := by
  rintro ds M R ⟨ws, c, rfl, hw, h⟩
  simp only [b_l_name3, dn]
  refine seq_step fun k1 e1 => ?_
  walk_at "ev"
  refine ⟨szL (by decide), ?_⟩
  rw [e1]; clear e1
  refine seq_step fun k1 e1 => ?_
  walk_at "ev"
  refine ⟨⟨by decide, by decide⟩, ?_⟩
  rw [e1]; clear e1
  refine seq_step fun k1 e1 => ?_
  walk_at "ev"
  have m1 : 0 ≤ c % 5 := Int.emod_nonneg _ (by decide)
  have m2 : c % 5 < 5 := Int.emod_lt_of_pos _ (by decide)
  obtain ⟨n, hn⟩ := Int.eq_ofNat_of_zero_le m1
  rw [hn] at m2 ⊢
  refine ⟨by decide, by omega, by omega, ?_⟩
  rw [Int.toNat_natCast]
  refine loop_rng (fun i ρ M' => M' = M ∧ ∃ (z : List W) (r : Int) (v : Option D), ρ = [some (.lst (ws.map D.str)), some (.int c), some (.tup (z.map D.str)), some (.int r), v] ∧ z.length = i) ⟨rfl, [], _, none, rfl, rfl⟩ (fun _ _ _ _ => trivial) ?_ ?_
  · rintro i ρ M' k hi ⟨rfl, z, r, v, rfl, hz⟩ hk
    show dSeq _ _ _ _ _
    refine dseq_step fun k2 e2 => ?_
    walk_at "ev"
    have r1 : 0 ≤ r % 5 := Int.emod_nonneg _ (by decide)
    have r2 : r % 5 < 5 := Int.emod_lt_of_pos _ (by decide)
    refine ⟨by decide, ix_lst r1 (by rw [List.length_map, hw]; exact r2) fun d hd => ?_⟩
    rw [List.getElem?_map] at hd
    obtain ⟨x, hx, rfl⟩ := Option.map_eq_some_iff.mp hd
    refine ⟨szL (by decide), szL (by rw [List.length_map]; omega), ?_⟩
    rw [e2]; clear e2
    walk_at "ev"
    refine ⟨⟨by decide, by decide⟩, hk _ _ ⟨rfl, z ++ [x], _, _, by rw [List.map_append]; rfl, by rw [List.length_append, hz]; rfl⟩⟩
  · rintro ρ M' ⟨rfl, z, r, v, rfl, hz⟩
    rw [e1]; clear e1
    walk_at "ev"
    exact ret_ok (h z (by omega))
theorem ltZ_eq : ∀ (n : Nat) (x y : List W), n < x.length → n < y.length → (∀ i, i < n → x[i]? = y[i]?) → ∀ a b, x[n]? = some a → y[n]? = some b → a ≠ b → ltZ x y = decide (a < b)
  | 0, a :: x, b :: y, _, _, _, _, _, ha, hb, ne => by
    cases ha
    cases hb
    unfold ltZ
    rw [if_neg ne]
  | n + 1, a :: x, b :: y, h1, h2, h3, u, v, hu, hv, ne => by
    have e : a = b := Option.some.inj (h3 0 (Nat.succ_pos _))
    unfold ltZ
    rw [if_pos e]
    exact ltZ_eq n x y (Nat.lt_of_succ_lt_succ h1) (Nat.lt_of_succ_lt_succ h2) (fun i hi => h3 (i + 1) (Nat.succ_lt_succ hi)) u v hu hv ne
theorem ltZ_end : ∀ (x y : List W), (∀ i, i < min x.length y.length → x[i]? = y[i]?) → ltZ x y = decide (x.length < y.length)
  | [], [], _ => rfl
  | [], _ :: _, _ => (decide_eq_true (Nat.succ_pos _)).symm
  | _ :: _, [], _ => (decide_eq_false (Nat.not_lt_zero _)).symm
  | a :: x, b :: y, h => by
    have e : a = b := Option.some.inj (h 0 (by simp only [List.length_cons]; omega))
    unfold ltZ
    rw [if_pos e, ltZ_end x y fun i hi => h (i + 1) (by simp only [List.length_cons]; omega)]
    exact decide_eq_decide.mpr (by simp only [List.length_cons]; omega)
theorem ok_l_ahead {T : Tab} : ∀ ds M R, sp_l_ahead ds M R → evS T b_l_ahead (dends' R) (dstart ["a", "b", "c"] ds) M := by
  rintro ds M R ⟨a, b, rfl, hl, h⟩
  simp only [b_l_ahead, dn]
  refine seq_step fun k1 e1 => ?_
  walk_at "ev"
  rw [List.length_map, List.length_map]
  have em : (if (b.length : Int) < (a.length : Int) then (b.length : Int) else (a.length : Int)) = ((min a.length b.length : Nat) : Int) := by
    split <;> omega
  rw [em]
  refine ⟨by omega, by omega, ?_⟩
  rw [Int.toNat_natCast]
  refine loop_rng (fun i ρ M' => M' = M ∧ ∃ v : Option D, ρ = [some (dn a), some (dn b), v] ∧ ∀ j, j < i → a[j]? = b[j]?) ⟨rfl, none, rfl, fun j hj => absurd hj (Nat.not_lt_zero _)⟩ (fun _ _ _ _ => trivial) ?_ ?_
  · rintro i ρ M' k hi ⟨rfl, v, rfl, ht⟩ hk
    simp only [dn]
    walk_at "ev"
    have hia : i < a.length := by omega
    have hib : i < b.length := by omega
    have ea : a[i]? = some a[i] := List.getElem?_eq_getElem hia
    have eb : b[i]? = some b[i] := List.getElem?_eq_getElem hib
    have at_a : ∀ {Q : DK}, Q (.str a[i]) M' → rIxD (.tup (a.map D.str)) (.int (i : Int)) M' Q := fun q => ix_tup (by omega) (by rw [List.length_map]; omega) fun d hd => by
      rw [Int.toNat_natCast, List.getElem?_map, ea] at hd
      cases hd
      exact q
    have at_b : ∀ {Q : DK}, Q (.str b[i]) M' → rIxD (.tup (b.map D.str)) (.int (i : Int)) M' Q := fun q => ix_tup (by omega) (by rw [List.length_map]; omega) fun d hd => by
      rw [Int.toNat_natCast, List.getElem?_map, eb] at hd
      cases hd
      exact q
    rw [Int.zero_add]
    refine at_a (at_b ?_)
    simp only [eqB_str]
    refine ⟨rfl, rfl, ?_⟩
    by_cases hc : a[i] = b[i]
    · rw [decide_eq_true hc]
      refine iteF (hk _ _ ⟨rfl, _, rfl, fun j hj => ?_⟩)
      rcases Nat.lt_or_ge j i with lt | ge
      · exact ht j lt
      · rw [show j = i by omega, ea, eb, hc]
    · rw [decide_eq_false hc]
      refine iteT (at_a (at_b ?_))
      rw [ltZ_eq i a b hia hib ht _ _ ea eb hc] at h
      exact ret_ok h
  · rintro ρ M' ⟨rfl, v, rfl, ht⟩
    rw [e1]; clear e1
    simp only [dn]
    walk_at "ev"
    rw [List.length_map, List.length_map]
    rw [ltZ_end a b ht] at h
    refine ret_ok ?_
    rw [show decide ((a.length : Int) < (b.length : Int)) = decide (a.length < b.length) from decide_eq_decide.mpr Int.ofNat_lt]
    exact h
theorem plain_dn (z : List W) : DL.plain 11 (dn z) = true := by
  show (z.map D.str).all (DL.plain 10) = true
  rw [List.all_map, List.all_eq_true]
  intro x _
  rfl
theorem plain_names (zs : List (List W)) : (zs.map dn).all (DL.plain 11) = true := by
  rw [List.all_map, List.all_eq_true]
  intro z _
  exact plain_dn z
theorem in_names {z : List W} {zs : List (List W)} (h : z ∈ zs) : ((zs.map dn).any fun d => eqB d (dn z)) = true :=
  List.any_eq_true.mpr ⟨dn z, List.mem_map.mpr ⟨z, h, rfl⟩, eqB_self _⟩
theorem ok_law (T : Tab) (h1 : T.fn 4 = some ⟨"ordered", 1, [], sp_ordered⟩) (h2 : T.fn 103 = some ⟨"_law_ahead", 2, [], sp_l_ahead⟩) (h3 : T.fn 102 = some ⟨"_law_name", 2, [], sp_l_name3⟩) (h4 : T.fn 101 = some ⟨"_law_words", 2, [], sp_l_words3⟩) (h5 : T.fn 100 = some ⟨"_law_cell_at", 2, [], sp_l_cell_at⟩) :
    ∀ ds M R, sp_law ds M R → evS T b_law (dends' R) (dstart ["a", "b", "c", "d", "e", "f", "g"] ds) M := by
  intro ds M R h
  unfold sp_law dLaw at h
  split at h
  · rename_i ds0
    obtain ⟨ns, rfl, hl, h⟩ := h
    simp only [b_law]
    refine seq_step fun k1 e1 => ?_
    walk_at "ev"
    simp only [h4, h5]
    walk_at "ev"
    refine ⟨ns, 0, rfl, fun n0 => ⟨ns, 1, rfl, fun n1 => ⟨n0, n1, rfl, fun ws hw => ?_⟩⟩⟩
    rw [e1]; clear e1
    refine seq_step fun k1 e1 => ?_
    walk_at "ev"
    simp only [h3]
    walk_at "ev"
    intro p hp
    simp only [dupd_same]
    have ec : cut (ns.map D.int) (some 2) (some 65) = ((ns.map D.int).drop 2).take 63 := cut_mid _ 2 65
    rw [ec]
    have lc : (((ns.map D.int).drop 2).take 63).length ≤ 63 := by rw [List.length_take]; omega
    refine cloop_some (fun _ z => ∃ w : List W, w.length ≤ 4 ∧ z = dn w) dupd_same (by omega) ?_ ?_
    · intro d k hd hk
      have hd' := List.mem_of_mem_drop (List.mem_of_mem_take hd)
      obtain ⟨n, _, rfl⟩ := List.mem_map.mp hd'
      walk_at "ev"
      exact ⟨ws, n, rfl, hw, fun w hw => hk _ ⟨w, hw, rfl⟩⟩
    intro zs0 hz hp'
    obtain ⟨zs, rfl, ha⟩ : ∃ zs : List (List W), zs0 = zs.map dn ∧ ∀ z ∈ zs, z.length ≤ 4 := by
      clear hz
      induction zs0 with
      | nil => exact ⟨[], rfl, fun _ h => nomatch h⟩
      | cons x r ih =>
        obtain ⟨_, _, w, q1, q2⟩ := hp' x List.mem_cons_self
        obtain ⟨zs, g1, g2⟩ := ih fun z hz => hp' z (List.mem_cons_of_mem _ hz)
        refine ⟨w :: zs, by rw [q2, g1]; rfl, fun z hz => ?_⟩
        rcases List.mem_cons.mp hz with e | e
        · rw [e]; exact q1
        · exact g2 z e
    rw [List.length_map] at hz
    have lz : zs.length ≤ 63 := by omega
    refine ⟨szL (by rw [List.length_map]; omega), ?_⟩
    have sM : Sub M (dupd M p (.lst (((ns.map D.int).drop 2).take 63))) := Sub.new hp
    generalize dupd M p (.lst (((ns.map D.int).drop 2).take 63)) = M1 at sM
    clear ec lc hp hp' hz
    rw [e1]; clear e1
    refine seq_step fun k1 e1 => ?_
    walk_at "ev"
    simp only [dFrz]
    walk_at "ev"
    intro q hq
    simp only [dupd_same]
    have s2 : Sub M (ddel (dupd M1 q (.lst (zs.map dn))) q) := fun c o e => by
      have e' := sM c o e
      unfold ddel dupd
      have : c ≠ q := dne e' hq
      rw [if_neg this, if_neg this]
      exact e'
    generalize ddel (dupd M1 q (.lst (zs.map dn))) q = Mz at s2
    rw [e1]; clear e1
    refine seq_step fun k1 e1 => ?_
    walk_at "ev"
    simp only [h1]
    walk_at "ev"
    refine ⟨zs, rfl, lz, fun fs pw me => ?_⟩
    rw [e1]; clear e1
    refine seq_step fun k1 e1 => ?_
    walk_at "ev"
    simp only [tyD, Ty.sub, eqB_self]
    refine iteF ⟨plain_names zs, plain_names zs, iteF ?_⟩
    rw [e1]; clear e1
    refine seq_step fun k1 e1 => ?_
    walk_at "ev"
    refine loop_inv (fun i ρ M' => M' = Mz ∧ ∃ v : Option D, ρ = [some (.lst (ns.map D.int)), some (.lst (ws.map D.str)), some (.lst (zs.map dn)), some (.lst (zs.map dn)), some (.lst (fs.map dn)), v, none]) ⟨rfl, _, rfl⟩ (fun _ _ _ _ => trivial) ?_ ?_
    · rintro i d ρ M' k hd ⟨hM, v, rfl⟩ hk
      rw [hM]
      clear hM
      obtain ⟨z, hz, rfl⟩ := List.mem_map.mp (List.mem_of_getElem? hd)
      walk_at "ev"
      have et : tyD (dn z) = tyD (.tup []) := rfl
      simp only [et, tyD, Ty.sub]
      refine iteF ⟨_, rfl, plain_dn z, plain_names zs, ?_⟩
      have hin : ((zs.map dn).any fun d => eqB d (dn z)) = true := in_names ((me z).mp hz)
      exact ite2 (fun q => absurd q (by show ¬ (!((zs.map dn).any fun d => eqB d (dn z))) = true; rw [hin]; exact Bool.false_ne_true)) fun _ => hk _ _ ⟨rfl, _, rfl⟩
    rintro ρ M' ⟨hM, v, rfl⟩
    rw [hM]
    clear hM
    rw [e1]; clear e1
    refine seq_step fun k1 e1 => ?_
    walk_at "ev"
    refine loop_inv (fun i ρ M' => M' = Mz ∧ ∃ v : Option D, ρ = [some (.lst (ns.map D.int)), some (.lst (ws.map D.str)), some (.lst (zs.map dn)), some (.lst (zs.map dn)), some (.lst (fs.map dn)), v, none]) ⟨rfl, _, rfl⟩ (fun _ _ _ _ => trivial) ?_ ?_
    · rintro i d ρ M' k hd ⟨hM, v, rfl⟩ hk
      rw [hM]
      clear hM
      obtain ⟨z, hz, rfl⟩ := List.mem_map.mp (List.mem_of_getElem? hd)
      walk_at "ev"
      refine ⟨_, rfl, plain_dn z, plain_names fs, ?_⟩
      have hin : ((fs.map dn).any fun d => eqB d (dn z)) = true := in_names ((me z).mpr hz)
      exact ite2 (fun q => absurd q (by show ¬ (!((fs.map dn).any fun d => eqB d (dn z))) = true; rw [hin]; exact Bool.false_ne_true)) fun _ => hk _ _ ⟨rfl, _, rfl⟩
    rintro ρ M' ⟨hM, v, rfl⟩
    rw [hM]
    clear hM
    rw [e1]; clear e1
    refine seq_step fun k1 e1 => ?_
    walk_at "ev"
    rw [List.length_map]
    have lf : fs.length ≤ 63 := by
      have nd : fs.Nodup := pw.imp fun {x y} q e => by
        rw [e] at q
        have : ltZ y y = false := by
          rw [← ltZ_S]
          exact STb.ltN_irrefl _
        rw [this] at q
        cases q
      exact Nat.le_trans (List.Nodup.length_le_of_subset nd fun z hz => (me z).mp hz) lz
    refine ⟨by omega, by omega, ?_⟩
    refine loop_rng (fun i ρ M' => M' = Mz ∧ ∃ v w : Option D, ρ = [some (.lst (ns.map D.int)), some (.lst (ws.map D.str)), some (.lst (zs.map dn)), some (.lst (zs.map dn)), some (.lst (fs.map dn)), v, w]) ⟨rfl, _, _, rfl⟩ (fun _ _ _ _ => trivial) ?_ ?_
    · rintro i ρ M' k hi ⟨hM, v, w, rfl⟩ hk
      rw [hM]
      clear hM
      have h0 : i + 1 < fs.length := by omega
      walk_at "ev"
      simp only [h2]
      walk_at "ev"
      rw [Int.zero_add]
      refine ix_lst (by omega) (by rw [List.length_map]; omega) fun d hd => ?_
      refine ix_lst (by omega) (by rw [List.length_map]; omega) fun d' hd' => ?_
      rw [Int.toNat_natCast, List.getElem?_map, List.getElem?_eq_getElem (by omega)] at hd
      rw [show ((i : Int) + 1).toNat = i + 1 by omega, List.getElem?_map, List.getElem?_eq_getElem h0] at hd'
      cases hd
      cases hd'
      have lt : ltZ fs[i] fs[i + 1] = true := List.pairwise_iff_getElem.mp pw i (i + 1) (by omega) h0 (Nat.lt_succ_self _)
      refine ⟨fs[i], fs[i + 1], rfl, Nat.le_trans (ha _ ((me _).mp (List.getElem_mem _))) (by decide), ?_⟩
      rw [lt]
      exact iteF (hk _ _ ⟨rfl, _, _, rfl⟩)
    rintro ρ M' ⟨hM, v, w, rfl⟩
    rw [hM]
    clear hM
    rw [e1]; clear e1
    walk_at "ev"
    simp only [h1]
    walk_at "ev"
    refine ⟨Nat.zero_le _, [], rfl, by decide, fun gs _ me' => ?_⟩
    obtain rfl : gs = [] := by
      cases gs with
      | nil => rfl
      | cons z r => exact nomatch (me' z).mp List.mem_cons_self
    refine ⟨Nat.zero_le _, rfl, rfl, M, s2, ?_⟩
    show R (.bl (eqB (.lst []) (.lst []))) M
    rw [eqB_self]
    exact h
  · exact h.elim

set_option Elab.async false
set_option linter.all false
set_option maxRecDepth 100000
open PySem PySem.Spec L2 DL IR
open PyProof.Rows hiding St
noncomputable def top (i : Nat) : Stmt := PySem.Challenge.pw_namewell_k03_ordered.main.body.getD i (.Pass ⟨0, 0, 0, 0⟩)
noncomputable def bls : List Str := ["sorted", "set", "len", "range", "min", "isinstance", "tuple", "list"]
noncomputable def cons : Nat → Option (Str × D)
  | _ => none
noncomputable def fns : Nat → Option FI
  | 4 => some ⟨"ordered", 1, [], sp_ordered⟩
  | 100 => some ⟨"_law_cell_at", 2, [], sp_l_cell_at⟩
  | 101 => some ⟨"_law_words", 2, [], sp_l_words3⟩
  | 102 => some ⟨"_law_name", 2, [], sp_l_name3⟩
  | 103 => some ⟨"_law_ahead", 2, [], sp_l_ahead⟩
  | _ => none
noncomputable def mts : Nat → Option MI
  | _ => none
noncomputable def mks : Nat → Option MI
  | _ => none
noncomputable def fds : List (Str × Str) := []
noncomputable def tab : Tab := { fn := fns, kfn := fun _ => none, con := cons, bl := bls, fx := fun _ => none, cl := fun _ => none, mt := mts, ini := mks, fd := fds }
noncomputable abbrev sT (i : Nat) : Stmt := top i
noncomputable abbrev sM (i j : Nat) : Stmt := inClass (top i) j
noncomputable abbrev FnI (K : PySem.W.Frag) (nm : Str) (st : Stmt) : Prop := ∃ f oc od sl kV dc pm an cd ct, PySem.W.nsIn K mainGlobals nm = some (some (.ref f)) ∧ K.lookup f = some ⟨oc, od, .func (PySem.W.fnOf nm nm (defArgs st) (defBody st) (defScope st) .none kV dc pm an cd ct), sl⟩ ∧ PySem.W.codeIn K cd nm = true ∧ PySem.W.keepIn K (.ref f) = true
noncomputable abbrev MtI (K : PySem.W.Frag) (C : Addr) (nm qn : Str) (st : Stmt) : Prop := ∃ f oc od sl kV dc pm an cd ct, PySem.W.findIn K (.ref C) nm = some (some (.ref f)) ∧ PySem.W.isFn K (.ref f) = true ∧ K.lookup f = some ⟨oc, od, .func (PySem.W.fnOf nm qn (defArgs st) (defBody st) (defScope st) .none kV dc pm an cd ct), sl⟩ ∧ PySem.W.codeIn K cd qn = true ∧ PySem.W.keepIn K (.ref f) = true
theorem fnI {K : PySem.W.Frag} {nm : Str} {st : Stmt} {f : Addr} {oc : Value} {od : Option Addr} {sl : Array (Option Value)} {kV dc pm : Value} {an : Option Addr} {cd ct : Value} (q1 : PySem.W.nsIn K mainGlobals nm = some (some (.ref f))) (q2 : K.lookup f = some ⟨oc, od, .func (PySem.W.fnOf nm nm (defArgs st) (defBody st) (defScope st) .none kV dc pm an cd ct), sl⟩) (q3 : PySem.W.codeIn K cd nm = true) (q4 : PySem.W.keepIn K (.ref f) = true) : FnI K nm st := ⟨f, oc, od, sl, kV, dc, pm, an, cd, ct, q1, q2, q3, q4⟩
theorem mtI {K : PySem.W.Frag} {C : Addr} {nm qn : Str} {st : Stmt} {f : Addr} {oc : Value} {od : Option Addr} {sl : Array (Option Value)} {kV dc pm : Value} {an : Option Addr} {cd ct : Value} (q1 : PySem.W.findIn K (.ref C) nm = some (some (.ref f))) (q0 : PySem.W.isFn K (.ref f) = true) (q2 : K.lookup f = some ⟨oc, od, .func (PySem.W.fnOf nm qn (defArgs st) (defBody st) (defScope st) .none kV dc pm an cd ct), sl⟩) (q3 : PySem.W.codeIn K cd qn = true) (q4 : PySem.W.keepIn K (.ref f) = true) : MtI K C nm qn st := ⟨f, oc, od, sl, kV, dc, pm, an, cd, ct, q1, q0, q2, q3, q4⟩
noncomputable abbrev ObI (K : PySem.W.Frag) (C : Addr) : Prop := PySem.W.plainGet K C Str.empty = true ∧ PySem.W.hasDictIn K C = true ∧ PySem.W.plainOver K C = true ∧ PySem.W.findIn K (.ref C) "__setattr__" = some (some (.builtin "object.__setattr__")) ∧ PySem.W.makesIn K C = true ∧ PySem.W.keepIn K (.ref C) = true
theorem ObI.cls {K : PySem.W.Frag} {C : Addr} (h : ObI K C) : Cls K C := ⟨h.1, h.2.1, h.2.2.1, h.2.2.2.1⟩
structure BoI (T : Tab) (b : CS) (N ps : List Str) (nm qn : Str) (st : Stmt) (sp : DSp) : Prop where
  sc : FnScope N ps (defScope st)
  ck : (chkS T b).b ⟨N, (defScope st).names⟩ (defBody st) = true
  ln : ∀ ds M R, sp ds M R → ds.length = ps.length
  ok : ∀ ds M R, sp ds M R → evS T b (dends' R) (dstart N ds) M
  bd : ∀ (kV doc pm : Value) (an : Option Addr) (cdv ct : Value) (us : List Value), us.length = ps.length → bindArgs (PySem.W.fnOf nm qn (defArgs st) (defBody st) (defScope st) .none kV doc pm an cdv ct) ⟨us, []⟩ = pure (ps.zip us)
  no : ∀ c M, ¬ T.xd c M
section
variable {P : Program} {w : World} {K : PySem.W.Frag} {h : Heap} {mg : Str → Option Value} {base : Heap} {T : Tab} {k : Nat} {b : CS} {N ps : List Str} {nm qn cl : Str} {st : Stmt} {sp : DSp} {C : Addr} {np : Nat}
theorem mkF (X : K.In h) (G : h.Ns mainGlobals mg) (H : FnI K nm st) (O : TabOk P w K mg base T k) (B : BoI T b N ps nm nm st sp) (e : ps.length = np) : FOk P w K mg base ⟨nm, np, [], sp⟩ (k + 1) := by
  obtain ⟨f, oc, od, sl, kV, dc, pm, an, cd, ct, q1, q2, q3, q4⟩ := H
  exact fok (def_ok b O (funV_mk (st := st) q2 q3 q4) B.sc B.ck B.ln B.ok B.no) (PySem.W.mg_of X G q1) q4 e ((fun_mk (st := st) q2 q3 q4).binds B.bd)
theorem mkM (oa : PySem.W.nsIn K mainGlobals cl = some (some (.ref C))) (ob : ObI K C) (H : MtI K C nm qn st) (O : TabOk P w K mg base T k) (B : BoI T b N ps nm qn st sp) : MtOk P w K mg base ⟨cl, nm, np, sp⟩ (k + 2) := by
  obtain ⟨f, oc, od, sl, kV, dc, pm, an, cd, ct, q1, q0, q2, q3, q4⟩ := H
  exact ⟨k + 1, C, f, _, _, Nat.le_refl _, oa, ob.cls, ⟨q1, q0, q4⟩, def_ok b O (funV_mk (st := st) q2 q3 q4) B.sc B.ck B.ln B.ok B.no, (fun_mk (st := st) q2 q3 q4).binds B.bd⟩
theorem mkI (X : K.In h) (G : h.Ns mainGlobals mg) (oa : PySem.W.nsIn K mainGlobals cl = some (some (.ref C))) (ob : ObI K C) (H : MtI K C "__init__" qn st) (O : TabOk P w K mg base T k) (B : BoI T b N ps "__init__" qn st sp) : MkOk P w K mg base ⟨cl, "__init__", np, sp⟩ (k + 2) := by
  obtain ⟨f, oc, od, sl, kV, dc, pm, an, cd, ct, q1, q0, q2, q3, q4⟩ := H
  exact ⟨k + 1, C, f, _, _, Nat.le_refl _, oa, PySem.W.mg_of X G oa, ⟨ob.2.2.2.2.1, q1, q0, ob.2.2.2.2.2⟩, def_ok b O (funV_mk (st := st) q2 q3 q4) B.sc B.ck B.ln B.ok B.no, (fun_mk (st := st) q2 q3 q4).binds B.bd⟩
end
theorem len_law : ∀ ds M R, sp_law ds M R → ds.length = 1 := by
  intro ds M R h
  unfold sp_law dLaw at h
  split at h
  · rfl
  · exact h.elim
open Lean in def mkN (p x : String) : Ident := mkIdent (Name.mkSimple (p ++ x))
open Lean in def mkS (xs : List String) : Array (TSyntax `term) := (xs.map fun s => ⟨(Syntax.mkStrLit s).raw⟩).toArray
set_option hygiene false
local macro_rules | `(tactic| walk_at "ln") => `(tactic| (intro _ _ _ h; repeat (first | exact congrArg List.length h.1 | (refine Exists.elim h ?_; clear h; intro _ h))))
open Lean in
local macro_rules | `(tactic| walk_at $s:str) => do
  let a := (s.getString.splitOn " ").toArray
  let wd := a[0]!
  if !["dF", "dM", "dI", "dL"].contains wd then Macro.throwUnsupported
  let q := a[1]!
  let g := fun (p : String) => mkN p q
  let h := fun (p : String) => mkN p a[2]!
  do
    let x := (a[3]!.drop 3).toString
    let pl := a[4]!.splitOn "."
    let st : TSyntax `term ← match pl with
      | [i, j] => `(sM $(Syntax.mkNumLit i) $(Syntax.mkNumLit j))
      | _ => `(sT $(Syntax.mkNumLit a[4]!))
    let np := a[5]!.toNat!
    let lv := Syntax.mkNumLit a[6]!
    let calls := (a[7]!.splitOn ",").filter (fun e => e != "" && e != "-")
    let ns := mkS (a[8]!.splitOn ",")
    let ps := ns.extract 0 np
    let nr := a[9]!.toNat!
    let mut acc : TSyntax `term ← `(TN)
    for e in calls.reverse do
      let c := (e.toList.filter (fun c => !c.isDigit)).head!
      let ab := e.splitOn c.toString
      let n := Syntax.mkNumLit ab[0]!
      let r := mkN "R" ab[1]!
      acc ← match c with
        | 'M' => `(TabOk.consM (T := tab) (f := $n) rfl (MtOk.mono $r (by decide)) $acc rfl rfl)
        | 'I' => `(TabOk.consI (T := tab) (f := $n) rfl (MkOk.mono $r (by decide)) $acc rfl rfl)
        | _ => `(TabOk.cons (T := tab) (f := $n) rfl (FOk.mono $r (by decide)) $acc rfl rfl)
    let cs : Array (TSyntax `term) := (calls.map fun e => ⟨(Syntax.mkNumLit (String.ofList (e.toList.takeWhile Char.isDigit))).raw⟩).toArray
    let mut ok : TSyntax `term := mkN "ok_" x
    if nr != 0 then
      ok ← `($ok _)
      for _ in [0:nr] do ok ← `($ok rfl)
    let ln : TSyntax `term ← if x == "law" then `(len_law) else `(by walk_at "ln")
    let mut t : TSyntax `term ← `(rfl)
    for _ in [0:np] do t ← `(fun _ => $t)
    let le := (#[mkIdent `len1, mkIdent `len2])[np - 1]!
    let sc ← `(⟨rfl, rfl, rfl, by decide +kernel, rfl, by decide +kernel, by decide +kernel⟩)
    let w' := fun (p : String) => mkN p (a[10]?.getD "")
    let nm := Syntax.mkStrLit (a[11]?.getD "")
    let cl := Syntax.mkStrLit (a[12]?.getD "")
    let nq := Syntax.mkNumLit (toString (if wd == "dF" then np else np - 1))
    let ac2 ← `((show TabOk l.prog w K mg base (tab.only [$cs,*]) ($lv - 1) from $acc))
    let bo ← `((BoI.mk (T := tab.only [$cs,*]) (b := $(mkN "b_" x)) (N := [$ns,*]) (ps := [$ps,*]) (st := $st) (sp := $(mkN "sp_" x)) $sc (by decide +kernel) $ln $ok (fun _ _ _ _ _ _ us hl => $le us hl $t) (fun _ _ h => h)))
    match wd with
    | "dL" => `(tactic| have $(g "Q") := def_ok (sp := $(mkN "sp_" x)) (N := [$ns,*]) (ps := [$ps,*]) $(mkN "b_" x) $ac2 (funV_mk (st := $st) $(h "l") $(h "c") $(h "k")) $sc (by decide +kernel) $ln $ok)
    | "dF" => `(tactic| have $(g "R") : FOk l.prog w K mg base ⟨$nm, $nq, [], $(mkN "sp_" x)⟩ $lv := mkF X G $(h "h") $ac2 $bo rfl)
    | "dM" => `(tactic| have $(g "R") : MtOk l.prog w K mg base ⟨$cl, $nm, $nq, $(mkN "sp_" x)⟩ ($lv + 1) := mkM $(w' "oa") $(w' "ob") $(h "h") $ac2 $bo)
    | _ => `(tactic| have $(g "R") : MkOk l.prog w K mg base ⟨$cl, $nm, $nq, $(mkN "sp_" x)⟩ ($lv + 1) := mkI X G $(w' "oa") $(w' "ob") $(h "h") $ac2 $bo)
set_option hygiene true
set_option maxHeartbeats 4000000 in
theorem all_mk {l : PySem.W.OpenLaw} {w : World} {K : PySem.W.Frag} {h : Heap} {mg : Str → Option Value} {fa : Addr} (X : K.In h) (G : h.Ns mainGlobals mg) (hfa : mg "law" = some (.ref fa))
    (h0 : FnI K "ordered" (sT 1))
    (h1 : FnI K "_law_cell_at" (sT 3))
    (h2 : FnI K "_law_words" (sT 4))
    (h3 : FnI K "_law_name" (sT 5))
    (h4 : FnI K "_law_ahead" (sT 6))
    (h5 : FnI K "law" (sT 7))
    (z0 : PySem.W.nsIn K mainGlobals "sorted" = some none)
    (z1 : PySem.W.nsIn K mainGlobals "set" = some none)
    (z2 : PySem.W.nsIn K mainGlobals "len" = some none)
    (z3 : PySem.W.nsIn K mainGlobals "range" = some none)
    (z4 : PySem.W.nsIn K mainGlobals "min" = some none)
    (z5 : PySem.W.nsIn K mainGlobals "isinstance" = some none)
    (z6 : PySem.W.nsIn K mainGlobals "tuple" = some none)
    (z7 : PySem.W.nsIn K mainGlobals "list" = some none)
    : ∃ fd : FuncData, (∀ (s : Shared) (v : Value), BindsTo s fd ⟨[v], []⟩ [("_law_script", v)]) ∧ ∀ base : Heap, K.In base → base.Ns mainGlobals mg → FnOk l.prog w K mg base CX0 2 fa fd ["_law_script"] (lSp K sp_law) := by
  obtain ⟨f5, oc5, od5, sl5, kV5, dc5, pm5, an5, cd5, ct5, a5, l5, c5, k5⟩ := h5
  have e := hfa.symm.trans (PySem.W.mg_of X G a5)
  cases e
  have nb : ∀ x ∈ bls, mg x = none := by
    intro x hx
    simp only [bls, List.mem_cons, List.not_mem_nil, or_false] at hx
    rcases hx with rfl | rfl | rfl | rfl | rfl | rfl | rfl | rfl
    · exact PySem.W.mg_none_of X G z0
    · exact PySem.W.mg_none_of X G z1
    · exact PySem.W.mg_none_of X G z2
    · exact PySem.W.mg_none_of X G z3
    · exact PySem.W.mg_none_of X G z4
    · exact PySem.W.mg_none_of X G z5
    · exact PySem.W.mg_none_of X G z6
    · exact PySem.W.mg_none_of X G z7
  have hcon : ∀ i p, cons i = some p → ∃ u v, mg p.1 = some u ∧ L2.RelV v u ∧ ∀ H, Den K H p.2 v := by
    intro i p hp
    unfold cons at hp
    cases hp
  have hcl : ∀ c x, tab.cl c = some x → ∃ C, mg x = some (.ref C) ∧ XCls K C := fun c x h => nomatch h
  refine ⟨PySem.W.fnOf "law" "law" (defArgs (sT 7)) (defBody (sT 7)) (defScope (sT 7)) .none kV5 dc5 pm5 an5 cd5 ct5, fun s v => .of_eq rfl, fun base kb nbase => ?_⟩
  have TN : ∀ {k : Nat}, TabOk l.prog w K mg base (tab.only []) k := TabOk.nil hcon nb hcl
  walk_at "dF 0 0 ok_ordered 1 1 1 - names 0 - ordered"
  walk_at "dF 1 1 ok_l_cell_at 3 2 1 - _law_script,_law_k 0 - _law_cell_at"
  walk_at "dF 2 2 ok_l_words3 4 2 1 - _law_one,_law_other,_law_signs,_law_size,_law_at,_law_words_here,_law_k,_law_word,_law_j,_law_number 0 - _law_words"
  walk_at "dF 3 3 ok_l_name3 5 2 1 - _law_words_here,_law_cell,_law_name_here,_law_rest,_law_k 0 - _law_name"
  walk_at "dF 4 4 ok_l_ahead 6 2 1 - _law_one,_law_other,_law_k 0 - _law_ahead"
  walk_at "dL 5 5 ok_law 7 1 2 4F0,103F4,102F3,101F2,100F1 _law_script,_law_words_here,_law_names,_law_handed,_law_found,_law_name_here,_law_k 5"
  exact Q5
theorem walk {l : PySem.W.OpenLaw} {q : Program} {loose : List Str} {XP : (Str → Option Value) → Heap → Prop} {YP : World → Heap → Prop} {d : DefRec} {K : Params → PySem.W.Frag} (hn : l.most = some 63) (hdf : d.params.defaults = [])
    (hY : ∀ (w : World) (h : Heap), YP w h → (K w.params).In h)
    (F : ∀ (w : World) (mg : Str → Option Value) (fa : Addr) (h : Heap), (K w.params).In h → h.Ns mainGlobals mg → mg d.name = some (.ref fa) →
      ∃ fd : FuncData, (∀ (s : Shared) (u : Value), BindsTo s fd ⟨[u], []⟩ [("_law_script", u)]) ∧ ∀ base : Heap, (K w.params).In base → base.Ns mainGlobals mg → FnOk l.prog w (K w.params) mg base CX0 2 fa fd ["_law_script"] (lSp (K w.params) sp_law)) :
    PySem.W.WalkO q loose XP YP l.row.toRowW d [] (fun f vs => PySem.call f vs) :=
  L2.walk_of (n := 63) (k := 2) (x := "_law_script") (CX := fun _ => CX0) (sp := fun w => lSp (K w.params) sp_law) hn (by decide) hdf ⟨rfl, by decide, by decide⟩ hY F (fun _ _ a ns hl hO hS => law_sp hl hO hS) fun _ _ _ _ _ z => z
end My
open PySem PySem.W PyProof.Rows
set_option hygiene false
open Lean in
local macro_rules | `(tactic| walk_at $s:str) => do
  let a := s.getString.splitOn " "
  if a.head! != "dK" then Macro.throwUnsupported
  let mut ts : Array (TSyntax `tactic) := #[]
  for e in a.tail! do
    let x := My.mkN "" e
    let t ← match e.toList.head! with
      | 'f' => `(tactic| case $x:ident => (refine' My.fnI ?q1 ?q2 ?q3 ?q4; (case q1 => k_is); (case q2 => k_is); (case q3 => k_is); (case q4 => k_is)))
      | 'm' => `(tactic| case $x:ident => (refine' My.mtI ?q1 ?q2 ?q3 ?q4 ?q5; (case q1 => k_is); (case q2 => k_is); (case q3 => k_is); (case q4 => k_is); (case q5 => k_is)))
      | 'o' => `(tactic| case $x:ident => (refine ⟨?_, ?_, ?_, ?_, ?_, ?_⟩ <;> k_is))
      | _ => `(tactic| case $x:ident => k_is)
    ts := ts.push t
  `(tactic| ($[$ts]*))
set_option hygiene true
set_option maxRecDepth 100000 in
set_option maxHeartbeats 0 in
theorem PySem.Challenge.cw_namewell_k03_ordered_holds : PySem.Challenge.rw_namewell_k03_ordered.Holds := by
  refine TH.pack.2 ?_
  delta TH.pack; dsimp only
  k_fill
  refine My.walk (l := PySem.Challenge.rw_namewell_k03_ordered) rfl rfl (fun w h Y => PySem.W.kIn_of Y) ?F
  case F =>
    intro w mg fa h KX G hmg
    refine' My.all_mk KX G hmg ?f0 ?f1 ?f2 ?f3 ?f4 ?f5 ?z0 ?z1 ?z2 ?z3 ?z4 ?z5 ?z6 ?z7
    walk_at "dK f0 f1 f2 f3 f4 f5 z0 z1 z2 z3 z4 z5 z6 z7"




