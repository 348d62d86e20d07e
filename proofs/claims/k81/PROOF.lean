import PyProof.Rows.All
import Wide.All
import OpenK.AllK
import Wide.FinOn
import Lean
import PyProof.EqAt
import PyProof.EqKinds
import PyProof.TupleCall
import PySem.Challenge.RW_namewell_k81_an_outcome_shown
set_option Elab.async false
set_option linter.all false
set_option compiler.extract_closed false
set_option maxRecDepth 100000
namespace L2
open PySem PySem.Spec PyProof.Rows

noncomputable abbrev Key := Sum Int Str
noncomputable def keyIs : Key → Value → Bool
  | .inl k, v => Value.isInt k v
  | .inr x, v => Value.isStrOf x v
noncomputable def keyH (w : World) : Key → Int
  | .inl k => hashInt k
  | .inr x => hashStr w x
theorem keyIs_shape : ∀ {k : Key} {v : Value}, keyIs k v = true → (∃ i t, k = Sum.inl i ∧ v = Value.int i t) ∨ (∃ x t, k = Sum.inr x ∧ v = Value.str x t)
  | .inl i, v, h => by
    obtain ⟨t, e⟩ := Value.isInt_shape (k := i) (v := v) h
    exact .inl ⟨i, t, rfl, e⟩
  | .inr x, v, h => by
    obtain ⟨t, e⟩ := Value.isStrOf_shape (x := x) (v := v) h
    exact .inr ⟨x, t, rfl, e⟩
theorem keyIs_int (i : Int) (t : Tok) : keyIs (.inl i) (.int i t) = true := by simp [keyIs, Value.isInt]
theorem keyIs_str (x : Str) (t : Tok) : keyIs (.inr x) (.str x t) = true := by simp [keyIs, Value.isStrOf]
theorem key_ll (a b : Int) : decide ((Sum.inl a : Key) = Sum.inl b) = (a == b) := by
  by_cases e : a = b
  · subst e; simp
  · have h : ¬ (Sum.inl a : Key) = Sum.inl b := fun q => e (Sum.inl.inj q)
    rw [decide_eq_false h]
    exact (beq_eq_false_iff_ne.mpr e).symm
theorem key_rr (a b : Str) : decide ((Sum.inr a : Key) = Sum.inr b) = decide (a = b) := by
  by_cases e : a = b
  · subst e; simp
  · have h : ¬ (Sum.inr a : Key) = Sum.inr b := fun q => e (Sum.inr.inj q)
    rw [decide_eq_false h, decide_eq_false e]
theorem key_lr (a : Int) (b : Str) : decide ((Sum.inl a : Key) = Sum.inr b) = false := decide_eq_false (fun q => nomatch q)
theorem key_rl (a : Str) (b : Int) : decide ((Sum.inr a : Key) = Sum.inl b) = false := decide_eq_false (fun q => nomatch q)

noncomputable def mixKind (prog : Program) (w : World) : PySem.KeyKind prog w Key where
  is := keyIs
  hash := keyH w
  inj := fun v a b ha hb => by
    rcases keyIs_shape ha with ⟨i, t, rfl, rfl⟩ | ⟨x, t, rfl, rfl⟩
    · rcases keyIs_shape hb with ⟨j, u, rfl, e⟩ | ⟨y, u, rfl, e⟩
      · injection e with e1 _; rw [e1]
      · exact nomatch e
    · rcases keyIs_shape hb with ⟨j, u, rfl, e⟩ | ⟨y, u, rfl, e⟩
      · exact nomatch e
      · injection e with e1 _; rw [e1]
  byValue := fun k v h => by
    rcases keyIs_shape h with ⟨i, t, rfl, rfl⟩ | ⟨x, t, rfl, rfl⟩ <;> rfl
  pyHash := fun hv h => by
    rcases keyIs_shape hv with ⟨i, t, rfl, rfl⟩ | ⟨x, t, rfl, rfl⟩
    · exact wpAny_pyHash_int h
    · exact wpAny_pyHash_str h
  eqBool := fun hu hv h => by
    rcases keyIs_shape hu with ⟨i, t, rfl, rfl⟩ | ⟨x, t, rfl, rfl⟩
    · rcases keyIs_shape hv with ⟨j, u, rfl, rfl⟩ | ⟨y, u, rfl, rfl⟩
      · rw [key_ll] at h; exact wpAny_eqBool_int h
      · rw [key_lr] at h; exact SeqAt.EqAt.int_str i t y u _ _ _ _ h
    · rcases keyIs_shape hv with ⟨j, u, rfl, rfl⟩ | ⟨y, u, rfl, rfl⟩
      · rw [key_rl] at h; exact SeqAt.EqAt.str_int x t j u _ _ _ _ h
      · rw [key_rr] at h; exact wpAny_eqBool_str h
  «strs» := fun k x t v h => by
    rcases keyIs_shape h with ⟨i, u, rfl, e⟩ | ⟨y, u, rfl, e⟩
    · exact nomatch e
    · injection e with e1 _
      subst e1
      cases v <;> rfl

theorem mixKind_int (prog : Program) (w : World) (i : Int) (t : Tok) : (mixKind prog w).is (.inl i) (.int i t) = true := keyIs_int i t
theorem mixKind_str (prog : Program) (w : World) (x : Str) (t : Tok) : (mixKind prog w).is (.inr x) (.str x t) = true := keyIs_str x t
end L2

namespace L2
open PySem PySem.Spec PyProof.Rows

inductive V where
  | non | bl (b : Bool) | int (i : Int) | str (x : Str) | byt (b : Array UInt8) | flt (b : UInt64) | ref (a : Addr) | ty (n : String)
  deriving DecidableEq

noncomputable def RelV : V → Value → Prop
  | .non, u => u = Value.none
  | .bl b, u => u = Value.bool b
  | .int i, u => ∃ t, u = Value.int i t
  | .str x, u => ∃ t, u = Value.str x t
  | .byt b, u => ∃ t, u = Value.bytes b t
  | .flt b, u => ∃ t, u = Value.float b t
  | .ref a, u => u = Value.ref a
  | .ty n, u => u = Value.type n

noncomputable abbrev Vals : List V → List Value → Prop := Paired RelV
theorem Vals.length {xs : List V} {us : List Value} (r : Vals xs us) : xs.length = us.length := Paired.length r
theorem Vals.get : ∀ {xs : List V} {us : List Value} {i : Nat} {x : V}, Vals xs us → xs[i]? = some x → ∃ u, us[i]? = some u ∧ RelV x u
  | _, _, _, _, .nil, e => by simp at e
  | _, _, 0, _, .cons r _, e => by simp at e; subst e; exact ⟨_, rfl, r⟩
  | _, _, i + 1, x, .cons _ t, e => by
    obtain ⟨u, h1, h2⟩ := Vals.get (i := i) (x := x) t (by simpa using e)
    exact ⟨u, by simpa using h1, h2⟩
theorem Vals.set {x : V} {u : Value} (r : RelV x u) : ∀ {xs : List V} {us : List Value} (i : Nat), Vals xs us → Vals (xs.set i x) (us.set i u)
  | _, _, _, .nil => .nil
  | _, _, 0, .cons _ t => .cons r t
  | _, _, i + 1, .cons q t => .cons q (Vals.set r i t)
theorem Vals.append : ∀ {xs ys : List V} {us ws : List Value}, Vals xs us → Vals ys ws → Vals (xs ++ ys) (us ++ ws)
  | _, _, _, _, .nil, s => s
  | _, _, _, _, .cons r t, s => .cons r (Vals.append t s)
theorem Vals.take : ∀ {xs : List V} {us : List Value} (n : Nat), Vals xs us → Vals (xs.take n) (us.take n)
  | _, _, 0, _ => .nil
  | _, _, _ + 1, .nil => .nil
  | _, _, n + 1, .cons r t => .cons r (Vals.take n t)
theorem Vals.drop : ∀ {xs : List V} {us : List Value} (n : Nat), Vals xs us → Vals (xs.drop n) (us.drop n)
  | _, _, 0, r => r
  | _, _, _ + 1, .nil => .nil
  | _, _, n + 1, .cons _ t => Vals.drop n t
noncomputable def RelO : Option V → Option Value → Prop
  | some v, some u => RelV v u
  | none, none => True
  | _, _ => False
noncomputable def KV {κ : Type} : List (κ × V) → List (κ × Value) → Prop := Paired fun (p : κ × V) (q : κ × Value) => p.1 = q.1 ∧ RelV p.2 q.2

noncomputable def kV : Key → V
  | .inl i => .int i
  | .inr x => .str x

inductive HO where
  /-- a list -/
  | lst (xs : List V)
  /-- a tuple (never changes) -/
  | tup (xs : List V)
  /-- a dict whose keys are ints and texts; one whose keys are tuples of ints and texts (the empty one is both) -/
  | dK (kvs : List (Key × V)) | dT (kvs : List (List Key × V))
  /-- a set of ints: its members, its size -/
  | set (S : Int → Bool) (n : Nat)
  /-- an instance of the class at C, its dict at dx, its attributes -/
  | ins (C dx : Addr) (fs : List (Str × V))
  /-- the dict of the instance at x -/
  | own (x : Addr)
  /-- the dict of an exception -/
  | xd (fs : List (Str × V))
  /-- a bound method, f of x -/
  | met (f x : Addr)
  /-- a range object lo, lo + 1, .. below hi -/
  | rng (lo hi : Int)
  /-- a thing that is known to the object (the script; a dict while a loop walks it): read, never written while it is so -/
  | frz (o : Obj) (u : HO)
  /-- a code object's table -/
  | tbl (ps : Array Value)
  /-- any other thing, by what is true of its one object (a def of one's own: SetO a S n := HO.ext fun h => ..) -/
  | ext (φ : Heap → Prop)

noncomputable abbrev Hp := Addr → Option HO
noncomputable def upd (H : Hp) (a : Addr) (o : HO) : Hp := fun b => if b = a then some o else H b
theorem upd_same {H : Hp} {a : Addr} {o : HO} : upd H a o a = some o := by unfold upd; rw [if_pos rfl]
theorem upd_ne {H : Hp} {a b : Addr} {o : HO} (h : b ≠ a) : upd H a o b = H b := by unfold upd; rw [if_neg h]
theorem ne_of_none {H : Hp} {a b : Addr} {o : HO} (h : H a = some o) (h' : H b = none) : a ≠ b := by
  intro e; subst e; rw [h] at h'; cases h'

section
variable (P : Program) (w : World)
noncomputable def ObjOk (H : Hp) (h : Heap) (a : Addr) : HO → Prop
  | .lst xs => xs.length ≤ sizeLine ∧ ∃ (its : List Value) (n : Nat), Vals xs its ∧ h.get? a = some { cls := .type "list", data := .seq its.toArray n }
  | .tup xs => xs.length ≤ sizeLine ∧ ∃ its : List Value, Vals xs its ∧ IsTup h a its.toArray
  | .dK kvs => kvs.length ≤ sizeLine ∧ (a == sysModules) = false ∧ ∃ vs, KV kvs vs ∧ h.DictOf (mixKind P w) a vs
  | .dT kvs => kvs.length ≤ sizeLine ∧ (a == sysModules) = false ∧ ∃ xs : List (List Key × Addr × Value),
      Paired (fun (p : List Key × V) (q : List Key × Addr × Value) => p.1 = q.1 ∧ H q.2.1 = some (.tup (p.1.map kV)) ∧ RelV p.2 q.2.2) kvs xs ∧
      ∃ o es ep, h.get? a = some o ∧ o.ExactDict ∧ o.data = .dict es ep ∧ es.toList = xs.map (entryOfKey (tupleKind (mixKind P w))) ∧ (xs.map (·.1)).Nodup
  | .set S n => h.SetOf (intKind P w) a S n
  | .ins C dx fs => H dx = some (.own a) ∧ fs.length ≤ 1000 ∧ dx ≠ a ∧ h.get? a = some (PySem.W.instObj C dx) ∧
      ∃ mA, h.Ns1 dx mA ∧ (∀ f, RelO (fs.lookup f) (mA f)) ∧ PySem.Within mA (fs.map (·.1))
  | .own _ => ∃ o, h.get? a = some o
  | .xd fs => ∃ mA, h.Ns1 a mA ∧ ∀ f, RelO (fs.lookup f) (mA f)
  | .rng lo hi => ∃ t u v, h.get? a = some { cls := .type "range", data := .fields #[.int lo t, .int hi u, .int 1 v] }
  | .frz o u => h.get? a = some o ∧ ObjOk H h a u
  | .tbl ps => h.get? a = some { cls := .none, data := .fields ps }
  | .met f x => h.get? a = some (PySem.W.methodObj (.ref f) (.ref x))
  | .ext φ => φ h ∧ (∃ o, h.get? a = some o) ∧ ∀ h1 h2 : Heap, φ h1 → (∀ o, h1.get? a = some o → h2.get? a = some o) → φ h2
noncomputable def HOk (H : Hp) (h : Heap) : Prop := ∀ a o, H a = some o → ObjOk P w H h a o
end

section
variable {P : Program} {w : World} {H H' : Hp} {h h' : Heap} {a : Addr} {o : HO}
theorem ObjOk.lt (x : ObjOk P w H h a o) : a < h.objs.size := by
  cases o with
  | lst xs => obtain ⟨_, _, _, _, e⟩ := x; exact Heap.lt_size e
  | tup xs => obtain ⟨_, _, _, p⟩ := x; exact p.lt
  | dK kvs => obtain ⟨_, _, _, _, o, _, _, e, _⟩ := x; exact Heap.lt_size e
  | dT kvs => obtain ⟨_, _, _, _, o, _, _, e, _⟩ := x; exact Heap.lt_size e
  | set S n => obtain ⟨o, _, _, _, e, _⟩ := x; exact Heap.lt_size e
  | ins C dx fs => obtain ⟨_, _, _, e, _⟩ := x; exact Heap.lt_size e
  | own y => obtain ⟨_, e⟩ := x; exact Heap.lt_size e
  | xd fs => obtain ⟨_, ⟨_, _, _, e, _⟩, _⟩ := x; exact Heap.lt_size e
  | rng lo hi => obtain ⟨_, _, _, e⟩ := x; exact Heap.lt_size e
  | frz ob u => obtain ⟨e, _⟩ := x; exact Heap.lt_size e
  | tbl ps => exact Heap.lt_size (show h.get? a = some _ from x)
  | met f y => exact Heap.lt_size (show h.get? a = some _ from x)
  | ext φ => obtain ⟨_, ⟨_, e⟩, _⟩ := x; exact Heap.lt_size e
theorem Paired.mapP {α β : Type} {F G : α → β → Prop} : ∀ {l₁ : List α} {l₂ : List β}, Paired F l₁ l₂ → (∀ a b, F a b → G a b) → Paired G l₁ l₂
  | _, _, .nil, _ => .nil
  | _, _, .cons r t, f => .cons (f _ _ r) (Paired.mapP t f)
theorem ObjOk.stay (x : ObjOk P w H h a o) (k : ∀ b u, (b = a ∨ H b = some (.own a)) → h.get? b = some u → h'.get? b = some u)
    (ho : ∀ b, H b = some (.own a) → H' b = some (.own a)) (ht : ∀ b xs, H b = some (.tup xs) → H' b = some (.tup xs)) : ObjOk P w H' h' a o := by
  induction o with
  | lst xs => obtain ⟨z, its, n, r, e⟩ := x; exact ⟨z, its, n, r, k _ _ (.inl rfl) e⟩
  | tup xs => obtain ⟨z, its, r, ob, e, c⟩ := x; exact ⟨z, its, r, ob, k _ _ (.inl rfl) e, c⟩
  | dK kvs => obtain ⟨z, y, vs, r, ob, es, ep, e, c⟩ := x; exact ⟨z, y, vs, r, ob, es, ep, k _ _ (.inl rfl) e, c⟩
  | dT kvs =>
    obtain ⟨z, y, xs, r, ob, es, ep, e, c⟩ := x
    exact ⟨z, y, xs, Paired.mapP r fun p q z => ⟨z.1, ht _ _ z.2.1, z.2.2⟩, ob, es, ep, k _ _ (.inl rfl) e, c⟩
  | set S n => obtain ⟨ob, es, ep, t, e, c⟩ := x; exact ⟨ob, es, ep, t, k _ _ (.inl rfl) e, c⟩
  | ins C dx fs =>
    obtain ⟨d, z, ne, e, mA, ⟨od, es, ep, e2, c⟩, r⟩ := x
    exact ⟨ho _ d, z, ne, k _ _ (.inl rfl) e, mA, ⟨od, es, ep, k _ _ (.inr d) e2, c⟩, r⟩
  | own y => obtain ⟨ob, e⟩ := x; exact ⟨ob, k _ _ (.inl rfl) e⟩
  | xd fs => obtain ⟨mA, ⟨od, es, ep, e, c⟩, r⟩ := x; exact ⟨mA, ⟨od, es, ep, k _ _ (.inl rfl) e, c⟩, r⟩
  | rng lo hi => obtain ⟨t, u, v, e⟩ := x; exact ⟨t, u, v, k _ _ (.inl rfl) e⟩
  | frz ob u ih => obtain ⟨e, q⟩ := x; exact ⟨k _ _ (.inl rfl) e, ih q⟩
  | tbl ps =>
    have e : h.get? a = some { cls := .none, data := .fields ps } := x
    show h'.get? a = some { cls := .none, data := .fields ps }
    exact k a _ (.inl rfl) e
  | met f y =>
    have e : h.get? a = some (PySem.W.methodObj (.ref f) (.ref y)) := x
    show h'.get? a = some (PySem.W.methodObj (.ref f) (.ref y))
    exact k a _ (.inl rfl) e
  | ext φ => obtain ⟨p, ⟨o, e⟩, st⟩ := x; exact ⟨st _ _ p fun o q => k _ _ (.inl rfl) q, ⟨o, k _ _ (.inl rfl) e⟩, st⟩
theorem HOk.lt (x : HOk P w H h) (e : H a = some o) : a < h.objs.size := (x a o e).lt
theorem HOk.fresh (x : HOk P w H h) (e : h.objs.size ≤ a) : H a = none := by
  cases q : H a with
  | none => rfl
  | some u => exact absurd (Nat.lt_of_lt_of_le (x.lt q) e) (Nat.lt_irrefl _)
theorem HOk.kept (x : HOk P w H h) (k : ∀ b u, h.get? b = some u → h'.get? b = some u) : HOk P w H h' := fun a o e =>
  (x a o e).stay (fun b u _ q => k b u q) (fun _ q => q) fun _ _ q => q
theorem HOk.laid (x : HOk P w H h) (k : ∀ b u, h.get? b = some u → h'.get? b = some u) (hp : h.objs.size ≤ a) (new : ObjOk P w (upd H a o) h' a o) : HOk P w (upd H a o) h' := fun b u e => by
  have hn := x.fresh hp
  by_cases hb : b = a
  · subst hb; rw [upd_same] at e; cases e; exact new
  · rw [upd_ne hb] at e
    exact (x b u e).stay (fun c v _ q => k c v q) (fun c q => by rw [upd_ne (ne_of_none q hn)]; exact q) fun c xs q => by rw [upd_ne (ne_of_none q hn)]; exact q
end

noncomputable def Rd (H : Hp) (a : Addr) (u : HO) : Prop := H a = some u ∨ ∃ o, H a = some (.frz o u)
theorem Rd.of {H : Hp} {a : Addr} {u : HO} (h : H a = some u) : Rd H a u := .inl h
theorem Rd.ok {P : Program} {w : World} {H : Hp} {h : Heap} {a : Addr} {u : HO} (r : Rd H a u) (x : HOk P w H h) : ObjOk P w H h a u := by
  rcases r with r | ⟨o, r⟩
  · exact x a u r
  · obtain ⟨_, q⟩ := x a _ r
    exact q
noncomputable def Mut : Option HO → Prop
  | some (.lst _) => True
  | some (.dK _) => True
  | some (.dT _) => True
  | some (.set _ _) => True
  | some (.ins _ _ _) => True
  | some (.ext _) => True
  | _ => False
section
variable {P : Program} {w : World} {H : Hp} {h h' : Heap} {x e : Addr} {o' : HO}
theorem HOk.write (ok : HOk P w H h) (mu : Mut (H x)) (he : e = x ∨ H e = some (.own x)) (k : ∀ b u, b ≠ e → h.get? b = some u → h'.get? b = some u) (heo : ∃ u, h'.get? e = some u)
    (new : ObjOk P w (upd H x o') h' x o') : HOk P w (upd H x o') h' := fun b u q => by
  have nown : ∀ c y, H c = some (.own y) → c ≠ x := fun c y r z => by subst z; rw [r] at mu; exact mu
  have ntup : ∀ c xs, H c = some (.tup xs) → c ≠ x := fun c xs r z => by subst z; rw [r] at mu; exact mu
  by_cases hb : b = x
  · subst hb; rw [upd_same] at q; cases q; exact new
  · rw [upd_ne hb] at q
    by_cases hbe : b = e
    · have q' : H b = some (.own x) := by
        rcases he with z | z
        · exact absurd (hbe.trans z) hb
        · rw [hbe]; exact z
      rw [q] at q'; cases q'
      obtain ⟨v, hv⟩ := heo
      exact ⟨v, by rw [hbe]; exact hv⟩
    · refine (ok b u q).stay (fun c v hc r => k c v ?_ r) (fun c r => by rw [upd_ne (nown c b r)]; exact r) fun c xs r => by rw [upd_ne (ntup c xs r)]; exact r
      rcases hc with rfl | hc
      · exact hbe
      · rintro rfl
        rcases he with z | z
        · exact nown c b hc z
        · rw [hc] at z; cases z; exact hb rfl
end

structure Un (fs ex : List Addr) (H H' : Hp) (h h' : Heap) : Prop where
  keep : ∀ b o, h.get? b = some o → H b = none → b ∉ fs → b ∉ ex → h'.get? b = some o
  slot : ∀ b o, h.get? b = some o → H b = none → b ∈ fs → b ∉ ex → ∃ sl, h'.get? b = some { o with slots := sl }
  free : ∀ b o, h.get? b = some o → H b = none → b ∉ ex → H' b = none
  there : ∀ b o, h.get? b = some o → b ∉ ex → ∃ o', h'.get? b = some o'
  tups : ∀ b xs, H b = some (.tup xs) → H' b = some (.tup xs)
  frzs : ∀ b o u, H b = some (.frz o u) → H' b = some (.frz o u)
  tbls : ∀ b ps, H b = some (.tbl ps) → ∃ more, H' b = some (.tbl (ps ++ more))
section
variable {fs fs' ex ex' : List Addr} {H H1 H2 : Hp} {h h1 h2 h' : Heap} {a x e : Addr} {o : HO}
theorem Un.any (u : Un fs ex H H1 h h1) {b : Addr} {ob : Obj} (q : h.get? b = some ob) (n : H b = none) (hx : b ∉ ex) : ∃ sl, h1.get? b = some { ob with slots := sl } := by
  by_cases hb : b ∈ fs
  · exact u.slot b ob q n hb hx
  · exact ⟨ob.slots, u.keep b ob q n hb hx⟩
theorem Un.trans (a : Un fs ex H H1 h h1) (b : Un fs ex H1 H2 h1 h2) : Un fs ex H H2 h h2 where
  keep := fun c ob q n hc hx => b.keep c ob (a.keep c ob q n hc hx) (a.free c ob q n hx) hc hx
  slot := fun c ob q n hc hx => by
    obtain ⟨sl, e1⟩ := a.slot c ob q n hc hx
    obtain ⟨sl', e2⟩ := b.slot c _ e1 (a.free c ob q n hx) hc hx
    exact ⟨sl', e2⟩
  free := fun c ob q n hx => by
    obtain ⟨o', e1⟩ := a.there c ob q hx
    exact b.free c o' e1 (a.free c ob q n hx) hx
  there := fun c ob q hx => by
    obtain ⟨o', e1⟩ := a.there c ob q hx
    exact b.there c o' e1 hx
  tups := fun c xs q => b.tups c xs (a.tups c xs q)
  frzs := fun c ob xs q => b.frzs c ob xs (a.frzs c ob xs q)
  tbls := fun c ps q => by
    obtain ⟨m1, e1⟩ := a.tbls c ps q
    obtain ⟨m2, e2⟩ := b.tbls c _ e1
    exact ⟨m1 ++ m2, by rw [e2, Array.append_assoc]⟩
theorem Un.kept (k : ∀ b u, h.get? b = some u → h'.get? b = some u) : Un fs ex H H h h' :=
  ⟨fun b ob q _ _ _ => k b ob q, fun b ob q _ _ _ => ⟨ob.slots, k b ob q⟩, fun _ _ _ n _ => n, fun b ob q _ => ⟨ob, k b ob q⟩, fun _ _ q => q, fun _ _ _ q => q, fun _ ps q => ⟨#[], by rw [q]; simp⟩⟩
theorem Un.refl : Un fs ex H H h h := Un.kept fun _ _ q => q
theorem Un.laid (k : ∀ b u, h.get? b = some u → h'.get? b = some u) (hp : h.objs.size ≤ a) (hn : H a = none) : Un fs ex H (upd H a o) h h' where
  keep := fun b u q _ _ _ => k b u q
  slot := fun b u q _ _ _ => ⟨u.slots, k b u q⟩
  free := fun b u q n _ => by rw [upd_ne (Nat.ne_of_lt (Nat.lt_of_lt_of_le (Heap.lt_size q) hp))]; exact n
  there := fun b u q _ => ⟨u, k b u q⟩
  tups := fun b xs q => by rw [upd_ne (ne_of_none q hn)]; exact q
  frzs := fun b u xs q => by rw [upd_ne (ne_of_none q hn)]; exact q
  tbls := fun b ps q => ⟨#[], by rw [upd_ne (ne_of_none q hn), q]; simp⟩
theorem Un.write (mu : Mut (H x)) (he : e = x ∨ H e = some (.own x)) (k : ∀ b u, b ≠ e → h.get? b = some u → h'.get? b = some u) (heo : ∃ u, h'.get? e = some u) : Un fs ex H (upd H x o) h h' := by
  have hx : ∀ b, H b = none → b ≠ x := fun b n z => by subst z; rw [n] at mu; exact mu
  have hb : ∀ b, H b = none → b ≠ e := fun b n z => by
    subst z
    rcases he with r | r
    · exact hx b n r
    · rw [n] at r; cases r
  have hm : ∀ b u, H b = some u → ¬ Mut (some u) → b ≠ x := fun b u q nm z => by subst z; rw [q] at mu; exact nm mu
  refine ⟨fun b u q n _ _ => k b u (hb b n) q, fun b u q n _ _ => ⟨u.slots, k b u (hb b n) q⟩, fun b u q n _ => by rw [upd_ne (hx b n)]; exact n, fun b u q _ => ?_,
    fun b xs q => by rw [upd_ne (hm b _ q fun z => z)]; exact q, fun b u xs q => by rw [upd_ne (hm b _ q fun z => z)]; exact q, fun b ps q => ⟨#[], by rw [upd_ne (hm b _ q fun z => z), q]; simp⟩⟩
  by_cases hbe : b = e
  · subst hbe; exact heo
  · exact ⟨u, k b u hbe q⟩
end

noncomputable def trk (h : Heap) (H : Hp) : List Addr := (List.range h.objs.size).filter fun a => (H a).isSome
noncomputable def hidT (h : Heap) (H : Hp) : Heap := PySem.W.hideAll h (trk h H)
noncomputable def allNews (g h : Heap) (L : Addr) : List (Addr × Obj) := (List.range h.objs.size).filterMap fun a => if a = L ∨ (g.get? a).isSome = true then none else (h.get? a).map fun o => (a, o)
noncomputable def rest (g h : Heap) (L d : Addr) : List (Addr × Obj) := (allNews g h L).filter fun p => decide (p.1 ≠ d)
end L2

namespace L2
open PySem PySem.Spec PyProof.Rows

structure Mod (K : PySem.W.Frag) (mg : Str → Option Value) (base : Heap) : Prop where
  kin : K.In base
  glob : base.Ns mainGlobals mg
  blt : ∃ mb, base.Ns builtinsNs mb ∧ ∀ x : Str, x ≠ "__name__" → mb x = bootBuiltins x
  nolimit : base.NoLimit

structure Cx where
  prog : Program
  w : World
  K : PySem.W.Frag
  mg : Str → Option Value
  base : Heap
  A : Around
  N : List Str
  s₀ : Shared
  H₀ : Hp
  env : Env
  outer : List Env
  stack : List Env
  ex : List Addr
  fn : Str → Bool
  calm : Bool
  pn : List (Addr × Obj)
  xe : Value → Shared → Prop
noncomputable def frs (l : List Env) : List Addr := l.filterMap (·.frame)
noncomputable abbrev Cx.fs (X : Cx) : List Addr := frs X.outer

noncomputable def Vis (sc : Scope) (x : Str) : Prop := sc.names.lookup x = some .local ∨ sc.names.lookup x = some .cell ∨ sc.names.lookup x = some .free
noncomputable def Loc (sc : Scope) (x : Str) : Prop := sc.names.lookup x = some .local ∨ sc.names.lookup x = some .cell
noncomputable def Look (env : Env) (h : Heap) (m : Str → Option Value) (x : Str) (u : Value) : Prop :=
  (env.kindOf x = some .local ∧ m x = some u) ∨ ((env.kindOf x = some .cell ∨ env.kindOf x = some .free) ∧ ∃ c, env.cells.lookup x = some c ∧ h.IsCell c (some u))

structure Cx.Ok (X : Cx) : Prop where
  mod : Mod X.K X.mg X.base
  kind : X.env.scope.kind = .function
  glob : X.env.globals = mainGlobals
  blt : X.env.builtins = builtinsNs
  above : X.s₀.heap.objs.size ≤ X.env.locals
  inj : ∀ x y c, X.env.cells.lookup x = some c → X.env.cells.lookup y = some c → x = y
  has : ∀ x, (X.env.kindOf x = some .cell ∨ X.env.kindOf x = some .free) → ∃ c, X.env.cells.lookup x = some c
  cab : ∀ x c, X.fn x = true → X.env.cells.lookup x = some c → X.s₀.heap.objs.size ≤ c
  hd : X.calm = true → X.A.handled = none
  frames : X.A.frames = some X.stack
  stk : X.stack = X.outer ∨ (X.stack = X.env :: X.outer ∧ X.env.frame = some X.env.locals)
  exf : ∀ b ∈ X.ex, b ≠ X.env.locals ∧ ∀ x c, X.env.cells.lookup x = some c → c ≠ b
  bs : ∀ b o, X.base.get? b = some o → X.s₀.heap.get? b = some o ∧ X.H₀ b = none
  bsz : X.base.objs.size ≤ X.s₀.heap.objs.size
  noex : ∀ b o, X.base.get? b = some o → b ∉ X.ex
  exfs : ∀ b ∈ X.ex, b ∉ X.fs
  funs : X.s₀.heap.FunFrames X.base X.outer
  frf : ∀ b ∈ X.fs, X.H₀ b = none

structure Inv (X : Cx) (pins : List (Addr × Obj)) (σ : List (Option V)) (H : Hp) (s : Shared) : Prop where
  ok : X.Ok
  os : s.os = X.s₀.os
  bare : AllBare s.gens
  base : Un X.fs X.ex X.H₀ H X.s₀.heap s.heap
  loc : ∃ m, s.heap.Ns X.env.locals m ∧ ∀ (i : Nat) (x : Str) (v : V), X.N[i]? = some x → σ[i]? = some (some v) → Vis X.env.scope x → ∃ u, RelV v u ∧ Look X.env s.heap m x u
  cell : ∀ x c, X.env.cells.lookup x = some c → ∃ v, s.heap.IsCell c v
  free : H X.env.locals = none
  freeC : ∀ x c, X.env.cells.lookup x = some c → H c = none
  pin : ∀ p ∈ X.pn ++ pins, s.heap.get? p.1 = some p.2 ∧ H p.1 = none ∧ p.1 ≠ X.env.locals ∧ p.1 ∉ X.fs ∧ ∀ v, p.2.data ≠ .cell v
  hok : HOk X.prog X.w H s.heap
  len : σ.length = X.N.length

section
variable {X : Cx} {pins : List (Addr × Obj)} {σ : List (Option V)} {H H' : Hp} {s : Shared} {h' : Heap}

theorem Cx.Ok.nofr (ok : X.Ok) {b : Addr} {o : Obj} (e : X.base.get? b = some o) : b ∉ X.fs := fun hb => by
  have := (ok.funs.mem hb).1
  rw [e] at this; cases this
theorem Inv.bs (I : Inv X pins σ H s) : ∀ b o, X.base.get? b = some o → s.heap.get? b = some o ∧ H b = none := fun b o e =>
  ⟨I.base.keep b o (I.ok.bs b o e).1 (I.ok.bs b o e).2 (I.ok.nofr e) (I.ok.noex b o e), I.base.free b o (I.ok.bs b o e).1 (I.ok.bs b o e).2 (I.ok.noex b o e)⟩
theorem Inv.bk (I : Inv X pins σ H s) : ∀ b o, X.base.get? b = some o → s.heap.get? b = some o := fun b o e => (I.bs b o e).1
theorem Inv.mod (I : Inv X pins σ H s) : Mod X.K X.mg X.base := I.ok.mod
theorem Inv.kIn (I : Inv X pins σ H s) : X.K.In s.heap := I.ok.mod.kin.keeps I.bk
theorem Inv.nolimit (I : Inv X pins σ H s) : s.heap.NoLimit := I.ok.mod.nolimit.keeps I.bk
theorem Inv.fr (I : Inv X pins σ H s) : ∃ m, Fr X.base X.env.locals s.heap m :=
  let ⟨m, hn, _⟩ := I.loc
  ⟨m, hn, I.bk, Nat.le_trans I.ok.bsz I.ok.above⟩
theorem Inv.lt (I : Inv X pins σ H s) : X.env.locals < s.heap.objs.size := let ⟨_, hn, _⟩ := I.loc; hn.lt
theorem Inv.sz (I : Inv X pins σ H s) : X.s₀.heap.objs.size ≤ s.heap.objs.size := Nat.le_trans I.ok.above (Nat.le_of_lt I.lt)
theorem Inv.nofs (I : Inv X pins σ H s) {a : Addr} (h : s.heap.objs.size ≤ a) : a ∉ X.fs := fun hb => by
  obtain ⟨_, o, ho, _⟩ := I.ok.funs.mem hb
  exact absurd (Nat.lt_of_lt_of_le (Heap.lt_size ho) (Nat.le_trans I.sz h)) (Nat.lt_irrefl _)
theorem Inv.cne (I : Inv X pins σ H s) : ∀ x c, X.env.cells.lookup x = some c → c ≠ X.env.locals := fun x c e z => by
  obtain ⟨v, o, ho, hd⟩ := I.cell x c e
  obtain ⟨m, ⟨o', es, ep, ho', hd', _⟩, _⟩ := I.loc
  rw [z, ho'] at ho; cases ho; rw [hd'] at hd; cases hd
theorem Inv.funs (I : Inv X pins σ H s) : s.heap.FunFrames X.base X.outer := by
  have all : ∀ (l : List Env), (∀ b ∈ frs l, b ∈ X.fs) → X.s₀.heap.FunFrames X.base l → s.heap.FunFrames X.base l := by
    intro l
    induction l with
    | nil => intro _ _; trivial
    | cons env r ih =>
      intro hs hl
      obtain ⟨hk, ⟨L, o, hf, hn, ho, hd⟩, hr⟩ := hl
      have hL : L ∈ X.fs := hs L (by unfold frs; rw [List.filterMap_cons, hf]; exact List.mem_cons_self)
      obtain ⟨sl, e⟩ := I.base.slot L o ho (I.ok.frf L hL) hL fun z => I.ok.exfs L z hL
      exact ⟨hk, ⟨L, _, hf, hn, e, hd⟩, ih (fun b hb => hs b (by unfold frs; rw [List.filterMap_cons, hf]; exact List.mem_cons_of_mem _ hb)) hr⟩
  exact all X.outer (fun _ hb => hb) I.ok.funs

theorem Inv.stack (I : Inv X pins σ H s) : s.heap.FunFrames X.base X.stack := by
  rcases I.ok.stk with e | ⟨e, hf⟩
  · rw [e]; exact I.funs
  · rw [e]
    obtain ⟨m, hn, _⟩ := I.loc
    refine .cons (by rw [I.ok.kind]; decide) hf hn ?_ I.funs
    exact Heap.get?_none_of_le (Nat.le_trans I.ok.bsz I.ok.above)
theorem Inv.stkSub (I : Inv X pins σ H s) : ∀ b ∈ frs X.stack, b ∈ X.env.locals :: X.fs := fun b hb => by
  rcases I.ok.stk with e | ⟨e, hf⟩
  · rw [e] at hb; exact List.mem_cons_of_mem _ hb
  · rw [e] at hb
    unfold frs at hb
    rw [List.filterMap_cons, hf] at hb
    exact hb
theorem Inv.stkFree (I : Inv X pins σ H s) : ∀ b ∈ frs X.stack, H b = none := fun b hb => by
  rcases List.mem_cons.mp (I.stkSub b hb) with e | hb
  · rw [e]; exact I.free
  · obtain ⟨_, o, ho, _⟩ := I.ok.funs.mem hb
    exact I.base.free b o ho (I.ok.frf b hb) fun z => I.ok.exfs b z hb

theorem Inv.step {g' : Array GenState} {t' : Nat} {d' : Drawn} {ch : List Addr} (I : Inv X pins σ H s)
    (hch : ∀ b ∈ ch, (b ∈ X.ex ∨ X.s₀.heap.objs.size ≤ b) ∧ b ≠ X.env.locals ∧ (∀ x c, X.env.cells.lookup x = some c → c ≠ b) ∧ ∀ p ∈ X.pn ++ pins, p.1 ≠ b)
    (keep : ∀ b o, b ≠ X.env.locals → b ∉ X.fs → b ∉ ch → s.heap.get? b = some o → H b = none → h'.get? b = some o)
    (slot : ∀ b o, b ≠ X.env.locals → b ∈ X.fs → b ∉ ch → s.heap.get? b = some o → H b = none → ∃ sl, h'.get? b = some { o with slots := sl }) (free : ∀ b o, b ∉ ch → s.heap.get? b = some o → H b = none → H' b = none)
    (there : ∀ b o, b ∉ ch → s.heap.get? b = some o → ∃ o', h'.get? b = some o')
    (tups : ∀ b xs, H b = some (.tup xs) → H' b = some (.tup xs)) (frzs : ∀ b o u, H b = some (.frz o u) → H' b = some (.frz o u)) (tbls : ∀ b ps, H b = some (.tbl ps) → ∃ more, H' b = some (.tbl (ps ++ more)))
    (ns : ∀ m, s.heap.Ns X.env.locals m → h'.Ns X.env.locals m) (hok : HOk X.prog X.w H' h') (hg : AllBare g') :
    Inv X pins σ H' { s with heap := h', gens := g', drawn := d', toks := t' } := by
  have neL : ∀ b o, X.s₀.heap.get? b = some o → b ≠ X.env.locals := fun b o e => Nat.ne_of_lt (Nat.lt_of_lt_of_le (Heap.lt_size e) I.ok.above)
  have neC : ∀ b o, X.s₀.heap.get? b = some o → b ∉ X.ex → b ∉ ch := fun b o e hx hb => by
    rcases (hch b hb).1 with z | z
    · exact hx z
    · exact absurd (Nat.lt_of_lt_of_le (Heap.lt_size e) z) (Nat.lt_irrefl _)
  have cellK : ∀ x c, X.env.cells.lookup x = some c → ∀ v, s.heap.IsCell c v → h'.IsCell c v := fun x c e v ⟨o, ho, hd⟩ => by
    have nch : c ∉ ch := fun z => (hch c z).2.2.1 x c e rfl
    by_cases hc : c ∈ X.fs
    · obtain ⟨sl, q⟩ := slot c o (I.cne x c e) hc nch ho (I.freeC x c e)
      exact ⟨_, q, hd⟩
    · exact ⟨o, keep c o (I.cne x c e) hc nch ho (I.freeC x c e), hd⟩
  refine ⟨I.ok, I.os, hg, ⟨fun b o e n hb hx => ?_, fun b o e n hb hx => ?_, fun b o e n hx => ?_, fun b o e hx => ?_, fun b xs e => tups b xs (I.base.tups b xs e), fun b o xs e => frzs b o xs (I.base.frzs b o xs e), fun b ps e => ?_⟩, ?_, fun x c e => ?_, ?_, fun x c e => ?_, fun p hp => ?_, hok, I.len⟩
  · exact keep b o (neL b o e) hb (neC b o e hx) (I.base.keep b o e n hb hx) (I.base.free b o e n hx)
  · obtain ⟨sl, e1⟩ := I.base.slot b o e n hb hx
    obtain ⟨sl', e2⟩ := slot b _ (neL b o e) hb (neC b o e hx) e1 (I.base.free b o e n hx)
    exact ⟨sl', e2⟩
  · obtain ⟨o', e1⟩ := I.base.there b o e hx
    exact free b o' (neC b o e hx) e1 (I.base.free b o e n hx)
  · obtain ⟨o', e1⟩ := I.base.there b o e hx
    exact there b o' (neC b o e hx) e1
  · obtain ⟨m1, e1⟩ := I.base.tbls b ps e
    obtain ⟨m2, e2⟩ := tbls b _ e1
    exact ⟨m1 ++ m2, by rw [e2, Array.append_assoc]⟩
  · obtain ⟨m, hn, hl⟩ := I.loc
    refine ⟨m, ns m hn, fun i x v e1 e2 e3 => ?_⟩
    obtain ⟨u, r, l⟩ := hl i x v e1 e2 e3
    refine ⟨u, r, ?_⟩
    rcases l with l | ⟨k, c, e, z⟩
    · exact .inl l
    · exact .inr ⟨k, c, e, cellK x c e _ z⟩
  · obtain ⟨v, z⟩ := I.cell x c e
    exact ⟨v, cellK x c e v z⟩
  · obtain ⟨m, ⟨o, _, _, ho, _⟩, _⟩ := I.loc
    exact free _ o (fun z => (hch _ z).2.1 rfl) ho I.free
  · obtain ⟨v, o, ho, hd⟩ := I.cell x c e
    exact free c o (fun z => (hch c z).2.2.1 x c e rfl) ho (I.freeC x c e)
  · obtain ⟨e, n, ne, nf, d⟩ := I.pin p hp
    have nch : p.1 ∉ ch := fun z => (hch p.1 z).2.2.2 p hp rfl
    exact ⟨keep p.1 p.2 ne nf nch e n, free p.1 p.2 nch e n, ne, nf, d⟩
theorem Inv.un {t' : Nat} (I : Inv X pins σ H s) (u : Un X.fs [] H H' s.heap h') (hok : HOk X.prog X.w H' h') : Inv X pins σ H' { s with heap := h', toks := t' } := by
  obtain ⟨m, ⟨o, es, ep, ho, r⟩, _⟩ := id I.loc
  obtain ⟨sl, hL⟩ := u.any ho I.free (by simp)
  exact I.step (g' := s.gens) (d' := s.drawn) (ch := []) (fun _ z => nomatch z) (fun b o _ hb _ e n => u.keep b o e n hb (by simp)) (fun b o _ hb _ e n => u.slot b o e n hb (by simp)) (fun b o _ e n => u.free b o e n (by simp)) (fun b o _ e => u.there b o e (by simp)) u.tups u.frzs u.tbls (fun m' hm => by
    obtain ⟨o', es', ep', ho', r'⟩ := hm
    rw [ho] at ho'; cases ho'
    exact ⟨_, es', ep', hL, r'⟩) hok I.bare
theorem Inv.call {g' : Array GenState} {t' : Nat} {d' : Drawn} {ch : List Addr} (I : Inv X pins σ H s) (u : Un (frs X.stack) ch H H' s.heap h') (hok : HOk X.prog X.w H' h') (hg : AllBare g')
    (hch : ∀ b ∈ ch, (b ∈ X.ex ∨ X.s₀.heap.objs.size ≤ b) ∧ b ≠ X.env.locals ∧ (∀ x c, X.env.cells.lookup x = some c → c ≠ b) ∧ ∀ p ∈ X.pn ++ pins, p.1 ≠ b) :
    Inv X pins σ H' { s with heap := h', gens := g', drawn := d', toks := t' } := by
  obtain ⟨m, ⟨o, es, ep, ho, r⟩, _⟩ := id I.loc
  obtain ⟨sl, hL⟩ := u.any ho I.free fun z => (hch _ z).2.1 rfl
  exact I.step (ch := ch) hch (fun b o hL hb hc e n => u.keep b o e n (fun z => (List.mem_cons.mp (I.stkSub b z)).elim hL hb) hc) (fun b o _ _ hc e n => u.any e n hc) (fun b o hc e n => u.free b o e n hc) (fun b o hc e => u.there b o e hc) u.tups u.frzs u.tbls (fun m' hm => by
    obtain ⟨o', es', ep', ho', r'⟩ := hm
    rw [ho] at ho'; cases ho'
    exact ⟨_, es', ep', hL, r'⟩) hok hg
theorem Inv.turned {t' : Nat} {it : Addr} (I : Inv X pins σ H s) (k : ∀ b o, b ≠ it → s.heap.get? b = some o → h'.get? b = some o) (hn : H it = none) (hL : it ≠ X.env.locals)
    (h1 : it ∈ X.ex ∨ X.s₀.heap.objs.size ≤ it) (h2 : ∀ x c, X.env.cells.lookup x = some c → c ≠ it) (h3 : ∀ p ∈ X.pn ++ pins, p.1 ≠ it) : Inv X pins σ H { s with heap := h', toks := t' } := by
  have nit : ∀ b u, H b = some u → b ≠ it := fun b u e z => by rw [z, hn] at e; cases e
  refine I.step (g' := s.gens) (d' := s.drawn) (ch := [it]) (fun b hb => ?_) (fun b o _ _ hc e _ => k b o (fun z => hc (by simp [z])) e) (fun b o _ _ hc e _ => ⟨o.slots, k b o (fun z => hc (by simp [z])) e⟩) (fun _ _ _ _ n => n)
    (fun b o hc e => ⟨o, k b o (fun z => hc (by simp [z])) e⟩) (fun _ _ e => e) (fun _ _ _ e => e) (fun b ps e => ⟨#[], by rw [e]; simp⟩) (fun m hm => ?_) (fun b u e => ?_) I.bare
  · have e : b = it := by simpa using hb
    subst e
    exact ⟨h1, hL, h2, h3⟩
  · obtain ⟨o, es, ep, ho, r⟩ := hm
    exact ⟨o, es, ep, k _ o (Ne.symm hL) ho, r⟩
  · refine (I.hok b u e).stay (fun c v hc q => k c v ?_ q) (fun _ q => q) fun _ _ q => q
    rcases hc with z | z
    · rw [z]; exact nit b u e
    · exact nit c _ z
theorem Inv.tok (I : Inv X pins σ H s) (t : Nat) : Inv X pins σ H { s with toks := t } := I.un (h' := s.heap) (t' := t) Un.refl I.hok
theorem Inv.kept {t' : Nat} (I : Inv X pins σ H s) (k : ∀ b u, s.heap.get? b = some u → h'.get? b = some u) : Inv X pins σ H { s with heap := h', toks := t' } := I.un (Un.kept k) (I.hok.kept k)
theorem Inv.laid {a : Addr} {o : HO} {t' : Nat} (I : Inv X pins σ H s) (k : ∀ b u, s.heap.get? b = some u → h'.get? b = some u) (hp : s.heap.objs.size ≤ a) (new : ObjOk X.prog X.w (upd H a o) h' a o) :
    Inv X pins σ (upd H a o) { s with heap := h', toks := t' } := I.un (Un.laid k hp (I.hok.fresh hp)) (I.hok.laid k hp new)
theorem Inv.write {x e : Addr} {o : HO} {t' : Nat} (I : Inv X pins σ H s) (mu : Mut (H x)) (he : e = x ∨ H e = some (.own x)) (k : ∀ b u, b ≠ e → s.heap.get? b = some u → h'.get? b = some u) (heo : ∃ u, h'.get? e = some u)
    (new : ObjOk X.prog X.w (upd H x o) h' x o) : Inv X pins σ (upd H x o) { s with heap := h', toks := t' } := I.un (Un.write mu he k heo) (I.hok.write mu he k heo new)
theorem Inv.pins_of {pins' : List (Addr × Obj)} (I : Inv X pins σ H s) (h : ∀ p ∈ pins', s.heap.get? p.1 = some p.2 ∧ H p.1 = none ∧ p.1 ≠ X.env.locals ∧ p.1 ∉ X.fs ∧ ∀ v, p.2.data ≠ .cell v) : Inv X pins' σ H s :=
  ⟨I.ok, I.os, I.bare, I.base, I.loc, I.cell, I.free, I.freeC, fun p hp => (List.mem_append.mp hp).elim (fun z => I.pin p (List.mem_append_left _ z)) (h p), I.hok, I.len⟩

theorem nodup_ix {N : List Str} (hN : N.Nodup) {i j : Nat} {x : Str} (a : N[i]? = some x) (b : N[j]? = some x) : i = j := by
  obtain ⟨h1, e1⟩ := List.getElem?_eq_some_iff.mp a
  obtain ⟨h2, e2⟩ := List.getElem?_eq_some_iff.mp b
  exact (List.getElem_inj hN).mp (e1.trans e2.symm)

theorem store_ok2 {M : Model} {A : Around} {E : Value → Shared → Prop} {i : Nat} {x : Str} {v : V} {u : Value} {Q : Unit → Shared → Prop} (I : Inv X pins σ H s) (hN : X.N.Nodup) (hi : X.N[i]? = some x) (hx : Loc X.env.scope x) (r : RelV v u)
    (h : ∀ s', Inv X pins (σ.set i (some v)) H s' → (∃ a, Heap.SameBut a s.heap s'.heap ∧ (a = X.env.locals ∨ X.env.cells.lookup x = some a)) → Q () s') (hf : X.fn x = true ∨ X.env.scope.names.lookup x = some .local := by first | exact .inl rfl | exact .inr rfl | assumption) : wpAny M A (storeName X.env x u) Q E s := by
  obtain ⟨m, hn, hl⟩ := id I.loc
  have hcls : (X.env.scope.kind == .class || (X.env.scope.kind == .module && X.env.locals != X.env.globals)) = false := by rw [I.ok.kind]; rfl
  have hiσ : i < σ.length := by rw [I.len]; exact (List.getElem?_eq_some_iff.mp hi).1
  have cne := I.cne
  have tracked : ∀ {a : Addr} {h' : Heap}, (∃ o, s.heap.get? a = some o ∧ H a = none) → Heap.SameBut a s.heap h' → HOk X.prog X.w H h' := fun {a h'} ha hs b ob e => by
    obtain ⟨_, _, hfree⟩ := ha
    refine (I.hok b ob e).stay (fun c w' hc q => (hs.2 c ?_).trans q) (fun _ q => q) fun _ _ q => q
    rintro rfl
    rcases hc with rfl | hc
    · rw [hfree] at e; cases e
    · rw [hfree] at hc; cases hc
  rcases hx with hk | hk
  · refine wpAny_storeName_local hk hn (fun h' hn' hs => ?_) hcls
    obtain ⟨oL, _, _, hoL, _⟩ := id hn
    refine h _ ⟨I.ok, I.os, I.bare, ⟨fun b o e n hb hx => ?_, fun b o e n hb hx => ?_, I.base.free, fun b o e hx => ?_, I.base.tups, I.base.frzs, I.base.tbls⟩, ⟨_, hn', fun j y v' e1 e2 e3 => ?_⟩, fun y c e => ?_, I.free, I.freeC, fun p hp => ?_, tracked ⟨oL, hoL, I.free⟩ hs, by simpa using I.len⟩ ⟨_, hs, .inl rfl⟩
    · exact (hs.2 b (Nat.ne_of_lt (Nat.lt_of_lt_of_le (Heap.lt_size e) I.ok.above))).trans (I.base.keep b o e n hb hx)
    · obtain ⟨sl, e1⟩ := I.base.slot b o e n hb hx
      exact ⟨sl, (hs.2 b (Nat.ne_of_lt (Nat.lt_of_lt_of_le (Heap.lt_size e) I.ok.above))).trans e1⟩
    · obtain ⟨o', e1⟩ := I.base.there b o e hx
      exact ⟨o', (hs.2 b (Nat.ne_of_lt (Nat.lt_of_lt_of_le (Heap.lt_size e) I.ok.above))).trans e1⟩
    · by_cases hj : j = i
      · subst hj
        rw [hi] at e1; cases e1
        rw [List.getElem?_set_self hiσ] at e2
        cases e2
        exact ⟨u, r, .inl ⟨hk, by simp⟩⟩
      · rw [List.getElem?_set_ne (Ne.symm hj)] at e2
        obtain ⟨u', r', q⟩ := hl j y v' e1 e2 e3
        refine ⟨u', r', ?_⟩
        rcases q with ⟨k, e⟩ | ⟨k, c, e, z⟩
        · refine .inl ⟨k, ?_⟩
          have : y ≠ x := fun e => hj (nodup_ix hN e1 (e ▸ hi))
          simp [this, e]
        · exact .inr ⟨k, c, e, z.sameBut hs (cne y c e)⟩
    · obtain ⟨w', z⟩ := I.cell y c e
      exact ⟨w', z.sameBut hs (cne y c e)⟩
    · obtain ⟨e, n, ne, nf, d⟩ := I.pin p hp
      exact ⟨(hs.2 p.1 ne).trans e, n, ne, nf, d⟩
  · have hfn : X.fn x = true := by
      rcases hf with z | z
      · exact z
      · rw [z] at hk; cases hk
    obtain ⟨c, hc⟩ := I.ok.has x (.inl hk)
    obtain ⟨w', z⟩ := I.cell x c hc
    refine wpAny_storeName_cell I.ok.kind hk hc z (fun h' hc' hs => ?_)
    obtain ⟨oc, hoc, hocd⟩ := id z
    refine h { s with heap := h' } ⟨I.ok, I.os, I.bare, ⟨fun b o e n hb hx => ?_, fun b o e n hb hx => ?_, I.base.free, fun b o e hx => ?_, I.base.tups, I.base.frzs, I.base.tbls⟩, ⟨m, hn.sameBut hs (Ne.symm (cne x c hc)), fun j y v' e1 e2 e3 => ?_⟩, fun y c' e => ?_, I.free, I.freeC, fun p hp => ?_, tracked ⟨oc, hoc, I.freeC x c hc⟩ hs, by simpa using I.len⟩ ⟨c, hs, .inr hc⟩
    · exact (hs.2 b (Nat.ne_of_lt (Nat.lt_of_lt_of_le (Heap.lt_size e) (I.ok.cab x c hfn hc)))).trans (I.base.keep b o e n hb hx)
    · obtain ⟨sl, e1⟩ := I.base.slot b o e n hb hx
      exact ⟨sl, (hs.2 b (Nat.ne_of_lt (Nat.lt_of_lt_of_le (Heap.lt_size e) (I.ok.cab x c hfn hc)))).trans e1⟩
    · obtain ⟨o', e1⟩ := I.base.there b o e hx
      exact ⟨o', (hs.2 b (Nat.ne_of_lt (Nat.lt_of_lt_of_le (Heap.lt_size e) (I.ok.cab x c hfn hc)))).trans e1⟩
    · by_cases hj : j = i
      · subst hj
        rw [hi] at e1; cases e1
        rw [List.getElem?_set_self hiσ] at e2
        cases e2
        exact ⟨u, r, .inr ⟨.inl hk, c, hc, hc'⟩⟩
      · rw [List.getElem?_set_ne (Ne.symm hj)] at e2
        obtain ⟨u', r', q⟩ := hl j y v' e1 e2 e3
        refine ⟨u', r', ?_⟩
        rcases q with q | ⟨k, c', e, z'⟩
        · exact .inl q
        · refine .inr ⟨k, c', e, z'.sameBut hs ?_⟩
          rintro rfl
          exact hj (nodup_ix hN e1 (I.ok.inj _ _ _ e hc ▸ hi))
    · by_cases hcc : c' = c
      · subst hcc; exact ⟨_, hc'⟩
      · obtain ⟨w2, z2⟩ := I.cell y c' e
        exact ⟨w2, z2.sameBut hs hcc⟩
    · obtain ⟨e, n, ne, nf, d⟩ := I.pin p hp
      refine ⟨(hs.2 p.1 ?_).trans e, n, ne, nf, d⟩
      intro q
      rw [q, hoc] at e
      have q' : oc = p.2 := Option.some.inj e
      exact d w' (by rw [← q']; exact hocd)
theorem store_ok {M : Model} {A : Around} {E : Value → Shared → Prop} {i : Nat} {x : Str} {v : V} {u : Value} {Q : Unit → Shared → Prop} (I : Inv X pins σ H s) (hN : X.N.Nodup) (hi : X.N[i]? = some x) (hx : Loc X.env.scope x) (r : RelV v u)
    (h : ∀ s', Inv X pins (σ.set i (some v)) H s' → Q () s') (hf : X.fn x = true ∨ X.env.scope.names.lookup x = some .local := by first | exact .inl rfl | exact .inr rfl | assumption) : wpAny M A (storeName X.env x u) Q E s :=
  store_ok2 I hN hi hx r (fun s' I' _ => h s' I') hf
theorem Inv.call' {s' : Shared} {ch : List Addr} (I : Inv X pins σ H s) (ho : s'.os = s.os) (u : Un (frs X.stack) ch H H' s.heap s'.heap) (hok : HOk X.prog X.w H' s'.heap) (hg : AllBare s'.gens)
    (hch : ∀ b ∈ ch, (b ∈ X.ex ∨ X.s₀.heap.objs.size ≤ b) ∧ b ≠ X.env.locals ∧ (∀ x c, X.env.cells.lookup x = some c → c ≠ b) ∧ ∀ p ∈ X.pn ++ pins, p.1 ≠ b) : Inv X pins σ H' s' := by
  obtain ⟨h', g', d', t', o'⟩ := s'
  have e : o' = s.os := ho
  subst e
  exact I.call (g' := g') (t' := t') (d' := d') u hok hg hch
end

noncomputable abbrev XK := Value → Option Addr → Hp → Prop
noncomputable abbrev St := List (Option V)
noncomputable abbrev VK := V → Hp → Prop
noncomputable abbrev TE := St → Hp → VK → Prop
noncomputable abbrev TT := St → Hp → (Bool → Hp → Prop) → Prop
noncomputable abbrev TA := St → Hp → (List V → Hp → Prop) → Prop
structure Ends where
  nx : St → Hp → Prop
  rt : VK
  bk : St → Hp → Prop := fun _ _ => False
  ct : St → Hp → Prop := fun _ _ => False
noncomputable abbrev TS := Ends → St → Hp → Prop

noncomputable def EP (X : Cx) (pins : List (Addr × Obj)) (σ : St) (Q : VK) (u : Value) (s' : Shared) : Prop := ∃ v H', Inv X pins σ H' s' ∧ RelV v u ∧ Q v H'
noncomputable def TP (X : Cx) (pins : List (Addr × Obj)) (σ : St) (Q : Bool → Hp → Prop) (b : Bool) (s' : Shared) : Prop := ∃ H', Inv X pins σ H' s' ∧ Q b H'
noncomputable def AP (X : Cx) (pins : List (Addr × Obj)) (σ : St) (Q : List V → Hp → Prop) (us : List Value) (s' : Shared) : Prop := ∃ vs H', Inv X pins σ H' s' ∧ Vals vs us ∧ Q vs H'
noncomputable def SP (X : Cx) (pins : List (Addr × Obj)) (D : Ends) (f : Flow) (s' : Shared) : Prop :=
  match f with
  | .next => ∃ σ' H', Inv X pins σ' H' s' ∧ D.nx σ' H'
  | .brk => ∃ σ' H', Inv X pins σ' H' s' ∧ D.bk σ' H'
  | .cont => ∃ σ' H', Inv X pins σ' H' s' ∧ D.ct σ' H'
  | .ret u => ∃ v σ' H', Inv X pins σ' H' s' ∧ RelV v u ∧ D.rt v H'

noncomputable def PE (X : Cx) (e : Expr) (t : TE) : Prop :=
  ∀ (pins : List (Addr × Obj)) (s : Shared) (σ : St) (H : Hp) (Q : VK), Inv X pins σ H s → t σ H Q → wpAny (model X.prog X.w) X.A (eval e X.env) (EP X pins σ Q) X.xe s
noncomputable def PT (X : Cx) (e : Expr) (t : TT) : Prop :=
  ∀ (pins : List (Addr × Obj)) (s : Shared) (σ : St) (H : Hp) (Q : Bool → Hp → Prop), Inv X pins σ H s → t σ H Q → wpAny (model X.prog X.w) X.A (isTrue e X.env (eval e X.env)) (TP X pins σ Q) X.xe s
noncomputable def PW (X : Cx) (e : Expr) (t : TT) : Prop :=
  ∀ (whole : Sem Value) (pins : List (Addr × Obj)) (s : Shared) (σ : St) (H : Hp) (Q : Bool → Hp → Prop), Inv X pins σ H s → t σ H Q → wpAny (model X.prog X.w) X.A (isTrue e X.env whole) (TP X pins σ Q) X.xe s
noncomputable def PA (X : Cx) (es : List Expr) (t : TA) : Prop :=
  ∀ (pos : Pos) (pins : List (Addr × Obj)) (s : Shared) (σ : St) (H : Hp) (Q : List V → Hp → Prop), Inv X pins σ H s → t σ H Q → wpAny (model X.prog X.w) X.A (spliced (backTo pos (starEach es X.env))) (AP X pins σ Q) X.xe s
noncomputable def PS (X : Cx) (st : Stmt) (t : TS) : Prop :=
  ∀ (pins : List (Addr × Obj)) (s : Shared) (σ : St) (H : Hp) (D : Ends), Inv X pins σ H s → t D σ H → wpAny (model X.prog X.w) X.A (exec st X.env) (SP X pins D) X.xe s
noncomputable def PSs (X : Cx) (st : List Stmt) (t : TS) : Prop :=
  ∀ (pins : List (Addr × Obj)) (s : Shared) (σ : St) (H : Hp) (D : Ends), Inv X pins σ H s → t D σ H → wpAny (model X.prog X.w) X.A (execs st X.env) (SP X pins D) X.xe s
theorem thn {α : Type} {t : Sem α} {Q Q' : α → Shared → Prop} {M : Model} {A : Around} {E : Value → Shared → Prop} {s : Shared} (h : wpAny M A t Q E s) (hQ : ∀ a s, Q a s → Q' a s) : wpAny M A t Q' E s := wpAny_mono h hQ fun _ _ x => x
end L2

namespace L2
open PySem PySem.Spec PyProof.Rows
section
variable {X : Cx}

theorem bin {a b : Expr} {ta tb : TE} (ha : PE X a ta) (hb : PE X b tb) {pins : List (Addr × Obj)} {s : Shared} {σ : St} {H : Hp} {R : V → V → Hp → Prop} (I : Inv X pins σ H s) (h : ta σ H fun x H1 => tb σ H1 fun y H2 => R x y H2)
    {α : Type} {Q : α → Shared → Prop} {f : Value → Value → Sem α}
    (hf : ∀ v u s2 x y H2, Inv X pins σ H2 s2 → RelV x v → RelV y u → R x y H2 → wpAny (model X.prog X.w) X.A (f v u) Q X.xe s2) :
    wpAny (model X.prog X.w) X.A (eval a X.env) (fun v s₁ => wpAny (model X.prog X.w) X.A (eval b X.env) (fun u s₂ => wpAny (model X.prog X.w) X.A (f v u) Q X.xe s₂) X.xe s₁) X.xe s := by
  refine thn (ha pins s σ H _ I h) fun v s1 ⟨x, H1, I1, r1, q1⟩ => ?_
  refine thn (hb pins s1 σ H1 _ I1 q1) fun u s2 ⟨y, H2, I2, r2, q2⟩ => ?_
  exact hf v u s2 x y H2 I2 r1 r2 q2

noncomputable def tVar (i : Nat) : TE := fun σ H Q => ∃ v, σ[i]? = some (some v) ∧ Q v H
noncomputable def tC (v : V) : TE := fun _ H Q => Q v H
noncomputable def Gl (X : Cx) (x : Str) : Prop := X.env.kindOf x = some .globalImplicit
noncomputable def t2I (ta tb : TE) (k : Int → Int → Hp → Prop) : St → Hp → Prop := fun σ H => ta σ H fun x H1 => tb σ H1 fun y H2 => ∃ i j, x = .int i ∧ y = .int j ∧ k i j H2
noncomputable def tAdd (ta tb : TE) : TE := fun σ H Q => t2I ta tb (fun i j H2 => Q (.int (i + j)) H2) σ H
noncomputable def tSub (ta tb : TE) : TE := fun σ H Q => t2I ta tb (fun i j H2 => Q (.int (i - j)) H2) σ H
noncomputable def tMul (ta tb : TE) : TE := fun σ H Q => t2I ta tb (fun i j H2 => (-(2 ^ 64) < i ∧ i < 2 ^ 64) ∧ Q (.int (i * j)) H2) σ H
variable {a b : Expr} {ta tb : TE} {pos : Pos}
noncomputable def PC (X : Cx) (op : CmpOp) (a b : Expr) (t : TE) : Prop :=
  ∀ (pins : List (Addr × Obj)) (s : Shared) (σ : St) (H : Hp) (Q : VK), Inv X pins σ H s → t σ H Q →
    wpAny (model X.prog X.w) X.A (eval a X.env) (fun v s₁ => wpAny (model X.prog X.w) X.A (eval b X.env) (fun u s₂ => wpAny (model X.prog X.w) X.A (compareOp op v u) (EP X pins σ Q) X.xe s₂) X.xe s₁) X.xe s
noncomputable def tCmp (p : Int → Int → Bool) (ta tb : TE) : TE := fun σ H Q => t2I ta tb (fun i j H2 => Q (.bl (p i j)) H2) σ H
noncomputable abbrev tLt : TE → TE → TE := tCmp fun i j => decide (i < j)
noncomputable abbrev tLe : TE → TE → TE := tCmp fun i j => decide (i ≤ j)
noncomputable abbrev tGt : TE → TE → TE := tCmp fun i j => decide (j < i)
noncomputable abbrev tGe : TE → TE → TE := tCmp fun i j => decide (j ≤ i)
noncomputable abbrev tEqI : TE → TE → TE := tCmp fun i j => decide (i = j)
noncomputable abbrev tNeI : TE → TE → TE := tCmp fun i j => !decide (i = j)
noncomputable def tIsN (ta : TE) : TE := fun σ H Q => ta σ H fun x H1 => Q (.bl (decide (x = .non))) H1
noncomputable def tNotN (ta : TE) : TE := fun σ H Q => ta σ H fun x H1 => Q (.bl (!decide (x = .non))) H1
noncomputable def tB (t : TE) : TT := fun σ H Q => t σ H fun x H1 => ∃ c, x = .bl c ∧ Q c H1
variable {tA tB' : TT} {rest : List Expr}
noncomputable def tAnd (t u : TT) : TT := fun σ H Q => t σ H fun c H1 => if c = true then u σ H1 Q else Q false H1
noncomputable def tOr (t u : TT) : TT := fun σ H Q => t σ H fun c H1 => if c = true then Q true H1 else u σ H1 Q
noncomputable def tNot (t : TT) : TT := fun σ H Q => t σ H fun c H1 => Q (!c) H1
theorem pw_and1 (ha : PT X a tA) : PW X (.BoolOp .And [a] pos) tA := by
  intro wh pins s σ H Q I h
  refine isTrue_and (thn (ha pins s σ H Q I h) fun c s1 e => ?_)
  cases c with
  | true => exact isTrue_and_nil e
  | false => exact e
theorem pw_or1 (ha : PT X a tA) : PW X (.BoolOp .Or [a] pos) tA := by
  intro wh pins s σ H Q I h
  refine isTrue_or (thn (ha pins s σ H Q I h) fun c s1 e => ?_)
  cases c with
  | false => exact isTrue_or_nil e
  | true => exact e
noncomputable def tAndV (ta tb : TE) : TE := fun σ H Q => ta σ H fun x H1 => ∃ c, x = .bl c ∧ if c = true then tb σ H1 Q else Q (.bl false) H1
noncomputable def tOrV (ta tb : TE) : TE := fun σ H Q => ta σ H fun x H1 => ∃ c, x = .bl c ∧ if c = true then Q (.bl true) H1 else tb σ H1 Q
noncomputable def tNotV (ta : TE) : TE := fun σ H Q => ta σ H fun x H1 => ∃ c, x = .bl c ∧ Q (.bl (!c)) H1
theorem pe_one {op} {t : TE} (h : PE X a t) : PE X (.BoolOp op [a] pos) t := fun pins s σ H Q I hw => BoolOp_one (h pins s σ H Q I hw)
noncomputable def tIf (t : TT) (ta tb : TE) : TE := fun σ H Q => t σ H fun c H1 => if c = true then ta σ H1 Q else tb σ H1 Q
end
end L2

namespace L2
open PySem PySem.Spec PyProof.Rows

noncomputable def SqL (K : PySem.W.Frag) (H : Hp) (a : Addr) (xs : List V) : Prop :=
  Rd H a (.lst xs) ∨
    ∃ (o : Obj) (its : Array Value) (n : Nat), K.lookup a = some o ∧ o.cls = .type "list" ∧ o.dict = none ∧ o.data = .seq its n ∧ its.size ≤ sizeLine ∧ Vals xs its.toList
noncomputable def SqT (K : PySem.W.Frag) (H : Hp) (a : Addr) (xs : List V) : Prop :=
  Rd H a (.tup xs) ∨
    ∃ (o : Obj) (its : Array Value) (n : Nat), K.lookup a = some o ∧ o.cls = .type "tuple" ∧ o.data = .seq its n ∧ its.size ≤ sizeLine ∧ Vals xs its.toList
noncomputable def absV : Value → Option V
  | .none => some .non
  | .bool b => some (.bl b)
  | .int i _ => some (.int i)
  | .str x _ => some (.str x)
  | .bytes b _ => some (.byt b)
  | .float b _ => some (.flt b)
  | .ref a => some (.ref a)
  | .type n => some (.ty n)
  | _ => none
theorem RelV.abs {x : V} {u : Value} (r : RelV x u) : absV u = some x := by
  cases x with
  | non => cases r; rfl
  | bl _ => cases r; rfl
  | int _ => obtain ⟨t, rfl⟩ := r; rfl
  | str _ => obtain ⟨t, rfl⟩ := r; rfl
  | byt _ => obtain ⟨t, rfl⟩ := r; rfl
  | flt _ => obtain ⟨t, rfl⟩ := r; rfl
  | ref _ => cases r; rfl
  | ty _ => cases r; rfl
theorem RelV.inj {x y : V} {u : Value} (r : RelV x u) (q : RelV y u) : x = y := Option.some.inj (r.abs.symm.trans q.abs)
theorem Vals.inj : ∀ {xs ys : List V} {us : List Value}, Vals xs us → Vals ys us → xs = ys
  | _, _, _, .nil, .nil => rfl
  | _, _, _, .cons r t, .cons r' t' => by rw [r.inj r', Vals.inj t t']
section
variable {X : Cx} {pins : List (Addr × Obj)} {σ : St} {H : Hp} {s : Shared} {a : Addr} {xs ys : List V}
theorem SqL.of {K : PySem.W.Frag} (h : H a = some (.lst xs)) : SqL K H a xs := .inl (.inl h)
theorem SqT.of {K : PySem.W.Frag} (h : H a = some (.tup xs)) : SqT K H a xs := .inl (.inl h)
theorem Inv.list (I : Inv X pins σ H s) (h : SqL X.K H a xs) : ∃ its : List Value, Vals xs its ∧ PlainL s.heap a its.toArray ∧ xs.length ≤ sizeLine := by
  rcases h with h | ⟨o, its, n, hk, hc, hd, hs, hz, r⟩
  · obtain ⟨z, its, n, r, e⟩ := h.ok I.hok
    exact ⟨its, r, ⟨_, n, e, rfl, rfl, rfl⟩, z⟩
  · refine ⟨its.toList, r, ⟨o, n, I.kIn a o hk, hc, hd, by simpa using hs⟩, ?_⟩
    have e := r.length
    simp only [Array.length_toList] at e
    omega
theorem Inv.tuple (I : Inv X pins σ H s) (h : SqT X.K H a xs) : ∃ its : List Value, Vals xs its ∧ IsTup s.heap a its.toArray ∧ xs.length ≤ sizeLine := by
  rcases h with h | ⟨o, its, n, hk, hc, hs, hz, r⟩
  · obtain ⟨z, its, r, p⟩ := h.ok I.hok
    exact ⟨its, r, p, z⟩
  · refine ⟨its.toList, r, ⟨o, I.kIn a o hk, hc, n, by simpa using hs⟩, ?_⟩
    have e := r.length
    simp only [Array.length_toList] at e
    omega
theorem Inv.list_inj (I : Inv X pins σ H s) (h : SqL X.K H a xs) (h' : SqL X.K H a ys) : xs = ys := by
  obtain ⟨its, r, ⟨o, n, e, _, _, d⟩, _⟩ := I.list h
  obtain ⟨its', r', ⟨o', n', e', _, _, d'⟩, _⟩ := I.list h'
  rw [e] at e'; cases e'
  rw [d] at d'
  injection d' with d1 _
  have : its = its' := by simpa using congrArg Array.toList d1
  subst this
  exact r.inj r'
theorem Inv.tuple_inj (I : Inv X pins σ H s) (h : SqT X.K H a xs) (h' : SqT X.K H a ys) : xs = ys := by
  obtain ⟨its, r, ⟨o, e, _, n, d⟩, _⟩ := I.tuple h
  obtain ⟨its', r', ⟨o', e', _, n', d'⟩, _⟩ := I.tuple h'
  rw [e] at e'; cases e'
  rw [d] at d'
  injection d' with d1 _
  have : its = its' := by simpa using congrArg Array.toList d1
  subst this
  exact r.inj r'
end

noncomputable abbrev Cx.wish (X : Cx) (E : Value → Shared → Prop) : Cx := { X with xe := E }
noncomputable abbrev Cx.nox (X : Cx) : Cx := X.wish fun _ _ => False
theorem Cx.Ok.wish {X : Cx} (ok : X.Ok) (E : Value → Shared → Prop) : (X.wish E).Ok :=
  ⟨ok.mod, ok.kind, ok.glob, ok.blt, ok.above, ok.inj, ok.has, ok.cab, ok.hd, ok.frames, ok.stk, ok.exf, ok.bs, ok.bsz, ok.noex, ok.exfs, ok.funs, ok.frf⟩
theorem Cx.Ok.unwish {X : Cx} {E : Value → Shared → Prop} (ok : (X.wish E).Ok) : X.Ok :=
  ⟨ok.mod, ok.kind, ok.glob, ok.blt, ok.above, ok.inj, ok.has, ok.cab, ok.hd, ok.frames, ok.stk, ok.exf, ok.bs, ok.bsz, ok.noex, ok.exfs, ok.funs, ok.frf⟩
section
variable {X : Cx} {pins : List (Addr × Obj)} {σ : St} {H : Hp} {s : Shared} {E : Value → Shared → Prop}
theorem Inv.wish (I : Inv X pins σ H s) (E : Value → Shared → Prop) : Inv (X.wish E) pins σ H s := ⟨I.ok.wish E, I.os, I.bare, I.base, I.loc, I.cell, I.free, I.freeC, I.pin, I.hok, I.len⟩
theorem Inv.unwish (I : Inv (X.wish E) pins σ H s) : Inv X pins σ H s := ⟨I.ok.unwish, I.os, I.bare, I.base, I.loc, I.cell, I.free, I.freeC, I.pin, I.hok, I.len⟩
theorem SP.unwish {D : Ends} {f : Flow} {s' : Shared} (h : SP (X.wish E) pins D f s') : SP X pins D f s' := by
  cases f with
  | next => obtain ⟨σ', H', I, q⟩ := h; exact ⟨σ', H', I.unwish, q⟩
  | brk => obtain ⟨σ', H', I, q⟩ := h; exact ⟨σ', H', I.unwish, q⟩
  | cont => obtain ⟨σ', H', I, q⟩ := h; exact ⟨σ', H', I.unwish, q⟩
  | ret u => obtain ⟨v, σ', H', I, r, q⟩ := h; exact ⟨v, σ', H', I.unwish, r, q⟩
theorem PE.nox {e : Expr} {t : TE} (h : PE X.nox e t) : PE X e t := fun pins s σ H Q I hw =>
  wpAny_mono (h pins s σ H Q (I.wish _) hw) (fun _ _ ⟨v, H', I', r, q⟩ => ⟨v, H', I'.unwish, r, q⟩) fun _ _ z => False.elim z
theorem PT.nox {e : Expr} {t : TT} (h : PT X.nox e t) : PT X e t := fun pins s σ H Q I hw =>
  wpAny_mono (h pins s σ H Q (I.wish _) hw) (fun _ _ ⟨H', I', q⟩ => ⟨H', I'.unwish, q⟩) fun _ _ z => False.elim z
theorem PSs.nox {st : List Stmt} {t : TS} (h : PSs X.nox st t) : PSs X st t := fun pins s σ H D I hw =>
  wpAny_mono (h pins s σ H D (I.wish _) hw) (fun _ _ q => q.unwish) fun _ _ z => False.elim z
end

section
variable {X : Cx} {st : Stmt} {rest : List Stmt} {t u : TS} {e : Expr} {te : TE} {pos : Pos}
noncomputable def tNext : TS := fun D σ H => D.nx σ H
noncomputable def tSeq (t u : TS) : TS := fun D σ H => t { D with nx := u D } σ H
noncomputable def tBreak : TS := fun D σ H => D.bk σ H
noncomputable def tCont : TS := fun D σ H => D.ct σ H
noncomputable def tDrop (te : TE) : TS := fun D σ H => te σ H fun _ H1 => D.nx σ H1
noncomputable def tRet (te : TE) : TS := fun D σ H => te σ H D.rt
noncomputable def tRetN : TS := fun D _ H => D.rt .non H
noncomputable def tIfS (c : TT) (t u : TS) : TS := fun D σ H => c σ H fun b H1 => if b = true then t D σ H1 else u D σ H1
noncomputable def tNever : TS := fun _ _ _ => False
end

noncomputable abbrev TG := V → St → Hp → (St → Hp → Prop) → Prop
noncomputable abbrev TGs := List V → St → Hp → (St → Hp → Prop) → Prop
noncomputable def PG (X : Cx) (target : Expr) (t : TG) : Prop :=
  ∀ (pins : List (Addr × Obj)) (s : Shared) (σ : St) (H : Hp) (v : V) (u : Value) (Q : St → Hp → Prop), Inv X pins σ H s → RelV v u → t v σ H Q →
    wpAny (model X.prog X.w) X.A (assign target X.env u) (fun _ s' => ∃ σ' H', Inv X pins σ' H' s' ∧ Q σ' H') X.xe s
noncomputable def PGs (X : Cx) (ts : List Expr) (t : TGs) : Prop :=
  ∀ (pins : List (Addr × Obj)) (s : Shared) (σ : St) (H : Hp) (vs : List V) (us : List Value) (Q : St → Hp → Prop), Inv X pins σ H s → Vals vs us → t vs σ H Q →
    wpAny (model X.prog X.w) X.A (assignInOrder ((assignEach ts X.env).map (·.2)) us) (fun _ s' => ∃ σ' H', Inv X pins σ' H' s' ∧ Q σ' H') X.xe s
noncomputable abbrev TSet := V → V → V → Hp → (Hp → Prop) → Prop
noncomputable def PSet (X : Cx) (t : TSet) : Prop :=
  ∀ (pins : List (Addr × Obj)) (s : Shared) (σ : St) (H : Hp) (o i v : V) (ov iv u : Value) (Q : Hp → Prop), Inv X pins σ H s → RelV o ov → RelV i iv → RelV v u → t o i v H Q →
    wpAny (model X.prog X.w) X.A (setItem ov iv u) (fun _ s' => ∃ H', Inv X pins σ H' s' ∧ Q H') X.xe s
noncomputable abbrev TIp := V → V → Hp → VK → Prop
noncomputable def PIp (X : Cx) (op : Operator) (t : TIp) : Prop :=
  ∀ (pins : List (Addr × Obj)) (s : Shared) (σ : St) (H : Hp) (x y : V) (v u : Value) (Q : VK), Inv X pins σ H s → RelV x v → RelV y u → t x y H Q →
    wpAny (model X.prog X.w) X.A (inplaceOp op v u) (EP X pins σ Q) X.xe s
section
variable {X : Cx} {pos : Pos}
noncomputable def gName (i : Nat) : TG := fun v σ H Q => Q (σ.set i (some v)) H
theorem pg_name {i : Nat} {x : Str} (hN : X.N.Nodup) (hi : X.N[i]? = some x) (hx : Loc X.env.scope x) (hf : X.fn x = true ∨ X.env.scope.names.lookup x = some .local := by first | exact .inl rfl | exact .inr rfl | assumption) : PG X (.Name x pos) (gName i) := by
  intro pins s σ H v u Q I r h
  exact wpAny_assign_Name (store_ok I hN hi hx r (fun s' I' => ⟨_, H, I', h⟩) hf)
noncomputable def gNil : TGs := fun vs σ H Q => vs = [] ∧ Q σ H
noncomputable def gCons (t : TG) (u : TGs) : TGs := fun vs σ H Q => ∃ v r, vs = v :: r ∧ t v σ H fun σ' H' => u r σ' H' Q
noncomputable def gTup (K : PySem.W.Frag) (n : Nat) (t : TGs) : TG := fun v σ H Q => ∃ a xs, v = .ref a ∧ SqT K H a xs ∧ xs.length = n ∧ t xs σ H Q
noncomputable def gSub (to ti : TE) (t : TSet) : TG := fun v σ H Q => to σ H fun o H1 => ti σ H1 fun i H2 => t o i v H2 fun H3 => Q σ H3
noncomputable def tAsg (te : TE) (g : TG) : TS := fun D σ H => te σ H fun x H1 => g x σ H1 D.nx
noncomputable def tPar (i j : Nat) (ta : TA) : TS := fun D σ H => ta σ H fun vs H1 => ∃ v w, vs = [v, w] ∧ D.nx ((σ.set i (some v)).set j (some w)) H1
noncomputable def tAug (i : Nat) (te : TE) (ti : TIp) : TS := fun D σ H => ∃ x, σ[i]? = some (some x) ∧ te σ H fun y H1 => ti x y H1 fun z H2 => D.nx (σ.set i (some z)) H2
noncomputable def tAugS (to ti te : TE) (tget : V → V → Hp → VK → Prop) (tip : TIp) (tset : TSet) : TS := fun D σ H => to σ H fun o H1 => ti σ H1 fun i H2 => tget o i H2 fun x H3 => te σ H3 fun y H4 => tip x y H4 fun z H5 => tset o i z H5 fun H6 => D.nx σ H6
noncomputable def PGet (X : Cx) (t : V → V → Hp → VK → Prop) : Prop :=
  ∀ (pins : List (Addr × Obj)) (s : Shared) (σ : St) (H : Hp) (o i : V) (ov iv : Value) (Q : VK), Inv X pins σ H s → RelV o ov → RelV i iv → t o i H Q →
    wpAny (model X.prog X.w) X.A (getItem ov iv) (EP X pins σ Q) X.xe s
noncomputable def ipI (f : Int → Int → Int) : TIp := fun x y H Q => ∃ i j, x = .int i ∧ y = .int j ∧ Q (.int (f i j)) H
end

section
variable {X : Cx} {pos : Pos}
noncomputable def tWhile (c : TT) (tb : TS) : TS := fun D σ H => ∃ W : Nat → St → Hp → Prop, (∃ m, W m σ H) ∧ ∀ m σ H, W m σ H →
  c σ H fun b H1 => if b = true then ∃ N : St → Hp → Prop, (∀ σ' H', N σ' H' → ∃ m', m' < m ∧ W m' σ' H') ∧ tb { D with nx := N, ct := N, bk := D.nx } σ H1 else D.nx σ H1
end

structure It where
  go : Nat → Hp → Prop
  yld : Nat → Hp → V → Hp → Prop
  stop : Nat → Hp → Prop
noncomputable def FpOk (X : Cx) (pins : List (Addr × Obj)) (H : Hp) (b : Addr) : Prop :=
  H b = none ∧ b ≠ X.env.locals ∧ b ∉ X.fs ∧ (b ∈ X.ex ∨ X.s₀.heap.objs.size ≤ b) ∧ (∀ x c, X.env.cells.lookup x = some c → c ≠ b) ∧ ∀ p ∈ X.pn ++ pins, p.1 ≠ b
theorem Inv.fpOk {X : Cx} {pins : List (Addr × Obj)} {σ : St} {H H' : Hp} {s : Shared} {b : Addr} (I : Inv X pins σ H s) (hb : s.heap.objs.size ≤ b) (hn : H' b = none) : FpOk X pins H' b := by
  refine ⟨hn, Nat.ne_of_gt (Nat.lt_of_lt_of_le I.lt hb), I.nofs hb, .inr (Nat.le_trans I.sz hb), fun x c e z => ?_, fun p hp z => ?_⟩
  · obtain ⟨v, q⟩ := I.cell x c e
    exact absurd (Nat.lt_of_lt_of_le q.lt (by rw [z]; exact hb)) (Nat.lt_irrefl _)
  · exact absurd (Nat.lt_of_lt_of_le (Heap.lt_size (I.pin p hp).1) (by rw [z]; exact hb)) (Nat.lt_irrefl _)
structure Turn (P : Program) (w : World) (K : PySem.W.Frag) (tg : Expr) (J : It) (fp : List Addr) (it : Addr) (tn : Nat → Heap → Prop) : Prop where
  mem : it ∈ fp
  obj : ∀ i h, tn i h → ∀ b ∈ fp, ∃ o, h.get? b = some o ∧ ∀ v, o.data ≠ .cell v
  keep : ∀ i h h', tn i h → (∀ b ∈ fp, ∀ o, h.get? b = some o → h'.get? b = some o) → tn i h'
  item : ∀ (X : Cx), X.prog = P → X.w = w → X.K = K → X.calm = true → ∀ (i : Nat) (pins : List (Addr × Obj)) (s : Shared) (σ : St) (H : Hp) (E : Value → Shared → Prop), Inv X pins σ H s → (∀ b ∈ fp, FpOk X pins H b) → tn i s.heap → J.go i H →
    wpAny (model P w) X.A (pyNext (.ref it)) (fun r s1 => ∃ u, r = some u ∧
      wpAny (model P w) X.A (letOwnedTupleGo tg (.ref it) u) (fun _ s2 => ∃ x H', Inv X pins σ H' s2 ∧ RelV x u ∧ J.yld i H x H' ∧ tn (i + 1) s2.heap ∧ ∀ b ∈ fp, H' b = none) E s1) E s
  done : ∀ (X : Cx), X.prog = P → X.w = w → X.K = K → X.calm = true → ∀ (i : Nat) (pins : List (Addr × Obj)) (s : Shared) (σ : St) (H : Hp) (E : Value → Shared → Prop), Inv X pins σ H s → (∀ b ∈ fp, FpOk X pins H b) → tn i s.heap → J.stop i H →
    wpAny (model P w) X.A (pyNext (.ref it)) (fun r s1 => r = none ∧ Inv X pins σ H s1) E s
  self : ∀ (A : Around) (i : Nat) (s : Shared) (Q : Value → Shared → Prop) (E : Value → Shared → Prop), tn i s.heap → Q (.ref it) s → wpAny (model P w) A (pyIter (.ref it)) Q E s
noncomputable abbrev TI := St → Hp → (It → Hp → Prop) → Prop
noncomputable def PIE (X : Cx) (pins : List (Addr × Obj)) (σ : St) (tg : Expr) (R : It → Hp → Prop) (itv : Value) (s2 : Shared) : Prop :=
  ∃ (it : Addr) (fp : List Addr) (tn : Nat → Heap → Prop) (J : It) (H' : Hp), itv = .ref it ∧ Inv X pins σ H' s2 ∧ Turn X.prog X.w X.K tg J fp it tn ∧ tn 0 s2.heap ∧ (∀ b ∈ fp, FpOk X pins H' b) ∧ R J H'
noncomputable def PI (X : Cx) (tg iter : Expr) (wi : TI) : Prop :=
  ∀ (pins : List (Addr × Obj)) (s : Shared) (σ : St) (H : Hp) (R : It → Hp → Prop), Inv X pins σ H s → wi σ H R →
    wpAny (model X.prog X.w) X.A (eval iter X.env) (fun v s1 => wpAny (model X.prog X.w) X.A (pyIter v) (PIE X pins σ tg R) X.xe s1) X.xe s

theorem go_of {M : Model} {A : Around} {E : Value → Shared → Prop} {s : Shared} {tg : Expr} {it : Addr} {u : Value} {o : Obj} {n : String} {vs : Array Value} {Q : Unit → Shared → Prop} (ho : s.heap.get? it = some o) (hc : o.cls = .type n) (hd : o.data = .fields vs)
    (hn : ["enumerate", "zip", "dict_itemiterator", "dict_reverseitemiterator", "odict_iterator", "itertools.zip_longest", "itertools.pairwise"].contains n = false) (hQ : Q () s) : wpAny M A (letOwnedTupleGo tg (.ref it) u) Q E s := by
  unfold letOwnedTupleGo
  cases tg <;> first
    | exact wpAny_pure hQ
    | (cases u <;> first
        | exact wpAny_pure hQ
        | (refine wpAny_bind (wpAny_load ho ?_)
           rw [hc, hd]
           show wpAny M A (if (["enumerate", "zip", "dict_itemiterator", "dict_reverseitemiterator", "odict_iterator", "itertools.zip_longest", "itertools.pairwise"].contains n && vs[0]? == some (rawInt _)) = true then _ else _) Q E s
           rw [if_neg (by intro h; rw [hn, Bool.false_and] at h; cases h)]
           exact wpAny_pure hQ))

noncomputable def Itl (K : PySem.W.Frag) (a : Addr) : It :=
  ⟨fun i H => ∃ xs x, SqL K H a xs ∧ xs[i]? = some x, fun i H x H' => H' = H ∧ ∀ xs, SqL K H a xs → xs[i]? = some x, fun i H => ∃ xs, SqL K H a xs ∧ xs.length ≤ i⟩
noncomputable def Itt (K : PySem.W.Frag) (a : Addr) : It :=
  ⟨fun i H => ∃ xs x, SqT K H a xs ∧ xs[i]? = some x, fun i H x H' => H' = H ∧ ∀ xs, SqT K H a xs → xs[i]? = some x, fun i H => ∃ xs, SqT K H a xs ∧ xs.length ≤ i⟩
noncomputable def Itr (lo : Int) (n : Nat) : It := ⟨fun i _ => i < n, fun i H x H' => H' = H ∧ x = .int (lo + i), fun i _ => n ≤ i⟩
theorem turn_list {P : Program} {w : World} {K : PySem.W.Frag} {tg : Expr} (a it : Addr) : Turn P w K tg (Itl K a) [it] it (fun i h => h.IsListIter it a i) where
  mem := by simp
  obj := fun i h st b hb => by
    have e : b = it := by simpa using hb
    subst e
    obtain ⟨o, e, c, d⟩ := st
    exact ⟨o, e, fun v z => by rw [d] at z; cases z⟩
  keep := fun i h h' st k => st.at fun o e => k it (by simp) o e
  item := by
    intro X hP hw hK hc i pins s σ H E I hf st hg
    subst hP hw hK
    obtain ⟨xs, x, hq, hx⟩ := hg
    obtain ⟨its, rv, p, hz⟩ := I.list hq
    obtain ⟨u, hu, ru⟩ := rv.get hx
    obtain ⟨f0, f1, f2, f3, f4, f5⟩ := hf it (by simp)
    refine wpAny_pyNext_list_item st p.isList (x := u) (by simpa using hu) fun h' st' sb => ?_
    have I1 : Inv X pins σ H { s with heap := h' } := I.turned (t' := s.toks) (fun b o hb e => (sb.2 b hb).trans e) f0 f1 f3 f4 f5
    obtain ⟨o, e, c, d⟩ := id st'
    exact ⟨u, rfl, go_of (s := { s with heap := h' }) e c d (by decide) ⟨x, H, I1, ru, ⟨rfl, fun ys hy => by rw [I.list_inj hy hq]; exact hx⟩, st', fun b hb => (hf b hb).1⟩⟩
  done := by
    intro X hP hw hK hc i pins s σ H E I hf st hg
    subst hP hw hK
    obtain ⟨xs, hq, hx⟩ := hg
    obtain ⟨its, rv, p, hz⟩ := I.list hq
    obtain ⟨f0, f1, f2, f3, f4, f5⟩ := hf it (by simp)
    have hl := rv.length
    exact wpAny_pyNext_list_end (I.ok.hd hc) st p.isList (by simp; omega) fun h' eb => ⟨rfl, I.turned (t' := s.toks) (fun b o hb e => eb b o hb e) f0 f1 f3 f4 f5⟩
  self := fun _ _ _ _ _ st h => wpAny_pyIter_listiter st h
theorem turn_tuple {P : Program} {w : World} {K : PySem.W.Frag} {tg : Expr} (a it : Addr) : Turn P w K tg (Itt K a) [it] it (fun i h => h.IsTupleIter it a i) where
  mem := by simp
  obj := fun i h st b hb => by
    have e : b = it := by simpa using hb
    subst e
    obtain ⟨o, e, c, d⟩ := st
    exact ⟨o, e, fun v z => by rw [d] at z; cases z⟩
  keep := fun i h h' st k => st.at fun o e => k it (by simp) o e
  item := by
    intro X hP hw hK hc i pins s σ H E I hf st hg
    subst hP hw hK
    obtain ⟨xs, x, hq, hx⟩ := hg
    obtain ⟨its, rv, p, hz⟩ := I.tuple hq
    obtain ⟨u, hu, ru⟩ := rv.get hx
    obtain ⟨f0, f1, f2, f3, f4, f5⟩ := hf it (by simp)
    refine wpAny_pyNext_tuple_item st (show s.heap.IsTuple a its.toArray from p) (x := u) (by simpa using hu) fun h' st' sb => ?_
    have I1 : Inv X pins σ H { s with heap := h' } := I.turned (t' := s.toks) (fun b o hb e => (sb.2 b hb).trans e) f0 f1 f3 f4 f5
    obtain ⟨o, e, c, d⟩ := id st'
    exact ⟨u, rfl, go_of (s := { s with heap := h' }) e c d (by decide) ⟨x, H, I1, ru, ⟨rfl, fun ys hy => by rw [I.tuple_inj hy hq]; exact hx⟩, st', fun b hb => (hf b hb).1⟩⟩
  done := by
    intro X hP hw hK hc i pins s σ H E I hf st hg
    subst hP hw hK
    obtain ⟨xs, hq, hx⟩ := hg
    obtain ⟨its, rv, p, hz⟩ := I.tuple hq
    obtain ⟨f0, f1, f2, f3, f4, f5⟩ := hf it (by simp)
    have hl := rv.length
    exact wpAny_pyNext_tuple_end (I.ok.hd hc) st (show s.heap.IsTuple a its.toArray from p) (by simp; omega) fun h' eb => ⟨rfl, I.turned (t' := s.toks) (fun b o hb e => eb b o hb e) f0 f1 f3 f4 f5⟩
  self := fun _ _ _ _ _ st h => wpAny_pyIter_tupleiter st h
end L2

namespace L2
open PySem PySem.Spec PyProof.Rows
section
variable {X : Cx} {tg : Expr}
noncomputable def iList (K : PySem.W.Frag) (tl : TE) : TI := fun σ H R => tl σ H fun x H1 => ∃ a, x = .ref a ∧ (∃ xs, SqL K H1 a xs) ∧ R (Itl K a) H1
noncomputable def iTup (K : PySem.W.Frag) (tl : TE) : TI := fun σ H R => tl σ H fun x H1 => ∃ a, x = .ref a ∧ (∃ xs, SqT K H1 a xs) ∧ R (Itt K a) H1
noncomputable def iRng1 (ta : TA) : TI := fun σ H R => ta σ H fun vs H1 => ∃ j : Int, vs = [.int j] ∧ -(2 ^ 62) ≤ j ∧ j < 2 ^ 62 ∧ R (Itr 0 j.toNat) H1
noncomputable def iRng2 (ta : TA) : TI := fun σ H R => ta σ H fun vs H1 => ∃ i j : Int, vs = [.int i, .int j] ∧ (-(2 ^ 62) ≤ i ∧ i < 2 ^ 62 ∧ -(2 ^ 62) ≤ j ∧ j < 2 ^ 62) ∧ R (Itr i (j - i).toNat) H1
noncomputable def tFor (wi : TI) (g : TG) (tb : TS) : TS := fun D σ H => wi σ H fun J H1 => ∃ W : Nat → Nat → St → Hp → Prop, (∃ m, W 0 m σ H1) ∧ ∀ i m σ H, W i m σ H →
  (J.stop i H ∧ D.nx σ H) ∨ (J.go i H ∧ ∃ N : St → Hp → Prop, (∀ σ' H', N σ' H' → ∃ m', m' < m ∧ W (i + 1) m' σ' H') ∧ ∀ x H', J.yld i H x H' → g x σ H' fun σ2 H2 => tb { D with nx := N, ct := N, bk := D.nx } σ2 H2)
noncomputable def pinsAt (fp : List Addr) (h : Heap) : List (Addr × Obj) := fp.filterMap fun b => (h.get? b).map fun o => (b, o)
theorem of_pinsAt {fp : List Addr} {h : Heap} {p : Addr × Obj} (hp : p ∈ pinsAt fp h) : p.1 ∈ fp ∧ h.get? p.1 = some p.2 := by
  obtain ⟨b, hb, e⟩ := List.mem_filterMap.mp hp
  cases q : h.get? b with
  | none => rw [q] at e; cases e
  | some o =>
    rw [q] at e
    have e' : (b, o) = p := Option.some.inj e
    subst e'
    exact ⟨hb, q⟩
theorem Inv.pinned {pins : List (Addr × Obj)} {σ : St} {H : Hp} {s : Shared} {fp : List Addr} (I : Inv X pins σ H s) (hf : ∀ b ∈ fp, FpOk X pins H b) (ho : ∀ b ∈ fp, ∃ o, s.heap.get? b = some o ∧ ∀ v, o.data ≠ .cell v) : Inv X (pins ++ pinsAt fp s.heap) σ H s :=
  I.pins_of fun p hp => (List.mem_append.mp hp).elim (fun z => I.pin p (List.mem_append_right _ z)) fun z => by
    obtain ⟨hb, e⟩ := of_pinsAt z
    obtain ⟨f0, f1, f2, _⟩ := hf p.1 hb
    obtain ⟨o, e', d⟩ := ho p.1 hb
    rw [e] at e'; cases e'
    exact ⟨e, f0, f1, f2, d⟩
end

end L2

namespace L2
open PySem PySem.Spec PyProof.Rows

noncomputable abbrev R2 := V → V → Hp → VK → Prop
noncomputable def OpR (X : Cx) (f : Value → Value → Sem Value) (r : R2) : Prop :=
  ∀ (pins : List (Addr × Obj)) (s : Shared) (σ : St) (H : Hp) (x y : V) (v u : Value) (Q : VK), Inv X pins σ H s → RelV x v → RelV y u → r x y H Q →
    wpAny (model X.prog X.w) X.A (f v u) (EP X pins σ Q) X.xe s
noncomputable def UnR (X : Cx) (f : Value → Sem Value) (r : V → Hp → VK → Prop) : Prop :=
  ∀ (pins : List (Addr × Obj)) (s : Shared) (σ : St) (H : Hp) (x : V) (v : Value) (Q : VK), Inv X pins σ H s → RelV x v → r x H Q →
    wpAny (model X.prog X.w) X.A (f v) (EP X pins σ Q) X.xe s
noncomputable def CallR (X : Cx) (f : Value) (r : List V → Hp → VK → Prop) : Prop :=
  ∀ (pins : List (Addr × Obj)) (s : Shared) (σ : St) (H : Hp) (xs : List V) (us : List Value) (Q : VK), Inv X pins σ H s → Vals xs us → r xs H Q →
    wpAny (model X.prog X.w) X.A (call f us) (EP X pins σ Q) X.xe s
noncomputable def TruR (X : Cx) (r : V → Hp → (Bool → Hp → Prop) → Prop) : Prop :=
  ∀ (pins : List (Addr × Obj)) (s : Shared) (σ : St) (H : Hp) (x : V) (v : Value) (Q : Bool → Hp → Prop), Inv X pins σ H s → RelV x v → r x H Q →
    wpAny (model X.prog X.w) X.A (truthy v) (TP X pins σ Q) X.xe s

noncomputable def tOp (r : R2) (ta tb : TE) : TE := fun σ H Q => ta σ H fun x H1 => tb σ H1 fun y H2 => r x y H2 Q
noncomputable def tUn (r : V → Hp → VK → Prop) (ta : TE) : TE := fun σ H Q => ta σ H fun x H1 => r x H1 Q
noncomputable def rI (C : Int → Int → Prop) (g : Int → Int → V) : R2 := fun x y H Q => ∃ i j, x = .int i ∧ y = .int j ∧ C i j ∧ Q (g i j) H
noncomputable def rI0 (g : Int → Int → V) : R2 := fun x y H Q => ∃ i j, x = .int i ∧ y = .int j ∧ Q (g i j) H
noncomputable def rU (g : Int → V) : V → Hp → VK → Prop := fun x H Q => ∃ i, x = .int i ∧ Q (g i) H

section
variable {X : Cx} {a b c : Expr} {ta tb tc : TE} {pos : Pos}

theorem opI {f : Value → Value → Sem Value} {C : Int → Int → Prop} {g : Int → Int → Int}
    (rule : ∀ (i j : Int) (t u : Tok) (s : Shared) (Q : Value → Shared → Prop) (E : Value → Shared → Prop), C i j → Q (.int (g i j) s.toks) { s with toks := s.toks + 1 } → wpAny (model X.prog X.w) X.A (f (.int i t) (.int j u)) Q E s) :
    OpR X f (rI C fun i j => .int (g i j)) := by
  intro pins s σ H x y v u Q I rx ry h
  obtain ⟨i, j, rfl, rfl, hc, q⟩ := h
  obtain ⟨t, rfl⟩ := rx
  obtain ⟨t', rfl⟩ := ry
  exact rule i j t t' s _ _ hc ⟨.int (g i j), H, I.tok _, ⟨_, rfl⟩, q⟩
theorem opI0 {f : Value → Value → Sem Value} {g : Int → Int → Int}
    (rule : ∀ (i j : Int) (t u : Tok) (s : Shared) (Q : Value → Shared → Prop) (E : Value → Shared → Prop), Q (.int (g i j) s.toks) { s with toks := s.toks + 1 } → wpAny (model X.prog X.w) X.A (f (.int i t) (.int j u)) Q E s) :
    OpR X f (rI0 fun i j => .int (g i j)) := by
  intro pins s σ H x y v u Q I rx ry h
  obtain ⟨i, j, rfl, rfl, q⟩ := h
  obtain ⟨t, rfl⟩ := rx
  obtain ⟨t', rfl⟩ := ry
  exact rule i j t t' s _ _ ⟨.int (g i j), H, I.tok _, ⟨_, rfl⟩, q⟩
theorem opB0 {f : Value → Value → Sem Value} {g : Int → Int → Bool}
    (rule : ∀ (i j : Int) (t u : Tok) (s : Shared) (Q : Value → Shared → Prop) (E : Value → Shared → Prop), Q (.bool (g i j)) s → wpAny (model X.prog X.w) X.A (f (.int i t) (.int j u)) Q E s) :
    OpR X f (rI0 fun i j => .bl (g i j)) := by
  intro pins s σ H x y v u Q I rx ry h
  obtain ⟨i, j, rfl, rfl, q⟩ := h
  obtain ⟨t, rfl⟩ := rx
  obtain ⟨t', rfl⟩ := ry
  exact rule i j t t' s _ _ ⟨.bl (g i j), H, I, rfl, q⟩

noncomputable def CDiv (i j : Int) : Prop := 0 < j ∧ j < 1073741824
noncomputable def CDivN (i j : Int) : Prop := j ≠ 0 ∧ j.natAbs < 1073741824
noncomputable def CPow (i j : Int) : Prop := 0 ≤ j ∧ j ≤ 1000000 ∧ i.natAbs < 2 ^ 64
noncomputable def CMul (i j : Int) : Prop := (-(2 ^ 64) < i ∧ i < 2 ^ 64) ∨ (-(2 ^ 64) < j ∧ j < 2 ^ 64)
theorem CMul.ok {i j : Int} (h : CMul i j) : IntMulOk i j := by
  rcases h with ⟨h1, h2⟩ | ⟨h1, h2⟩
  · exact .of_left (intBits_le_64 h1 h2)
  · exact .of_right (intBits_le_64 h1 h2)
theorem op_add : OpR X (binaryOp .Add) (rI0 fun i j => .int (i + j)) := opI0 fun _ _ _ _ _ _ _ q => add_int q
theorem op_sub : OpR X (binaryOp .Sub) (rI0 fun i j => .int (i - j)) := opI0 fun _ _ _ _ _ _ _ q => sub_int q
theorem op_mul : OpR X (binaryOp .Mult) (rI CMul fun i j => .int (i * j)) := opI fun _ _ _ _ _ _ _ hc q => mul_int q hc.ok
theorem op_fdiv : OpR X (binaryOp .FloorDiv) (rI CDiv fun i j => .int (i / j)) := opI fun i j _ _ _ _ _ hc q => by
  have h1 : (0 : Int) < j := hc.1
  have h2 : j < 1073741824 := hc.2
  exact floordiv_int (by omega) (by rw [Int.fdiv_eq_ediv_of_nonneg i (by omega)]; exact q) (.inl (PyProof.noPylong_small (by omega)))
theorem op_mod : OpR X (binaryOp .Mod) (rI (fun _ j => 0 < j) fun i j => .int (i % j)) := opI fun i j _ _ _ _ _ hc q => by
  have h1 : (0 : Int) < j := hc
  exact mod_int' (by omega) (by rw [Int.fmod_eq_emod_of_nonneg i (by omega)]; exact q)
theorem op_pow : OpR X (binaryOp .Pow) (rI CPow fun i j => .int (i ^ j.toNat)) := opI fun _ _ _ _ _ _ _ hc q => pow_int_small hc.1 hc.2.1 hc.2.2 q
end

noncomputable def scal : V → V → Bool
  | .non, .non => true | .non, .int _ => true | .int _, .non => true | .non, .bl _ => true | .bl _, .non => true | .non, .str _ => true | .str _, .non => true
  | .int _, .int _ => true | .bl _, .bl _ => true | .str _, .str _ => true | .byt _, .byt _ => true
  | .int _, .str _ => true | .str _, .int _ => true | .bl _, .str _ => true | .str _, .bl _ => true
  | _, _ => false
noncomputable def rEq : R2 := fun x y H Q => scal x y = true ∧ Q (.bl (decide (x = y))) H
noncomputable def rNe : R2 := fun x y H Q => scal x y = true ∧ Q (.bl (!decide (x = y))) H

section
variable {X : Cx} {a b c : Expr} {ta tb tc : TE} {pos : Pos}
theorem fin_bl {pins : List (Addr × Obj)} {σ : St} {H : Hp} {s : Shared} {Q : VK} {k k' : Bool} (I : Inv X pins σ H s) (q : Q (.bl k) H) (e : k = k') : EP X pins σ Q (.bool k') s := by
  subst e
  exact ⟨.bl k, H, I, rfl, q⟩
theorem op_lt : OpR X (compareOp .Lt) (rI0 fun i j => .bl (decide (i < j))) := opB0 fun _ _ _ _ _ _ _ q => lt_int q
theorem op_le : OpR X (compareOp .LtE) (rI0 fun i j => .bl (decide (i ≤ j))) := opB0 fun _ _ _ _ _ _ _ q => le_int q
theorem op_gt : OpR X (compareOp .Gt) (rI0 fun i j => .bl (decide (j < i))) := opB0 fun _ _ _ _ _ _ _ q => gt_int q
theorem op_ge : OpR X (compareOp .GtE) (rI0 fun i j => .bl (decide (j ≤ i))) := opB0 fun _ _ _ _ _ _ _ q => ge_int q
theorem op_lt_str : OpR X (compareOp .Lt) (fun x y H Q => ∃ i j, x = .str i ∧ y = .str j ∧ Q (.bl (decide (i.cps.toList < j.cps.toList))) H) := by
  intro pins s σ H x y v u Q I rx ry h
  obtain ⟨i, j, rfl, rfl, q⟩ := h
  obtain ⟨t, rfl⟩ := rx
  obtain ⟨t', rfl⟩ := ry
  exact lt_str (fin_bl I q rfl)
theorem op_isN : OpR X (compareOp .Is) (fun x y H Q => y = .non ∧ Q (.bl (decide (x = .non))) H) := by
  intro pins s σ H x y v u Q I rx ry h
  obtain ⟨rfl, q⟩ := h
  cases ry
  refine is_none_gen (fin_bl I q ?_)
  cases x <;> first
    | (cases rx; rfl)
    | (obtain ⟨t, rfl⟩ := rx; rfl)
theorem op_notN : OpR X (compareOp .IsNot) (fun x y H Q => y = .non ∧ Q (.bl (!decide (x = .non))) H) := by
  intro pins s σ H x y v u Q I rx ry h
  obtain ⟨rfl, q⟩ := h
  cases ry
  refine isnot_none_gen (fin_bl I q ?_)
  cases x <;> first
    | (cases rx; rfl)
    | (obtain ⟨t, rfl⟩ := rx; rfl)

noncomputable def isObj : HO → Bool
  | .lst _ => true
  | .ins _ _ _ => true
  | _ => false
theorem OpR.or {f : Value → Value → Sem Value} {r r' : R2} (h : OpR X f r) (h' : OpR X f r') : OpR X f (fun x y H Q => r x y H Q ∨ r' x y H Q) := by
  intro pins s σ H x y v u Q I rx ry q
  rcases q with q | q
  · exact h pins s σ H x y v u Q I rx ry q
  · exact h' pins s σ H x y v u Q I rx ry q

noncomputable def tTest (t : TE) : TT := fun σ H Q => t σ H fun x H' => ∃ k, x = .bl k ∧ Q k H'
noncomputable def tChain (r r' : R2) (ta tb tc : TE) : TE := fun σ H Q => ta σ H fun x H1 => tb σ H1 fun y H2 => r x y H2 fun z H3 => ∃ k, z = .bl k ∧
  (if k = true then tc σ H3 fun w' H4 => r' y w' H4 Q else Q (.bl false) H3)
noncomputable def TruV (K : PySem.W.Frag) (x : V) (H : Hp) (k : Bool) : Prop :=
  match x with
  | .non => k = false
  | .bl b => k = b
  | .int i => k = (i != 0)
  | .str y => y.length ≤ sizeLine ∧ k = ((y.length : Int) != 0)
  | .byt y => y.size ≤ sizeLine ∧ k = ((y.size : Int) != 0)
  | .ref p => (∃ xs, SqL K H p xs ∧ k = !xs.isEmpty) ∨ (∃ xs, SqT K H p xs ∧ k = !xs.isEmpty) ∨ ∃ kvs, H p = some (.dK kvs) ∧ k = !kvs.isEmpty
  | _ => False
theorem op_add_str : OpR X (binaryOp .Add) (fun x y H Q => ∃ i j, x = .str i ∧ y = .str j ∧ i.length + j.length ≤ sizeLine ∧ Q (.str (i ++ j)) H) := by
  intro pins s σ H x y v u Q I rx ry h
  obtain ⟨i, j, rfl, rfl, hz, q⟩ := h
  obtain ⟨t, rfl⟩ := rx
  obtain ⟨t', rfl⟩ := ry
  exact add_str (fun t' tk => ⟨.str (i ++ j), H, I.tok _, ⟨_, rfl⟩, q⟩) hz
noncomputable def PlainIxT (b : Expr) : Prop := ∀ o i, subscripted b false o i = operate [o, i] (getItem o i)
noncomputable def LenV (K : PySem.W.Frag) (x : V) (H : Hp) (n : Nat) : Prop :=
  match x with
  | .str y => y.length ≤ sizeLine ∧ n = y.length
  | .byt y => y.size ≤ sizeLine ∧ n = y.size
  | .ref p => (∃ xs, SqL K H p xs ∧ n = xs.length) ∨ ∃ xs, SqT K H p xs ∧ n = xs.length
  | _ => False
end
end L2

namespace L2
open PySem PySem.Spec PyProof.Rows

structure ObjM (h : Heap) (x dx C : Addr) (mA : Str → Option Value) : Prop where
  obj : h.get? x = some (PySem.W.instObj C dx)
  ns : h.Ns1 dx mA
  ne : dx ≠ x

section
variable {prog : Program} {w : World} {A : Around} {E : Value → Shared → Prop} {s : Shared} {K : PySem.W.Frag} {x dx C f : Addr} {mA : Str → Option Value} {name : Str} {v : Value}

end

noncomputable def putF (f : Str) (v : V) : List (Str × V) → List (Str × V)
  | [] => [(f, v)]
  | (g, x) :: r => if g = f then (g, v) :: r else (g, x) :: putF f v r
section
variable {P : Program} {w : World} {H H' : Hp} {h h' : Heap} {a C dx : Addr} {fs fs' : List (Str × V)}
end

structure Cls (K : PySem.W.Frag) (C : Addr) : Prop where
  pg : PySem.W.plainGet K C Str.empty = true
  hd : PySem.W.hasDictIn K C = true
  po : PySem.W.plainOver K C = true
  sa : PySem.W.findIn K (.ref C) "__setattr__" = some (some (.builtin "object.__setattr__"))
theorem Cls.get {K : PySem.W.Frag} {C : Addr} (c : Cls K C) (f : Str) : PySem.W.plainGet K C f = true := c.pg
noncomputable def NoAttr (K : PySem.W.Frag) (C : Addr) (f : Str) : Prop := PySem.W.findIn K (.ref C) f = some none
structure Con (K : PySem.W.Frag) (C : Addr) (f : Str) (v : V) (u : Value) : Prop where
  at_ : PySem.W.findIn K (.ref C) f = some (some u)
  rel : RelV v u
  get : PySem.W.specialIn K u "__get__" = some none
  cp : PySem.W.copiedNames.contains f = false
structure Meth (K : PySem.W.Frag) (C : Addr) (m : Str) (f : Addr) : Prop where
  at_ : PySem.W.findIn K (.ref C) m = some (some (.ref f))
  fn : PySem.W.isFn K (.ref f) = true
  kp : PySem.W.keepIn K (.ref f) = true

section
variable {X : Cx} {pins : List (Addr × Obj)} {σ : St} {H : Hp} {s : Shared} {a C dx : Addr} {fs : List (Str × V)} {f : Str} {v : V} {A : Around} {E : Value → Shared → Prop}

theorem Inv.made (I : Inv X pins σ H s) : Inv X pins σ (upd (upd H s.heap.objs.size (.own (s.heap.objs.size + 1))) (s.heap.objs.size + 1) (.ins C s.heap.objs.size []))
    { s with heap := (s.heap.push PySem.W.emptyDict).push (PySem.W.instObj C s.heap.objs.size) } := by
  have e1 : (s.heap.push PySem.W.emptyDict).get? s.heap.objs.size = some PySem.W.emptyDict := Heap.get?_push_size s.heap rfl
  have e2 : ((s.heap.push PySem.W.emptyDict).push (PySem.W.instObj C s.heap.objs.size)).get? (s.heap.objs.size + 1) = some (PySem.W.instObj C s.heap.objs.size) := by
    have := Heap.get?_push_size (s.heap.push PySem.W.emptyDict) (o := PySem.W.instObj C s.heap.objs.size) rfl
    rwa [Heap.size_push] at this
  have e3 : (s.heap.push PySem.W.emptyDict).Ns s.heap.objs.size (fun _ => none) := ⟨PySem.W.emptyDict, #[], _, e1, rfl, (fun e he => absurd he (by simp)), fun _ => rfl⟩
  have I1 := I.laid (a := s.heap.objs.size) (o := .own (s.heap.objs.size + 1)) (h' := s.heap.push PySem.W.emptyDict) (t' := s.toks) (fun b u q => Heap.get?_push_of_some _ q) (Nat.le_refl _) ⟨_, e1⟩
  refine I1.laid (a := s.heap.objs.size + 1) (o := .ins C s.heap.objs.size []) (t' := s.toks) (fun b u q => Heap.get?_push_of_some _ q) (Nat.le_of_eq (Heap.size_push _ _)) ?_
  have ne : s.heap.objs.size ≠ s.heap.objs.size + 1 := Nat.ne_of_lt (Nat.lt_succ_self _)
  refine ⟨by rw [upd_ne ne, upd_same], Nat.zero_le _, ne, e2, fun _ => none, (Heap.Ns1.of_empty e3).at fun o q => Heap.get?_push_of_some _ q, fun _ => True.intro, fun y hy => absurd rfl hy⟩

end

noncomputable def tFld (K : PySem.W.Frag) (ta : TE) (f : Str) : TE := fun σ H Q => ta σ H fun x H1 => ∃ a C dx fs v, x = .ref a ∧ H1 a = some (.ins C dx fs) ∧ Cls K C ∧ NoAttr K C f ∧ fs.lookup f = some v ∧ Q v H1
noncomputable def tCon (K : PySem.W.Frag) (ta : TE) (f : Str) : TE := fun σ H Q => ta σ H fun x H1 => ∃ a C dx fs v u, x = .ref a ∧ H1 a = some (.ins C dx fs) ∧ Cls K C ∧ Con K C f v u ∧ fs.lookup f = none ∧ Q v H1
noncomputable def sFld (K : PySem.W.Frag) (ta tv : TE) (f : Str) : TS := fun D σ H => tv σ H fun y H1 => ta σ H1 fun x H2 => ∃ a C dx fs, x = .ref a ∧ H2 a = some (.ins C dx fs) ∧ Cls K C ∧ NoAttr K C f ∧ fs.length < 1000 ∧
  D.nx σ (upd H2 a (.ins C dx (putF f y fs)))
noncomputable def InOp (X : Cx) (op : Operator) (rd : V → V → Hp → VK → Prop) : Prop :=
  ∀ (pins : List (Addr × Obj)) (s : Shared) (σ : St) (H : Hp) (x y : V) (u v : Value) (Q : VK), Inv X pins σ H s → RelV x u → RelV y v → rd x y H Q → wpAny (model X.prog X.w) X.A (inplaceOp op u v) (EP X pins σ Q) X.xe s
noncomputable def sFldAug (K : PySem.W.Frag) (ta tv : TE) (rd : V → V → Hp → VK → Prop) (f : Str) : TS := fun D σ H => ta σ H fun x H1 => ∃ a C dx fs v, x = .ref a ∧ H1 a = some (.ins C dx fs) ∧ Cls K C ∧ NoAttr K C f ∧ fs.lookup f = some v ∧
  tv σ H1 fun y H2 => rd v y H2 fun z H3 => ∃ dx' fs', H3 a = some (.ins C dx' fs') ∧ fs'.length < 1000 ∧ D.nx σ (upd H3 a (.ins C dx' (putF f z fs')))

section
variable {X : Cx} {o e value : Expr} {f : Str} {pos pos' tpos : Pos} {ta tv : TE}
noncomputable def rAdd : V → V → Hp → VK → Prop := fun x y H Q => ∃ i j, x = .int i ∧ y = .int j ∧ Q (.int (i + j)) H
noncomputable def rSub : V → V → Hp → VK → Prop := fun x y H Q => ∃ i j, x = .int i ∧ y = .int j ∧ Q (.int (i - j)) H
end

section
variable {X : Cx} {pins : List (Addr × Obj)} {σ : St} {H : Hp} {s : Shared} {A : Around} {E : Value → Shared → Prop} {Q : Value → Shared → Prop} {c : Value} {b : Bool}
inductive TyOf (K : PySem.W.Frag) (H : Hp) : V → Value → Prop where
  | non : TyOf K H .non (.type "NoneType")
  | bl (x : Bool) : TyOf K H (.bl x) (.type "bool")
  | int (i : Int) : TyOf K H (.int i) (.type "int")
  | str (x : Str) : TyOf K H (.str x) (.type "str")
  | flt (x : UInt64) : TyOf K H (.flt x) (.type "float")
  | lst {a : Addr} {xs : List V} (e : H a = some (.lst xs)) : TyOf K H (.ref a) (.type "list")
  | frz {a : Addr} {o : Obj} {xs : List V} (e : H a = some (.frz o (.lst xs))) : TyOf K H (.ref a) (.type "list")
  | tup {a : Addr} {xs : List V} (e : H a = some (.tup xs)) : TyOf K H (.ref a) (.type "tuple")
  | dK {a : Addr} {kvs : List (Key × V)} (e : H a = some (.dK kvs)) : TyOf K H (.ref a) (.type "dict")
  | dT {a : Addr} {kvs : List (List Key × V)} (e : H a = some (.dT kvs)) : TyOf K H (.ref a) (.type "dict")
  | ins {a C dx : Addr} {fs : List (Str × V)} (e : H a = some (.ins C dx fs)) (cl : Cls K C) (ha : PySem.W.findIn K (.ref C) "__class__" = some (some (.builtin "object.__class__")))
      (hn : PySem.W.specialIn K (.builtin "object.__class__") "__get__" = some (some (.builtin "getset_descriptor.__get__"))) (htk : PySem.W.takesIn K (.builtin "object.__class__") = some true)
      (hm : PySem.W.mroIn K C (.type "object") = some true) : TyOf K H (.ref a) (.ref C)
end
end L2

namespace L2
open PySem PySem.Spec PyProof.Rows

structure Room (k : Nat) (A : Around) : Prop where
  hd : A.handled = none
  dp : A.depth + 3 * k + 5 < recursionLimit
  un : A.units + 16 * k + 200 < cLine
theorem Room.deeper {k : Nat} {A : Around} (r : Room (k + 1) A) (env : Env) : Room k (A.deeper env) :=
  ⟨r.hd, by have := r.dp; show A.depth + 1 + 3 * k + 5 < _; omega, by have := r.un; show A.units + 3 + 16 * k + 200 < _; omega⟩
theorem Room.in1 {k : Nat} {A : Around} (r : Room (k + 1) A) : Room k A.in1 :=
  ⟨r.hd, by have := r.dp; show A.depth + 3 * k + 5 < _; omega, by have := r.un; show A.units + 1 + 16 * k + 200 < _; omega⟩
theorem Room.depth {k : Nat} {A : Around} (r : Room k A) : A.depth < recursionLimit := by have := r.dp; omega
theorem Room.units {k : Nat} {A : Around} (r : Room k A) : A.units + 64 < cLine := by have := r.un; omega
noncomputable def tNil : TA := fun _ H Q => Q [] H
noncomputable def tCons (ta : TE) (tr : TA) : TA := fun σ H Q => ta σ H fun x H1 => tr σ H1 fun xs H2 => Q (x :: xs) H2
section
variable {X : Cx} {e : Expr} {es : List Expr} {te : TE} {t : TA} {pos : Pos}
noncomputable def tTup (t : TA) : TE := fun σ H Q => t σ H fun xs H1 => xs.length ≤ sizeLine ∧ ∀ p, H1 p = none → Q (.ref p) (upd H1 p (.tup xs))
noncomputable def tLst (t : TA) : TE := fun σ H Q => t σ H fun xs H1 => xs.length ≤ sizeLine ∧ ∀ p, H1 p = none → Q (.ref p) (upd H1 p (.lst xs))
end

noncomputable abbrev Sp := List V → Hp → VK → XK → Prop
noncomputable abbrev CXT := List Env → Hp → Shared → XK → Value → Shared → Prop

structure Env0 (P : Program) (w : World) (K : PySem.W.Frag) (mg : Str → Option Value) (base : Heap) (A : Around) (outer : List Env) (s : Shared) (H : Hp) : Prop where
  frames : A.frames = some outer
  mod : Mod K mg base
  bs : ∀ b o, base.get? b = some o → s.heap.get? b = some o ∧ H b = none
  bsz : base.objs.size ≤ s.heap.objs.size
  funs : s.heap.FunFrames base outer
  frf : ∀ b ∈ frs outer, H b = none
  hok : HOk P w H s.heap
  bare : AllBare s.gens
noncomputable def CE (outer : List Env) (P : Program) (w : World) (H : Hp) (s : Shared) (Q : VK) (u : Value) (s' : Shared) : Prop :=
  ∃ v H', s'.os = s.os ∧ AllBare s'.gens ∧ Un (frs outer) [] H H' s.heap s'.heap ∧ HOk P w H' s'.heap ∧ RelV v u ∧ Q v H'
noncomputable def CR (CX : CXT) (outer : List Env) (P : Program) (w : World) (H : Hp) (s : Shared) (Q : VK) (E : XK) (r : Result) (s' : Shared) : Prop :=
  match r with
  | .ok (.ret u) => CE outer P w H s Q u s'
  | .ok _ => False
  | .error e => CX outer H s E e s'
structure FnOk (P : Program) (w : World) (K : PySem.W.Frag) (mg : Str → Option Value) (base : Heap) (CX : CXT) (k : Nat) (f : Addr) (fd : FuncData) (ps : List Str) (sp : Sp) : Prop where
  len : ∀ vs H Q E, sp vs H Q E → vs.length = ps.length
  run : ∀ (A : Around) (outer : List Env) (s : Shared) (H : Hp) (args : Args) (us : List Value) (vs : List V) (Q : VK) (E : XK), Room k A → Env0 P w K mg base A outer s H → BindsTo s fd args (ps.zip us) → Vals vs us → sp vs H Q E →
    codeAny (model P w) A (.call (.ref f) args) (CR CX outer P w H s Q E) s
theorem FnOk.imp {P : Program} {w : World} {K : PySem.W.Frag} {mg : Str → Option Value} {base : Heap} {CX : CXT} {k : Nat} {f : Addr} {fd : FuncData} {ps : List Str} {sp sp' : Sp} (F : FnOk P w K mg base CX k f fd ps sp)
    (h : ∀ vs H Q E, sp' vs H Q E → sp vs H Q E) : FnOk P w K mg base CX k f fd ps sp' :=
  ⟨fun vs H Q E q => F.len vs H Q E (h _ _ _ _ q), fun A outer s H args us vs Q E hr he hb hv hs => F.run A outer s H args us vs Q E hr he hb hv (h _ _ _ _ hs)⟩

theorem Env0.in1 {P : Program} {w : World} {K : PySem.W.Frag} {mg : Str → Option Value} {base : Heap} {A : Around} {outer : List Env} {s : Shared} {H : Hp} (e : Env0 P w K mg base A outer s H) :
    Env0 P w K mg base A.in1 outer s H := ⟨e.frames, e.mod, e.bs, e.bsz, e.funs, e.frf, e.hok, e.bare⟩

section
variable {X : Cx} {pins : List (Addr × Obj)} {σ : St} {H : Hp} {s s' : Shared}
theorem Inv.after {Q : VK} {u : Value} (I : Inv X pins σ H s) (h : CE X.stack X.prog X.w H s Q u s') : EP X pins σ Q u s' := by
  obtain ⟨v, H', os, bare, un, hok, r, q⟩ := h
  obtain ⟨hh, g, d, t, os'⟩ := s'
  obtain rfl : os' = s.os := os
  exact ⟨v, H', I.call (h' := hh) (g' := g) (d' := d) (t' := t) (ch := []) un hok bare (fun b z => absurd z (by simp)), r, q⟩
end

noncomputable def tCall (sp : Sp) (dvs : List V) (E : XK) (t : TA) : TE := fun σ H Q => t σ H fun vs H1 => sp (vs ++ dvs) H1 Q E
noncomputable def tMeth (C : Addr) (m : Str) (sp : Sp) (dvs : List V) (E : XK) (ta : TE) (t : TA) : TE := fun σ H Q => ta σ H fun x H1 => ∃ a dx fs, x = .ref a ∧ H1 a = some (.ins C dx fs) ∧ fs.lookup m = none ∧
  t σ H1 fun vs H2 => sp (x :: (vs ++ dvs)) H2 Q E
noncomputable def tMake (C : Addr) (sp : Sp) (dvs : List V) (E : XK) (t : TA) : TE := fun σ H Q => t σ H fun vs H1 => ∀ x dx, H1 x = none → H1 dx = none → dx ≠ x →
  sp (.ref x :: (vs ++ dvs)) (upd (upd H1 dx (.own x)) x (.ins C dx [])) (fun v H2 => v = .non ∧ Q (.ref x) H2) E

noncomputable def Binds (K : PySem.W.Frag) (fd : FuncData) (ps : List Str) (ds : List Value) : Prop :=
  ∀ (s : Shared) (us : List Value), K.In s.heap → (us ++ ds).length = ps.length → BindsTo s fd ⟨us, []⟩ (ps.zip (us ++ ds))
theorem Binds.all {K : PySem.W.Frag} {fd : FuncData} {ps : List Str} (h : ∀ us : List Value, us.length = ps.length → bindArgs fd ⟨us, []⟩ = pure (ps.zip us)) : Binds K fd ps [] := fun s us _ hl => by
  rw [List.append_nil] at hl ⊢
  exact .of_eq (h us hl)

noncomputable def Passes (CX : CXT) (X : Cx) (E : XK) : Prop := ∀ (pins : List (Addr × Obj)) (σ : St) (H : Hp) (s : Shared) (e : Value) (s' : Shared), Inv X pins σ H s → CX X.stack H s E e s' → X.xe e s'

section
variable {X : Cx} {CX : CXT} {k : Nat} {f C : Addr} {fd : FuncData} {ps : List Str} {sp : Sp} {dvs : List V} {ds : List Value} {E : XK} {x m : Str} {p pos apos : Pos} {e o : Expr} {es : List Expr} {ta : TE} {t : TA}

structure Mk (K : PySem.W.Frag) (C f : Addr) : Prop where
  makes : PySem.W.makesIn K C = true
  init : PySem.W.findIn K (.ref C) "__init__" = some (some (.ref f))
  fn : PySem.W.isFn K (.ref f) = true
  kp : PySem.W.keepIn K (.ref C) = true

end

noncomputable def PK (X : Cx) (kws : List Keyword) (t : TA) : Prop :=
  ∀ (pos : Pos) (pins : List (Addr × Obj)) (s : Shared) (σ : St) (H : Hp) (Q : List V → Hp → Prop), Inv X pins σ H s → t σ H Q → wpAny (model X.prog X.w) X.A (evalAll ((backToKw pos (keywordEach kws X.env)).map (·.2))) (AP X pins σ Q) X.xe s
section
variable {X : Cx} {CX : CXT} {k : Nat} {f C : Addr} {fd : FuncData} {ps ks : List Str} {sp : Sp} {E : XK} {x m : Str} {p pos apos kpos : Pos} {e o : Expr} {es : List Expr} {kws : List Keyword} {te ta : TE} {t tk : TA} {nm : Option Str}
structure KBinds (K : PySem.W.Frag) (fd : FuncData) (ps ks : List Str) (g : List Value → List Value → List Value) (gV : List V → List V → List V) : Prop where
  to : ∀ (s : Shared) (us ws : List Value), K.In s.heap → (g us ws).length = ps.length → BindsTo s fd ⟨us, ks.zip ws⟩ (ps.zip (g us ws))
  rel : ∀ {vs : List V} {us : List Value} {zs : List V} {ws : List Value}, Vals vs us → Vals zs ws → Vals (gV vs zs) (g us ws)
noncomputable def tCallK (sp : Sp) (gV : List V → List V → List V) (E : XK) (t tk : TA) : TE := fun σ H Q => t σ H fun vs H1 => tk σ H1 fun zs H2 => sp (gV vs zs) H2 Q E
variable {g : List Value → List Value → List Value} {gV : List V → List V → List V}
end

structure FnScope (N P : List Str) (sc : Scope) : Prop where
  kind : sc.kind = .function
  co : sc.isCoroutine = false
  gen : sc.isGenerator = false
  nd : N.Nodup
  pre : N.take P.length = P
  par : ∀ x ∈ P, sc.names.lookup x = some .local ∨ sc.names.lookup x = some .cell
  nofree : ∀ y ∈ sc.names, y.2 ≠ .free

theorem bindL_out {kindOf : Str → Option NameKind} {x : Str} : ∀ {binds : List (Str × Value)} {m : Str → Option Value}, (∀ v, (x, v) ∉ binds) → bindL kindOf binds m x = m x
  | [], _, _ => rfl
  | (n, v) :: r, m, h => by
    unfold bindL
    rw [bindL_out fun w hw => h w (List.mem_cons_of_mem _ hw)]
    split
    · have : x ≠ n := by rintro rfl; exact h v List.mem_cons_self
      simp [this]
    · rfl
theorem bindC_out {kindOf : Str → Option NameKind} {x : Str} : ∀ {binds : List (Str × Value)} {m : Str → Option Value}, (∀ v, (x, v) ∉ binds) → bindC kindOf binds m x = m x
  | [], _, _ => rfl
  | (n, v) :: r, m, h => by
    unfold bindC
    rw [bindC_out fun w hw => h w (List.mem_cons_of_mem _ hw)]
    split
    · rfl
    · have : x ≠ n := by rintro rfl; exact h v List.mem_cons_self
      simp [this]
theorem bindL_get {kindOf : Str → Option NameKind} {x : Str} {v : Value} : ∀ {P : List Str} {vs : List Value} {i : Nat} {m : Str → Option Value}, P.Nodup → P[i]? = some x → vs[i]? = some v → kindOf x = some .local →
    bindL kindOf (P.zip vs) m x = some v
  | [], _, _, _, _, h, _, _ => by simp at h
  | _ :: _, [], _, _, _, _, h, _ => by simp at h
  | p :: P, w :: vs, 0, m, nd, h1, h2, hk => by
    simp at h1 h2; subst h1; subst h2
    show bindL kindOf ((p, w) :: P.zip vs) m p = _
    unfold bindL
    rw [bindL_out fun v hv => (List.nodup_cons.mp nd).1 (List.of_mem_zip hv).1, if_pos hk]
    simp
  | p :: P, w :: vs, i + 1, m, nd, h1, h2, hk => by
    show bindL kindOf ((p, w) :: P.zip vs) m x = _
    unfold bindL
    exact bindL_get (i := i) (List.nodup_cons.mp nd).2 (by simpa using h1) (by simpa using h2) hk
theorem bindC_get {kindOf : Str → Option NameKind} {x : Str} {v : Value} : ∀ {P : List Str} {vs : List Value} {i : Nat} {m : Str → Option Value}, P.Nodup → P[i]? = some x → vs[i]? = some v → kindOf x ≠ some .local →
    bindC kindOf (P.zip vs) m x = some v
  | [], _, _, _, _, h, _, _ => by simp at h
  | _ :: _, [], _, _, _, _, h, _ => by simp at h
  | p :: P, w :: vs, 0, m, nd, h1, h2, hk => by
    simp at h1 h2; subst h1; subst h2
    show bindC kindOf ((p, w) :: P.zip vs) m p = _
    unfold bindC
    rw [bindC_out fun v hv => (List.nodup_cons.mp nd).1 (List.of_mem_zip hv).1, if_neg hk]
    simp
  | p :: P, w :: vs, i + 1, m, nd, h1, h2, hk => by
    show bindC kindOf ((p, w) :: P.zip vs) m x = _
    unfold bindC
    exact bindC_get (i := i) (List.nodup_cons.mp nd).2 (by simpa using h1) (by simpa using h2) hk

noncomputable def start (N : List Str) (vs : List V) : St := vs.map some ++ List.replicate (N.length - vs.length) none

noncomputable def cxOf (CX : CXT) (P : Program) (w : World) (K : PySem.W.Frag) (mg : Str → Option Value) (base : Heap) (N : List Str) (qual : Str) (scope : Scope) (f : Addr) (cd : Value) (A : Around) (outer : List Env) (s : Shared) (H : Hp) (E : XK) : Cx where
  prog := P
  w := w
  K := K
  mg := mg
  base := base
  A := A.deeper (envOfC qual scope s.heap.objs.size f cd)
  N := N
  s₀ := s
  H₀ := H
  env := envOfC qual scope s.heap.objs.size f cd
  outer := outer
  stack := envOfC qual scope s.heap.objs.size f cd :: outer
  ex := []
  calm := true
  fn := fun _ => true
  pn := []
  xe := fun e s' => wpAny (model P w) (A.deeper (envOfC qual scope s.heap.objs.size f cd)) (leaving (envOfC qual scope s.heap.objs.size f cd) e) (fun _ s'' => CX outer H s E e s'') (fun e' s'' => CX outer H s E e' s'') s'

theorem cell_has {sc : Scope} {n : Nat} {x : Str} (h : sc.names.lookup x = some .cell) : ∃ c, (cellsFrom n sc.names []).lookup x = some c := by
  have q := PySem.W.cellsFrom_some sc.names n [] (.inl h)
  exact Option.isSome_iff_exists.mp q

theorem inv_start {CX : CXT} {P : Program} {w : World} {K : PySem.W.Frag} {mg : Str → Option Value} {base : Heap} {N ps : List Str} {qual : Str} {scope : Scope} {f : Addr} {cd : Value} {A : Around} {outer : List Env} {s s1 : Shared} {H : Hp} {E : XK} {us : List Value} {vs : List V}
    (S : FnScope N ps scope) (hd : A.handled = none) (e0 : Env0 P w K mg base A outer s H) (hl : vs.length = ps.length) (r : Vals vs us)
    (x : InCallC s s.heap.objs.size (bindL (envOfC qual scope s.heap.objs.size f cd).kindOf (ps.zip us) fun _ => none) (cellsFrom (s.heap.objs.size + 1) scope.names []) (bindC (envOfC qual scope s.heap.objs.size f cd).kindOf (ps.zip us) fun _ => none) s1) :
    Inv (cxOf CX P w K mg base N qual scope f cd A outer s H E) [] (start N vs) H s1 := by
  have hpl : ps.length ≤ N.length := by have := congrArg List.length S.pre; rw [List.length_take] at this; omega
  obtain ⟨h1, tk, rfl, hk⟩ := x.done
  have noA : ∀ b : Addr, b ∉ (cxOf CX P w K mg base N qual scope f cd A outer s H E).ex := fun b z => absurd (show b ∈ ([] : List Addr) from z) (by simp)
  refine ⟨⟨e0.mod, S.kind, rfl, rfl, Nat.le_refl _, fun y z c h1 h2 => ?_, fun y hy => ?_, fun y c _ h => ?_, fun _ => hd, Around.frames_deeper e0.frames, .inr ⟨rfl, rfl⟩, fun b z => absurd z (noA b), e0.bs, e0.bsz, fun b _ _ => noA b, fun b z => absurd z (noA b), e0.funs, e0.frf⟩,
    rfl, e0.bare, Un.kept hk, ⟨_, x.toInCall.ns, fun i y v h1 h2 h3 => ?_⟩, fun y c h => ⟨_, x.cell y c h⟩, e0.hok.fresh (Nat.le_refl _), fun y c h => ?_, fun p hp => absurd (show p ∈ ([] : List (Addr × Obj)) from hp) (by simp), e0.hok.kept hk, ?_⟩
  · exact name_of_addr x.apart (PySem.mem_of_lookup h1) (PySem.mem_of_lookup h2)
  · have hy : scope.names.lookup y = some .cell ∨ scope.names.lookup y = some .free := hy
    rcases hy with hy | hy
    · exact cell_has hy
    · exact absurd rfl (S.nofree _ (PySem.mem_of_lookup hy))
  · exact Nat.le_of_lt (x.above y c (PySem.mem_of_lookup h))
  · have hi : i < vs.length := by
      unfold start at h2
      by_cases hi : i < vs.length
      · exact hi
      · rw [List.getElem?_append_right (by simpa using hi)] at h2
        rw [List.getElem?_replicate] at h2
        split at h2 <;> cases h2
    have ha : vs[i]? = some v := by
      unfold start at h2
      rw [List.getElem?_append_left (by simpa using hi), List.getElem?_map] at h2
      cases e : vs[i]? with
      | none => rw [e] at h2; cases h2
      | some a => rw [e] at h2; cases h2; rfl
    obtain ⟨u, hu, rv⟩ := r.get ha
    have hp : ps[i]? = some y := by
      rw [← S.pre, List.getElem?_take_of_lt (by omega)]; exact h1
    have ndP : ps.Nodup := by rw [← S.pre]; exact S.nd.sublist (List.take_sublist _ _)
    refine ⟨u, rv, ?_⟩
    rcases S.par y (List.mem_of_getElem? hp) with k | k
    · exact .inl ⟨k, bindL_get ndP hp hu k⟩
    · obtain ⟨c, e⟩ := cell_has (n := s.heap.objs.size + 1) k
      refine .inr ⟨.inl k, c, e, ?_⟩
      have q := x.cell y c e
      rw [bindC_get ndP hp hu (by show scope.names.lookup y ≠ _; rw [k]; decide)] at q
      exact q
  · exact e0.hok.fresh (Nat.le_of_lt (x.above y c (PySem.mem_of_lookup h)))
  · unfold start
    show _ = N.length
    rw [List.length_append, List.length_map, List.length_replicate]
    omega

theorem fn_of {CX : CXT} {P : Program} {w : World} {K : PySem.W.Frag} {mg : Str → Option Value} {base : Heap} {k : Nat} {f : Addr} {name qual : Str} {params : Arguments} {body : List Stmt} {scope : Scope} {dV kV doc pm cdv ct oc : Value} {an od : Option Addr}
    {osl : Array (Option Value)} {N ps : List Str} {sp : Sp} (lk : K.lookup f = some ⟨oc, od, .func (PySem.W.fnOf name qual params body scope dV kV doc pm an cdv ct), osl⟩) (hcd : PySem.W.codeIn K cdv qual = true) (S : FnScope N ps scope)
    (len : ∀ vs H Q E, sp vs H Q E → vs.length = ps.length)
    (hbody : ∀ (A : Around) (outer : List Env) (s : Shared) (H : Hp) (vs : List V) (Q : VK) (E : XK), Room k (A.deeper (envOfC qual scope s.heap.objs.size f cdv)) → sp vs H Q E →
      ∃ t, PSs (cxOf CX P w K mg base N qual scope f cdv A outer s H E) body t ∧ t { nx := fun _ H' => Q .non H', rt := Q } (start N vs) H) :
    FnOk P w K mg base CX (k + 1) f (PySem.W.fnOf name qual params body scope dV kV doc pm an cdv ct) ps sp := by
  refine ⟨len, fun A outer s H args us vs Q E hr e0 hb r hsp => ?_⟩
  have hl := len _ _ _ _ hsp
  have KX : K.In s.heap := e0.mod.kin.keeps fun b o e => (e0.bs b o e).1
  have lim : s.heap.NoLimit := e0.mod.nolimit.keeps fun b o e => (e0.bs b o e).1
  have hkind : ∀ y ∈ ps.zip us, scope.names.lookup y.1 = some .local ∨ (scope.names.lookup y.1 = some .cell ∧ ((cellsFrom (s.heap.objs.size + 1) scope.names []).lookup y.1).isSome = true) := fun ⟨n, v⟩ hy => by
    rcases S.par n (List.of_mem_zip hy).1 with q | q
    · exact .inl q
    · exact .inr ⟨q, PySem.W.cellsFrom_some _ _ _ (.inl q)⟩
  refine codeAny_call_function hr.depth (KX _ _ lk) rfl S.co S.gen rfl (PySem.W.codeRec_of KX hcd) (hb _ _ _ _ ?_)
  refine wpAny_newFunctionEnv_cells S.kind hkind fun env he s1 x => ?_
  subst he
  refine ⟨lim.keeps x.toInCall.keep, codeAny_func ?_⟩
  obtain ⟨t, ht, hq⟩ := hbody A outer s H vs Q E (hr.deeper _) hsp
  have I : Inv (cxOf CX P w K mg base N qual scope f cdv A outer s H E) [] (start N vs) H s1 := inv_start S hr.hd e0 hl r x
  refine wpAny_mono (ht [] s1 (start N vs) H _ I hq) (fun fl s' hs => ?_) fun e s' hs => hs
  have fin : ∀ {σ' : St} {H' : Hp} {v : V} {u : Value}, Inv (cxOf CX P w K mg base N qual scope f cdv A outer s H E) [] σ' H' s' → RelV v u → Q v H' → CE outer P w H s Q u s' :=
    fun {σ' H' v u} J rv q => ⟨v, H', J.os, J.bare, J.base, J.hok, rv, q⟩
  cases fl with
  | ret u =>
    obtain ⟨v, σ', H', J, rv, q⟩ := hs
    exact fin J rv q
  | next =>
    obtain ⟨σ', H', J, q⟩ := hs
    exact fin (v := V.non) (u := Value.none) J rfl q
  | brk =>
    obtain ⟨_, _, _, q⟩ := hs
    exact False.elim q
  | cont =>
    obtain ⟨_, _, _, q⟩ := hs
    exact False.elim q
end L2

namespace L2
open PySem PySem.Spec PyProof.Rows
section
variable {X : Cx} {x : Str} {p pos : Pos} {e : Expr} {es : List Expr} {t : TA} {id T : String} {r : List V → Hp → VK → Prop}

noncomputable def tCB (r : List V → Hp → VK → Prop) (t : TA) : TE := fun σ H Q => t σ H fun vs H1 => r vs H1 Q
end
end L2

namespace HT
open PySem PyProof.Rows

noncomputable def lexLt : List Int → List Int → Bool
  | [], [] => false
  | [], _ :: _ => true
  | _ :: _, [] => false
  | x :: xs, y :: ys => if x = y then lexLt xs ys else decide (x < y)
section
open PySem.SeqAt
open PySem.AutoSeq1 (wpAny_loadPart')
open PySem.MeetsSeq PySem.MeetsSeq2 PySem.MeetsSeq3

end

section
variable {prog : Program} {w : World} {A : Around} {E : Value → Shared → Prop} {s : Shared}

noncomputable def sIx (n d : Nat) : Option Int → Nat
  | none => d
  | some v => if v < 0 then (v + (n : Int)).toNat else min v.toNat n
end
end HT

namespace L2
open PySem PySem.Spec PyProof.Rows

noncomputable abbrev TO := St → Hp → (Option Int → Hp → Prop) → Prop
noncomputable def PO (X : Cx) (e : Option Expr) (t : TO) : Prop :=
  ∀ (pins : List (Addr × Obj)) (s : Shared) (σ : St) (H : Hp) (Q : Option Int → Hp → Prop), Inv X pins σ H s → t σ H Q →
    wpAny (model X.prog X.w) X.A (evalPart e X.env) (fun u s' => ∃ o H', Inv X pins σ H' s' ∧ IsPart u o ∧ Q o H') X.xe s
noncomputable def tNoPart : TO := fun _ H Q => Q none H
noncomputable def tPart (t : TE) : TO := fun σ H Q => t σ H fun x H1 => ∃ i, x = .int i ∧ Q (some i) H1

section
variable {X : Cx} {e : Expr} {te : TE} {lo hi : Option Expr} {tl th : TO} {pos p2 : Pos}

theorem po_some (h : PE X e te) : PO X (some e) (tPart te) := by
  intro pins s σ H Q I hw
  rw [evalPart_some]
  refine thn (h pins s σ H _ I hw) fun u s1 ⟨x, H1, I1, r1, q1⟩ => ?_
  obtain ⟨i, rfl, q⟩ := q1
  obtain ⟨t, rfl⟩ := r1
  exact ⟨some i, H1, I1, .int i t, q⟩

noncomputable def SlR (X : Cx) (r : V → Option Int → Option Int → Hp → VK → Prop) : Prop :=
  ∀ (pins : List (Addr × Obj)) (s : Shared) (σ : St) (H : Hp) (x : V) (v vl vu : Value) (lo hi : Option Int) (sl : Addr) (Q : VK), Inv X pins σ H s → RelV x v → s.heap.IsSliceOf sl vl vu .none → IsPart vl lo → IsPart vu hi → r x lo hi H Q →
    ∃ T id, typeLookup (.type T) "__getitem__" = pure (some (.builtin id)) ∧ s.TypeIs v T ∧ wpAny (model X.prog X.w) X.A (getItem v (.ref sl)) (EP X pins σ Q) X.xe s
theorem SlR.or {r r' : V → Option Int → Option Int → Hp → VK → Prop} (h : SlR X r) (h' : SlR X r') : SlR X (fun x lo hi H Q => r x lo hi H Q ∨ r' x lo hi H Q) := by
  intro pins s σ H x v vl vu lo hi sl Q I rx hs pl pu q
  rcases q with q | q
  · exact h pins s σ H x v vl vu lo hi sl Q I rx hs pl pu q
  · exact h' pins s σ H x v vl vu lo hi sl Q I rx hs pl pu q
noncomputable def tSl (r : V → Option Int → Option Int → Hp → VK → Prop) (te : TE) (tl th : TO) : TE := fun σ H Q => te σ H fun x H1 => tl σ H1 fun l H2 => th σ H2 fun u H3 => r x l u H3 Q
noncomputable def cutV (xs : List V) (lo hi : Option Int) : List V := (xs.drop (HT.sIx xs.length 0 lo)).take (HT.sIx xs.length xs.length hi - HT.sIx xs.length 0 lo)
noncomputable def rSlT (K : PySem.W.Frag) : V → Option Int → Option Int → Hp → VK → Prop := fun x lo hi H Q => ∃ a xs, x = .ref a ∧ SqT K H a xs ∧
  ¬ (HT.sIx xs.length 0 lo = 0 ∧ HT.sIx xs.length xs.length hi = xs.length) ∧ ∀ p, H p = none → Q (.ref p) (upd H p (.tup (cutV xs lo hi)))
noncomputable def rLtT (K : PySem.W.Frag) : R2 := fun x y H Q => ∃ a b ns ms, x = .ref a ∧ y = .ref b ∧ SqT K H a (ns.map V.int) ∧ SqT K H b (ms.map V.int) ∧ Q (.bl (HT.lexLt ns ms)) H
noncomputable def rCatT (K : PySem.W.Frag) : R2 := fun x y H Q => ∃ a b xs ys, x = .ref a ∧ y = .ref b ∧ SqT K H a xs ∧ SqT K H b ys ∧ xs ≠ [] ∧ xs.length + ys.length ≤ sizeLine ∧
  (ys = [] → Q (.ref a) H) ∧ (ys ≠ [] → ∀ p, H p = none → Q (.ref p) (upd H p (.tup (xs ++ ys))))
end
end L2

namespace L2
open PySem PySem.Spec PyProof.Rows

noncomputable def ixN (n : Nat) (i : Int) : Option Nat := if 0 ≤ i then (if i < n then some i.toNat else none) else if -(n : Int) ≤ i then some (i + n).toNat else none
noncomputable def atI {α : Type} (xs : List α) (i : Int) : Option α := (ixN xs.length i).bind fun j => xs[j]?
noncomputable def PlainIx (b : Expr) : Prop := ∀ o i, subscripted b false o i = operate [o, i] (getItem o i)
noncomputable def IxR (X : Cx) (r : R2) : Prop :=
  ∀ (value slice : Expr) (pins : List (Addr × Obj)) (s : Shared) (σ : St) (H : Hp) (x y : V) (v u : Value) (Q : VK), Inv X pins σ H s → RelV x v → RelV y u → r x y H Q →
    subscripted slice false v u = operate [v, u] (getItem v u) → wpAny (model X.prog X.w) X.A (subscriptTail value slice v u) (EP X pins σ Q) X.xe s
noncomputable def MtR (X : Cx) (id : String) (r : V → List V → Hp → VK → Prop) : Prop :=
  ∀ (pins : List (Addr × Obj)) (s : Shared) (σ : St) (H : Hp) (x : V) (xs : List V) (v : Value) (us : List Value) (Q : VK), Inv X pins σ H s → RelV x v → Vals xs us → r x xs H Q →
    wpAny (model X.prog X.w) X.A (call (.builtin id) (v :: us)) (EP X pins σ Q) X.xe s
section
variable {X : Cx} {a b : Expr} {ta tb : TE} {pos : Pos}
theorem IxR.or {r r' : R2} (h : IxR X r) (h' : IxR X r') : IxR X (fun x y H Q => r x y H Q ∨ r' x y H Q) := by
  intro value slice pins s σ H x y v u Q I rx ry q hs
  rcases q with q | q
  · exact h value slice pins s σ H x y v u Q I rx ry q hs
  · exact h' value slice pins s σ H x y v u Q I rx ry q hs
theorem MtR.or {id : String} {r r' : V → List V → Hp → VK → Prop} (h : MtR X id r) (h' : MtR X id r') : MtR X id (fun x xs H Q => r x xs H Q ∨ r' x xs H Q) := by
  intro pins s σ H x xs v us Q I rx rs q
  rcases q with q | q
  · exact h pins s σ H x xs v us Q I rx rs q
  · exact h' pins s σ H x xs v us Q I rx rs q
noncomputable def rIxL (K : PySem.W.Frag) : R2 := fun x y H Q => ∃ p xs i v, x = .ref p ∧ y = .int i ∧ SqL K H p xs ∧ atI xs i = some v ∧ Q v H
noncomputable def rIxT (K : PySem.W.Frag) : R2 := fun x y H Q => ∃ p xs i v, x = .ref p ∧ y = .int i ∧ SqT K H p xs ∧ atI xs i = some v ∧ Q v H
noncomputable def rIxS : R2 := fun x y H Q => ∃ z i c, x = .str z ∧ y = .int i ∧ z.length ≤ sizeLine ∧ atI z.cps.toList i = some c ∧ Q (.str ⟨#[c]⟩) H
noncomputable def rIx (K : PySem.W.Frag) : R2 := fun x y H Q => rIxL K x y H Q ∨ rIxT K x y H Q ∨ rIxS x y H Q
theorem Inv.lst {pins : List (Addr × Obj)} {σ : St} {H : Hp} {s : Shared} {p : Addr} {xs : List V} (I : Inv X pins σ H s) (h : H p = some (.lst xs)) :
    ∃ (its : List Value) (n : Nat), Vals xs its ∧ s.heap.get? p = some { cls := .type "list", data := .seq its.toArray n } ∧ xs.length ≤ sizeLine := by
  obtain ⟨z, its, n, r, e⟩ := I.hok p _ h
  exact ⟨its, n, r, e, z⟩
noncomputable def rSetL : V → V → V → Hp → (Hp → Prop) → Prop := fun o i v H Q => ∃ p xs k j, o = .ref p ∧ i = .int k ∧ H p = some (.lst xs) ∧ ixN xs.length k = some j ∧ Q (upd H p (.lst (xs.set j v)))
noncomputable def rSlL (K : PySem.W.Frag) : V → Option Int → Option Int → Hp → VK → Prop := fun x lo hi H Q => ∃ a xs, x = .ref a ∧ SqL K H a xs ∧ ∀ p, H p = none → Q (.ref p) (upd H p (.lst (cutV xs lo hi)))
noncomputable def flatV : V → Bool
  | .non => true
  | .bl _ => true
  | .int _ => true
  | .str _ => true
  | _ => false
noncomputable def eqV : V → V → Bool
  | .non, .non => true
  | .bl a, .bl b => a == b
  | .bl a, .int b => (if a then 1 else 0) == b
  | .int a, .bl b => a == (if b then 1 else 0)
  | .int a, .int b => a == b
  | .str a, .str b => a == b
  | _, _ => false
noncomputable def eqU (x : V) (u : Value) : Bool := match u with
  | .none => eqV .non x
  | .bool b => eqV (.bl b) x
  | .int i _ => eqV (.int i) x
  | .str z _ => eqV (.str z) x
  | _ => false
noncomputable def inV (x : V) (xs : List V) : Bool := xs.any fun y => eqV y x
noncomputable def rIn (K : PySem.W.Frag) (neg : Bool) : R2 := fun x y H Q => ∃ p xs, y = .ref p ∧ (SqL K H p xs ∨ SqT K H p xs) ∧ flatV x = true ∧ xs.all flatV = true ∧ Q (.bl (if neg then !inV x xs else inV x xs)) H
theorem CallR.or {f : Value} {r r' : List V → Hp → VK → Prop} (h : CallR X f r) (h' : CallR X f r') : CallR X f (fun xs H Q => r xs H Q ∨ r' xs H Q) := by
  intro pins s σ H xs us Q I rs q
  rcases q with q | q
  · exact h pins s σ H xs us Q I rs q
  · exact h' pins s σ H xs us Q I rs q
noncomputable def tyV (K : PySem.W.Frag) (T : String) (x : V) (H : Hp) : Prop := match x with
  | .str _ => T = "str"
  | .int _ => T = "int"
  | .ref p => (T = "list" ∧ ∃ xs, SqL K H p xs) ∨ (T = "tuple" ∧ ∃ o, K.lookup p = some o ∧ o.cls = .type "tuple" ∧ o.dict = none) ∨
      (T = "dict" ∧ ((∃ kvs, H p = some (.dK kvs)) ∨ ∃ kvs, H p = some (.dT kvs))) ∨ (T = "set" ∧ ∃ S n, H p = some (.set S n))
  | _ => False
noncomputable def tBM0 (K : PySem.W.Frag) (T : String) (r : V → List V → Hp → VK → Prop) (to : TE) : TE := fun σ H Q => to σ H fun x H1 => tyV K T x H1 ∧ r x [] H1 Q
noncomputable def tBM (K : PySem.W.Frag) (T : String) (r : V → List V → Hp → VK → Prop) (to : TE) (t : TA) : TE := fun σ H Q => to σ H fun x H1 => tyV K T x H1 ∧ t σ H1 fun xs H2 => r x xs H2 Q
variable {o e : Expr} {es : List Expr} {to : TE} {t : TA} {name : Str} {apos cpos : Pos} {T id : String} {r : V → List V → Hp → VK → Prop}
end
end L2

namespace L2
open PySem PySem.Spec PyProof.Rows

noncomputable def MtM (X : Cx) (id : String) (r : V → List V → Hp → VK → Prop) : Prop :=
  ∀ (pins : List (Addr × Obj)) (s : Shared) (σ : St) (H : Hp) (x : V) (xs : List V) (v : Value) (us : List Value) (Q : VK), Inv X pins σ H s → RelV x v → Vals xs us → r x xs H Q →
    wpAny (model X.prog X.w) X.A (call (.builtin id) (v :: us)) (EP X pins σ Q) X.xe s

theorem Vals.one : ∀ {x : V} {us : List Value}, Vals [x] us → ∃ u, us = [u] ∧ RelV x u
  | _, _, .cons r .nil => ⟨_, rfl, r⟩
theorem Vals.two : ∀ {x y : V} {us : List Value}, Vals [x, y] us → ∃ u v, us = [u, v] ∧ RelV x u ∧ RelV y v
  | _, _, _, .cons r (.cons q .nil) => ⟨_, _, rfl, r, q⟩
theorem Vals.zero : ∀ {us : List Value}, Vals [] us → us = []
  | _, .nil => rfl
theorem Vals.dropLast {xs : List V} {us : List Value} (h : Vals xs us) : Vals xs.dropLast us.dropLast := by
  induction h with
  | nil => exact .nil
  | cons r t ih =>
    cases t with
    | nil => exact .nil
    | cons q t' => exact .cons r ih
theorem Vals.eraseIdx : ∀ {xs : List V} {us : List Value} (i : Nat), Vals xs us → Vals (xs.eraseIdx i) (us.eraseIdx i)
  | _, _, _, .nil => .nil
  | _, _, 0, .cons _ t => t
  | _, _, i + 1, .cons r t => .cons r (Vals.eraseIdx i t)
theorem Vals.reverse {xs : List V} {us : List Value} (h : Vals xs us) : Vals xs.reverse us.reverse := by
  induction h with
  | nil => exact .nil
  | cons r t ih => rw [List.reverse_cons, List.reverse_cons]; exact Vals.append ih (.cons r .nil)
section
variable {X : Cx} {pins : List (Addr × Obj)} {σ : St} {H : Hp} {s : Shared} {l b : Addr} {xs ys zs : List V}

theorem Inv.lnew {its : List Value} {t' : Nat} (I : Inv X pins σ H s) (hv : Vals ys its) (hz : ys.length ≤ sizeLine) :
    Inv X pins σ (upd H s.heap.objs.size (.lst ys)) { s with heap := s.heap.push { cls := .type "list", data := .seq its.toArray }, toks := t' } :=
  I.laid (fun _ _ q => Heap.get?_push_of_some _ q) (Nat.le_refl _) ⟨hz, its, 0, hv, Heap.get?_push_size _ rfl⟩
theorem Inv.fresh (I : Inv X pins σ H s) : H s.heap.objs.size = none := I.hok.fresh (Nat.le_refl _)
end

section
variable {X : Cx}

noncomputable def rAppend : V → List V → Hp → VK → Prop := fun x vs H Q => ∃ l xs y, x = .ref l ∧ vs = [y] ∧ H l = some (.lst xs) ∧ xs.length < sizeLine ∧ Q .non (upd H l (.lst (xs ++ [y])))
noncomputable def rExtend : V → List V → Hp → VK → Prop := fun x vs H Q => ∃ l b xs zs, x = .ref l ∧ vs = [.ref b] ∧ H l = some (.lst xs) ∧ H b = some (.lst zs) ∧ xs.length + zs.length ≤ sizeLine ∧ Q .non (upd H l (.lst (xs ++ zs)))
noncomputable def rPop : V → List V → Hp → VK → Prop := fun x vs H Q => ∃ l xs y, x = .ref l ∧ vs = [] ∧ H l = some (.lst xs) ∧ xs[xs.length - 1]? = some y ∧ Q y (upd H l (.lst xs.dropLast))
noncomputable def rPopAt : V → List V → Hp → VK → Prop := fun x vs H Q => ∃ l xs i k y, x = .ref l ∧ vs = [.int i] ∧ H l = some (.lst xs) ∧ -(2 ^ 63) ≤ i ∧ i < 2 ^ 63 ∧ seqIndex? i xs.length = some k ∧ xs[k]? = some y ∧ Q y (upd H l (.lst (xs.eraseIdx k)))
noncomputable def rReverse : V → List V → Hp → VK → Prop := fun x vs H Q => ∃ l xs, x = .ref l ∧ vs = [] ∧ H l = some (.lst xs) ∧ Q .non (upd H l (.lst xs.reverse))
noncomputable def rClear : V → List V → Hp → VK → Prop := fun x vs H Q => ∃ l xs, x = .ref l ∧ vs = [] ∧ H l = some (.lst xs) ∧ Q .non (upd H l (.lst []))
noncomputable def rCat : R2 := fun x y H Q => ∃ l b xs zs, x = .ref l ∧ y = .ref b ∧ H l = some (.lst xs) ∧ H b = some (.lst zs) ∧ xs.length + zs.length ≤ sizeLine ∧ ∀ p, H p = none → Q (.ref p) (upd H p (.lst (xs ++ zs)))
noncomputable def rRep : R2 := fun x y H Q => ∃ l k xs, x = .ref l ∧ y = .int k ∧ H l = some (.lst xs) ∧ -(2 ^ 63) ≤ k ∧ k < 2 ^ 63 ∧ xs.length * k.toNat ≤ sizeLine ∧
  ∀ p, H p = none → Q (.ref p) (upd H p (.lst (List.replicate k.toNat xs).flatten))
end

section
variable {prog : Program} {w : World} {A : Around} {E : Value → Shared → Prop} {s : Shared}
end

section
variable {X : Cx}
end
end L2

namespace Att
open PySem PySem.W PySem.Calls PyProof.Rows

section
variable {prog : Program} {w : World} {A : Around} {E : Value → Shared → Prop} {s : Shared} {K : Frag}

noncomputable def noObjs (h : Heap) : Heap := { h with objs := #[] }
noncomputable def ledger (h : Heap) (L d : Addr) : List (Addr × Obj) := (List.range h.objs.size).filterMap fun a => if a = L ∨ a = d then none else (h.get? a).map fun o => (a, o)
end
end Att

namespace L2
open PySem PySem.Spec PyProof.Rows

noncomputable def Only (H : Hp) : Prop := ∀ b, H b = none ∨ ∃ o xs, H b = some (.frz o (.lst xs))

end L2

namespace L2
open PySem PySem.Spec PyProof.Rows

noncomputable abbrev KOf {K : PySem.W.Frag} {h : Heap} (_ : K.In h) : PySem.W.Frag := K

end L2

/- THE LAST THEOREM (shape; LID, My.* are yours):
   My.Adr: a structure of the addresses that your layer names (classes, functions); My.Txt K t: a structure (Prop) of the equations over K;
   My.txt_mk : {K} {implicit addresses ..} (e1 : nsIn K mainGlobals "law" = some (some (.ref f))) (e2 : K.lookup f = some ⟨oc, od, .func (fnOf "law" "law" params body scope dV kV doc pm an cdv ct), sl⟩) (e3 : codeIn K cdv "law" = true) .. : ∃ t, My.Txt K t

set_option maxRecDepth 100000 in
set_option maxHeartbeats 0 in
theorem PySem.Challenge.cw_LID_holds : PySem.Challenge.rw_LID.Holds := by
  w_on; o_law; k_head; (case hw => w_witness2)
  k_fill
  refine L2.walk_of (l := PySem.Challenge.rw_LID) (n := 63) (k := 40) (x := "script") (CX := fun w => ..) (sp := fun _ => My.sp_law) rfl (by decide) rfl ⟨rfl, by decide, by decide⟩ (fun w h Y => PySem.W.kIn_of Y) ?F ?S ?C
  case F =>
    intro w mg fa h KX G hmg
    have T : ∃ t, My.Txt (L2.KOf KX) t := by
      dsimp only [L2.KOf]                          -- K must stand as «<heap const> w.params» for k_is
      refine' My.txt_mk ?e1 ?e2 ?e3 ..
      (case e1 => PySem.W.k_is)                    -- in the order: a name -> its address -> its object -> its parts
      (case e2 => PySem.W.k_is)
      ..
    obtain ⟨t, T⟩ := T
    have e0 := hmg.symm.trans (PySem.W.mg_of KX G T.law)
    cases e0                                       -- fa is the law's own address
    exact ⟨_, fun s u => .of_eq rfl, fun base kb nb => My.law_fn T kb nb⟩     -- if «.of_eq rfl» comes too early: refine' ⟨_, ?b, fun base kb nb => My.law_fn T kb nb⟩; exact fun s u => .of_eq rfl
  case S => exact fun w H a ns hl hO hS => ..
  case C => exact ..
(the tactic k_is has no namespace: write k_is) -/

namespace L2
open PySem PySem.Spec PyProof.Rows

noncomputable def inClass (s : Stmt) (j : Nat) : Stmt := match s with
  | .ClassDef _ _ _ body _ _ _ _ _ _ _ => body.getD j (.Pass ⟨0, 0, 0, 0⟩)
  | _ => .Pass ⟨0, 0, 0, 0⟩
noncomputable def defArgs (s : Stmt) : Arguments := match s with
  | .FunctionDef _ a _ _ _ _ _ _ _ _ => a
  | _ => { posonlyargs := [], args := [], vararg := none, kwonlyargs := [], kw_defaults := [], kwarg := none, defaults := [] }
noncomputable def defBody (s : Stmt) : List Stmt := match s with
  | .FunctionDef _ _ b _ _ _ _ _ _ _ => b
  | _ => []
noncomputable def defScope (s : Stmt) : Scope := match s with
  | .FunctionDef _ _ _ _ _ _ sc _ _ _ => sc
  | _ => { kind := .function, names := [], isGenerator := false, isCoroutine := false }

noncomputable abbrev CX0 : CXT := fun _ _ _ _ _ _ => False
noncomputable abbrev E0 : XK := fun _ _ _ => False
structure Fun (K : PySem.W.Frag) (x qual : Str) (st : Stmt) (f : Addr) (fd : FuncData) : Prop where
  ex : ∃ (oc : Value) (od : Option Addr) (kV doc pm : Value) (an : Option Addr) (cdv ct : Value) (osl : Array (Option Value)),
    fd = PySem.W.fnOf x qual (defArgs st) (defBody st) (defScope st) .none kV doc pm an cdv ct ∧ K.lookup f = some ⟨oc, od, .func fd, osl⟩ ∧ PySem.W.codeIn K cdv qual = true
  kp : PySem.W.keepIn K (.ref f) = true
section
variable {P : Program} {w : World} {K : PySem.W.Frag} {mg : Str → Option Value} {base : Heap}
theorem Fun.ok {x qual : Str} {st : Stmt} {f : Addr} {fd : FuncData} {N ps : List Str} {k : Nat} {sp : Sp} (F : Fun K x qual st f fd) (S : FnScope N ps (defScope st)) (len : ∀ vs H Q E, sp vs H Q E → vs.length = ps.length)
    (hbody : ∀ (cdv : Value) (A : Around) (outer : List Env) (s : Shared) (H : Hp) (vs : List V) (Q : VK) (E : XK), Room k (A.deeper (envOfC qual (defScope st) s.heap.objs.size f cdv)) → sp vs H Q E →
      ∃ t, PSs (cxOf CX0 P w K mg base N qual (defScope st) f cdv A outer s H E).nox (defBody st) t ∧ t { nx := fun _ H' => Q .non H', rt := Q } (start N vs) H) : FnOk P w K mg base CX0 (k + 1) f fd ps sp := by
  obtain ⟨oc, od, kV, doc, pm, an, cdv, ct, osl, rfl, lk, hcd⟩ := F.ex
  refine fn_of lk hcd S len fun A outer s H vs Q E hr hsp => ?_
  obtain ⟨t, h, q⟩ := hbody cdv A outer s H vs Q E hr hsp
  exact ⟨t, h.nox, q⟩
theorem Fun.binds {x qual : Str} {st : Stmt} {f : Addr} {fd : FuncData} {ps : List Str} (F : Fun K x qual st f fd)
    (h : ∀ (kV doc pm : Value) (an : Option Addr) (cdv ct : Value) (us : List Value), us.length = ps.length → bindArgs (PySem.W.fnOf x qual (defArgs st) (defBody st) (defScope st) .none kV doc pm an cdv ct) ⟨us, []⟩ = pure (ps.zip us)) : Binds K fd ps [] := by
  obtain ⟨oc, od, kV, doc, pm, an, cdv, ct, osl, rfl, lk, hcd⟩ := F.ex
  exact .all (h kV doc pm an cdv ct)
end
theorem small1000 {n : Nat} (h : n ≤ 1000) : n < sizeLine := Nat.lt_of_le_of_lt h (by decide)

section
variable {X : Cx}
end

noncomputable def Same (H H' : Hp) : Prop := ∀ b o, H b = some o → H' b = some o
theorem Same.refl (H : Hp) : Same H H := fun _ _ h => h
theorem Same.trans {H H1 H2 : Hp} (a : Same H H1) (b : Same H1 H2) : Same H H2 := fun c o h => b c o (a c o h)
theorem Same.free {H H' : Hp} (e : Same H H') {l : Addr} (h : H' l = Option.none) : H l = Option.none := by
  cases q : H l with
  | none => rfl
  | some o =>
    rw [e l o q] at h
    cases h
theorem Same.seq {K : PySem.W.Frag} {H H' : Hp} {a : Addr} {xs : List V} (e : Same H H') (h : SqL K H a xs) : SqL K H' a xs := by
  rcases h with (h | ⟨o, h⟩) | h
  · exact .inl (.inl (e _ _ h))
  · exact .inl (.inr ⟨o, e _ _ h⟩)
  · exact .inr h

end L2

set_option Elab.async false
set_option linter.all false
set_option maxRecDepth 100000
namespace L2
open PySem PySem.Spec PyProof.Rows

theorem PE.imp {X : Cx} {e : Expr} {T T' : TE} (h : PE X e T) (i : ∀ σ H Q, T' σ H Q → T σ H Q) : PE X e T' := fun pins s σ H Q I q => h pins s σ H Q I (i σ H Q q)
theorem PT.imp {X : Cx} {e : Expr} {T T' : TT} (h : PT X e T) (i : ∀ σ H Q, T' σ H Q → T σ H Q) : PT X e T' := fun pins s σ H Q I q => h pins s σ H Q I (i σ H Q q)
theorem PW.imp {X : Cx} {e : Expr} {T T' : TT} (h : PW X e T) (i : ∀ σ H Q, T' σ H Q → T σ H Q) : PW X e T' := fun wh pins s σ H Q I q => h wh pins s σ H Q I (i σ H Q q)
theorem PA.imp {X : Cx} {e : List Expr} {T T' : TA} (h : PA X e T) (i : ∀ σ H Q, T' σ H Q → T σ H Q) : PA X e T' := fun pos pins s σ H Q I q => h pos pins s σ H Q I (i σ H Q q)
theorem PS.imp {X : Cx} {st : Stmt} {T T' : TS} (h : PS X st T) (i : ∀ D σ H, T' D σ H → T D σ H) : PS X st T' := fun pins s σ H D I q => h pins s σ H D I (i D σ H q)
theorem PSs.imp {X : Cx} {st : List Stmt} {T T' : TS} (h : PSs X st T) (i : ∀ D σ H, T' D σ H → T D σ H) : PSs X st T' := fun pins s σ H D I q => h pins s σ H D I (i D σ H q)
theorem PI.imp {X : Cx} {tg it : Expr} {T T' : TI} (h : PI X tg it T) (i : ∀ σ H R, T' σ H R → T σ H R) : PI X tg it T' := fun pins s σ H R I q => h pins s σ H R I (i σ H R q)
theorem PG.imp {X : Cx} {tg : Expr} {T T' : TG} (h : PG X tg T) (i : ∀ v σ H R, T' v σ H R → T v σ H R) : PG X tg T' := fun pins s σ H v u R I r q => h pins s σ H v u R I r (i v σ H R q)
theorem OpR.imp {X : Cx} {f : Value → Value → Sem Value} {T T' : R2} (h : OpR X f T) (i : ∀ x y H Q, T' x y H Q → T x y H Q) : OpR X f T' := fun pins s σ H x y v u Q I a b q => h pins s σ H x y v u Q I a b (i x y H Q q)
theorem CallR.imp {X : Cx} {f : Value} {T T' : List V → Hp → VK → Prop} (h : CallR X f T) (i : ∀ x H Q, T' x H Q → T x H Q) : CallR X f T' := fun pins s σ H x v Q I a q => h pins s σ H x v Q I a (i x H Q q)

theorem Inv.frozen {X : Cx} {pins : List (Addr × Obj)} {σ : St} {H : Hp} {s : Shared} {a : Addr} {xs : List V} (I : Inv X pins σ H s) (h : H a = some (.lst xs)) :
    ∃ o, Inv X pins σ (upd H a (.frz o (.lst xs))) s := by
  obtain ⟨z, its, n, r, e⟩ := I.hok a _ h
  refine ⟨{ cls := .type "list", data := .seq its.toArray n }, I.un (h' := s.heap) (t' := s.toks) ⟨fun b u q _ _ _ => q, fun b u q _ _ _ => ⟨u.slots, q⟩, fun b u _ q _ => ?_, fun b u q _ => ⟨u, q⟩, fun b ys q => ?_, fun b u ys q => ?_, fun b ps q => ?_⟩ fun b u q => ?_⟩
  · rw [upd_ne fun w => by rw [w, h] at q; cases q]; exact q
  · rw [upd_ne fun w => by rw [w, h] at q; cases q]; exact q
  · rw [upd_ne fun w => by rw [w, h] at q; cases q]; exact q
  · exact ⟨#[], by rw [upd_ne (fun w => by rw [w, h] at q; cases q), q]; simp⟩
  · by_cases hb : b = a
    · subst hb
      rw [upd_same] at q
      cases q
      exact ⟨e, z, its, n, r, e⟩
    · rw [upd_ne hb] at q
      exact (I.hok b u q).stay (fun _ _ _ q => q) (fun c q => by rw [upd_ne fun w => by rw [w, h] at q; cases q]; exact q) fun c ys q => by rw [upd_ne fun w => by rw [w, h] at q; cases q]; exact q
noncomputable def tFrz (T : TE) : TE := fun σ H Q => T σ H fun v H' => ∃ a xs, v = .ref a ∧ H' a = some (.lst xs) ∧ ∀ o, Q v (upd H' a (.frz o (.lst xs)))
end L2

set_option Elab.async false
set_option linter.all false
set_option maxRecDepth 100000
namespace L2
open PySem PySem.Spec PyProof.Rows

noncomputable def cxComp (X : Cx) (scope : Scope) (N : List Str) (cl : List (Str × Addr)) (C : Addr) (s₀ : Shared) (H₀ : Hp) (ex : List Addr) (E : Value → Shared → Prop) : Cx :=
  { X with N := N, s₀ := s₀, H₀ := H₀, env := compEnvC scope cl C X.env, outer := X.stack, ex := ex, fn := fun _ => false, pn := [], xe := E }

noncomputable def PIfs (X : Cx) (ifs : List Expr) (t : TT) : Prop :=
  ∀ (pins : List (Addr × Obj)) (s : Shared) (σ : St) (H : Hp) (Q : Bool → Hp → Prop), Inv X pins σ H s → t σ H Q →
    wpAny (model X.prog X.w) X.A (forIn ifs true fun c r => if r = true then do let ok ← isTrue c X.env (eval c X.env); pure (ForInStep.yield ok) else pure (ForInStep.yield r)) (TP X pins σ Q) X.xe s
theorem pifs_one {X : Cx} {c : Expr} {t : TT} (h : PT X c t) : PIfs X [c] t := fun pins s σ H Q I q => wpAny_tests_one (h pins s σ H Q I q)

structure CompOk (sc : Scope) (scope : Scope) (N : List Str) (k : Nat) (fn : List Str) : Prop where
  kind : scope.kind = .function
  cell : ∀ y ∈ scope.names, y.2 ≠ .cell
  names : ∀ y ∈ scope.names, y.2 = .local → scope.names.lookup y.1 = some .local
  free : ∀ y ∈ scope.names, y.2 = .free → sc.names.lookup y.1 = some .cell ∨ sc.names.lookup y.1 = some .free
  nd : N.Nodup
  tail : N.drop k = fn
  len : N.length = k + fn.length
  fnk : ∀ y ∈ fn, (sc.names.lookup y = some .cell ∨ sc.names.lookup y = some .free) ∧ scope.names.lookup y = some .free

theorem relabel_look {env : Env} : ∀ {names : List (Str × NameKind)} {x : Str} {k : NameKind},
    (names.map fun (n, k) => if (k == NameKind.free && env.scope.kind == .function && env.kindOf n == some .cell) then (n, NameKind.cell) else (n, k)).lookup x = some k → k = .cell ∨ k = .free → (∀ y ∈ names, y.2 ≠ .cell) → (x, NameKind.free) ∈ names
  | [], _, _, h, _, _ => by simp at h
  | (n, k) :: r, x, k', h, hk, hc => by
    have ih := @relabel_look env r x k'
    rw [List.map_cons, List.lookup_cons] at h
    by_cases hx : x = n
    · subst hx
      by_cases hcnd : (k == NameKind.free && env.scope.kind == .function && env.kindOf x == some .cell) = true
      · have : k = .free := by
          simp only [Bool.and_eq_true, beq_iff_eq] at hcnd
          exact hcnd.1.1
        subst this
        exact List.mem_cons_self
      · have e : (if (k == NameKind.free && env.scope.kind == .function && env.kindOf x == some .cell) = true then (x, NameKind.cell) else (x, k)) = (x, k) := if_neg hcnd
        rw [e] at h
        simp at h
        subst h
        rcases hk with rfl | rfl
        · exact absurd rfl (hc _ List.mem_cons_self)
        · exact List.mem_cons_self
    · have hne : (x == n) = false := by simpa using hx
      refine List.mem_cons_of_mem _ (ih ?_ hk fun y hy => hc y (List.mem_cons_of_mem _ hy))
      split at h
      · rename_i w; split at w <;> simp_all
      · exact h
theorem relabel_free {env : Env} : ∀ {names : List (Str × NameKind)} {x : Str}, names.lookup x = some .free →
    (names.map fun (n, k) => if (k == NameKind.free && env.scope.kind == .function && env.kindOf n == some .cell) then (n, NameKind.cell) else (n, k)).lookup x = some .cell ∨
    (names.map fun (n, k) => if (k == NameKind.free && env.scope.kind == .function && env.kindOf n == some .cell) then (n, NameKind.cell) else (n, k)).lookup x = some .free
  | [], _, h => by simp at h
  | (n, k) :: r, x, h => by
    have ih := @relabel_free env r x
    rw [List.map_cons]
    dsimp only
    rw [List.lookup_cons] at h
    by_cases hx : x = n
    · subst hx
      simp only [beq_self_eq_true] at h
      cases h
      by_cases hc : (NameKind.free == NameKind.free && env.scope.kind == .function && env.kindOf x == some .cell) = true
      · rw [if_pos hc]; left; simp [List.lookup_cons]
      · rw [if_neg hc]; right; simp [List.lookup_cons]
    · have hne : (x == n) = false := by simpa using hx
      rw [hne] at h
      have ih' := ih h
      by_cases hc : (k == NameKind.free && env.scope.kind == .function && env.kindOf n == some .cell) = true
      · rw [if_pos hc]; simp only [List.lookup_cons, hne]; exact ih'
      · rw [if_neg hc]; simp only [List.lookup_cons, hne]; exact ih'
theorem lookup_mem {x : Str} {k : NameKind} : ∀ {names : List (Str × NameKind)}, names.lookup x = some k → (x, k) ∈ names
  | [], h => by simp at h
  | (n, j) :: r, h => by
    rw [List.lookup_cons] at h
    by_cases hx : x = n
    · subst hx
      simp only [beq_self_eq_true] at h
      cases h
      exact List.mem_cons_self
    · have hne : (x == n) = false := by simpa using hx
      rw [hne] at h
      exact List.mem_cons_of_mem _ (lookup_mem h)

section
variable {X : Cx} {pins : List (Addr × Obj)} {σ : St} {H H' : Hp} {s s' : Shared} {scope : Scope} {N fn : List Str} {k : Nat} {cl : List (Str × Addr)} {C acc : Addr} {fp : List Addr} {E : Value → Shared → Prop} {h₁ : Heap} {tk : Nat}

noncomputable def frees (X : Cx) (σ : St) (ix : List Nat) : St := ix.map fun i => (σ[i]?).getD none

theorem Inv.comp (I : Inv X pins σ H s) (ok : CompOk X.env.scope scope N k fn) {ix : List Nat} (hix : ix.map (fun i => X.N[i]?) = fn.map some)
    (p1 : ∀ y c, cl.lookup y = some c → X.env.cells.lookup y = some c) (p2 : ∀ y ∈ scope.names, y.2 = .free → ∃ c, cl.lookup y.1 = some c)
    (hC : s.heap.objs.size ≤ C) (hns : h₁.Ns C fun _ => none) (old : ∀ b o, s.heap.get? b = some o → h₁.get? b = some o)
    (hfp : ∀ b ∈ fp, FpOk X pins H b) (hlt : ∀ b ∈ fp, b < s.heap.objs.size) :
    Inv (cxComp X scope N cl C s H fp E) [] (List.replicate k none ++ frees X σ ix) H { s with heap := h₁, toks := tk } := by
  have hlen : ix.length = fn.length := by
    have := congrArg List.length hix
    simpa using this
  refine ⟨⟨I.ok.mod, ok.kind, I.ok.glob, I.ok.blt, hC, fun x y c h1 h2 => I.ok.inj x y c (p1 x c h1) (p1 y c h2), fun x hx => ?_, fun x c h => (nomatch h), I.ok.hd, I.ok.frames, .inl rfl, fun b hb => ⟨Nat.ne_of_lt (Nat.lt_of_lt_of_le (hlt b hb) hC), fun x c h => (hfp b hb).2.2.2.2.1 x c (p1 x c h)⟩, I.bs, Nat.le_trans I.ok.bsz I.sz, fun b o e hb => ?_, fun b hb hs => ?_, I.stack, I.stkFree⟩,
    rfl, I.bare, Un.kept old, ⟨_, hns, fun i x v h1 h2 h3 => ?_⟩, fun x c h => ?_, I.hok.fresh hC, fun x c h => I.freeC x c (p1 x c h), fun p hp => absurd hp List.not_mem_nil, I.hok.kept old, ?_⟩
  · have hm : (x, NameKind.free) ∈ scope.names := by
      rcases hx with h | h
      · exact relabel_look h (.inl rfl) ok.cell
      · exact relabel_look h (.inr rfl) ok.cell
    exact p2 _ hm rfl
  · rcases (hfp b hb).2.2.2.1 with z | z
    · exact I.ok.noex b o e z
    · have h1 : b < X.base.objs.size := Heap.lt_size e
      have h2 := I.ok.bsz
      exact absurd (Nat.lt_of_lt_of_le h1 (Nat.le_trans h2 z)) (Nat.lt_irrefl _)
  · rcases List.mem_cons.mp (I.stkSub b hs) with z | z
    · exact (hfp b hb).2.1 z
    · exact (hfp b hb).2.2.1 z
  · -- the names from around
    have hi : k ≤ i := by
      refine Nat.le_of_not_lt fun q => ?_
      rw [List.getElem?_append_left (by simpa using q), List.getElem?_replicate_of_lt q] at h2
      cases h2
    rw [List.getElem?_append_right (by simpa using hi), List.length_replicate] at h2
    unfold frees at h2
    rw [List.getElem?_map] at h2
    cases hj : ix[i - k]? with
    | none => rw [hj] at h2; cases h2
    | some j =>
      rw [hj] at h2
      have h2' : (σ[j]?).getD none = some v := by simpa using h2
      have hσ : σ[j]? = some (some v) := by
        cases q : σ[j]? with
        | none => rw [q] at h2'; cases h2'
        | some o => rw [q] at h2'; simpa using h2'
      have hNi : fn[i - k]? = some x := by
        have e : (N.drop k)[i - k]? = N[i]? := by rw [List.getElem?_drop]; congr 1; omega
        rw [ok.tail] at e
        exact e.trans h1
      have hNj : X.N[j]? = some x := by
        have e := congrArg (fun l => l[i - k]?) hix
        simp only [List.getElem?_map, hj, hNi, Option.map_some] at e
        simpa using e
      obtain ⟨hk1, hk2⟩ := ok.fnk x (List.mem_of_getElem? hNi)
      obtain ⟨m, hm, hl⟩ := I.loc
      obtain ⟨u, r, l⟩ := hl j x v hNj hσ (by rcases hk1 with z | z; exact .inr (.inl z); exact .inr (.inr z))
      refine ⟨u, r, .inr ⟨relabel_free hk2, ?_⟩⟩
      rcases l with ⟨z, _⟩ | ⟨_, c, hc, hcell⟩
      · have z' : X.env.scope.names.lookup x = some .local := z
        rcases hk1 with q | q <;> (rw [q] at z'; cases z')
      · obtain ⟨c', hc'⟩ := p2 (x, .free) (lookup_mem hk2) rfl
        have e := p1 x c' hc'
        rw [hc] at e
        cases e
        obtain ⟨o, ho, hd⟩ := hcell
        exact ⟨c, hc', o, old c o ho, hd⟩
  · obtain ⟨v, o, ho, hd⟩ := I.cell x c (p1 x c h)
    exact ⟨v, o, old c o ho, hd⟩
  · rw [List.length_append, List.length_replicate]
    show k + (frees X σ ix).length = N.length
    unfold frees
    rw [List.length_map, ok.len, hlen]

end
end L2

set_option Elab.async false
set_option linter.all false
set_option maxRecDepth 100000
namespace L2
open PySem PySem.Spec PyProof.Rows
noncomputable abbrev XF : Value → Shared → Prop := fun _ _ => False
noncomputable def tComp (wi : TI) (k : Nat) (ix : List Nat) (g : TG) (tc : TT) (te : TE) : TE := fun σ H Q => wi σ H fun J H1 => ∃ W : Nat → Nat → List V → Hp → Prop, (∃ m, W 0 m [] H1) ∧ ∀ i m ys H, W i m ys H →
  (J.stop i H ∧ ys.length ≤ sizeLine ∧ ∀ a, H a = none → Q (.ref a) (upd H a (.lst ys))) ∨
  (J.go i H ∧ ∀ y H', J.yld i H y H' → g y (List.replicate k none ++ ix.map (fun i => (σ[i]?).getD none)) H' fun σ2 H2 => σ2.drop k = ix.map (fun i => (σ[i]?).getD none) ∧ σ2.length = k + ix.length ∧ tc σ2 H2 fun b H3 =>
    if b = true then te σ2 H3 fun z H4 => ys.length < sizeLine ∧ ∃ m', m' < m ∧ W (i + 1) m' (ys ++ [z]) H4 else ∃ m', m' < m ∧ W (i + 1) m' ys H3)

section
variable {X : Cx} {pins : List (Addr × Obj)} {σ : St} {H : Hp} {s : Shared} {scope : Scope} {N fn : List Str} {k : Nat} {ix : List Nat} {elt tg iter : Expr} {ifs : List Expr} {pos : Pos} {g : TG} {tc : TT} {te : TE}

end
end L2

set_option Elab.async false
set_option linter.all false
set_option maxRecDepth 100000
namespace L2
open PySem PySem.Spec PyProof.Rows
noncomputable def dropAt (h : Heap) (l : List Addr) : Heap := ⟨h.objs.mapIdx fun i o => if i ∈ l then { o with data := .freed } else o, h.life⟩
theorem dropAt_get (h : Heap) (l : List Addr) (b : Addr) : (dropAt h l).get? b = if b ∈ l then none else h.get? b := by
  unfold dropAt Heap.get?
  simp only [Array.getElem?_mapIdx]
  cases e : h.objs[b]? with
  | none => simp [e]
  | some o =>
    by_cases hb : b ∈ l
    · simp [hb]
    · simp [hb, e]
theorem dropAt_in {h : Heap} {l : List Addr} {b : Addr} (hb : b ∈ l) : (dropAt h l).get? b = none := by rw [dropAt_get, if_pos hb]
theorem dropAt_out {h : Heap} {l : List Addr} {b : Addr} (hb : b ∉ l) : (dropAt h l).get? b = h.get? b := by rw [dropAt_get, if_neg hb]
theorem funFrames_base {h b b' : Heap} : ∀ {l : List Env}, h.FunFrames b l → (∀ x ∈ frs l, b'.get? x = none) → h.FunFrames b' l
  | [], _, _ => trivial
  | env :: r, ⟨hk, ⟨L, o, hf, hn, ho, hd⟩, hr⟩, hb => by
    have hL : L ∈ frs (env :: r) := by unfold frs; rw [List.filterMap_cons, hf]; exact List.mem_cons_self
    refine ⟨hk, ⟨L, o, hf, hb L hL, ho, hd⟩, funFrames_base hr fun x hx => hb x ?_⟩
    unfold frs at hx ⊢
    rw [List.filterMap_cons, hf]
    exact List.mem_cons_of_mem _ hx
noncomputable def FlyT (B : Heap) (l : List Env) (a : Addr) (cls : Value) (h : Heap) : Prop := B.StaysIn h ∧ B.get? a = none ∧ h.FunFrames B l ∧ ∃ a0 fl, h.TracedAtW B a cls a0 fl
noncomputable def Fly (B : Heap) (l : List Env) (a : Addr) (cls : Value) (h : Heap) : Prop :=
  FlyT B l a cls h ∨ (B.StaysIn h ∧ B.get? a = none ∧ h.FunFrames B l ∧ ∃ oe vs a0, h.get? a = some oe ∧ oe.cls = cls ∧ oe.data = .fields vs ∧ vs[1]? = some .none ∧ vs[0]? = some a0)
theorem Fly.stays {B : Heap} {l : List Env} {a : Addr} {cls : Value} {h : Heap} (f : Fly B l a cls h) : B.StaysIn h := by
  rcases f with f | f
  · exact f.1
  · exact f.1
section
variable {M : Model} {A : Around} {E : Value → Shared → Prop} {s : Shared}
theorem note_same {e : Value} {env env' : Env} (h : env.frame = env'.frame) : noteFrame e env = noteFrame e env' := by
  unfold noteFrame PySem.frameOf
  rw [h]
theorem fly_note {B : Heap} {env e0 : Env} {outer : List Env} {L a : Addr} {cls : Value} {Q : Unit → Shared → Prop} (hfr : A.frames = some (e0 :: outer)) (hf : e0.frame = some L) (hf' : env.frame = some L) (x : Fly B (e0 :: outer) a cls s.heap)
    (hQ : ∀ h', FlyT B (e0 :: outer) a cls h' → s.heap.UpToSlots h' → Q () { s with heap := h' }) : wpAny M A (noteFrame (.ref a) env) Q E s := by
  rw [note_same (hf'.trans hf.symm)]
  rcases x with ⟨f1, f2, f3, a0, fl, oe, vs, T, oT, ts, he, ⟨hcls, h0⟩, hd, h1, hnT, hTe, hT, hdT, h3⟩ | ⟨f1, f2, f3, oe, vs, a0, he, hcls, hd, h1, h0⟩
  · by_cases hfl : fl = rawInt L
    · subst hfl
      exact wpAny_noteFrame_againW hf ⟨oe, vs, T, oT, ts, he, ⟨hcls, h0⟩, hd, h1, hnT, hTe, hT, hdT, h3⟩ (hQ s.heap ⟨f1, f2, f3, a0, _, oe, vs, T, oT, ts, he, ⟨hcls, h0⟩, hd, h1, hnT, hTe, hT, hdT, h3⟩ (.refl _))
    · subst hcls
      unfold noteFrame
      simp only [hf]
      refine wpAny_bind (wpAny_field he hd h1 ?_)
      rw [if_pos (show (Value.ref T != Value.none) = true from by simp)]
      refine wpAny_bind (wpAny_field hT hdT h3 ?_)
      rw [if_neg (show ¬ ((fl == rawInt L) = true) from by simpa using hfl)]
      refine wpAny_bind (wpAny_setField hT hdT (Array.getElem?_eq_some_iff.mp h3).1 ?_)
      have other : ∀ b, b ≠ T → (s.heap.update T (Obj.mapFields (·.setIfInBounds 3 Value.none))).get? b = s.heap.get? b := fun b hb => Heap.get?_update_other _ _ (Ne.symm hb)
      have rec' : ∀ b o, s.heap.get? b = some o → (∀ vs, o.data ≠ .fields vs) → b ≠ T := fun b o hb hnf q => by
        rw [q, hT] at hb; cases hb; exact hnf ts hdT
      refine wpAny_entryW hfr (f3.of_keeps fun b o hb hnf => ⟨o, (other b (rec' b o hb hnf)).trans hb, rfl⟩) hf ((other a (Ne.symm hTe)).trans he)
        (fun b o hbo => (other b fun q => by rw [q, hnT] at hbo; cases hbo).trans (f1 b o hbo)) f2 hd (Array.getElem?_eq_some_iff.mp h1).1 h0 fun h' ⟨x1, x2, x3, x4⟩ => ?_
      exact hQ h' ⟨x1, f2, x2, a0, _, x3⟩ fun b o hb hnf => x4 b o ((other b (rec' b o hb hnf)).trans hb) hnf
  · subst hcls
    unfold noteFrame
    simp only [hf]
    refine wpAny_bind (wpAny_field he hd h1 ?_)
    rw [if_neg (by decide)]
    refine wpAny_entryW hfr f3 hf he f1 f2 hd (Array.getElem?_eq_some_iff.mp h1).1 h0 fun h' ⟨x1, x2, x3, x4⟩ => ?_
    exact hQ h' ⟨x1, f2, x2, a0, _, x3⟩ x4
theorem fly_set {B : Heap} {l : List Env} {a : Addr} {cls : Value} {fr : Option Addr} {Q : Unit → Shared → Prop} (x : FlyT B l a cls s.heap) (hQ : ∀ h', FlyT B l a cls h' → s.heap.UpToSlots h' → Q () { s with heap := h' }) : wpAny M A (setFlight (.ref a) fr) Q E s := by
  obtain ⟨f1, f2, f3, a0, fl, oe, vs, T, oT, ts, he, hcls, hd, h1, hnT, hTe, hT, hdT, h3⟩ := x
  have hsz3 : 3 < ts.size := (Array.getElem?_eq_some_iff.mp h3).1
  have other : ∀ b, b ≠ T → (s.heap.update T (Obj.mapFields (·.setIfInBounds 3 (fr.elim Value.none fun f => rawInt f)))).get? b = s.heap.get? b := fun b hb => Heap.get?_update_other _ _ (Ne.symm hb)
  have rec' : ∀ b o, s.heap.get? b = some o → (∀ vs, o.data ≠ .fields vs) → b ≠ T := fun b o hb hnf q => by
    rw [q, hT] at hb; cases hb; exact hnf ts hdT
  unfold setFlight
  refine wpAny_bind (wpAny_field he hd h1 ?_)
  rw [if_pos (show (Value.ref T != Value.none) = true from by simp)]
  refine wpAny_setField hT hdT hsz3 (hQ _ ⟨fun b o hbo => (other b fun q => by rw [q, hnT] at hbo; cases hbo).trans (f1 b o hbo), f2, f3.of_keeps fun b o hb hnf => ⟨o, (other b (rec' b o hb hnf)).trans hb, rfl⟩, a0, (fr.elim Value.none fun f => rawInt f), ?_⟩ fun b o hb hnf => ⟨o.slots, (other b (rec' b o hb hnf)).trans hb⟩)
  exact ⟨oe, vs, T, _, _, (other a (Ne.symm hTe)).trans he, hcls, hd, h1, hnT, hTe, Heap.get?_update_self _ hT (Obj.isFreed_of_fields (Obj.data_mapFields hdT _)), Obj.data_mapFields hdT _, by simp [hsz3]⟩
theorem fly_field {B : Heap} {l : List Env} {a : Addr} {cls : Value} {Q : Value → Shared → Prop} (x : FlyT B l a cls s.heap) (hQ : ∀ T, Q (.ref T) s) : wpAny M A (field (.ref a) 1) Q E s := by
  obtain ⟨f1, f2, f3, a0, fl, oe, vs, T, oT, ts, he, hcls, hd, h1, r⟩ := x
  exact wpAny_field he hd h1 (hQ T)
end
noncomputable def OldIn (fs : List Addr) (H : Hp) (h B : Heap) : Prop := ∀ b o, h.get? b = some o → b ∉ fs → ∃ o', B.get? b = some o' ∧ (H b = none → o' = o)
noncomputable def CX1 (P : Program) (w : World) : CXT := fun outer H s E e s' => ∃ (a : Addr) (cls : Value) (H' : Hp) (B : Heap), e = .ref a ∧ s'.os = s.os ∧ AllBare s'.gens ∧ Un (frs outer) [] H H' s.heap s'.heap ∧ HOk P w H' B ∧
  FlyT B outer a cls s'.heap ∧ OldIn (frs outer) H s.heap B ∧ E cls none H'
structure XS (X : Cx) (pins : List (Addr × Obj)) (σ : St) (H : Hp) (s : Shared) (a : Addr) (cls : Value) : Prop where
  inv : Inv X pins σ H s
  ex : ∃ B, Fly B X.stack a cls s.heap ∧ HOk X.prog X.w H B ∧ OldIn (X.fs ++ X.ex) X.H₀ X.s₀.heap B ∧ ∀ p ∈ X.pn ++ pins, B.get? p.1 = some p.2
section
variable {X : Cx} {pins : List (Addr × Obj)} {σ : St} {H H' : Hp} {s s' : Shared} {a : Addr} {cls : Value} {E : XK}
theorem Inv.notStk (I : Inv X pins σ H s) {b : Addr} {o : Obj} (e : X.s₀.heap.get? b = some o) (hb : b ∉ X.fs) : b ∉ frs X.stack := fun z => by
  rcases List.mem_cons.mp (I.stkSub b z) with q | q
  · have h1 := Heap.lt_size e
    rw [q] at h1
    exact absurd (Nat.lt_of_lt_of_le h1 I.ok.above) (Nat.lt_irrefl _)
  · exact hb q
theorem Inv.stays (I : Inv X pins σ H s) {B h' : Heap} (hB : B.StaysIn h') (up : s.heap.UpToSlots h') (hok : HOk X.prog X.w H B) (old : OldIn (X.fs ++ X.ex) X.H₀ X.s₀.heap B) (hp : ∀ p ∈ X.pn ++ pins, B.get? p.1 = some p.2) : Inv X pins σ H { s with heap := h' } := by
  have keep : ∀ b o, X.s₀.heap.get? b = some o → X.H₀ b = none → b ∉ X.fs → b ∉ X.ex → h'.get? b = some o := fun b o e n h1 h2 => by
    obtain ⟨o', e', q⟩ := old b o e fun z => (List.mem_append.mp z).elim h1 h2
    rw [q n] at e'
    exact hB b o e'
  have slot : ∀ b o, X.s₀.heap.get? b = some o → X.H₀ b = none → b ∈ X.fs → b ∉ X.ex → ∃ sl, h'.get? b = some { o with slots := sl } := fun b o e n h1 h2 => by
    obtain ⟨sl, e1⟩ := I.base.slot b o e n h1 h2
    obtain ⟨_, o2, e2, nf⟩ := I.ok.funs.mem h1
    rw [e] at e2
    cases e2
    obtain ⟨sl', e3⟩ := up b _ e1 nf
    exact ⟨sl', e3⟩
  refine ⟨I.ok, I.os, I.bare, ⟨keep, slot, I.base.free, fun b o e hx => ?_, I.base.tups, I.base.frzs, I.base.tbls⟩, ?_, fun x c e => ?_, I.free, I.freeC, fun p q => ?_, hok.kept hB, I.len⟩
  · by_cases hf : b ∈ X.fs
    · by_cases n : X.H₀ b = none
      · obtain ⟨sl, e1⟩ := slot b o e n hf hx
        exact ⟨_, e1⟩
      · exact absurd (I.ok.frf b hf) n
    · obtain ⟨o', e', _⟩ := old b o e fun z => (List.mem_append.mp z).elim hf hx
      exact ⟨o', hB b o' e'⟩
  · obtain ⟨m, hn, hl⟩ := I.loc
    refine ⟨m, up.ns hn, fun i x v h1 h2 h3 => ?_⟩
    obtain ⟨u, r, hk⟩ := hl i x v h1 h2 h3
    refine ⟨u, r, ?_⟩
    rcases hk with hk | ⟨k1, c, k2, o, k3, k4⟩
    · exact .inl hk
    · obtain ⟨sl, e3⟩ := up c o k3 fun vs q => by rw [k4] at q; cases q
      exact .inr ⟨k1, c, k2, _, e3, k4⟩
  · obtain ⟨v, o, k3, k4⟩ := I.cell x c e
    obtain ⟨sl, e3⟩ := up c o k3 fun vs q => by rw [k4] at q; cases q
    exact ⟨v, _, e3, k4⟩
  · obtain ⟨p1, p2⟩ := I.pin p q
    exact ⟨hB _ _ (hp p q), p2⟩
theorem XS.pass {P : Program} {w : World} (hP : X.prog = P) (hw : X.w = w) (I : Inv X pins σ H s) {e : Value} (h : CX1 P w X.stack H s E e s') : ∃ a cls H', e = .ref a ∧ XS X pins σ H' s' a cls ∧ E cls none H' := by
  subst hP hw
  obtain ⟨a, cls, H', B, rfl, os, bare, un, hok, fly, old, hE⟩ := h
  have I2 : Inv X pins σ H' s' := I.call' os un (hok.kept fly.1) bare fun b z => absurd z (by simp)
  refine ⟨a, cls, H', rfl, ⟨I2, B, .inl fly, hok, fun b o e hb => ?_, fun p hp => ?_⟩, hE⟩
  · rw [List.mem_append] at hb
    obtain ⟨o1, e1⟩ := I.base.there b o e fun z => hb (.inr z)
    obtain ⟨o2, e2, h2⟩ := old b o1 e1 (I.notStk e fun z => hb (.inl z))
    refine ⟨o2, e2, fun hn => ?_⟩
    have k1 := I.base.keep b o e hn (fun z => hb (.inl z)) fun z => hb (.inr z)
    rw [e1] at k1
    cases k1
    exact h2 (I.base.free b o e hn fun z => hb (.inr z))
  · obtain ⟨p1, p2, p3, p4, p5⟩ := I.pin p hp
    obtain ⟨o2, e2, h2⟩ := old p.1 p.2 p1 fun z => by
      rcases List.mem_cons.mp (I.stkSub _ z) with q | q
      · exact p3 q
      · exact p4 q
    rw [e2, h2 p2]
theorem XS.made {h' : Heap} {vs : List Value} (I : Inv X pins σ H s) (mk : Heap.MadeExcOf s.heap h' a cls vs) : XS X pins σ H { s with heap := h' } a cls := by
  obtain ⟨t, he, ht, _⟩ := mk.there
  have st : (dropAt s.heap (frs X.stack)).StaysIn h' := fun b o e => by
    rw [dropAt_get] at e
    split at e
    · cases e
    · exact mk.keeps b o e
  refine ⟨I.kept (t' := s.toks) mk.keeps, dropAt s.heap (frs X.stack), .inr ⟨st, ?_, ?_, _, _, .ref t, he, rfl, rfl, rfl, rfl⟩, fun b u q => ?_, fun b o e hb => ?_, fun p hp => ?_⟩
  · rw [dropAt_get, mk.new]; simp
  · exact funFrames_base (I.kept (t' := s.toks) mk.keeps).stack fun x hx => dropAt_in hx
  · have out : ∀ {c : Addr} {v : HO}, H c = some v → c ∉ frs X.stack := fun {c v} e z => by rw [I.stkFree c z] at e; cases e
    refine (I.hok b u q).stay (fun c v hc e => ?_) (fun _ z => z) fun _ _ z => z
    rcases hc with rfl | hc
    · rw [dropAt_out (out q)]; exact e
    · rw [dropAt_out (out hc)]; exact e
  · rw [List.mem_append] at hb
    obtain ⟨o1, e1⟩ := I.base.there b o e fun z => hb (.inr z)
    refine ⟨o1, by rw [dropAt_out (I.notStk e fun z => hb (.inl z))]; exact e1, fun hn => ?_⟩
    have k1 := I.base.keep b o e hn (fun z => hb (.inl z)) fun z => hb (.inr z)
    rw [e1] at k1
    cases k1
    rfl
  · obtain ⟨p1, p2, p3, p4, p5⟩ := I.pin p hp
    rw [dropAt_out fun z => by
      rcases List.mem_cons.mp (I.stkSub _ z) with q | q
      · exact p3 q
      · exact p4 q]
    exact p1
structure XT (X : Cx) (pins : List (Addr × Obj)) (σ : St) (H : Hp) (s : Shared) (a : Addr) (cls : Value) : Prop where
  inv : Inv X pins σ H s
  ex : ∃ B, FlyT B X.stack a cls s.heap ∧ HOk X.prog X.w H B ∧ OldIn (X.fs ++ X.ex) X.H₀ X.s₀.heap B ∧ ∀ p ∈ X.pn ++ pins, B.get? p.1 = some p.2
theorem XT.xs (x : XT X pins σ H s a cls) : XS X pins σ H s a cls := by
  obtain ⟨I, B, f, r⟩ := x
  exact ⟨I, B, .inl f, r⟩
structure Top (X : Cx) : Prop where
  ex : ∃ e0 r L, X.stack = e0 :: r ∧ e0.frame = some L ∧ X.env.frame = some L
theorem XS.note {E' : Value → Shared → Prop} {Q : Unit → Shared → Prop} (t : Top X) (x : XS X pins σ H s a cls) (hQ : ∀ s', XT X pins σ H s' a cls → Q () s') : wpAny (model X.prog X.w) X.A (noteFrame (.ref a) X.env) Q E' s := by
  obtain ⟨e0, r, L, h1, h2, h3⟩ := t.ex
  obtain ⟨I, B, f, hok, old, hp⟩ := x
  rw [h1] at f
  refine fly_note (by rw [← h1]; exact I.ok.frames) h2 h3 f fun h' f' up => hQ _ ⟨I.stays f'.1 up hok old hp, B, by rw [h1]; exact f', hok, old, hp⟩
theorem XT.set {E' : Value → Shared → Prop} {Q : Unit → Shared → Prop} {A : Around} {fr : Option Addr} (x : XT X pins σ H s a cls) (hQ : ∀ s', XT X pins σ H s' a cls → Q () s') : wpAny (model X.prog X.w) A (setFlight (.ref a) fr) Q E' s := by
  obtain ⟨I, B, f, hok, old, hp⟩ := x
  exact fly_set f fun h' f' up => hQ _ ⟨I.stays f'.1 up hok old hp, B, f', hok, old, hp⟩
theorem XS.own {xe : Value → Shared → Prop} (t : Top X) (x : XS X pins σ H s a cls) (hx : ∀ s', XS X pins σ H s' a cls → xe (.ref a) s') : notedBy (model X.prog X.w) X.A X.env (cameBackBy (model X.prog X.w) X.A X.env xe) (.ref a) s := by
  unfold notedBy
  refine x.note t fun s1 x1 => ?_
  unfold cameBackBy
  obtain ⟨I, B, f, r⟩ := id x1
  refine wpAny_bind (fly_field f fun T => ?_)
  rw [if_neg (by simp)]
  first
    | exact x1.set fun s2 x2 => hx s2 x2.xs
    | exact wpAny_bind (wpAny_pure (x1.set fun s2 x2 => hx s2 x2.xs))
end
end L2

set_option Elab.async false
set_option linter.all false
set_option maxRecDepth 100000
namespace L2
open PySem PySem.Spec PyProof.Rows
structure XCls (K : PySem.W.Frag) (C : Addr) : Prop where
  ex : ∃ (B newId initId : String) (bm : List Value), ExcBaseFacts B newId initId bm ∧ PySem.W.excIn K C bm newId = true
section
variable {X : Cx} {pins : List (Addr × Obj)} {σ : St} {H : Hp} {s : Shared} {a C f : Addr} {cls : Value} {x : Str} {e : Expr} {es : List Expr} {t : TA} {np cpos pos p : Pos} {k : Nat} {fd : FuncData} {ps : List Str} {sp : Sp} {dvs : List V} {ds : List Value}
noncomputable abbrev XR := Value → St → Hp → Prop
noncomputable def Takes (X : Cx) (R : XR) : Prop := ∀ pins σ H s a cls, XS X pins σ H s a cls → R cls σ H → X.xe (.ref a) s
noncomputable def tRaise (t : TA) (R : St → Hp → Prop) : TS := fun _ σ H => t σ H fun vs H1 => vs.length ≤ sizeLine ∧ R σ H1
noncomputable def tCallX (sp : Sp) (dvs : List V) (R : XR) (t : TA) : TE := fun σ H Q => t σ H fun vs H1 => sp (vs ++ dvs) H1 Q fun cls _ H' => R cls σ H'
noncomputable def xeOf (X : Cx) (R : XR) : Value → Shared → Prop := fun e s => ∃ pins σ H a cls, e = .ref a ∧ XS X pins σ H s a cls ∧ R cls σ H
theorem XS.wish {E : Value → Shared → Prop} (x : XS X pins σ H s a cls) : XS (X.wish E) pins σ H s a cls := ⟨x.inv.wish E, x.ex⟩
theorem XS.unwish {E : Value → Shared → Prop} (x : XS (X.wish E) pins σ H s a cls) : XS X pins σ H s a cls := ⟨x.inv.unwish, x.ex⟩
noncomputable def handling (X : Cx) (v : Value) : Cx := { X with A := X.A.mark (some v), calm := false, xe := fun _ _ => False }
theorem Inv.handling {v : Value} (I : Inv X pins σ H s) : Inv (L2.handling X v) pins σ H s :=
  ⟨⟨I.ok.mod, I.ok.kind, I.ok.glob, I.ok.blt, I.ok.above, I.ok.inj, I.ok.has, I.ok.cab, (fun z => nomatch z), I.ok.frames, I.ok.stk, I.ok.exf, I.ok.bs, I.ok.bsz, I.ok.noex, I.ok.exfs, I.ok.funs, I.ok.frf⟩, I.os, I.bare, I.base, I.loc, I.cell, I.free, I.freeC, I.pin, I.hok, I.len⟩
noncomputable abbrev Cx.holds (X : Cx) (pins : List (Addr × Obj)) (E : Value → Shared → Prop) : Cx := { X with pn := X.pn ++ pins, xe := E }
theorem Cx.Ok.holds (ok : X.Ok) (pins : List (Addr × Obj)) (E : Value → Shared → Prop) : (X.holds pins E).Ok :=
  ⟨ok.mod, ok.kind, ok.glob, ok.blt, ok.above, ok.inj, ok.has, ok.cab, ok.hd, ok.frames, ok.stk, ok.exf, ok.bs, ok.bsz, ok.noex, ok.exfs, ok.funs, ok.frf⟩
theorem Inv.holds (I : Inv X pins σ H s) (E : Value → Shared → Prop) : Inv (X.holds pins E) [] σ H s :=
  ⟨I.ok.holds pins E, I.os, I.bare, I.base, I.loc, I.cell, I.free, I.freeC, fun p hp => I.pin p (by simpa using hp), I.hok, I.len⟩
noncomputable def tTry (C : Addr) (tb : XR → TS) (th : TS) : TS := fun D σ H => tb (fun cls σ' H' => cls = .ref C ∧ th D σ' H') D σ H
end
end L2

set_option Elab.async false
set_option linter.all false
set_option maxRecDepth 100000
namespace L2
open PySem PySem.Spec PyProof.Rows
section
variable {X : Cx} {pins : List (Addr × Obj)} {σ : St} {H : Hp} {s : Shared} {scope : Scope} {N fn : List Str} {k : Nat} {ix : List Nat} {elt tg iter : Expr} {ifs : List Expr} {pos : Pos} {g : TG} {tc : TT} {te : TE}

section
variable {R0 : Value → Hp → Prop} {wi : TI}
end
end
end L2

set_option Elab.async false
set_option linter.all false
set_option maxRecDepth 100000
namespace L2
open PySem PySem.Spec PyProof.Rows

structure XLook (K : PySem.W.Frag) (D : Addr) : Prop where
  cls0 : PySem.W.isClsIn K D = true
  ga : PySem.W.findIn K (.ref D) "__getattribute__" = some (some (.builtin "BaseException.__getattribute__"))
  gh : PySem.W.findIn K (.ref D) "__getattr__" = some none
  ca : PySem.W.findIn K (.ref D) "__class__" = some (some (.builtin "object.__class__"))
  gg : PySem.W.specialIn K (.builtin "object.__class__") "__get__" = some (some (.builtin "getset_descriptor.__get__"))
  tk : PySem.W.takesIn K (.builtin "object.__class__") = some true
  ob : PySem.W.mroIn K D (.type "object") = some true
  be : PySem.W.mroIn K D (.type "BaseException") = some true
  ty : PySem.W.typeIn K (.ref D) = some (.type "type")
  self : PySem.W.mroIn K D (.ref D) = some true
theorem XLook.cls {K : PySem.W.Frag} {D : Addr} (L : XLook K D) : (PySem.W.clsIn K D).isSome = true := L.cls0
noncomputable def XAt (D x : Addr) (h : Heap) : Prop := ∃ o, h.get? x = some o ∧ o.cls = .ref D
section
variable {prog : Program} {w : World} {A : Around} {E : Value → Shared → Prop} {s : Shared} {K : PySem.W.Frag} {x D : Addr}
end

section
variable {X : Cx} {pins : List (Addr × Obj)} {σ : St} {H : Hp} {s : Shared} {a C f : Addr} {cls : Value} {x : Str} {np cpos pos p : Pos}
noncomputable abbrev handlingAs (X : Cx) (a : Addr) (oe : Obj) : Cx := { L2.handling X (.ref a) with pn := X.pn ++ [(a, oe)] }
theorem Inv.handlingAs {oe : Obj} (I : Inv X pins σ H s) (h : s.heap.get? a = some oe ∧ H a = none ∧ a ≠ X.env.locals ∧ a ∉ X.fs ∧ ∀ v, oe.data ≠ .cell v) : Inv (L2.handlingAs X a oe) pins σ H s :=
  ⟨⟨I.ok.mod, I.ok.kind, I.ok.glob, I.ok.blt, I.ok.above, I.ok.inj, I.ok.has, I.ok.cab, (fun z => nomatch z), I.ok.frames, I.ok.stk, I.ok.exf, I.ok.bs, I.ok.bsz, I.ok.noex, I.ok.exfs, I.ok.funs, I.ok.frf⟩, I.os, I.bare, I.base, I.loc, I.cell, I.free, I.freeC,
    fun p hp => by
      have hp' : p ∈ (X.pn ++ [(a, oe)]) ++ pins := hp
      rcases List.mem_append.mp hp' with hp | hp
      · rcases List.mem_append.mp hp with hp | hp
        · exact I.pin p (List.mem_append_left _ hp)
        · rw [List.mem_singleton.mp hp]; exact h
      · exact I.pin p (List.mem_append_right _ hp), I.hok, I.len⟩
noncomputable def Ends.gone (D : Ends) (i : Nat) : Ends := ⟨fun σ H => D.nx (σ.set i none) H, D.rt, fun σ H => D.bk (σ.set i none) H, fun σ H => D.ct (σ.set i none) H⟩
noncomputable def tTryAs (je : Nat) (ok : Addr → Prop) (tb : XR → TS) (th : Addr → Addr → TS) : TS := fun D σ H => tb (fun cls σ' H' => ∃ C, cls = .ref C ∧ ok C ∧ ∀ a, th C a (D.gone je) (σ'.set je (some (.ref a))) H') D σ H
end
end L2

set_option Elab.async false
set_option linter.all false
set_option maxRecDepth 100000
namespace L2
open PySem PySem.Spec PyProof.Rows
section
variable {κ : Type} [DecidableEq κ]
noncomputable def valV (kvs : List (κ × V)) (k : κ) : Option V := (kvs.find? fun kv => decide (kv.1 = k)).map (·.2)
noncomputable def putK (kvs : List (κ × V)) (k : κ) (v : V) : List (κ × V) :=
  if (kvs.any fun kv => decide (kv.1 = k)) = true then kvs.map (fun kv => if kv.1 = k then (kv.1, v) else kv) else kvs ++ [(k, v)]
noncomputable def dropK (kvs : List (κ × V)) (k : κ) : List (κ × V) := kvs.filter fun kv => decide (kv.1 ≠ k)

theorem valV_pos {p : κ × V} {r : List (κ × V)} {k : κ} (e : p.1 = k) : valV (p :: r) k = some p.2 := by simp [valV, List.find?_cons, e]
theorem valV_neg {p : κ × V} {r : List (κ × V)} {k : κ} (e : ¬ p.1 = k) : valV (p :: r) k = valV r k := by simp [valV, List.find?_cons, e]
theorem RelO.isSome_eq {o : Option V} {u : Option Value} (r : RelO o u) : o.isSome = u.isSome := by
  cases o with
  | none => cases u with
    | none => rfl
    | some _ => exact (show False from r).elim
  | some _ => cases u with
    | none => exact (show False from r).elim
    | some _ => rfl
theorem RelO.getD {o : Option V} {u : Option Value} {d : V} {d' : Value} (r : RelO o u) (rd : RelV d d') : RelV (o.getD d) (u.getD d') := by
  cases o with
  | none => cases u with
    | none => exact rd
    | some _ => exact (show False from r).elim
  | some _ => cases u with
    | none => exact (show False from r).elim
    | some _ => exact r

theorem KV.val {kvs : List (κ × V)} {vs : List (κ × Value)} (r : KV kvs vs) (k : κ) : RelO (valV kvs k) (valueAt vs k) := by
  unfold KV at r
  induction r with
  | nil => exact True.intro
  | @cons p q ps qs h t ih =>
    obtain ⟨h1, h2⟩ := h
    by_cases e : p.1 = k
    · have e' : q.1 = k := h1.symm.trans e
      have b : valueAt (q :: qs) k = some q.2 := by simp [valueAt, List.find?_cons, e']
      rw [valV_pos e, b]; exact h2
    · have e' : ¬ q.1 = k := fun z => e (h1.trans z)
      have b : valueAt (q :: qs) k = valueAt qs k := by simp [valueAt, List.find?_cons, e']
      rw [valV_neg e, b]; exact ih
theorem KV.any {kvs : List (κ × V)} {vs : List (κ × Value)} (r : KV kvs vs) (k : κ) : (kvs.any fun kv => decide (kv.1 = k)) = vs.any fun kv => decide (kv.1 = k) := by
  unfold KV at r
  induction r with
  | nil => rfl
  | cons h t ih => rw [List.any_cons, List.any_cons, ih, h.1]
theorem KV.drop {kvs : List (κ × V)} {vs : List (κ × Value)} (r : KV kvs vs) (k : κ) : KV (dropK kvs k) (without vs k) := by
  unfold KV at r ⊢
  unfold dropK without
  induction r with
  | nil => exact .nil
  | @cons p q ps qs h t ih =>
    obtain ⟨h1, h2⟩ := h
    rw [List.filter_cons, List.filter_cons]
    by_cases e : p.1 = k
    · have a : ¬ decide (p.1 ≠ k) = true := by simp [e]
      have b : ¬ decide (q.1 ≠ k) = true := by simp [h1.symm.trans e]
      rw [if_neg a, if_neg b]; exact ih
    · have e' : ¬ q.1 = k := fun z => e (h1.trans z)
      have a : decide (p.1 ≠ k) = true := by simp [e]
      have b : decide (q.1 ≠ k) = true := by simp [e']
      rw [if_pos a, if_pos b]; exact .cons ⟨h1, h2⟩ ih
theorem KV.keys {kvs : List (κ × V)} {vs : List (κ × Value)} (r : KV kvs vs) : kvs.map (·.1) = vs.map (·.1) := by
  unfold KV at r
  induction r with
  | nil => rfl
  | cons h t ih => rw [List.map_cons, List.map_cons, ih, h.1]
theorem KV.length {kvs : List (κ × V)} {vs : List (κ × Value)} (r : KV kvs vs) : kvs.length = vs.length := Paired.length r
end


theorem kV_is {P : Program} {w : World} {k : Key} {u : Value} (r : RelV (kV k) u) : (mixKind P w).is k u = true := by
  cases k with
  | inl i => obtain ⟨t, e⟩ := (show ∃ t, u = Value.int i t from r); subst e; exact mixKind_int P w i t
  | inr x => obtain ⟨t, e⟩ := (show ∃ t, u = Value.str x t from r); subst e; exact mixKind_str P w x t
theorem items_are {P : Program} {w : World} : ∀ {ks : List Key} {us : List Value}, Vals (ks.map kV) us → ItemsAre (mixKind P w) ks us
  | [], _, r => by rw [List.map_nil] at r; cases r; exact .nil
  | k :: ks, _, r => by
    rw [List.map_cons] at r
    cases r with
    | cons h t => exact .cons (kV_is h) (items_are t)

noncomputable abbrev KT (H : Hp) : List (List Key × V) → List (List Key × Addr × Value) → Prop := Paired fun p q => p.1 = q.1 ∧ H q.2.1 = some (.tup (p.1.map kV)) ∧ RelV p.2 q.2.2
theorem KT.val {H : Hp} {kvs : List (List Key × V)} {xs : List (List Key × Addr × Value)} (r : KT H kvs xs) (k : List Key) : RelO (valV kvs k) ((atKey xs k).map (·.2)) := by
  induction r with
  | nil => exact True.intro
  | @cons p q ps qs h t ih =>
    obtain ⟨h1, _, h2⟩ := h
    by_cases e : p.1 = k
    · have e' : q.1 = k := h1.symm.trans e
      have b : atKey (q :: qs) k = some q.2 := by simp [atKey, List.find?_cons, e']
      rw [valV_pos e, b]; exact h2
    · have e' : ¬ q.1 = k := fun z => e (h1.trans z)
      have b : atKey (q :: qs) k = atKey qs k := by simp [atKey, List.find?_cons, e']
      rw [valV_neg e, b]; exact ih
theorem KT.keeps {H H' : Hp} {kvs : List (List Key × V)} {xs : List (List Key × Addr × Value)} (r : KT H kvs xs) (ht : ∀ b ys, H b = some (.tup ys) → H' b = some (.tup ys)) : KT H' kvs xs :=
  Paired.mapP r fun _ _ z => ⟨z.1, ht _ _ z.2.1, z.2.2⟩

section
variable {P : Program} {w : World} {H : Hp} {h : Heap} {a : Addr}
theorem rd_of {u : HO} (ok : HOk P w H h) (e : Rd H a u) : ObjOk P w H h a u := e.ok ok
theorem dk_rd {kvs : List (Key × V)} (ok : HOk P w H h) (e : Rd H a (.dK kvs)) : kvs.length ≤ sizeLine ∧ (a == sysModules) = false ∧ ∃ vs, KV kvs vs ∧ h.DictOf (mixKind P w) a vs :=
  show ObjOk P w H h a (.dK kvs) from rd_of ok e
theorem key_of {ks : List Key} (ok : HOk P w H h) (e : H a = some (.tup (ks.map kV))) : (tupleKind (mixKind P w)).is h ks a := by
  obtain ⟨_, its, r, o, h1, h2, n, h3⟩ := (show ObjOk P w H h a (.tup (ks.map kV)) from ok a _ e)
  exact ⟨o, its.toArray, n, h1, h2, h3, by simpa using items_are r⟩
theorem dt_rd {kvs : List (List Key × V)} (ok : HOk P w H h) (e : Rd H a (.dT kvs)) : kvs.length ≤ sizeLine ∧ (a == sysModules) = false ∧
    ∃ xs, KT H kvs xs ∧ h.DictOfH (tupleKind (mixKind P w)) a xs := by
  obtain ⟨z, y, xs, r, o, es, ep, h1, h2, h3, h4, h5⟩ := (show ObjOk P w H h a (.dT kvs) from rd_of ok e)
  refine ⟨z, y, xs, r, o, es, ep, h1, h2, h3, h4, fun x hx => ?_, h5⟩
  have all : ∀ {l : List (List Key × V)} {m : List (List Key × Addr × Value)}, KT H l m → ∀ x ∈ m, (tupleKind (mixKind P w)).is h x.1 x.2.1 := by
    intro l m q
    induction q with
    | nil => intro x hx; exact nomatch hx
    | @cons p q ps qs hq t ih =>
      intro x hx
      rcases List.mem_cons.mp hx with e | hx
      · subst e
        exact key_of ok (by rw [← hq.1]; exact hq.2.1)
      · exact ih x hx
  exact all r x hx
end

noncomputable def DGet (H : Hp) (a : Addr) (y : V) (r : Option V) : Prop :=
  (∃ kvs k, Rd H a (.dK kvs) ∧ y = kV k ∧ r = valV kvs k) ∨ ∃ kvs k b, Rd H a (.dT kvs) ∧ y = .ref b ∧ H b = some (.tup (k.map kV)) ∧ r = valV kvs k
noncomputable def DPut (H : Hp) (a : Addr) (y v : V) (H' : Hp) : Prop :=
  (∃ kvs k, H a = some (.dK kvs) ∧ y = kV k ∧ kvs.length < sizeLine ∧ H' = upd H a (.dK (putK kvs k v))) ∨
  ∃ kvs k b, H a = some (.dT kvs) ∧ y = .ref b ∧ H b = some (.tup (k.map kV)) ∧ kvs.length < sizeLine ∧ H' = upd H a (.dT (putK kvs k v))
theorem DGet.k {H : Hp} {a : Addr} {kvs : List (Key × V)} {k : Key} (e : H a = some (.dK kvs)) : DGet H a (kV k) (valV kvs k) := .inl ⟨kvs, k, .inl e, rfl, rfl⟩
theorem DGet.t {H : Hp} {a b : Addr} {kvs : List (List Key × V)} {k : List Key} (e : H a = some (.dT kvs)) (eb : H b = some (.tup (k.map kV))) : DGet H a (.ref b) (valV kvs k) := .inr ⟨kvs, k, b, .inl e, rfl, eb, rfl⟩
theorem DPut.k {H : Hp} {a : Addr} {kvs : List (Key × V)} {k : Key} {v : V} (e : H a = some (.dK kvs)) (hl : kvs.length < sizeLine) : DPut H a (kV k) v (upd H a (.dK (putK kvs k v))) := .inl ⟨kvs, k, e, rfl, hl, rfl⟩
theorem DPut.t {H : Hp} {a b : Addr} {kvs : List (List Key × V)} {k : List Key} {v : V} (e : H a = some (.dT kvs)) (eb : H b = some (.tup (k.map kV))) (hl : kvs.length < sizeLine) :
    DPut H a (.ref b) v (upd H a (.dT (putK kvs k v))) := .inr ⟨kvs, k, b, e, rfl, eb, hl, rfl⟩


section
variable {X : Cx} {pins : List (Addr × Obj)} {σ : St} {H : Hp} {s : Shared} {a : Addr} {y v : V} {u r : Value} {o : Option V} {A : Around} {E : Value → Shared → Prop}

theorem d_in {Q : Value → Shared → Prop} (hu : A.units + 1 < cLine) (I : Inv X pins σ H s) (g : DGet H a y o) (ry : RelV y u) (h : ∀ s', Inv X pins σ H s' → Q (.bool o.isSome) s') :
    wpAny (model X.prog X.w) A (compareOp .In u (.ref a)) Q E s := by
  rcases g with ⟨kvs, k, e, ey, l⟩ | ⟨kvs, k, b, e, ey, eb, l⟩
  · subst ey
    obtain ⟨z, hd, vs, rel, dd⟩ := dk_rd I.hok e
    refine wpAny_in_of (kV_is ry) hd dd.mapOf ?_
    rw [← (rel.val k).isSome_eq, ← l]
    exact h _ (I.tok _)
  · subst ey
    cases (show u = Value.ref b from ry)
    obtain ⟨z, hd, xs, rel, dd⟩ := dt_rd I.hok e
    refine wpAny_in_heap (tupleKind_room_in1 hu) (key_of I.hok eb) hd dd ?_
    have q := (rel.val k).isSome_eq
    rw [Option.isSome_map] at q
    rw [← q, ← l]
    exact h _ (I.tok _)
theorem d_notIn {Q : Value → Shared → Prop} (hu : A.units + 1 < cLine) (I : Inv X pins σ H s) (g : DGet H a y o) (ry : RelV y u) (h : ∀ s', Inv X pins σ H s' → Q (.bool (!o.isSome)) s') :
    wpAny (model X.prog X.w) A (compareOp .NotIn u (.ref a)) Q E s := by
  rcases g with ⟨kvs, k, e, ey, l⟩ | ⟨kvs, k, b, e, ey, eb, l⟩
  · subst ey
    obtain ⟨z, hd, vs, rel, dd⟩ := dk_rd I.hok e
    refine wpAny_notIn_of (kV_is ry) hd dd.mapOf ?_
    rw [← (rel.val k).isSome_eq, ← l]
    exact h _ (I.tok _)
  · subst ey
    cases (show u = Value.ref b from ry)
    obtain ⟨z, hd, xs, rel, dd⟩ := dt_rd I.hok e
    refine wpAny_notIn_heap (tupleKind_room_in1 hu) (key_of I.hok eb) hd dd ?_
    have q := (rel.val k).isSome_eq
    rw [Option.isSome_map] at q
    rw [← q, ← l]
    exact h _ (I.tok _)
end

section
variable {X : Cx} {pins : List (Addr × Obj)} {σ : St} {H : Hp} {s : Shared} {a : Addr} {kvs : List (Key × V)} {k : Key} {u : Value} {A : Around} {E : Value → Shared → Prop}
end


noncomputable def NoSl (i : Expr) : Prop := ∀ ov iv, subscripted i false ov iv = operate [ov, iv] (getItem ov iv)
noncomputable def tDGet (td ty : TE) : TE := fun σ H Q => td σ H fun x H1 => ty σ H1 fun y H2 => ∃ a v, x = .ref a ∧ DGet H2 a y (some v) ∧ Q v H2
noncomputable def tDIn (ty td : TE) : TE := fun σ H Q => ty σ H fun y H1 => td σ H1 fun x H2 => ∃ a o, x = .ref a ∧ DGet H2 a y o ∧ Q (.bl o.isSome) H2
noncomputable def tDNotIn (ty td : TE) : TE := fun σ H Q => ty σ H fun y H1 => td σ H1 fun x H2 => ∃ a o, x = .ref a ∧ DGet H2 a y o ∧ Q (.bl (!o.isSome)) H2
noncomputable def sDPut (td ty tv : TE) : TS := fun D σ H => tv σ H fun v H1 => td σ H1 fun x H2 => ty σ H2 fun y H3 => ∃ a H4, x = .ref a ∧ DPut H3 a y v H4 ∧ D.nx σ H4
noncomputable def sDAug (td ty tv : TE) (rd : V → V → Hp → VK → Prop) : TS := fun D σ H => td σ H fun x H1 => ty σ H1 fun y H2 => ∃ a v, x = .ref a ∧ DGet H2 a y (some v) ∧
  tv σ H2 fun y2 H3 => rd v y2 H3 fun z H4 => ∃ H5, DPut H4 a y z H5 ∧ D.nx σ H5
noncomputable def sDDel (td ty : TE) : TS := fun D σ H => td σ H fun x H1 => ty σ H1 fun y H2 => ∃ a kvs k, x = .ref a ∧ H2 a = some (.dK kvs) ∧ y = kV k ∧ (valV kvs k).isSome = true ∧ D.nx σ (upd H2 a (.dK (dropK kvs k)))

section
variable {X : Cx} {o i e value : Expr} {pos pos' tpos : Pos} {td ty tv : TE}
end


noncomputable def tDNewK : TE := fun _ H Q => ∀ p, H p = none → Q (.ref p) (upd H p (.dK []))
noncomputable def tDNewT : TE := fun _ H Q => ∀ p, H p = none → Q (.ref p) (upd H p (.dT []))
section
variable {X : Cx} {pos : Pos}
end

noncomputable def tPairs : List (TE × TE) → St → Hp → (List (V × V) → Hp → Prop) → Prop
  | [], _, H, Q => Q [] H
  | (tk, tv) :: r, σ, H, Q => tk σ H fun x H1 => tv σ H1 fun y H2 => tPairs r σ H2 fun ps H3 => Q ((x, y) :: ps) H3
noncomputable abbrev VV : List (V × V) → List (Value × Value) → Prop := Paired fun p q => RelV p.1 q.1 ∧ RelV p.2 q.2
noncomputable def PPs (X : Cx) (pos : Pos) (keys : List (Option Expr)) (values : List Expr) (trs : List (TE × TE)) : Prop :=
  ∀ (pins : List (Addr × Obj)) (s : Shared) (σ : St) (H : Hp) (Q : List (V × V) → Hp → Prop), Inv X pins σ H s → tPairs trs σ H Q →
    wpAny (model X.prog X.w) X.A (evalPairs (pairTrees keys values X.env pos)) (fun vs s' => ∃ ps H', Inv X pins σ H' s' ∧ VV ps vs ∧ Q ps H') X.xe s
noncomputable def mergeK (kvs more : List (Key × V)) : List (Key × V) := more.foldl (fun acc kv => putK acc kv.1 kv.2) kvs
noncomputable def tDisp (trs : List (TE × TE)) : TE := fun σ H Q => ∀ p, H p = none → tPairs trs σ (upd H p (.dK [])) fun ps H2 => H2 p = some (.dK []) ∧ ∃ kvs : List (Key × V), ps = kvs.map (fun kv => (kV kv.1, kv.2)) ∧ kvs.length ≤ 15 ∧ Q (.ref p) (upd H2 p (.dK (mergeK [] kvs)))
structure M1 (X : Cx) (o : Expr) (m : Str) (apos : Pos) (e : Expr) (cpos : Pos) : Prop where
  base : attributeBase o m X.env (eval o X.env) = eval o X.env
  few : ((backTo cpos (starEach [e] X.env)).all (fun x => !x.1) && (backToKw cpos (keywordEach [] X.env)).all (fun x => x.1.isSome)
    && decide (([e] : List Expr).length + ([] : List Keyword).length + (if ([] : List Keyword).isEmpty then 0 else 1) < 30)) = true
  line : (apos.endLine == cpos.line) = true
  trees : backTo cpos (starEach [e] X.env) = [(false, eval e X.env)]
structure M2 (X : Cx) (o : Expr) (m : Str) (apos : Pos) (e f : Expr) (cpos : Pos) : Prop where
  base : attributeBase o m X.env (eval o X.env) = eval o X.env
  few : ((backTo cpos (starEach [e, f] X.env)).all (fun x => !x.1) && (backToKw cpos (keywordEach [] X.env)).all (fun x => x.1.isSome)
    && decide (([e, f] : List Expr).length + ([] : List Keyword).length + (if ([] : List Keyword).isEmpty then 0 else 1) < 30)) = true
  line : (apos.endLine == cpos.line) = true
  trees : backTo cpos (starEach [e, f] X.env) = [(false, eval e X.env), (false, eval f X.env)]

noncomputable def IsD (H : Hp) (a : Addr) : Prop := (∃ kvs, Rd H a (.dK kvs)) ∨ ∃ kvs, Rd H a (.dT kvs)
section
variable {X : Cx} {pins : List (Addr × Obj)} {σ : St} {H : Hp} {s : Shared} {a : Addr} {y d : V} {u r : Value} {o : Option V} {A : Around} {E : Value → Shared → Prop}
end

noncomputable def tDGet1 (td ty : TE) : TE := fun σ H Q => td σ H fun x H1 => ∃ a, x = .ref a ∧ IsD H1 a ∧ ty σ H1 fun y H2 => ∃ o, DGet H2 a y o ∧ Q (o.getD .non) H2
noncomputable def tDGet2 (td ty tx : TE) : TE := fun σ H Q => td σ H fun x H1 => ∃ a, x = .ref a ∧ IsD H1 a ∧ ty σ H1 fun y H2 => tx σ H2 fun z H3 => ∃ o, DGet H3 a y o ∧ Q (o.getD z) H3
noncomputable def tDPop1 (td ty : TE) : TE := fun σ H Q => td σ H fun x H1 => ∃ a, x = .ref a ∧ IsD H1 a ∧ ty σ H1 fun y H2 => ∃ kvs k v, H2 a = some (.dK kvs) ∧ y = kV k ∧ valV kvs k = some v ∧ Q v (upd H2 a (.dK (dropK kvs k)))
noncomputable def tDPop2 (td ty tx : TE) : TE := fun σ H Q => td σ H fun x H1 => ∃ a, x = .ref a ∧ IsD H1 a ∧ ty σ H1 fun y H2 => tx σ H2 fun z H3 => ∃ kvs k, H3 a = some (.dK kvs) ∧ y = kV k ∧
  (∀ v, valV kvs k = some v → Q v (upd H3 a (.dK (dropK kvs k)))) ∧ (valV kvs k = none → Q z H3)
section
variable {X : Cx} {o e f : Expr} {apos cpos : Pos} {td ty tx : TE}
end

section
variable {X : Cx} {pins : List (Addr × Obj)} {σ : St} {H : Hp} {s : Shared} {a : Addr} {kvs : List (Key × V)} {A : Around} {E : Value → Shared → Prop}
end


section
variable {X : Cx} {pins : List (Addr × Obj)} {σ : St} {H : Hp} {s : Shared} {a : Addr} {y : V} {u : Value} {A : Around} {E : Value → Shared → Prop}
end
section
variable {prog : Program} {w : World} {K : Type} [DecidableEq K] {knd : HeapKind prog w K} {A : Around} {E : Value → Shared → Prop} {s : Shared}
end
section
variable {X : Cx} {pins : List (Addr × Obj)} {σ : St} {H : Hp} {s : Shared} {a b : Addr} {v : V} {r : Value} {A : Around} {E : Value → Shared → Prop} {kvs : List (List Key × V)} {k : List Key}
end
noncomputable def tDSetd (td ty tx : TE) : TE := fun σ H Q => td σ H fun x H1 => ∃ a, x = .ref a ∧ IsD H1 a ∧ ty σ H1 fun y H2 => tx σ H2 fun z H3 => ∃ kvs k b, H3 a = some (.dT kvs) ∧ y = .ref b ∧ H3 b = some (.tup (k.map kV)) ∧ kvs.length < sizeLine ∧
  (∀ v, valV kvs k = some v → Q v H3) ∧ (valV kvs k = none → Q z (upd H3 a (.dT (putK kvs k z))))
noncomputable def tDisp1 (tk tv : TE) : TE := fun σ H Q => ∀ p, H p = none → tk σ (upd H p (.dT [])) fun x H1 => tv σ H1 fun y H2 => ∃ k b, x = .ref b ∧ H2 b = some (.tup (k.map kV)) ∧ H2 p = some (.dT []) ∧ Q (.ref p) (upd H2 p (.dT [(k, y)]))
end L2

set_option Elab.async false
set_option linter.all false
set_option maxRecDepth 100000
namespace DL
open PySem PySem.Spec L2
open PyProof.Rows hiding St

noncomputable def S (x : List Nat) : Str := ⟨x.toArray⟩
inductive D where
  | non | bl (b : Bool) | int (i : Int) | str (x : List Nat) | tup (xs : List D) | lst (xs : List D) | ref (a : Addr)

noncomputable def FzL (K : PySem.W.Frag) (H : Hp) (a : Addr) (xs : List V) : Prop :=
  (∃ o, H a = some (.frz o (.lst xs))) ∨
    ∃ (o : Obj) (its : Array Value) (n : Nat), K.lookup a = some o ∧ o.cls = .type "list" ∧ o.dict = none ∧ o.data = .seq its n ∧ its.size ≤ sizeLine ∧ Vals xs its.toList
theorem FzL.sq {K : PySem.W.Frag} {H : Hp} {a : Addr} {xs : List V} (h : FzL K H a xs) : SqL K H a xs := by
  rcases h with ⟨o, h⟩ | h
  · exact .inl (.inr ⟨o, h⟩)
  · exact .inr h

mutual
inductive Den (K : PySem.W.Frag) (H : Hp) : D → V → Prop
  | non : Den K H .non .non
  | bl (b : Bool) : Den K H (.bl b) (.bl b)
  | int (i : Int) : Den K H (.int i) (.int i)
  | str (x : List Nat) (h : (x.all fun c => decide (c < 1114112)) = true) : Den K H (.str x) (.str (S x))
  | ref (a : Addr) : Den K H (.ref a) (.ref a)
  | tup {a : Addr} {ds : List D} {vs : List V} : H a = some (.tup vs) → Dens K H ds vs → Den K H (.tup ds) (.ref a)
  | lst {a : Addr} {ds : List D} {vs : List V} : FzL K H a vs → Dens K H ds vs → Den K H (.lst ds) (.ref a)
inductive Dens (K : PySem.W.Frag) (H : Hp) : List D → List V → Prop
  | nil : Dens K H [] []
  | cons {d : D} {v : V} {ds : List D} {vs : List V} : Den K H d v → Dens K H ds vs → Dens K H (d :: ds) (v :: vs)
end

structure Ext (H H' : Hp) : Prop where
  tup : ∀ b xs, H b = some (.tup xs) → H' b = some (.tup xs)
  frz : ∀ b o u, H b = some (.frz o u) → H' b = some (.frz o u)
theorem Ext.refl (H : Hp) : Ext H H := ⟨fun _ _ e => e, fun _ _ _ e => e⟩
theorem Ext.trans {H H1 H2 : Hp} (a : Ext H H1) (b : Ext H1 H2) : Ext H H2 := ⟨fun c xs e => b.tup c xs (a.tup c xs e), fun c o u e => b.frz c o u (a.frz c o u e)⟩
theorem Ext.new {H : Hp} {p : Addr} {o : HO} (h : H p = none) : Ext H (upd H p o) :=
  ⟨fun b xs e => by rw [upd_ne (ne_of_none e h)]; exact e, fun b o u e => by rw [upd_ne (ne_of_none e h)]; exact e⟩
theorem Ext.mut {H : Hp} {p : Addr} {u o : HO} (h : H p = some u) (h1 : ∀ xs, u ≠ .tup xs) (h2 : ∀ ob v, u ≠ .frz ob v) : Ext H (upd H p o) :=
  ⟨fun b ys e => by rw [upd_ne fun w => by rw [w, h] at e; cases e; exact h1 _ rfl]; exact e, fun b ob y e => by rw [upd_ne fun w => by rw [w, h] at e; cases e; exact h2 _ _ rfl]; exact e⟩
theorem Ext.lst {H : Hp} {p : Addr} {xs : List V} {o : HO} (h : H p = some (.lst xs)) : Ext H (upd H p o) :=
  ⟨fun b ys e => by rw [upd_ne fun w => by rw [w, h] at e; cases e]; exact e, fun b u y e => by rw [upd_ne fun w => by rw [w, h] at e; cases e]; exact e⟩

section
variable {K : PySem.W.Frag} {H H' : Hp}
theorem SqT.ext {a : Addr} {xs : List V} (x : Ext H H') (h : SqT K H a xs) : SqT K H' a xs := by
  rcases h with (h | ⟨o, h⟩) | h
  · exact .inl (.inl (x.tup _ _ h))
  · exact .inl (.inr ⟨o, x.frz _ _ _ h⟩)
  · exact .inr h
theorem FzL.ext {a : Addr} {xs : List V} (x : Ext H H') (h : FzL K H a xs) : FzL K H' a xs := by
  rcases h with ⟨o, h⟩ | h
  · exact .inl ⟨o, x.frz _ _ _ h⟩
  · exact .inr h
mutual
theorem Den.ext (x : Ext H H') : ∀ {d : D} {v : V}, Den K H d v → Den K H' d v
  | _, _, .non => .non
  | _, _, .bl b => .bl b
  | _, _, .int i => .int i
  | _, _, .str s h => .str s h
  | _, _, .ref a => .ref a
  | _, _, .tup h t => .tup (x.tup _ _ h) (Dens.ext x t)
  | _, _, .lst h t => .lst (FzL.ext x h) (Dens.ext x t)
theorem Dens.ext (x : Ext H H') : ∀ {ds : List D} {vs : List V}, Dens K H ds vs → Dens K H' ds vs
  | _, _, .nil => .nil
  | _, _, .cons h t => .cons (Den.ext x h) (Dens.ext x t)
end
theorem Dens.length : ∀ {ds : List D} {vs : List V}, Dens K H ds vs → ds.length = vs.length
  | _, _, .nil => rfl
  | _, _, .cons _ t => by rw [List.length_cons, List.length_cons, Dens.length t]
theorem Dens.get : ∀ {ds : List D} {vs : List V} {i : Nat} {d : D}, Dens K H ds vs → ds[i]? = some d → ∃ v, vs[i]? = some v ∧ Den K H d v
  | _, _, _, _, .nil, e => by simp at e
  | _, _, 0, _, .cons r _, e => by simp at e; subst e; exact ⟨_, rfl, r⟩
  | _, _, i + 1, d, .cons _ t, e => by
    obtain ⟨u, h1, h2⟩ := Dens.get (i := i) (d := d) t (by simpa using e)
    exact ⟨u, by simpa using h1, h2⟩
theorem Dens.get' : ∀ {ds : List D} {vs : List V} {i : Nat} {v : V}, Dens K H ds vs → vs[i]? = some v → ∃ d, ds[i]? = some d ∧ Den K H d v
  | _, _, _, _, .nil, e => by simp at e
  | _, _, 0, _, .cons r _, e => by simp at e; subst e; exact ⟨_, rfl, r⟩
  | _, _, i + 1, d, .cons _ t, e => by
    obtain ⟨u, h1, h2⟩ := Dens.get' (i := i) (v := d) t (by simpa using e)
    exact ⟨u, by simpa using h1, h2⟩
theorem Dens.append : ∀ {ds es : List D} {vs ws : List V}, Dens K H ds vs → Dens K H es ws → Dens K H (ds ++ es) (vs ++ ws)
  | _, _, _, _, .nil, s => s
  | _, _, _, _, .cons r t, s => .cons r (Dens.append t s)
theorem Dens.take : ∀ {ds : List D} {vs : List V} (n : Nat), Dens K H ds vs → Dens K H (ds.take n) (vs.take n)
  | _, _, 0, _ => .nil
  | _, _, _ + 1, .nil => .nil
  | _, _, n + 1, .cons r t => .cons r (Dens.take n t)
theorem Dens.drop : ∀ {ds : List D} {vs : List V} (n : Nat), Dens K H ds vs → Dens K H (ds.drop n) (vs.drop n)
  | _, _, 0, r => r
  | _, _, _ + 1, .nil => .nil
  | _, _, n + 1, .cons _ t => Dens.drop n t
theorem Dens.reverse {ds : List D} {vs : List V} (h : Dens K H ds vs) : Dens K H ds.reverse vs.reverse := by
  induction ds generalizing vs with
  | nil => cases h; exact .nil
  | cons d r ih =>
    cases h with
    | cons a t => rw [List.reverse_cons, List.reverse_cons]; exact Dens.append (ih t) (.cons a .nil)
end

noncomputable abbrev DSt := List (Option D)
inductive MO2 where
  | dct (kvs : List (List (List Nat) × D))
  | ins (c : Str) (fs : List (Str × D))
inductive MO where
  | lst (ds : List D)
  | oth (o : MO2)
noncomputable abbrev DH := Addr → Option MO
noncomputable def dupd (M : DH) (a : Addr) (o : MO) : DH := fun b => if b = a then some o else M b
theorem dupd_same {M : DH} {a : Addr} {o : MO} : dupd M a o a = some o := if_pos rfl
theorem dupd_ne {M : DH} {a b : Addr} {o : MO} (h : b ≠ a) : dupd M a o b = M b := if_neg h
theorem dne {M : DH} {a b : Addr} {o : MO} (h : M a = some o) (h' : M b = none) : a ≠ b := by
  intro e; subst e; rw [h] at h'; cases h'
noncomputable def DenO (K : PySem.W.Frag) (H : Hp) : Option D → Option V → Prop
  | none, none => True
  | some d, some v => Den K H d v
  | _, _ => False
inductive SimS (K : PySem.W.Frag) (H : Hp) : DSt → St → Prop
  | nil : SimS K H [] []
  | cons {d : Option D} {v : Option V} {ds : DSt} {vs : St} : DenO K H d v → SimS K H ds vs → SimS K H (d :: ds) (v :: vs)
noncomputable def nk (n : List (List Nat)) : List Key := n.map fun x => Sum.inr (S x)
noncomputable abbrev KDs (K : PySem.W.Frag) (H : Hp) : List (List (List Nat) × D) → List (List Key × V) → Prop := Paired fun p q => q.1 = nk p.1 ∧ Den K H p.2 q.2
noncomputable abbrev FDs (K : PySem.W.Frag) (H : Hp) : List (Str × D) → List (Str × V) → Prop := Paired fun p q => p.1 = q.1 ∧ Den K H p.2 q.2
noncomputable def MOk2 (K : PySem.W.Frag) (H : Hp) (a : Addr) : MO2 → Prop
  | .dct kvs => ∃ vs, H a = some (.dT vs) ∧ KDs K H kvs vs
  | .ins c fs => ∃ C dx vs, PySem.W.nsIn K mainGlobals c = some (some (.ref C)) ∧ H a = some (.ins C dx vs) ∧ FDs K H fs vs
noncomputable def MOk (K : PySem.W.Frag) (H : Hp) (a : Addr) : MO → Prop
  | .lst ds => ∃ vs, H a = some (.lst vs) ∧ Dens K H ds vs
  | .oth o => MOk2 K H a o
noncomputable def SimM (K : PySem.W.Frag) (M : DH) (H : Hp) : Prop := ∀ a o, M a = some o → MOk K H a o

section
variable {K : PySem.W.Frag} {H H' : Hp} {M : DH}
theorem DenO.ext (x : Ext H H') : ∀ {d : Option D} {v : Option V}, DenO K H d v → DenO K H' d v
  | none, none, _ => trivial
  | some _, some _, h => Den.ext x h
  | none, some _, h => h.elim
  | some _, none, h => h.elim
theorem SimS.ext (x : Ext H H') : ∀ {ds : DSt} {vs : St}, SimS K H ds vs → SimS K H' ds vs
  | _, _, .nil => .nil
  | _, _, .cons h t => .cons (h.ext x) (SimS.ext x t)
theorem SimS.length : ∀ {ds : DSt} {vs : St}, SimS K H ds vs → ds.length = vs.length
  | _, _, .nil => rfl
  | _, _, .cons _ t => by rw [List.length_cons, List.length_cons, SimS.length t]
theorem SimS.get : ∀ {ds : DSt} {vs : St} {i : Nat} {d : D}, SimS K H ds vs → ds[i]? = some (some d) → ∃ v, vs[i]? = some (some v) ∧ Den K H d v
  | _, _, _, _, .nil, e => by simp at e
  | _, some v :: _, 0, d, .cons (d := some d') r _, e => by simp at e; subst e; exact ⟨v, rfl, r⟩
  | _, none :: _, 0, d, .cons (d := some d') r _, e => r.elim
  | _, _, 0, d, .cons (d := none) r _, e => by simp at e
  | _, _, i + 1, d, .cons _ t, e => by
    obtain ⟨u, h1, h2⟩ := SimS.get (i := i) (d := d) t (by simpa using e)
    exact ⟨u, by simpa using h1, h2⟩
theorem SimS.getD : ∀ {ds : DSt} {vs : St} (i : Nat), SimS K H ds vs → DenO K H ((ds[i]?).getD none) ((vs[i]?).getD none)
  | _, _, _, .nil => by simp; exact trivial
  | _, _, 0, .cons r _ => by simpa using r
  | _, _, i + 1, .cons _ t => by simpa using SimS.getD i t
theorem SimS.set {d : D} {v : V} (r : Den K H d v) : ∀ {ds : DSt} {vs : St} (i : Nat), SimS K H ds vs → SimS K H (ds.set i (some d)) (vs.set i (some v))
  | _, _, _, .nil => .nil
  | _, _, 0, .cons _ t => .cons r t
  | _, _, i + 1, .cons q t => .cons q (SimS.set r i t)
theorem SimS.append : ∀ {ds es : DSt} {vs ws : St}, SimS K H ds vs → SimS K H es ws → SimS K H (ds ++ es) (vs ++ ws)
  | _, _, _, _, .nil, s => s
  | _, _, _, _, .cons r t, s => .cons r (SimS.append t s)
theorem SimS.nones : ∀ k : Nat, SimS K H (List.replicate k none) (List.replicate k none)
  | 0 => .nil
  | k + 1 => .cons trivial (SimS.nones k)
theorem SimS.ofDens : ∀ {ds : List D} {vs : List V}, Dens K H ds vs → SimS K H (ds.map some) (vs.map some)
  | _, _, .nil => .nil
  | _, _, .cons r t => .cons r (SimS.ofDens t)
theorem MOk.keep {a : Addr} {o : MO} (h : MOk K H a o) (x : Ext H H') (e : H' a = H a) : MOk K H' a o := by
  cases o with
  | lst ds => obtain ⟨vs, e1, e2⟩ := h; exact ⟨vs, e.trans e1, e2.ext x⟩
  | oth o =>
    cases o with
    | dct kvs => obtain ⟨vs, e1, e2⟩ := h; exact ⟨vs, e.trans e1, Paired.mapP e2 fun p q z => ⟨z.1, Den.ext x z.2⟩⟩
    | ins c fs => obtain ⟨C, dx, vs, e0, e1, e2⟩ := h; exact ⟨C, dx, vs, e0, e.trans e1, Paired.mapP e2 fun p q z => ⟨z.1, Den.ext x z.2⟩⟩
theorem MOk.there {a : Addr} {o : MO} (h : MOk K H a o) : ∃ u, H a = some u ∧ (∀ xs, u ≠ .tup xs) ∧ ∀ ob v, u ≠ .frz ob v := by
  cases o with
  | lst ds => obtain ⟨vs, e1, e2⟩ := h; exact ⟨_, e1, (fun _ z => nomatch z), (fun _ _ z => nomatch z)⟩
  | oth o =>
    cases o with
    | dct kvs => obtain ⟨vs, e1, e2⟩ := h; exact ⟨_, e1, (fun _ z => nomatch z), (fun _ _ z => nomatch z)⟩
    | ins c fs => obtain ⟨C, dx, vs, e0, e1, e2⟩ := h; exact ⟨_, e1, (fun _ z => nomatch z), (fun _ _ z => nomatch z)⟩
theorem SimM.free (h : SimM K M H) {p : Addr} (e : H p = none) : M p = none := by
  cases q : M p with
  | none => rfl
  | some o => obtain ⟨u, e', _⟩ := (h p _ q).there; rw [e] at e'; cases e'
theorem SimM.get (h : SimM K M H) {a : Addr} {ds : List D} (e : M a = some (.lst ds)) : ∃ vs, H a = some (.lst vs) ∧ Dens K H ds vs := h a _ e
theorem SimM.new (h : SimM K M H) {p : Addr} {o : HO} (e : H p = none) : SimM K M (upd H p o) := fun a u q => by
  obtain ⟨u', e1, _⟩ := (h a _ q).there
  exact (h a _ q).keep (Ext.new e) (upd_ne (ne_of_none e1 e))
theorem SimM.newL (h : SimM K M H) {p : Addr} {vs : List V} {ds : List D} (e : H p = none) (r : Dens K H ds vs) : SimM K (dupd M p (.lst ds)) (upd H p (.lst vs)) := fun a u q => by
  by_cases ha : a = p
  · subst ha
    rw [dupd_same] at q
    cases q
    exact ⟨vs, upd_same, Dens.ext (Ext.new e) r⟩
  · rw [dupd_ne ha] at q
    exact (h.new e) a u q
theorem SimM.write (h : SimM K M H) {p : Addr} {ws vs : List V} {ds : List D} (e : H p = some (.lst ws)) (r : Dens K H ds vs) : SimM K (dupd M p (.lst ds)) (upd H p (.lst vs)) := fun a u q => by
  by_cases ha : a = p
  · subst ha
    rw [dupd_same] at q
    cases q
    exact ⟨vs, upd_same, Dens.ext (Ext.lst e) r⟩
  · rw [dupd_ne ha] at q
    exact (h a _ q).keep (Ext.lst e) (upd_ne ha)
noncomputable def ddel (M : DH) (a : Addr) : DH := fun b => if b = a then none else M b
theorem SimM.del (h : SimM K M H) (a : Addr) : SimM K (ddel M a) H := fun b u q => by
  unfold ddel at q
  by_cases hb : b = a
  · rw [if_pos hb] at q; cases q
  · rw [if_neg hb] at q; exact h b u q
theorem SimM.frz (h : SimM K M H) {p : Addr} {ws : List V} {o : HO} (e : H p = some (.lst ws)) : SimM K (ddel M p) (upd H p o) := fun a u q => by
  unfold ddel at q
  by_cases ha : a = p
  · rw [if_pos ha] at q; cases q
  · rw [if_neg ha] at q
    exact (h a _ q).keep (Ext.lst e) (upd_ne ha)
end

noncomputable abbrev DK := D → DH → Prop
noncomputable abbrev DTE := DSt → DH → DK → Prop
noncomputable abbrev DTT := DSt → DH → (Bool → DH → Prop) → Prop
noncomputable abbrev DTA := DSt → DH → (List D → DH → Prop) → Prop
structure DEnds where
  nx : DSt → DH → Prop
  rt : DK
  bk : DSt → DH → Prop
  ct : DSt → DH → Prop
noncomputable abbrev DTS := DEnds → DSt → DH → Prop

noncomputable def Aft (K : PySem.W.Frag) (H : Hp) (R : DK) (Q : VK) : Prop := ∀ d M' v H', R d M' → Ext H H' → SimM K M' H' → Den K H' d v → Q v H'
noncomputable def lE (K : PySem.W.Frag) (t : DTE) : TE := fun σ H Q => ∃ ρ M R, SimS K H ρ σ ∧ SimM K M H ∧ t ρ M R ∧ Aft K H R Q
noncomputable def lT (K : PySem.W.Frag) (t : DTT) : TT := fun σ H Q => ∃ ρ M R, SimS K H ρ σ ∧ SimM K M H ∧ t ρ M R ∧ ∀ b M' H', R b M' → Ext H H' → SimM K M' H' → Q b H'
noncomputable def lA (K : PySem.W.Frag) (t : DTA) : TA := fun σ H Q => ∃ ρ M R, SimS K H ρ σ ∧ SimM K M H ∧ t ρ M R ∧ ∀ ds M' vs H', R ds M' → Ext H H' → SimM K M' H' → Dens K H' ds vs → Q vs H'
structure Fin (K : PySem.W.Frag) (H : Hp) (DD : DEnds) (D : Ends) : Prop where
  nx : ∀ ρ' M' σ' H', DD.nx ρ' M' → Ext H H' → SimS K H' ρ' σ' → SimM K M' H' → D.nx σ' H'
  rt : Aft K H DD.rt D.rt
  bk : ∀ ρ' M' σ' H', DD.bk ρ' M' → Ext H H' → SimS K H' ρ' σ' → SimM K M' H' → D.bk σ' H'
  ct : ∀ ρ' M' σ' H', DD.ct ρ' M' → Ext H H' → SimS K H' ρ' σ' → SimM K M' H' → D.ct σ' H'
noncomputable def lS (K : PySem.W.Frag) (t : DTS) : TS := fun D σ H => ∃ ρ M DD, SimS K H ρ σ ∧ SimM K M H ∧ t DD ρ M ∧ Fin K H DD D
theorem Aft.ext {K : PySem.W.Frag} {H H' : Hp} {R : DK} {Q : VK} (a : Aft K H R Q) (x : Ext H H') : Aft K H' R Q := fun d M v H'' r y => a d M v H'' r (x.trans y)
theorem Fin.ext {K : PySem.W.Frag} {H H' : Hp} {DD : DEnds} {D : Ends} (a : Fin K H DD D) (x : Ext H H') : Fin K H' DD D :=
  ⟨fun r M s H2 q y => a.nx r M s H2 q (x.trans y), a.rt.ext x, fun r M s H2 q y => a.bk r M s H2 q (x.trans y), fun r M s H2 q y => a.ct r M s H2 q (x.trans y)⟩

noncomputable abbrev DE (X : Cx) (e : Expr) (t : DTE) : Prop := PE X e (lE X.K t)
noncomputable abbrev DT (X : Cx) (e : Expr) (t : DTT) : Prop := PT X e (lT X.K t)
noncomputable abbrev DW (X : Cx) (e : Expr) (t : DTT) : Prop := PW X e (lT X.K t)
noncomputable abbrev DA (X : Cx) (es : List Expr) (t : DTA) : Prop := PA X es (lA X.K t)
noncomputable abbrev DS (X : Cx) (st : Stmt) (t : DTS) : Prop := PS X st (lS X.K t)
noncomputable abbrev DSs (X : Cx) (st : List Stmt) (t : DTS) : Prop := PSs X st (lS X.K t)
end DL

set_option Elab.async false
set_option linter.all false
set_option maxRecDepth 100000
namespace DL
open PySem PySem.Spec L2
open PyProof.Rows hiding St
section
variable {X : Cx} {a b c e : Expr} {es : List Expr} {ta tb te : DTE} {tt tu : DTT} {pos : Pos} {K : PySem.W.Frag}

noncomputable def dVar (i : Nat) : DTE := fun ρ M Q => match ρ[i]? with
  | some (some d) => Q d M
  | _ => False
noncomputable def dC (d : D) : DTE := fun _ M Q => Q d M
noncomputable abbrev DR2 := D → D → DH → DK → Prop
noncomputable def lR2 (K : PySem.W.Frag) (r : DR2) : R2 := fun x y H Q => ∃ dx dy M R, Den K H dx x ∧ Den K H dy y ∧ SimM K M H ∧ r dx dy M R ∧ Aft K H R Q
noncomputable abbrev OpD (X : Cx) (f : Value → Value → Sem Value) (r : DR2) : Prop := OpR X f (lR2 X.K r)
noncomputable def dOp (r : DR2) (ta tb : DTE) : DTE := fun ρ M Q => ta ρ M fun x M1 => tb ρ M1 fun y M2 => r x y M2 Q
noncomputable def dB (t : DTE) : DTT := fun ρ M Q => t ρ M fun x M1 => match x with
  | .bl c => Q c M1
  | _ => False
noncomputable def dAnd (t u : DTT) : DTT := fun ρ M Q => t ρ M fun c M1 => if c = true then u ρ M1 Q else Q false M1
noncomputable def dOr (t u : DTT) : DTT := fun ρ M Q => t ρ M fun c M1 => if c = true then Q true M1 else u ρ M1 Q
noncomputable def dNot (t : DTT) : DTT := fun ρ M Q => t ρ M fun c M1 => Q (!c) M1
variable {rest : List Expr}
theorem dw_and1 (ha : DT X a tt) : DW X (.BoolOp .And [a] pos) tt := pw_and1 ha
theorem dw_or1 (ha : DT X a tt) : DW X (.BoolOp .Or [a] pos) tt := pw_or1 ha
noncomputable def dAndV (ta tb : DTE) : DTE := fun ρ M Q => ta ρ M fun x M1 => match x with
  | .bl c => if c = true then tb ρ M1 Q else Q (.bl false) M1
  | _ => False
noncomputable def dOrV (ta tb : DTE) : DTE := fun ρ M Q => ta ρ M fun x M1 => match x with
  | .bl c => if c = true then Q (.bl true) M1 else tb ρ M1 Q
  | _ => False
noncomputable def dNotV (ta : DTE) : DTE := fun ρ M Q => ta ρ M fun x M1 => match x with
  | .bl c => Q (.bl (!c)) M1
  | _ => False
theorem de_one {op} (h : DE X a ta) : DE X (.BoolOp op [a] pos) ta := pe_one h
noncomputable def dIf (t : DTT) (ta tb : DTE) : DTE := fun ρ M Q => t ρ M fun c M1 => if c = true then ta ρ M1 Q else tb ρ M1 Q
noncomputable def dNil : DTA := fun _ M Q => Q [] M
noncomputable def dCons (ta : DTE) (tr : DTA) : DTA := fun ρ M Q => ta ρ M fun x M1 => tr ρ M1 fun xs M2 => Q (x :: xs) M2
variable {tr : DTA}
noncomputable def dTup (t : DTA) : DTE := fun ρ M Q => t ρ M fun xs M1 => xs.length ≤ sizeLine ∧ Q (.tup xs) M1
noncomputable def dLst (t : DTA) : DTE := fun ρ M Q => t ρ M fun xs M1 => xs.length ≤ sizeLine ∧ ∀ p, M1 p = none → Q (.ref p) (dupd M1 p (.lst xs))
noncomputable def dFrz (t : DTE) : DTE := fun ρ M Q => t ρ M fun d M1 => match d with
  | .ref a => match M1 a with
    | some (.lst ds) => Q (.lst ds) (ddel M1 a)
    | _ => False
  | _ => False
noncomputable def lC (K : PySem.W.Frag) (r : List D → DH → DK → Prop) : List V → Hp → VK → Prop := fun vs H Q => ∃ ds M R, Dens K H ds vs ∧ SimM K M H ∧ r ds M R ∧ Aft K H R Q
noncomputable abbrev CallD (X : Cx) (f : Value) (r : List D → DH → DK → Prop) : Prop := CallR X f (lC X.K r)
noncomputable def dCB (r : List D → DH → DK → Prop) (t : DTA) : DTE := fun ρ M Q => t ρ M fun ds M1 => r ds M1 Q
noncomputable abbrev DSp := List D → DH → DK → Prop
noncomputable def lSp (K : PySem.W.Frag) (sp : DSp) : Sp := fun vs H Q _ => ∃ ds M R, Dens K H ds vs ∧ SimM K M H ∧ sp ds M R ∧ Aft K H R Q
noncomputable def dCall (sp : DSp) (dds : List D) (t : DTA) : DTE := fun ρ M Q => t ρ M fun ds M1 => sp (ds ++ dds) M1 Q
end
end DL

set_option Elab.async false
set_option linter.all false
set_option maxRecDepth 100000
namespace DL
open PySem PySem.Spec L2
open PyProof.Rows hiding St
section
variable {X : Cx} {a b c e tg iter : Expr} {es : List Expr} {st : Stmt} {sts body : List Stmt} {ta tb te : DTE} {tt tu : DTT} {t u : DTS} {pos : Pos} {K : PySem.W.Frag}

noncomputable def dNext : DTS := fun D ρ M => D.nx ρ M
noncomputable def dSeq (t u : DTS) : DTS := fun D ρ M => t { D with nx := u D } ρ M
noncomputable def dBreak : DTS := fun D ρ M => D.bk ρ M
noncomputable def dCont : DTS := fun D ρ M => D.ct ρ M
noncomputable def dDrop (te : DTE) : DTS := fun D ρ M => te ρ M fun _ M1 => D.nx ρ M1
noncomputable def dRet (te : DTE) : DTS := fun D ρ M => te ρ M D.rt
noncomputable def dRetN : DTS := fun D _ M => D.rt .non M
noncomputable def dIfS (c : DTT) (t u : DTS) : DTS := fun D ρ M => c ρ M fun b M1 => if b = true then t D ρ M1 else u D ρ M1
noncomputable abbrev DTG := D → DSt → DH → (DSt → DH → Prop) → Prop
noncomputable def lG (K : PySem.W.Frag) (g : DTG) : TG := fun v σ H Q => ∃ d ρ M R, Den K H d v ∧ SimS K H ρ σ ∧ SimM K M H ∧ g d ρ M R ∧ ∀ ρ' M' σ' H', R ρ' M' → Ext H H' → SimS K H' ρ' σ' → SimM K M' H' → Q σ' H'
noncomputable abbrev DG (X : Cx) (tg : Expr) (g : DTG) : Prop := PG X tg (lG X.K g)
noncomputable def dgName (i : Nat) : DTG := fun d ρ M Q => Q (ρ.set i (some d)) M
theorem dg_name {i : Nat} {x : Str} (hN : X.N.Nodup) (hi : X.N[i]? = some x) (hx : Loc X.env.scope x) (hf : X.fn x = true ∨ X.env.scope.names.lookup x = some .local := by first | exact .inl rfl | exact .inr rfl | assumption) : DG X (.Name x pos) (dgName i) :=
  (pg_name hN hi hx hf).imp fun v σ H Q ⟨d, ρ, M, R, e, s, m, h, k⟩ => k _ M _ H h (Ext.refl H) (s.set e i) m
noncomputable abbrev DTGs := List D → DSt → DH → (DSt → DH → Prop) → Prop
noncomputable def lGs (K : PySem.W.Frag) (g : DTGs) : TGs := fun vs σ H Q => ∃ ds ρ M R, Dens K H ds vs ∧ SimS K H ρ σ ∧ SimM K M H ∧ g ds ρ M R ∧ ∀ ρ' M' σ' H', R ρ' M' → Ext H H' → SimS K H' ρ' σ' → SimM K M' H' → Q σ' H'
noncomputable abbrev DGs (X : Cx) (ts : List Expr) (g : DTGs) : Prop := PGs X ts (lGs X.K g)
theorem PGs.imp {ts : List Expr} {T T' : TGs} (h : PGs X ts T) (i : ∀ v σ H R, T' v σ H R → T v σ H R) : PGs X ts T' := fun pins s σ H v u R I r q => h pins s σ H v u R I r (i v σ H R q)
noncomputable def dgNil : DTGs := fun ds ρ M Q => match ds with
  | [] => Q ρ M
  | _ => False
noncomputable def dgCons (t : DTG) (u : DTGs) : DTGs := fun ds ρ M Q => match ds with
  | d :: r => t d ρ M fun ρ' M' => u r ρ' M' Q
  | [] => False
noncomputable def dgTup (n : Nat) (t : DTGs) : DTG := fun d ρ M Q => match d with
  | .tup ds => ds.length = n ∧ t ds ρ M Q
  | _ => False
noncomputable def dAsg (te : DTE) (g : DTG) : DTS := fun D ρ M => te ρ M fun x M1 => g x ρ M1 D.nx
noncomputable def dSet (i : Nat) (te : DTE) : DTS := fun D ρ M => te ρ M fun x M1 => D.nx (ρ.set i (some x)) M1
structure Yields (K : PySem.W.Frag) (J : It) (items : List D) (Cd : DH → Prop) (H : Hp) : Prop where
  go : ∀ i H' M, Ext H H' → SimM K M H' → Cd M → i < items.length → J.go i H'
  yld : ∀ i H' M x H'', Ext H H' → SimM K M H' → Cd M → J.yld i H' x H'' → i < items.length → Ext H' H'' ∧ SimM K M H'' ∧ ∃ d, items[i]? = some d ∧ Den K H'' d x
  stop : ∀ i H' M, Ext H H' → SimM K M H' → Cd M → items.length ≤ i → J.stop i H'
noncomputable abbrev DTI := DSt → DH → (List D → (DH → Prop) → DH → Prop) → Prop
noncomputable def lI (K : PySem.W.Frag) (wi : DTI) : TI := fun σ H R => ∃ ρ M RD, SimS K H ρ σ ∧ SimM K M H ∧ wi ρ M RD ∧ ∀ items Cd M' H' J, RD items Cd M' → Ext H H' → SimM K M' H' → Yields K J items Cd H' → R J H'
noncomputable abbrev DI (X : Cx) (tg iter : Expr) (wi : DTI) : Prop := PI X tg iter (lI X.K wi)
noncomputable def dLoop (g : DTG) (tb : DTS) (DD : DEnds) (Cd : DH → Prop) : List D → DSt → DH → Prop
  | [], ρ, M => Cd M ∧ DD.nx ρ M
  | d :: ds, ρ, M => Cd M ∧ g d ρ M fun ρ' M' => tb { DD with nx := dLoop g tb DD Cd ds, ct := dLoop g tb DD Cd ds, bk := DD.nx } ρ' M'
noncomputable def dFor (wi : DTI) (g : DTG) (tb : DTS) : DTS := fun DD ρ M => wi ρ M fun items Cd M1 => dLoop g tb DD Cd items ρ M1
noncomputable def dCLoop (fr : DSt) (unp : D → Option (List D)) (tc : DTT) (te : DTE) (Cd : DH → Prop) (Q : List D → DH → Prop) : List D → List D → DH → Prop
  | [], ys, M => Cd M ∧ Q ys M
  | d :: ds, ys, M => Cd M ∧ match unp d with
    | some us => tc (us.map some ++ fr) M fun b M3 =>
      if b = true then te (us.map some ++ fr) M3 fun z M4 => ys.length < sizeLine ∧ dCLoop fr unp tc te Cd Q ds (ys ++ [z]) M4 else dCLoop fr unp tc te Cd Q ds ys M3
    | none => False
noncomputable def dComp (wi : DTI) (ix : List Nat) (unp : D → Option (List D)) (tc : DTT) (te : DTE) : DTE := fun ρ M Q => wi ρ M fun items Cd M1 =>
  dCLoop (ix.map fun i => (ρ[i]?).getD none) unp tc te Cd (fun ys M2 => ys.length ≤ sizeLine ∧ ∀ a, M2 a = none → Q (.ref a) (dupd M2 a (.lst ys))) items [] M1
structure Unp (K : PySem.W.Frag) (k : Nat) (unp : D → Option (List D)) (gV : TG) : Prop where
  len : ∀ d us, unp d = some us → us.length = k
  to : ∀ d v us frV H Q, Den K H d v → unp d = some us → (∀ ws, Dens K H us ws → Q (ws.map some ++ frV) H) → gV v (List.replicate k none ++ frV) H Q
noncomputable def unpair : D → Option (List D)
  | .tup [a, b] => some [a, b]
  | _ => none
section
variable {scope : Scope} {N fn : List Str} {k : Nat} {ix : List Nat} {elt : Expr} {ifs : List Expr} {wi : DTI} {unp : D → Option (List D)} {gV : TG} {tc : DTT}
noncomputable abbrev DIfs (X : Cx) (ifs : List Expr) (t : DTT) : Prop := PIfs X ifs (lT X.K t)
noncomputable def dTrue : DTT := fun _ M Q => Q true M
theorem difs_one (h : DT X c tc) : DIfs X [c] tc := pifs_one h
end

theorem Yields.tup {a : Addr} {ds : List D} {vs : List V} {H : Hp} {Cd : DH → Prop} (q : SqT K H a vs) (r : Dens K H ds vs) : Yields K (Itt K a) ds Cd H where
  go := fun i H' M x m c hi => by
    have hi' : i < vs.length := by rw [← r.length]; exact hi
    exact ⟨vs, vs[i], SqT.ext x q, List.getElem?_eq_getElem hi'⟩
  yld := fun i H' M y H'' x m c ⟨e, h⟩ hi => by
    subst e
    obtain ⟨d, e1, e2⟩ := r.get' (h vs (SqT.ext x q))
    exact ⟨Ext.refl _, m, d, e1, e2.ext x⟩
  stop := fun i H' M x m c hi => ⟨vs, SqT.ext x q, by rw [← r.length]; exact hi⟩
theorem Yields.fz {a : Addr} {ds : List D} {vs : List V} {H : Hp} {Cd : DH → Prop} (q : FzL K H a vs) (r : Dens K H ds vs) : Yields K (Itl K a) ds Cd H where
  go := fun i H' M x m c hi => by
    have hi' : i < vs.length := by rw [← r.length]; exact hi
    exact ⟨vs, vs[i], (FzL.ext x q).sq, List.getElem?_eq_getElem hi'⟩
  yld := fun i H' M y H'' x m c ⟨e, h⟩ hi => by
    subst e
    obtain ⟨d, e1, e2⟩ := r.get' (h vs (FzL.ext x q).sq)
    exact ⟨Ext.refl _, m, d, e1, e2.ext x⟩
  stop := fun i H' M x m c hi => ⟨vs, (FzL.ext x q).sq, by rw [← r.length]; exact hi⟩
theorem Yields.mut {a : Addr} {ds : List D} {H : Hp} : Yields K (Itl K a) ds (fun M => M a = some (.lst ds)) H where
  go := fun i H' M x m c hi => by
    obtain ⟨vs, e, r⟩ := m.get c
    have hi' : i < vs.length := by rw [← r.length]; exact hi
    exact ⟨vs, vs[i], .of e, List.getElem?_eq_getElem hi'⟩
  yld := fun i H' M y H'' x m c ⟨e, h⟩ hi => by
    subst e
    obtain ⟨vs, e, r⟩ := m.get c
    obtain ⟨d, e1, e2⟩ := r.get' (h vs (.of e))
    exact ⟨Ext.refl _, m, d, e1, e2⟩
  stop := fun i H' M x m c hi => by
    obtain ⟨vs, e, r⟩ := m.get c
    exact ⟨vs, .of e, by rw [← r.length]; exact hi⟩
noncomputable def rngD (lo : Int) (n : Nat) : List D := (List.range n).map fun (i : Nat) => D.int (lo + (i : Int))
theorem Yields.rng {lo : Int} {n : Nat} {H : Hp} {Cd : DH → Prop} : Yields K (Itr lo n) (rngD lo n) Cd H where
  go := fun i H' M x m c hi => by
    show i < n
    simpa [rngD] using hi
  yld := fun i H' M y H'' x m c ⟨e, h⟩ hi => by
    subst e h
    have hi' : i < n := by simpa [rngD] using hi
    exact ⟨Ext.refl _, m, .int (lo + i), by simp [rngD, hi'], .int _⟩
  stop := fun i H' M x m c hi => by
    have : (rngD lo n).length = n := by simp [rngD]
    rw [this] at hi
    exact hi
noncomputable def diSeq (tl : DTE) : DTI := fun ρ M R => tl ρ M fun d M1 => match d with
  | .tup ds => R ds (fun _ => True) M1
  | .lst ds => R ds (fun _ => True) M1
  | .ref a => match M1 a with
    | some (.lst ds) => R ds (fun M => M a = some (.lst ds)) M1
    | _ => False
  | _ => False
noncomputable def diRng1 (ta : DTA) : DTI := fun ρ M R => ta ρ M fun ds M1 => match ds with
  | [.int j] => -(2 ^ 62) ≤ j ∧ j < 2 ^ 62 ∧ R (rngD 0 j.toNat) (fun _ => True) M1
  | _ => False
noncomputable def diRng2 (ta : DTA) : DTI := fun ρ M R => ta ρ M fun ds M1 => match ds with
  | [.int i, .int j] => (-(2 ^ 62) ≤ i ∧ i < 2 ^ 62 ∧ -(2 ^ 62) ≤ j ∧ j < 2 ^ 62) ∧ R (rngD i (j - i).toNat) (fun _ => True) M1
  | _ => False
end

noncomputable def dends (R : DK) : DEnds := { nx := fun _ M' => R .non M', rt := R, bk := fun _ _ => False, ct := fun _ _ => False }
noncomputable def dstart (N : List Str) (ds : List D) : DSt := ds.map some ++ List.replicate (N.length - ds.length) none
noncomputable def dLaw (n : Nat) : DSp := fun ds M R => match ds with
  | [.lst ds] => ∃ ns : List Int, ds = ns.map D.int ∧ ns.length ≤ n ∧ R (.bl true) M
  | _ => False
end DL

set_option Elab.async false
set_option linter.all false
set_option maxRecDepth 100000
namespace DL
open PySem PySem.Spec L2
open PyProof.Rows hiding St
section
variable {X : Cx} {a b c e : Expr} {es : List Expr} {ta tb te : DTE} {tt tu : DTT} {pos : Pos} {K : PySem.W.Frag}
noncomputable abbrev cpOk (x : List Nat) : Prop := (x.all fun c => decide (c < 1114112)) = true
theorem cpOk.app {x y : List Nat} (h : cpOk x) (h' : cpOk y) : cpOk (x ++ y) := by
  show ((x ++ y).all _) = true
  rw [List.all_append, h, h']; rfl
theorem cpOk.sub {x y : List Nat} (h : cpOk x) (hs : ∀ c ∈ y, c ∈ x) : cpOk y := List.all_eq_true.mpr fun c hc => (List.all_eq_true.mp h) c (hs c hc)
theorem S_append (x y : List Nat) : S x ++ S y = S (x ++ y) := by
  show Str.append (S x) (S y) = S (x ++ y)
  unfold Str.append S
  simp
theorem S_length (x : List Nat) : (S x).length = x.length := by unfold S Str.length; simp
theorem S_inj {x y : List Nat} (h : S x = S y) : x = y := by
  unfold S at h
  have := congrArg (fun z : Str => z.cps.toList) h
  simpa using this
theorem S_toList (x : List Nat) : (S x).cps.toList = x := by unfold S; simp
noncomputable def rI2 (C : Int → Int → Prop) (g : Int → Int → Int) : DR2 := fun x y M Q => match x, y with
  | .int i, .int j => C i j ∧ Q (.int (g i j)) M
  | _, _ => False
theorem opI2 {f : Value → Value → Sem Value} {C : Int → Int → Prop} {g : Int → Int → Int} (h : OpR X f (rI C fun i j => .int (g i j))) : OpD X f (rI2 C g) := by
  intro pins s σ H x y v u Q I rx ry ⟨dx, dy, M, R, ex, ey, m, q, k⟩
  cases ex <;> cases ey <;> first | exact False.elim q | skip
  exact h pins s σ H _ _ v u Q I rx ry ⟨_, _, rfl, rfl, q.1, k _ M _ H q.2 (Ext.refl H) m (.int _)⟩
theorem rI_of0 {f : Value → Value → Sem Value} {g : Int → Int → V} (h : OpR X f (rI0 g)) : OpR X f (rI (fun _ _ => True) g) := h.imp fun x y H Q ⟨i, j, e1, e2, _, q⟩ => ⟨i, j, e1, e2, q⟩
theorem od_sub : OpD X (binaryOp .Sub) (rI2 (fun _ _ => True) fun i j => i - j) := opI2 (rI_of0 op_sub)
theorem od_mul : OpD X (binaryOp .Mult) (rI2 CMul fun i j => i * j) := opI2 op_mul
theorem od_fdiv : OpD X (binaryOp .FloorDiv) (rI2 CDiv fun i j => i / j) := opI2 op_fdiv
theorem od_mod : OpD X (binaryOp .Mod) (rI2 (fun _ j => 0 < j) fun i j => i % j) := opI2 op_mod
theorem od_pow : OpD X (binaryOp .Pow) (rI2 CPow fun i j => i ^ j.toNat) := opI2 op_pow
noncomputable def rAddD : DR2 := fun x y M Q => match x, y with
  | .int i, .int j => Q (.int (i + j)) M
  | .str a, .str b => a.length + b.length ≤ sizeLine ∧ Q (.str (a ++ b)) M
  | .tup xs, .tup ys => xs.length + ys.length ≤ sizeLine ∧ Q (.tup (xs ++ ys)) M
  | _, _ => False
theorem add_tup {s : Shared} {A : Around} {prog : Program} {w : World} {E : Value → Shared → Prop} {t b : Addr} {vs ws : List Value} {Q : Value → Shared → Prop} (ht : IsTup s.heap t vs.toArray) (hb : IsTup s.heap b ws.toArray)
    (h0 : vs = [] → Q (.ref b) s) (h1 : ws = [] → Q (.ref t) s) (h2 : Q (.ref s.heap.objs.size) { s with heap := s.heap.push { cls := .type "tuple", data := .seq (vs ++ ws).toArray } })
    (hsz : vs.length + ws.length ≤ sizeLine) : wpAny (model prog w) A (binaryOp .Add (.ref t) (.ref b)) Q E s := by
  obtain ⟨⟨cls, dd, data, sl⟩, ho, hc, n, hd⟩ := id ht
  obtain ⟨⟨cls2, dd2, data2, sl2⟩, ho2, hc2, n2, hd2⟩ := id hb
  simp only at hc hd hc2 hd2
  subst hc hd hc2 hd2
  have e : vs.toArray ++ ws.toArray = (vs ++ ws).toArray := by simp
  by_cases hv : vs = []
  · exact concat_meets ⟨_, ho, rfl⟩ ⟨_, ho2, rfl⟩ noFill_tuple_add seq_tuple_add PySem.F.slot_tuple_add PySem.F.entry_tuple_add (PySem.F.args_tuple_add_2 _ _)
      (tuple_addW0 t b vs.toArray ws.toArray n n2 dd dd2 sl sl2 (by simp [hv])) ⟨ho, ho2, h0 hv⟩
  · by_cases hw : ws = []
    · exact concat_meets ⟨_, ho, rfl⟩ ⟨_, ho2, rfl⟩ noFill_tuple_add seq_tuple_add PySem.F.slot_tuple_add PySem.F.entry_tuple_add (PySem.F.args_tuple_add_2 _ _)
        (tuple_addW1 t b vs.toArray ws.toArray n n2 dd dd2 sl sl2 (by simpa using hv) (by simp [hw])) ⟨ho, ho2, h1 hw⟩
    · refine concat_meets ⟨_, ho, rfl⟩ ⟨_, ho2, rfl⟩ noFill_tuple_add seq_tuple_add PySem.F.slot_tuple_add PySem.F.entry_tuple_add (PySem.F.args_tuple_add_2 _ _)
        (tuple_addW2 t b vs.toArray ws.toArray n n2 dd dd2 sl sl2 (by simpa using hv) (by simpa using hw) (by rw [List.size_toArray, List.size_toArray]; exact hsz)) ⟨ho, ho2, ?_⟩
      rw [e]
      exact h2
theorem od_add : OpD X (binaryOp .Add) rAddD := by
  intro pins s σ H x y v u Q I rx ry ⟨dx, dy, M, R, ex, ey, m, q, k⟩
  cases ex with
  | int i => cases ey <;> first | exact False.elim q | skip
             exact op_add pins s σ H _ _ v u Q I rx ry ⟨_, _, rfl, rfl, k _ M _ H q (Ext.refl H) m (.int _)⟩
  | str i hi => cases ey <;> first | exact False.elim q | skip
                rename_i j hj
                exact op_add_str pins s σ H _ _ v u Q I rx ry ⟨_, _, rfl, rfl, by rw [S_length, S_length]; exact q.1, k _ M _ H q.2 (Ext.refl H) m (by rw [S_append]; exact .str _ (cpOk.app hi hj))⟩
  | tup qx dx => cases ey <;> first | exact False.elim q | skip
                 rename_i ds vs b es ws qy dy
                 cases rx
                 cases ry
                 obtain ⟨its, r1, p1, z1⟩ := I.tuple (.of qx)
                 obtain ⟨jts, r2, p2, z2⟩ := I.tuple (.of qy)
                 have l1 := dx.length
                 have l2 := dy.length
                 have l3 := r1.length
                 have l4 := r2.length
                 refine add_tup p1 p2 (fun e => ?_) (fun e => ?_) ?_ (by rw [← l3, ← l4, ← l1, ← l2]; exact q.1)
                 · subst e
                   cases r1
                   cases dx
                   exact ⟨.ref b, H, I, rfl, k _ M _ H q.2 (Ext.refl H) m (.tup qy dy)⟩
                 · subst e
                   cases r2
                   cases dy
                   refine ⟨.ref _, H, I, rfl, k _ M _ H q.2 (Ext.refl H) m ?_⟩
                   rw [List.append_nil]
                   exact .tup qx dx
                 · have hn := I.fresh
                   refine ⟨.ref s.heap.objs.size, _, I.laid (t' := s.toks) (o := .tup (vs ++ ws)) (fun b ob q => Heap.get?_push_of_some _ q) (Nat.le_refl _) ⟨?_, _, r1.append r2, IsTup.new _ _⟩, rfl, k _ M _ _ q.2 (Ext.new hn) (m.new hn) (.tup upd_same ((dx.append dy).ext (Ext.new hn)))⟩
                   rw [List.length_append, ← l1, ← l2]
                   exact q.1
  | _ => exact False.elim q

mutual
noncomputable def toPy : D → PyData
  | .non => .none
  | .bl b => .bool b
  | .int i => .int i
  | .str x => .str (S x)
  | .tup xs => .tuple (toPys xs)
  | .lst xs => .list (toPys xs)
  | .ref _ => .none
noncomputable def toPys : List D → List PyData
  | [] => []
  | x :: r => toPy x :: toPys r
end
noncomputable def plain : Nat → D → Bool
  | _, .non => true
  | _, .int _ => true
  | _, .str _ => true
  | n + 1, .tup xs => xs.all (plain n)
  | n + 1, .lst xs => xs.all (plain n)
  | _, _ => false
theorem plain_lay {K : PySem.W.Frag} {H : Hp} : ∀ (n : Nat) (d : D) (v : V), plain n d = true → Den K H d v → (toPy d).canLay0 = true ∧ (toPy d).depth ≤ n := by
  have all : ∀ (n : Nat), (∀ d v, plain n d = true → Den K H d v → (toPy d).canLay0 = true ∧ (toPy d).depth ≤ n) → ∀ (ds : List D) (vs : List V), ds.all (plain n) = true → Dens K H ds vs → PyData.canLayAll0 (toPys ds) = true ∧ PyData.depthAll (toPys ds) ≤ n := by
    intro n ih ds
    induction ds with
    | nil => intro vs _ _; simp [toPys, PyData.canLayAll0, PyData.depthAll]
    | cons d ds hi =>
      intro vs h r
      cases r with
      | cons r1 r2 =>
        rw [List.all_cons, Bool.and_eq_true] at h
        have h1 := ih d _ h.1 r1
        have h2 := hi _ h.2 r2
        simp only [toPys, PyData.canLayAll0, PyData.depthAll, h1.1, h2.1, Bool.and_self, true_and]
        have a1 := h1.2
        have a2 := h2.2
        omega
  intro n
  induction n with
  | zero =>
    intro d v h r
    cases r with
    | str x hx => simp [toPy, PyData.canLay0, PyData.depth, PyData.strOk, S]; simpa using hx
    | _ => simp_all [plain, toPy, PyData.canLay0, PyData.depth]
  | succ n ih =>
    intro d v h r
    cases r with
    | str x hx => simp [toPy, PyData.canLay0, PyData.depth, PyData.strOk, S]; simpa using hx
    | tup q r =>
      have q := all n ih _ _ (by simpa [plain] using h) r
      have q2 := q.2
      simp only [toPy, PyData.canLay0, PyData.depth, q.1, true_and]
      omega
    | lst q r =>
      have q := all n ih _ _ (by simpa [plain] using h) r
      have q2 := q.2
      simp only [toPy, PyData.canLay0, PyData.depth, q.1, true_and]
      omega
    | _ => simp_all [plain, toPy, PyData.canLay0, PyData.depth]
theorem plain_eqv : ∀ (n : Nat) (d e : D) (k : Nat), plain n d = true → plain k e = true → (PyData.eqv (toPy d) (toPy e) = true ↔ d = e) := by
  have all : ∀ (n : Nat), (∀ d e k, plain n d = true → plain k e = true → (PyData.eqv (toPy d) (toPy e) = true ↔ d = e)) → ∀ (k : Nat) (ds es : List D), ds.all (plain n) = true → es.all (plain k) = true →
      (PyData.eqvAll (toPys ds) (toPys es) = true ↔ ds = es) := by
    intro n ih k ds
    induction ds with
    | nil => intro es _ _; cases es <;> simp [toPys, PyData.eqvAll]
    | cons d ds hi =>
      intro es h1 h2
      cases es with
      | nil => simp [toPys, PyData.eqvAll]
      | cons e es =>
        rw [List.all_cons, Bool.and_eq_true] at h1 h2
        have q1 := ih d e k h1.1 h2.1
        have q2 := hi es h1.2 h2.2
        simp only [toPys, PyData.eqvAll, Bool.and_eq_true, q1, q2, List.cons.injEq]
  have st : ∀ x y : List Nat, (S x == S y) = true ↔ x = y := fun x y => ⟨fun h => S_inj (by simpa using h), fun h => by simp [h]⟩
  intro n
  induction n with
  | zero =>
    intro d e k h1 h2
    cases d <;> cases e <;> cases k <;> simp_all [plain, toPy, PyData.eqv]
  | succ n ih =>
    intro d e k h1 h2
    cases d with
    | tup ds =>
      cases e with
      | tup es =>
        cases k with
        | zero => simp [plain] at h2
        | succ k =>
          simp only [toPy, PyData.eqv, D.tup.injEq]
          exact all n ih k ds es (by simpa [plain] using h1) (by simpa [plain] using h2)
      | _ => clear ih all; cases k <;> simp_all [plain, toPy, PyData.eqv]
    | lst ds =>
      cases e with
      | lst es =>
        cases k with
        | zero => simp [plain] at h2
        | succ k =>
          simp only [toPy, PyData.eqv, D.lst.injEq]
          exact all n ih k ds es (by simpa [plain] using h1) (by simpa [plain] using h2)
      | _ => clear ih all; cases k <;> simp_all [plain, toPy, PyData.eqv]
    | non => clear ih all; cases e <;> cases k <;> simp_all [plain, toPy, PyData.eqv]
    | bl b => simp [plain] at h1
    | int i => clear ih all; cases e <;> cases k <;> simp_all [plain, toPy, PyData.eqv]
    | str x => clear ih all; cases e <;> cases k <;> simp_all [plain, toPy, PyData.eqv]
    | ref a => simp [plain] at h1
theorem plain_reads {pins : List (Addr × Obj)} {σ : St} {H : Hp} {s : Shared} (I : Inv X pins σ H s) : ∀ (n : Nat) (d : D) (v : V) (u : Value), plain n d = true → Den X.K H d v → L2.RelV v u → ∃ as, Reads s.heap u (toPy d) as := by
  have all : ∀ (n : Nat), (∀ d v u, plain n d = true → Den X.K H d v → L2.RelV v u → ∃ as, Reads s.heap u (toPy d) as) → ∀ (ds : List D) (vs : List V) (us : List Value), ds.all (plain n) = true → Dens X.K H ds vs → Vals vs us → ∃ as, ReadsAll s.heap us (toPys ds) as := by
    intro n ih ds
    induction ds with
    | nil => intro vs us _ r q; cases r; cases q; exact ⟨_, .nil⟩
    | cons d ds hi =>
      intro vs us h r q
      rw [List.all_cons, Bool.and_eq_true] at h
      cases r with
      | cons r1 r2 =>
        cases q with
        | cons q1 q2 =>
          obtain ⟨as, h1⟩ := ih d _ _ h.1 r1 q1
          obtain ⟨bs, h2⟩ := hi _ _ h.2 r2 q2
          exact ⟨_, .cons h1 h2⟩
  have base : ∀ n d v u, plain n d = true → Den X.K H d v → L2.RelV v u → (∀ ds, d ≠ .tup ds) → (∀ ds, d ≠ .lst ds) → ∃ as, Reads s.heap u (toPy d) as := by
    intro n d v u h r q n1 n2
    cases r with
    | non => cases q; exact ⟨_, .none⟩
    | bl b => cases q; exact ⟨_, .bool b⟩
    | int i => obtain ⟨t, rfl⟩ := q; exact ⟨_, .int i t⟩
    | str x hx => obtain ⟨t, rfl⟩ := q; exact ⟨_, .str _ t⟩
    | tup _ _ => exact absurd rfl (n1 _)
    | lst _ _ => exact absurd rfl (n2 _)
    | ref a => cases n <;> simp [plain] at h
  intro n
  induction n with
  | zero =>
    intro d v u h r q
    exact base 0 d v u h r q (fun ds e => by subst e; simp [plain] at h) (fun ds e => by subst e; simp [plain] at h)
  | succ n ih =>
    intro d v u h r q
    cases r with
    | tup sq r =>
      obtain ⟨its, rv, ⟨o, ho, hc, k, hd⟩, z⟩ := I.tuple (.of sq)
      cases q
      obtain ⟨as, ra⟩ := all n ih _ _ _ (by simpa [plain] using h) r rv
      exact ⟨_, .tuple ho hc hd (by simpa using ra)⟩
    | lst sq r =>
      obtain ⟨its, rv, ⟨o, k, ho, hc, hdd, hd⟩, z⟩ := I.list sq.sq
      cases q
      obtain ⟨as, ra⟩ := all n ih _ _ _ (by simpa [plain] using h) r rv
      exact ⟨_, .list ho hc hd (by simpa using ra)⟩
    | non => exact base _ _ _ _ h .non q (fun ds e => nomatch e) (fun ds e => nomatch e)
    | bl b => exact base _ _ _ _ h (.bl b) q (fun ds e => nomatch e) (fun ds e => nomatch e)
    | int i => exact base _ _ _ _ h (.int i) q (fun ds e => nomatch e) (fun ds e => nomatch e)
    | str x hx => exact base _ _ _ _ h (.str x hx) q (fun ds e => nomatch e) (fun ds e => nomatch e)
    | ref a => simp [plain] at h
noncomputable def res (M : DH) : D → D
  | .ref a => match M a with
    | some (.lst ds) => .lst ds
    | _ => .ref a
  | d => d
open Classical in
noncomputable def eqB (x y : D) : Bool := decide (x = y)
open Classical in
theorem eqB_iff (x y : D) : eqB x y = true ↔ x = y := by unfold eqB; exact decide_eq_true_iff
open Classical in
theorem eqB_not (x y : D) : eqB x y = false ↔ ¬ x = y := by unfold eqB; exact decide_eq_false_iff_not
theorem eqB_str (x y : List Nat) : eqB (.str x) (.str y) = decide (x = y) := by
  by_cases h : x = y
  · rw [decide_eq_true h, (eqB_iff _ _).mpr (by rw [h])]
  · rw [decide_eq_false h, (eqB_not _ _).mpr (fun e => h (D.str.inj e))]
theorem eqB_int (x y : Int) : eqB (.int x) (.int y) = decide (x = y) := by
  by_cases h : x = y
  · rw [decide_eq_true h, (eqB_iff _ _).mpr (by rw [h])]
  · rw [decide_eq_false h, (eqB_not _ _).mpr (fun e => h (D.int.inj e))]
noncomputable def rEqN (f : Bool → Bool) : DR2 := fun x y M Q => match x, y with
  | .bl a, .bl b => Q (.bl (f (a == b))) M
  | x, y => plain 12 (res M x) = true ∧ plain 12 (res M y) = true ∧ Q (.bl (f (eqB (res M x) (res M y)))) M
theorem res_reads {pins : List (Addr × Obj)} {σ : St} {H : Hp} {s : Shared} {M : DH} (I : Inv X pins σ H s) (m : SimM X.K M H) {n : Nat} {d : D} {v : V} {u : Value} (h : plain n (res M d) = true) (e : Den X.K H d v) (r : L2.RelV v u) :
    (∃ as, Reads s.heap u (toPy (res M d)) as) ∧ (toPy (res M d)).canLay0 = true ∧ (toPy (res M d)).depth ≤ n := by
  by_cases hr : ∃ a, d = .ref a
  · obtain ⟨a, rfl⟩ := hr
    cases e
    cases q : M a with
    | none => simp only [res, q] at h; cases n <;> simp [plain] at h
    | some o =>
      cases o with
      | oth _ => simp only [res, q] at h; cases n <;> simp [plain] at h
      | lst ds =>
        simp only [res, q] at h ⊢
        cases n with
        | zero => simp [plain] at h
        | succ n =>
          obtain ⟨vs, e1, e2⟩ := m.get q
          -- as if it were finished
          obtain ⟨o, I2⟩ := I.frozen e1
          have x := Ext.lst (o := .frz o (.lst vs)) e1
          have den : Den X.K (upd H a (.frz o (.lst vs))) (.lst ds) (.ref a) := .lst (.inl ⟨o, upd_same⟩) (e2.ext x)
          exact ⟨plain_reads I2 _ _ _ _ h den r, plain_lay _ _ _ h den⟩
  · have e2 : res M d = d := by cases d <;> first | rfl | exact absurd ⟨_, rfl⟩ hr
    rw [e2] at h ⊢
    exact ⟨plain_reads I _ _ _ _ h e r, plain_lay _ _ _ h e⟩
theorem bEq (x y : D) (n k : Nat) (h1 : plain n x = true) (h2 : plain k y = true) : PyData.eqv (toPy x) (toPy y) = eqB x y := by
  have h := plain_eqv n x y k h1 h2
  cases q : eqB x y with
  | true => exact h.mpr ((eqB_iff x y).mp q)
  | false =>
    cases q2 : PyData.eqv (toPy x) (toPy y) with
    | false => rfl
    | true => exact absurd (h.mp q2) ((eqB_not x y).mp q)
theorem od_eqn {op : CmpOp} {f : Bool → Bool} (hu : X.A.units + 64 < cLine)
    (r1 : ∀ {a b : Value} {da db : PyData} {as bs : List Addr} {Q : Value → Shared → Prop} {s : Shared} (ra : Reads s.heap a da as) (rb : Reads s.heap b db bs) (ha : SeqAt.shaped da = true) (hb : SeqAt.shaped db = true), Q (.bool (f (PyData.eqv da db))) s → wpAny (model X.prog X.w) X.A (compareOp op a b) Q X.xe s) : OpD X (compareOp op) (rEqN f) := by
  intro pins s σ H x y v u Q I rx ry ⟨dx, dy, M, R, ex, ey, m, q, k⟩
  by_cases hb : (∃ a, dx = .bl a) ∧ ∃ b, dy = .bl b
  · obtain ⟨⟨a, rfl⟩, ⟨b, rfl⟩⟩ := hb
    cases ex
    cases ey
    cases rx
    cases ry
    refine r1 (Reads.bool a) (Reads.bool b) rfl rfl ⟨.bl (f (a == b)), H, I, ?_, k _ M _ H q (Ext.refl H) m (.bl _)⟩
    simp [PyData.eqv, L2.RelV]
  · have q' : plain 12 (res M dx) = true ∧ plain 12 (res M dy) = true ∧ R (.bl (f (eqB (res M dx) (res M dy)))) M := by
      unfold rEqN at q
      split at q
      · exact absurd ⟨⟨_, rfl⟩, ⟨_, rfl⟩⟩ hb
      · exact q
    obtain ⟨h1, h2, q⟩ := q'
    obtain ⟨⟨as, ra⟩, c1, d1⟩ := res_reads I m h1 ex rx
    obtain ⟨⟨bs, rb⟩, c2, d2⟩ := res_reads I m h2 ey ry
    have sh : ∀ d : PyData, d.canLay0 = true → d.depth ≤ 12 → SeqAt.shaped d = true := fun d h1 h2 => by
      unfold SeqAt.shaped
      rw [h1, Bool.true_and]
      exact decide_eq_true (by omega)
    refine r1 ra rb (sh _ c1 d1) (sh _ c2 d2) ?_
    rw [bEq _ _ _ _ h1 h2]
    exact ⟨.bl _, H, I, rfl, k _ M _ H q (Ext.refl H) m (.bl _)⟩
theorem od_eq (hu : X.A.units + 64 < cLine) : OpD X (compareOp .Eq) (rEqN id) := od_eqn hu fun ra rb ha hb h => SeqAt.compareEq_shaped ra rb ha hb hu h
theorem od_ne (hu : X.A.units + 64 < cLine) : OpD X (compareOp .NotEq) (rEqN not) := od_eqn hu fun ra rb ha hb h => SeqAt.compareNe_shaped ra rb ha hb hu h
end
end DL

set_option Elab.async false
set_option linter.all false
set_option maxRecDepth 100000
namespace DL
open PySem PySem.Spec L2
open PyProof.Rows hiding St
noncomputable def cut {α : Type} (xs : List α) (lo hi : Option Int) : List α := (xs.drop (HT.sIx xs.length 0 lo)).take (HT.sIx xs.length xs.length hi - HT.sIx xs.length 0 lo)
section
variable {X : Cx} {a b c e : Expr} {es : List Expr} {ta tb te : DTE} {tt tu : DTT} {pos p2 : Pos} {K : PySem.W.Frag}
noncomputable abbrev DTO := DSt → DH → (Option Int → DH → Prop) → Prop
noncomputable def lO (K : PySem.W.Frag) (t : DTO) : TO := fun σ H Q => ∃ ρ M R, SimS K H ρ σ ∧ SimM K M H ∧ t ρ M R ∧ ∀ o M' H', R o M' → Ext H H' → SimM K M' H' → Q o H'
noncomputable abbrev DO (X : Cx) (e : Option Expr) (t : DTO) : Prop := PO X e (lO X.K t)
theorem PO.imp {e : Option Expr} {T T' : TO} (h : PO X e T) (i : ∀ σ H Q, T' σ H Q → T σ H Q) : PO X e T' := fun pins s σ H Q I q => h pins s σ H Q I (i σ H Q q)
noncomputable def doNone : DTO := fun _ M Q => Q none M
noncomputable def doSome (t : DTE) : DTO := fun ρ M Q => t ρ M fun x M1 => match x with
  | .int i => Q (some i) M1
  | _ => False
theorem do_some (h : DE X e te) : DO X (some e) (doSome te) := PO.imp (po_some h) fun σ H Q ⟨ρ, M, R, s, m, h, k⟩ => ⟨ρ, M, _, s, m, h, fun d M1 v H1 h1 x1 m1 e1 => by
  cases e1 <;> first | exact False.elim h1 | exact ⟨_, rfl, k _ M1 H1 h1 x1 m1⟩⟩
noncomputable def rSlD : D → Option Int → Option Int → DH → DK → Prop := fun x lo hi M Q => match x with
  | .str z => z.length ≤ sizeLine ∧ Q (.str (cut z lo hi)) M
  | .tup xs => Q (.tup (cut xs lo hi)) M
  | .lst xs => ∀ p, M p = none → Q (.ref p) (dupd M p (.lst (cut xs lo hi)))
  | .ref a => match M a with
    | some (.lst xs) => ∀ p, M p = none → Q (.ref p) (dupd M p (.lst (cut xs lo hi)))
    | _ => False
  | _ => False
noncomputable def lSl (K : PySem.W.Frag) (r : D → Option Int → Option Int → DH → DK → Prop) : V → Option Int → Option Int → Hp → VK → Prop := fun x lo hi H Q => ∃ d M R, Den K H d x ∧ SimM K M H ∧ r d lo hi M R ∧ Aft K H R Q
theorem Dens.cut {K : PySem.W.Frag} {H : Hp} {ds : List D} {vs : List V} (h : Dens K H ds vs) (lo hi : Option Int) : Dens K H (DL.cut ds lo hi) (cutV vs lo hi) := by
  unfold DL.cut cutV
  rw [h.length]
  exact (h.drop _).take _
noncomputable def dSl (te : DTE) (tl th : DTO) : DTE := fun ρ M Q => te ρ M fun x M1 => tl ρ M1 fun l M2 => th ρ M2 fun u M3 => rSlD x l u M3 Q
noncomputable def rIxD : DR2 := fun x y M Q => match x, y with
  | .str z, .int i => match atI z i with
    | some c => z.length ≤ sizeLine ∧ Q (.str [c]) M
    | none => False
  | .tup xs, .int i => match atI xs i with
    | some d => Q d M
    | none => False
  | .lst xs, .int i => match atI xs i with
    | some d => Q d M
    | none => False
  | .ref a, .int i => match M a with
    | some (.lst xs) => match atI xs i with
      | some d => Q d M
      | none => False
    | _ => False
  | _, _ => False
theorem Dens.atI {K : PySem.W.Frag} {H : Hp} {ds : List D} {vs : List V} {i : Int} {d : D} (h : Dens K H ds vs) (e : L2.atI ds i = some d) : ∃ v, L2.atI vs i = some v ∧ Den K H d v := by
  unfold L2.atI at e ⊢
  rw [h.length] at e
  cases q : ixN vs.length i with
  | none => rw [q] at e; cases e
  | some j =>
    rw [q] at e
    obtain ⟨v, e1, e2⟩ := h.get (i := j) (d := d) e
    exact ⟨v, e1, e2⟩
noncomputable def rLtD (f : Int → Int → Bool) : DR2 := fun x y M Q => match x, y with
  | .int i, .int j => Q (.bl (f i j)) M
  | _, _ => False
theorem opB2 {op : CmpOp} {f : Int → Int → Bool} (h : OpR X (compareOp op) (rI0 fun i j => .bl (f i j))) : OpD X (compareOp op) (rLtD f) := by
  intro pins s σ H x y v u Q I rx ry ⟨dx, dy, M, R, ex, ey, m, q, k⟩
  cases ex <;> cases ey <;> first | exact False.elim q | skip
  exact h pins s σ H _ _ v u Q I rx ry ⟨_, _, rfl, rfl, k _ M _ H q (Ext.refl H) m (.bl _)⟩
theorem od_lt : OpD X (compareOp .Lt) (rLtD fun i j => decide (i < j)) := opB2 op_lt
theorem od_le : OpD X (compareOp .LtE) (rLtD fun i j => decide (i ≤ j)) := opB2 op_le
theorem od_gt : OpD X (compareOp .Gt) (rLtD fun i j => decide (j < i)) := opB2 op_gt
theorem od_ge : OpD X (compareOp .GtE) (rLtD fun i j => decide (j ≤ i)) := opB2 op_ge
noncomputable def rLtS : DR2 := fun x y M Q => match x, y with
  | .str i, .str j => Q (.bl (decide (i < j))) M
  | _, _ => False
theorem od_lt_str : OpD X (compareOp .Lt) rLtS := by
  intro pins s σ H x y v u Q I rx ry ⟨dx, dy, M, R, ex, ey, m, q, k⟩
  cases ex <;> cases ey <;> first | exact False.elim q | skip
  refine op_lt_str pins s σ H _ _ v u Q I rx ry ⟨_, _, rfl, rfl, k _ M _ H ?_ (Ext.refl H) m (.bl _)⟩
  rw [S_toList, S_toList]
  exact q
noncomputable def isNon : D → Bool
  | .non => true
  | _ => false
noncomputable def rIsN (f : Bool → Bool) : DR2 := fun x y M Q => match y with
  | .non => Q (.bl (f (isNon x))) M
  | _ => False
theorem od_isN : OpD X (compareOp .Is) (rIsN id) := by
  intro pins s σ H x y v u Q I rx ry ⟨dx, dy, M, R, ex, ey, m, q, k⟩
  cases ey <;> first | exact False.elim q | skip
  refine op_isN pins s σ H _ _ v u Q I rx ry ⟨rfl, ?_⟩
  have : decide (x = V.non) = isNon dx := by cases ex <;> rfl
  rw [this]
  exact k _ M _ H q (Ext.refl H) m (.bl _)
theorem od_notN : OpD X (compareOp .IsNot) (rIsN not) := by
  intro pins s σ H x y v u Q I rx ry ⟨dx, dy, M, R, ex, ey, m, q, k⟩
  cases ey <;> first | exact False.elim q | skip
  refine op_notN pins s σ H _ _ v u Q I rx ry ⟨rfl, ?_⟩
  have : decide (x = V.non) = isNon dx := by cases ex <;> rfl
  rw [this]
  exact k _ M _ H q (Ext.refl H) m (.bl _)
noncomputable def dChain (r r' : DR2) (ta tb tc : DTE) : DTE := fun ρ M Q => ta ρ M fun x M1 => tb ρ M1 fun y M2 => r x y M2 fun z M3 => match z with
  | .bl k => if k = true then tc ρ M3 fun z' M4 => r' y z' M4 Q else Q (.bl false) M3
  | _ => False
end
end DL

set_option Elab.async false
set_option linter.all false
set_option maxRecDepth 100000
namespace DL
open PySem PySem.Spec L2
open PyProof.Rows hiding St
section
variable {X : Cx} {a b c e : Expr} {es : List Expr} {ta tb te : DTE} {tt tu : DTT} {pos p2 : Pos} {K : PySem.W.Frag}
inductive Ty where
  | non | bool | int | str | tuple | list
  deriving DecidableEq
noncomputable def Ty.nm : Ty → String
  | .non => "NoneType" | .bool => "bool" | .int => "int" | .str => "str" | .tuple => "tuple" | .list => "list"
noncomputable def Ty.sub : Ty → Ty → Bool
  | .bool, .int => true
  | a, b => decide (a = b)
noncomputable def tyD : D → Ty
  | .non => .non | .bl _ => .bool | .int _ => .int | .str _ => .str | .tup _ => .tuple | .lst _ => .list | .ref _ => .list
noncomputable def dIsI (T : Ty) (te : DTE) : DTE := fun ρ M Q => te ρ M fun d M1 => match d with
  | .ref a => match M1 a with
    | some (.lst _) => Q (.bl (Ty.sub .list T)) M1
    | _ => False
  | d => Q (.bl ((tyD d).sub T)) M1
noncomputable def rLen1 : D → DH → DK → Prop := fun d M Q => match d with
  | .str z => z.length ≤ sizeLine ∧ Q (.int z.length) M
  | .tup xs => Q (.int xs.length) M
  | .lst xs => Q (.int xs.length) M
  | .ref a => match M a with
    | some (.lst xs) => Q (.int xs.length) M
    | _ => False
  | _ => False
noncomputable def rLen : List D → DH → DK → Prop := fun ds M Q => match ds with
  | [d] => rLen1 d M Q
  | _ => False
noncomputable def seqOf (M : DH) : D → Option (List D)
  | .tup xs => some xs
  | .lst xs => some xs
  | .ref a => match M a with
    | some (.lst xs) => some xs
    | _ => none
  | _ => none
noncomputable def rTuple : List D → DH → DK → Prop := fun ds M Q => match ds with
  | [d] => match seqOf M d with
    | some xs => Q (.tup xs) M
    | none => False
  | _ => False
noncomputable def rList : List D → DH → DK → Prop := fun ds M Q => match ds with
  | [d] => match seqOf M d with
    | some xs => ∀ p, M p = none → Q (.ref p) (dupd M p (.lst xs))
    | none => False
  | _ => False
theorem seq_sq {M : DH} {H : Hp} {d : D} {v : V} {xs : List D} (m : SimM K M H) (den : Den K H d v) (e : seqOf M d = some xs) : ∃ p vs, v = .ref p ∧ (SqL K H p vs ∨ SqT K H p vs) ∧ Dens K H xs vs ∧ (SqL K H p vs ∨ H p = some (.tup vs)) := by
  cases den with
  | tup sq d => cases e; exact ⟨_, _, rfl, .inr (.of sq), d, .inr sq⟩
  | lst sq d => cases e; exact ⟨_, _, rfl, .inl sq.sq, d, .inl sq.sq⟩
  | ref p =>
    cases qa : M p with
    | none => simp [seqOf, qa] at e
    | some o =>
      cases o with
      | oth _ => simp [seqOf, qa] at e
      | lst ds =>
        simp [seqOf, qa] at e
        subst e
        obtain ⟨vs, e2, d⟩ := m.get qa
        exact ⟨_, _, rfl, .inl (.of e2), d, .inl (.of e2)⟩
  | _ => simp [seqOf] at e
noncomputable def rMin : List D → DH → DK → Prop := fun ds M Q => match ds with
  | [.int i, .int j] => Q (.int (if j < i then j else i)) M
  | _ => False
noncomputable def rMax : List D → DH → DK → Prop := fun ds M Q => match ds with
  | [.int i, .int j] => Q (.int (if j > i then j else i)) M
  | _ => False
noncomputable def rOrd1 : D → DH → DK → Prop := fun d M Q => match d with
  | .str z => match z with
    | [c] => Q (.int (c : Nat)) M
    | _ => False
  | _ => False
noncomputable def rOrd : List D → DH → DK → Prop := fun ds M Q => match ds with
  | [d] => rOrd1 d M Q
  | _ => False
noncomputable def lM (K : PySem.W.Frag) (r : D → List D → DH → DK → Prop) : V → List V → Hp → VK → Prop := fun x vs H Q => ∃ d ds M R, Den K H d x ∧ Dens K H ds vs ∧ SimM K M H ∧ r d ds M R ∧ Aft K H R Q
noncomputable abbrev MtD (X : Cx) (id : String) (r : D → List D → DH → DK → Prop) : Prop := MtR X id (lM X.K r)
noncomputable def dMS (r : D → List D → DH → DK → Prop) (to : DTE) (t : DTA) : DTE := fun ρ M Q => to ρ M fun d M1 => match d with
  | .str z => t ρ M1 fun ds M2 => r (.str z) ds M2 Q
  | _ => False
noncomputable def dML (r : D → List D → DH → DK → Prop) (to : DTE) (t : DTA) : DTE := fun ρ M Q => to ρ M fun d M1 => match d with
  | .ref a => match M1 a with
    | some (.lst _) => t ρ M1 fun ds M2 => r (.ref a) ds M2 Q
    | _ => False
  | _ => False
noncomputable def mAppend : D → List D → DH → DK → Prop := fun d ds M Q => match d, ds with
  | .ref a, [y] => match M a with
    | some (.lst xs) => xs.length < sizeLine ∧ Q .non (dupd M a (.lst (xs ++ [y])))
    | _ => False
  | _, _ => False
noncomputable def mReverse : D → List D → DH → DK → Prop := fun d ds M Q => match d, ds with
  | .ref a, [] => match M a with
    | some (.lst xs) => Q .non (dupd M a (.lst xs.reverse))
    | _ => False
  | _, _ => False
end
end DL

set_option Elab.async false
set_option linter.all false
set_option maxRecDepth 100000
namespace DL
open PySem PySem.Spec L2
open PyProof.Rows hiding St
section
variable {X : Cx} {a b c e : Expr} {es : List Expr} {ta tb te : DTE} {tt tu : DTT} {pos p2 : Pos} {K : PySem.W.Frag}
noncomputable def mIndex : D → List D → DH → DK → Prop := fun d ds M Q => match d, ds with
  | .str z, [.str y] => match y with
    | [c] => c ∈ z ∧ ∀ i : Nat, z[i]? = some c → (∀ j, j < i → ¬ z[j]? = some c) → Q (.int i) M
    | _ => False
  | _, _ => False
noncomputable def tFzS (T : TS) : TS := fun D σ H => T { D with nx := fun σ' H' => ∃ a xs, H' a = some (.lst xs) ∧ ∀ o, D.nx σ' (upd H' a (.frz o (.lst xs))) } σ H
noncomputable def dFzS (i : Nat) (t : DTS) : DTS := fun DD ρ M => t { DD with nx := fun ρ' M' => match ρ'[i]? with
  | some (some (.ref a)) => match M' a with
    | some (.lst ds) => DD.nx (ρ'.set i (some (.lst ds))) (ddel M' a)
    | _ => False
  | _ => False } ρ M
end
end DL

set_option Elab.async false
set_option linter.all false
set_option maxRecDepth 100000
namespace DL
open PySem PySem.Spec L2
open PyProof.Rows hiding St
noncomputable def Sub (M M' : DH) : Prop := ∀ a o, M a = some o → M' a = some o
theorem Sub.refl (M : DH) : Sub M M := fun _ _ e => e
theorem Sub.trans {M M1 M2 : DH} (a : Sub M M1) (b : Sub M1 M2) : Sub M M2 := fun c o e => b c o (a c o e)
theorem Sub.new {M : DH} {p : Addr} {o : MO} (h : M p = none) : Sub M (dupd M p o) := fun a u e => by rw [dupd_ne (dne e h)]; exact e
theorem Sub.none {M M' : DH} (s : Sub M M') {p : Addr} (h : M' p = Option.none) : M p = Option.none := by
  cases e : M p with
  | none => rfl
  | some o => rw [s p o e] at h; cases h
theorem SimM.sub {K : PySem.W.Frag} {H : Hp} {M M' : DH} (h : SimM K M' H) (s : Sub M M') : SimM K M H := fun a o e => h a o (s a o e)

section
variable {X : Cx} {a b c e tg iter : Expr} {es : List Expr} {st : Stmt} {sts body : List Stmt} {ta tb te : DTE} {tt tu : DTT} {t u : DTS} {pos : Pos} {K : PySem.W.Frag}
noncomputable def dCompZ (wi : DTI) (ix : List Nat) (unp : D → Option (List D)) (tc : DTT) (te : DTE) : DTE := fun ρ M Q => wi ρ M fun items Cd M1 =>
  dCLoop (ix.map fun i => (ρ[i]?).getD none) unp tc te Cd (fun ys M2 => ys.length ≤ sizeLine ∧ Q (.lst ys) M2) items [] M1
section
variable {scope : Scope} {N fn : List Str} {k : Nat} {ix : List Nat} {elt : Expr} {ifs : List Expr} {wi : DTI} {unp : D → Option (List D)} {gV : TG} {tc : DTT}
end
noncomputable def dNeg (te : DTE) : DTE := fun ρ M Q => te ρ M fun x M1 => match x with
  | .int i => Q (.int (-i)) M1
  | _ => False
noncomputable def dLstZ (t : DTA) : DTE := fun ρ M Q => t ρ M fun xs M1 => xs.length ≤ sizeLine ∧ Q (.lst xs) M1
noncomputable def dends' (R : DK) : DEnds := { nx := fun _ M' => ∃ M0, Sub M0 M' ∧ R .non M0, rt := fun d M' => ∃ M0, Sub M0 M' ∧ R d M0, bk := fun _ _ => False, ct := fun _ _ => False }
end
end DL

set_option Elab.async false
set_option linter.all false
set_option maxRecDepth 100000
namespace DL
open PySem PySem.Spec L2
open PyProof.Rows hiding St
section
variable {X : Cx} {a b c e tg : Expr} {es : List Expr} {ta tb te : DTE} {tt tu : DTT} {pos p2 : Pos} {K : PySem.W.Frag}
noncomputable def Its (z : List Nat) : It := ⟨fun i _ => i < z.length, fun i H x H' => H' = H ∧ ∃ c, z[i]? = some c ∧ x = .str (S [c]), fun i _ => z.length ≤ i⟩
theorem S_size (z : List Nat) : (S z).cps.size = z.length := by unfold S; simp
theorem S_get (z : List Nat) (i : Nat) : (S z).cps[i]? = z[i]? := by unfold S; simp
theorem turn_str {P : Program} {w : World} {z : List Nat} {t : Tok} {it : Addr} {ty : String} (hty : ty = "str_ascii_iterator" ∨ ty = "str_iterator") : Turn P w K tg (Its z) [it] it (fun i h => h.IsStrIter it ty (S z) t i) where
  mem := by simp
  obj := fun i h st b hb => by
    have e : b = it := by simpa using hb
    subst e
    obtain ⟨o, e, c, d⟩ := st
    exact ⟨o, e, fun v q => by rw [d] at q; cases q⟩
  keep := fun i h h' st k => by
    obtain ⟨o, e, r⟩ := st
    exact ⟨o, k it (by simp) o e, r⟩
  item := by
    intro X hP hw hK hc i pins s σ H E I hf st hg
    subst hP hw
    obtain ⟨f0, f1, f2, f3, f4, f5⟩ := hf it (by simp)
    have hlt : i < (S z).cps.size := by rw [S_size]; exact hg
    have fin : ∀ v h' tk, SignAt (S z) i v → h'.IsStrIter it ty (S z) t (i + 1) → (∀ b o, b ∉ [it] → s.heap.get? b = some o → h'.get? b = some o) → ∃ u, some v = some u ∧
        wpAny (model X.prog X.w) X.A (letOwnedTupleGo tg (.ref it) u) (fun _ s2 => ∃ x H', Inv X pins σ H' s2 ∧ L2.RelV x u ∧ (Its z).yld i H x H' ∧ s2.heap.IsStrIter it ty (S z) t (i + 1) ∧ ∀ b ∈ [it], H' b = none) E { s with heap := h', toks := tk } := by
      rintro v h' tk ⟨c, u, hcu, rfl⟩ st' kk
      have I1 : Inv X pins σ H { s with heap := h', toks := tk } := I.turned (fun b o hb e => kk b o (by simpa using hb) e) f0 f1 f3 f4 f5
      obtain ⟨o, e, cl, d⟩ := id st'
      refine ⟨_, rfl, go_of (s := { s with heap := h', toks := tk }) (n := ty) e cl d (by rcases hty with rfl | rfl <;> decide) ⟨.str (S [c]), H, I1, ⟨u, rfl⟩, ⟨rfl, c, by rw [← S_get]; exact hcu, rfl⟩, st', fun b hb => (hf b hb).1⟩⟩
    rcases hty with rfl | rfl
    · exact (Walks.strAscii (prog := X.prog) (w := X.w) (I.ok.hd hc) it (S z) t).item i s _ _ hlt st fun v h' tk hv st' kk => fin v h' tk hv st' kk
    · exact (Walks.strWide (prog := X.prog) (w := X.w) (I.ok.hd hc) it (S z) t).item i s _ _ hlt st fun v h' tk hv st' kk => fin v h' tk hv st' kk
  done := by
    intro X hP hw hK hc i pins s σ H E I hf st hg
    subst hP hw
    obtain ⟨f0, f1, f2, f3, f4, f5⟩ := hf it (by simp)
    have hx : (S z).cps[i]? = none := by rw [S_get]; exact List.getElem?_eq_none_iff.mpr hg
    rcases hty with rfl | rfl
    · exact wpAny_pyNext_ascii_end (I.ok.hd hc) st hx fun h' eb => ⟨rfl, I.turned (t' := s.toks) (fun b o hb e => eb b o hb e) f0 f1 f3 f4 f5⟩
    · exact wpAny_pyNext_wide_end (I.ok.hd hc) st hx fun h' eb => ⟨rfl, I.turned (t' := s.toks) (fun b o hb e => eb b o hb e) f0 f1 f3 f4 f5⟩
  self := fun _ _ _ _ _ st h => by
    rcases hty with rfl | rfl
    · exact wpAny_pyIter_striter_ascii st h
    · exact wpAny_pyIter_striter_wide st h
theorem Yields.str {z : List Nat} {H : Hp} {Cd : DH → Prop} (hz : cpOk z) : Yields K (Its z) (z.map fun c => D.str [c]) Cd H where
  go := fun i H' M x m c hi => by simpa [Its] using hi
  yld := fun i H' M y H'' x m c ⟨e, ch, h1, h2⟩ hi => by
    subst e h2
    refine ⟨Ext.refl _, m, .str [ch], by rw [List.getElem?_map, h1]; rfl, .str [ch] (cpOk.sub hz fun c' hc => ?_)⟩
    rw [List.mem_singleton.mp hc]
    exact List.mem_of_getElem? h1
  stop := fun i H' M x m c hi => by simpa [Its] using hi
noncomputable def diAny (tl : DTE) : DTI := fun ρ M R => tl ρ M fun d M1 => match d with
  | .tup ds => R ds (fun _ => True) M1
  | .lst ds => R ds (fun _ => True) M1
  | .str z => R (z.map fun c => D.str [c]) (fun _ => True) M1
  | .ref a => match M1 a with
    | some (.lst ds) => R ds (fun M => M a = some (.lst ds)) M1
    | _ => False
  | _ => False
theorem di_any {l : Expr} {tl : DTE} (hl : DE X l tl) : DI X tg l (diAny tl) := by
  intro pins s σ H R I ⟨ρ, M, RD, sm, m, h, k⟩
  have q0 : tl ρ M (fun d M1 => match d with
    | .tup ds => RD ds (fun _ => True) M1
    | .lst ds => RD ds (fun _ => True) M1
    | .str z => RD (z.map fun c => D.str [c]) (fun _ => True) M1
    | .ref a => match M1 a with
      | some (.lst ds) => RD ds (fun M => M a = some (.lst ds)) M1
      | _ => False
    | _ => False) := h
  refine thn (hl pins s σ H (fun v H1 => ∃ d M1, Ext H H1 ∧ SimM X.K M1 H1 ∧ Den X.K H1 d v ∧ (match d with
    | .tup ds => RD ds (fun _ => True) M1
    | .lst ds => RD ds (fun _ => True) M1
    | .str z => RD (z.map fun c => D.str [c]) (fun _ => True) M1
    | .ref a => match M1 a with
      | some (.lst ds) => RD ds (fun M => M a = some (.lst ds)) M1
      | _ => False
    | _ => False)) I ⟨ρ, M, _, sm, m, q0, fun d M1 v H1 h1 x1 m1 e1 => ⟨d, M1, x1, m1, e1, h1⟩⟩) fun u s1 ⟨v, H1, I1, r1, d, M1, x1, m1, e1, h1⟩ => ?_
  have viaL : ∀ {a : Addr} {vs : List V} (_ : v = .ref a) (_ : SqL X.K H1 a vs) {items : List D} {Cd : DH → Prop}, RD items Cd M1 → Yields X.K (Itl X.K a) items Cd H1 →
      wpAny (model X.prog X.w) X.A (pyIter u) (PIE X pins σ tg R) X.xe s1 := fun {a vs} ev hq {items Cd} q Y => by
    subst ev
    cases r1
    obtain ⟨its, rv, p, hz⟩ := I1.list hq
    refine wpAny_pyIter_list p.isList ?_
    refine ⟨s1.heap.objs.size, [s1.heap.objs.size], _, _, H1, rfl, I1.kept (t' := s1.toks) fun b o e => Heap.get?_push_of_some _ e, turn_list a _, ⟨_, Heap.get?_push_size _ rfl, rfl, rfl⟩, fun b hb => ?_, k items Cd M1 H1 _ q x1 m1 Y⟩
    have e : b = s1.heap.objs.size := by simpa using hb
    subst e
    exact I1.fpOk (Nat.le_refl _) (I1.hok.fresh (Nat.le_refl _))
  cases e1 with
  | tup q0 r =>
    have q := SqT.of (K := X.K) q0
    cases r1
    obtain ⟨its, rv, p, hz⟩ := I1.tuple q
    refine wpAny_pyIter_tuple (show s1.heap.IsTuple _ its.toArray from p) ?_
    refine ⟨s1.heap.objs.size, [s1.heap.objs.size], _, _, H1, rfl, I1.kept (t' := s1.toks) fun b o e => Heap.get?_push_of_some _ e, turn_tuple _ _, ⟨_, Heap.get?_push_size _ rfl, rfl, rfl⟩, fun b hb => ?_, k _ _ M1 H1 _ h1 x1 m1 (Yields.tup q r)⟩
    have e : b = s1.heap.objs.size := by simpa using hb
    subst e
    exact I1.fpOk (Nat.le_refl _) (I1.hok.fresh (Nat.le_refl _))
  | lst q r => exact viaL rfl q.sq h1 (Yields.fz q r)
  | str z hz =>
    obtain ⟨t, rfl⟩ := r1
    have go : ∀ (ty : String), ty = "str_ascii_iterator" ∨ ty = "str_iterator" → PIE X pins σ tg R (.ref s1.heap.objs.size) { s1 with heap := s1.heap.push { cls := .type ty, data := .fields #[.str (S z) t, .int 0 0] } } := fun ty hty => by
      refine ⟨s1.heap.objs.size, [s1.heap.objs.size], _, _, H1, rfl, I1.kept (t' := s1.toks) fun b o e => Heap.get?_push_of_some _ e, turn_str (z := z) (t := t) hty, ⟨_, Heap.get?_push_size _ rfl, rfl, rfl⟩, fun b hb => ?_, k _ _ M1 H1 _ h1 x1 m1 (Yields.str hz)⟩
      have e : b = s1.heap.objs.size := by simpa using hb
      subst e
      exact I1.fpOk (Nat.le_refl _) (I1.hok.fresh (Nat.le_refl _))
    cases ha : (S z).cps.all (· < 128)
    · exact wpAny_pyIter_wide ha (go _ (.inr rfl))
    · exact wpAny_pyIter_ascii ha (go _ (.inl rfl))
  | ref a =>
    cases qa : M1 a with
    | none => simp only [qa] at h1
    | some o =>
      cases o with
      | oth _ => simp only [qa] at h1
      | lst ds =>
        simp only [qa] at h1
        obtain ⟨vs, e2, _⟩ := m1.get qa
        exact viaL rfl (.of e2) h1 Yields.mut
  | _ => exact h1.elim

noncomputable def strip2 (l r : Bool) (y x : List Nat) : List Nat :=
  let lo := if l then (x.takeWhile fun c => y.contains c).length else 0
  let hi := if r then x.length - ((x.drop lo).reverse.takeWhile fun c => y.contains c).length else x.length
  (x.drop lo).take (hi - lo)
noncomputable def m1S (C : List Nat → List Nat → Prop) (f : List Nat → List Nat → D) : D → List D → DH → DK → Prop := fun d ds M Q => match d, ds with
  | .str z, [.str y] => C z y ∧ Q (f z y) M
  | _, _ => False
noncomputable def mFind : D → List D → DH → DK → Prop := fun d ds M Q => match d, ds with
  | .str z, [.str y] => match y with
    | [c] => (∀ i : Nat, z[i]? = some c → (∀ j, j < i → ¬ z[j]? = some c) → Q (.int i) M) ∧ (c ∉ z → Q (.int (-1)) M)
    | _ => False
  | _, _ => False
noncomputable def joinL (s : List Nat) : List (List Nat) → List Nat
  | [] => []
  | [w] => w
  | w :: v :: r => w ++ s ++ joinL s (v :: r)
noncomputable def weight (s : List Nat) (ws : List (List Nat)) : Nat := ws.foldl (fun n w => n + w.length + s.length) 0
noncomputable def mJoin : D → List D → DH → DK → Prop := fun d ds M Q => match d, ds with
  | .str s, [l] => ∃ ws : List (List Nat), seqOf M l = some (ws.map D.str) ∧ (∀ xs, l ≠ .tup xs) ∧ weight s ws ≤ 16000000 ∧ Q (.str (joinL s ws)) M
  | _, _ => False
end
end DL

set_option Elab.async false
set_option linter.all false
set_option maxRecDepth 100000
namespace DL
open PySem PySem.Spec L2
open PyProof.Rows hiding St
section
variable {X : Cx} {a b c e tg : Expr} {es : List Expr} {ta tb te : DTE} {tt tu : DTT} {pos p2 : Pos} {K : PySem.W.Frag}
noncomputable def digs (m : Nat) : List Nat := (Nat.toDigits 10 m).map Char.toNat
noncomputable def rStr : List D → DH → DK → Prop := fun ds M Q => match ds with
  | [.int i] => 0 ≤ i ∧ i.natAbs.log2 < 1920 ∧ Q (.str (digs i.toNat)) M
  | _ => False
noncomputable def rInt : List D → DH → DK → Prop := fun ds M Q => match ds with
  | [d] => match d with
    | .str z => z ≠ [] ∧ (∀ c ∈ z, 48 ≤ c ∧ c ≤ 57) ∧ z.length ≤ 640 ∧ Q (.int (NumText.digitsVal z : Nat)) M
    | .int i => Q (.int i) M
    | .bl b => Q (.int (if b then 1 else 0)) M
    | _ => False
  | _ => False
noncomputable def boolOf : D → Bool
  | .bl b => b
  | _ => false
noncomputable def rAll (any : Bool) : List D → DH → DK → Prop := fun ds M Q => match ds with
  | [d] => ∃ bs : List Bool, seqOf M d = some (bs.map D.bl) ∧ (∀ xs, d ≠ .tup xs) ∧ Q (.bl (if any then bs.any id else bs.all id)) M
  | _ => False
noncomputable def rIn1 (f : Bool → Bool) : DR2 := fun x y M Q => match y with
  | .str z => match x with
    | .str w => match w with
      | [c] => Q (.bl (f (decide (c ∈ z)))) M
      | _ => False
    | _ => False
  | y => ∃ xs, seqOf M y = some xs ∧ plain 11 (res M x) = true ∧ xs.all (plain 11) = true ∧ Q (.bl (f (xs.any fun d => eqB d (res M x)))) M
open Classical in
theorem in_seq {pins : List (Addr × Obj)} {σ : St} {H : Hp} {s : Shared} {M : DH} (I : Inv X pins σ H s) (m : SimM X.K M H) (hu : X.A.units + 64 < cLine) {x : D} {vx : V} {ux : Value} (hx : plain 11 (res M x) = true) (ex : Den X.K H x vx) (rx : L2.RelV vx ux)
    {xs : List D} {vs : List V} {its : List Value} (hp : xs.all (plain 11) = true) (dn : Dens X.K H xs vs) (rv : Vals vs its) :
    ∃ e : Value → Bool, (∀ y ∈ its, SeqAt.EqAt X.A.in1 s y ux (e y)) ∧ its.any e = xs.any fun d => eqB d (res M x) := by
  obtain ⟨⟨as, ra⟩, c1, d1⟩ := res_reads I m hx ex rx
  refine ⟨fun y => decide (∃ da bs, Reads s.heap y da bs ∧ PyData.eqv da (toPy (res M x)) = true), ?_, ?_⟩
  · intro y hy
    have : ∃ d v, d ∈ xs ∧ Den X.K H d v ∧ L2.RelV v y := by
      clear hp
      induction xs generalizing vs its with
      | nil => cases dn; cases rv; cases hy
      | cons d0 xs ih =>
        cases dn with
        | cons a t =>
          cases rv with
          | cons r1 r2 =>
            rcases List.mem_cons.mp hy with rfl | hy
            · exact ⟨_, _, List.mem_cons_self, a, r1⟩
            · obtain ⟨d, v, h1, h2⟩ := ih t r2 hy
              exact ⟨d, v, List.mem_cons_of_mem _ h1, h2⟩
    obtain ⟨d, v, hd, den, rr⟩ := this
    have pd : plain 11 d = true := (List.all_eq_true.mp hp) d hd
    obtain ⟨bs, rb⟩ := plain_reads I 11 d v y pd den rr
    obtain ⟨c2, d2⟩ := plain_lay 11 d v pd den
    have h := SeqAt.eqAt_reads (toPy d) (toPy (res M x)) X.A.in1 s y ux bs as rb ra c2 c1 (by
      have : X.A.in1.units ≤ X.A.units + 1 := by simp [Around.in1]
      have h2 : min (toPy d).depth (toPy (res M x)).depth ≤ 11 := Nat.le_trans (Nat.min_le_left _ _) d2
      omega)
    have e : decide (∃ da bs, Reads s.heap y da bs ∧ PyData.eqv da (toPy (res M x)) = true) = PyData.eqv (toPy d) (toPy (res M x)) := by
      cases hq : PyData.eqv (toPy d) (toPy (res M x)) with
      | true => exact decide_eq_true ⟨_, _, rb, hq⟩
      | false =>
        refine decide_eq_false ?_
        rintro ⟨da, cs, r, he⟩
        have := (Reads.unique rb _ _ r).1
        rw [← this, hq] at he
        cases he
    show SeqAt.EqAt X.A.in1 s y ux (decide (∃ da bs, Reads s.heap y da bs ∧ PyData.eqv da (toPy (res M x)) = true))
    rw [e]
    exact h
  · induction xs generalizing vs its with
    | nil => cases dn; cases rv; rfl
    | cons d xs ih =>
      cases dn with
      | cons a t =>
        cases rv with
        | cons r1 r2 =>
          rw [List.all_cons, Bool.and_eq_true] at hp
          rw [List.any_cons, List.any_cons, ih hp.2 t r2]
          congr 1
          obtain ⟨bs, rb⟩ := plain_reads I 11 _ _ _ hp.1 a r1
          have be := bEq _ (res M x) 11 11 hp.1 hx
          rw [← be]
          cases hq : PyData.eqv (toPy d) (toPy (res M x)) with
          | true => exact decide_eq_true ⟨_, _, rb, hq⟩
          | false =>
            refine decide_eq_false ?_
            rintro ⟨da, cs, r, he⟩
            have := (Reads.unique rb _ _ r).1
            rw [← this, hq] at he
            cases he
theorem od_inG {op : CmpOp} {f : Bool → Bool} (hu : X.A.units + 64 < cLine)
    (hS : ∀ {z : List Nat} {c : Nat} {t u : Tok} {s : Shared} {Q : Value → Shared → Prop}, Q (.bool (f (decide (c ∈ z)))) s → wpAny (model X.prog X.w) X.A (compareOp op (.str (S [c]) t) (.str (S z) u)) Q X.xe s)
    (hL : ∀ {l : Addr} {items : Array Value} {x : Value} {s : Shared} {Q : Value → Shared → Prop} (e : Value → Bool), s.heap.IsList l items → (∀ y, y ∈ items → SeqAt.EqAt X.A.in1 s y x (e y)) → Q (.bool (f (items.any e))) s → wpAny (model X.prog X.w) X.A (compareOp op x (.ref l)) Q X.xe s)
    (hT : ∀ {l : Addr} {items : Array Value} {x : Value} {s : Shared} {Q : Value → Shared → Prop} (e : Value → Bool), s.heap.IsTuple l items → (∀ y, y ∈ items → SeqAt.EqAt X.A.in1 s y x (e y)) → Q (.bool (f (items.any e))) s → wpAny (model X.prog X.w) X.A (compareOp op x (.ref l)) Q X.xe s) : OpD X (compareOp op) (rIn1 f) := by
  intro pins s σ H x y v u Q I rx ry ⟨dx, dy, M, R, ex, ey, m, q, k⟩
  by_cases hz : ∃ z, dy = .str z
  · obtain ⟨z, rfl⟩ := hz
    cases ey
    cases ex <;> first | exact False.elim q | skip
    rename_i hz w hw
    match w, hw, q, rx with
    | [c], hw, q, rx =>
      obtain ⟨t, rfl⟩ := rx
      obtain ⟨t', rfl⟩ := ry
      exact hS ⟨.bl _, H, I, rfl, k _ M _ H q (Ext.refl H) m (.bl _)⟩
  · have q' : ∃ xs, seqOf M dy = some xs ∧ plain 11 (res M dx) = true ∧ xs.all (plain 11) = true ∧ R (.bl (f (xs.any fun d => eqB d (res M dx)))) M := by
      unfold rIn1 at q
      split at q
      · exact absurd ⟨_, rfl⟩ hz
      · exact q
    obtain ⟨xs, e1, h1, h2, q⟩ := q'
    obtain ⟨p, vs, rfl, sq, d, _⟩ := seq_sq m ey e1
    cases ry
    rcases sq with sq | sq
    · obtain ⟨its, rv, pl, hzz⟩ := I.list sq
      obtain ⟨e, h3, h4⟩ := in_seq I m hu h1 ex rx h2 d rv
      refine hL e pl.isList (fun y hy => h3 y (by simpa using hy)) ⟨.bl _, H, I, rfl, k _ M _ H ?_ (Ext.refl H) m (.bl _)⟩
      rw [show its.toArray.any e = its.any e by simp, h4]
      exact q
    · obtain ⟨its, rv, pl, hzz⟩ := I.tuple sq
      obtain ⟨e, h3, h4⟩ := in_seq I m hu h1 ex rx h2 d rv
      refine hT e pl (fun y hy => h3 y (by simpa using hy)) ⟨.bl _, H, I, rfl, k _ M _ H ?_ (Ext.refl H) m (.bl _)⟩
      rw [show its.toArray.any e = its.any e by simp, h4]
      exact q
theorem od_in (hu : X.A.units + 64 < cLine) : OpD X (compareOp .In) (rIn1 id) := by
  refine od_inG hu (fun {z c t u s Q} h => ?_) (fun e h1 h2 h3 => SeqAt.in_listAt e h1 h2 h3) (fun e h1 h2 h3 => SeqAt.in_tupleAt e h1 h2 h3)
  refine in_str ?_
  have := StrLaws.found_one (S z) c
  rw [S_toList] at this
  have e : S [c] = ⟨#[c]⟩ := rfl
  rw [e, this]
  exact h
theorem od_notin (hu : X.A.units + 64 < cLine) : OpD X (compareOp .NotIn) (rIn1 not) := by
  refine od_inG hu (fun {z c t u s Q} h => ?_) (fun e h1 h2 h3 => SeqAt.notIn_listAt e h1 h2 h3) (fun e h1 h2 h3 => SeqAt.notIn_tupleAt e h1 h2 h3)
  refine notIn_str ?_
  have := StrLaws.found_one (S z) c
  rw [S_toList] at this
  have e : S [c] = ⟨#[c]⟩ := rfl
  rw [e, this]
  exact h
end
end DL

set_option Elab.async false
set_option linter.all false
set_option maxRecDepth 100000
namespace DL
open PySem PySem.Spec L2
open PyProof.Rows hiding St
open AutoSeq1 (wpAny_loadPart')
noncomputable def rvObj (t : Addr) (i : Int) : Obj := { cls := .type "reversed", data := .fields #[.ref t, rawInt i] }
section
variable {prog : Program} {w : World} {A : Around} {E : Value → Shared → Prop} {s : Shared}
noncomputable def IsRv (h : Heap) (a t : Addr) (i : Int) : Prop := ∃ o, h.get? a = some o ∧ o.cls = .type "reversed" ∧ o.data = .fields #[.ref t, rawInt i]
end
theorem IsRv.at {h h' : Heap} {a t : Addr} {i : Int} (x : IsRv h a t i) (e : ∀ o, h.get? a = some o → h'.get? a = some o) : IsRv h' a t i := let ⟨o, ho, r⟩ := x; ⟨o, e _ ho, r⟩
end DL

set_option Elab.async false
set_option linter.all false
set_option maxRecDepth 100000
namespace DL
open PySem PySem.Spec L2
open PyProof.Rows hiding St
section
variable {prog : Program} {w : World} {A : Around} {E : Value → Shared → Prop} {s : Shared}
end
end DL

set_option Elab.async false
set_option linter.all false
set_option maxRecDepth 100000
namespace DL
open PySem PySem.Spec L2
open PyProof.Rows hiding St
section
variable {prog : Program} {w : World} {A : Around} {E : Value → Shared → Prop} {s : Shared}
end
section
variable {X : Cx} {a b c e o tg : Expr} {es : List Expr} {ta tb te to : DTE} {pos p2 p apos cpos : Pos} {K : PySem.W.Frag}
noncomputable def dJoinR (to te : DTE) : DTE := fun ρ M Q => to ρ M fun d M1 => match d with
  | .str z => te ρ M1 fun d2 M2 => match d2 with
    | .tup ds => ∃ ws : List (List Nat), ds = ws.map D.str ∧ weight z ws.reverse ≤ 16000000 ∧ Q (.str (joinL z ws.reverse)) M2
    | _ => False
  | _ => False
end
end DL

set_option Elab.async false
set_option linter.all false
set_option maxRecDepth 100000
namespace DL
open PySem PySem.Spec L2
open PyProof.Rows hiding St
noncomputable def splitC (c : Nat) : List Nat → List (List Nat)
  | [] => [[]]
  | x :: r => if x = c then [] :: splitC c r else match splitC c r with
    | w :: ws => (x :: w) :: ws
    | [] => [[x]]
section
variable {X : Cx} {a b c e tg : Expr} {es : List Expr} {ta tb te : DTE} {tt tu : DTT} {pos p2 p : Pos} {K : PySem.W.Frag}
noncomputable def mSplit : D → List D → DH → DK → Prop := fun d ds M Q => match d, ds with
  | .str z, [.str y] => match y with
    | [c] => z.length + 2 ≤ sizeLine ∧ Q (.lst ((splitC c z).map D.str)) M
    | _ => False
  | _, _ => False
noncomputable def m0S (f : Nat → Nat) : D → List D → DH → DK → Prop := fun d ds M Q => match d, ds with
  | .str z, [] => (∀ c ∈ z, c < 128) ∧ z.length ≤ 5592405 ∧ Q (.str (z.map f)) M
  | _, _ => False
noncomputable def Itv (K : PySem.W.Frag) (a : Addr) (n : Nat) : It :=
  ⟨fun i H => ∃ xs x, SqL K H a xs ∧ xs.length = n ∧ i < n ∧ xs[n - 1 - i]? = some x, fun i H x H' => H' = H ∧ ∀ xs, SqL K H a xs → xs[n - 1 - i]? = some x, fun i _ => n ≤ i⟩
noncomputable def diRev (te : DTE) : DTI := fun ρ M R => te ρ M fun d M1 => match d with
  | .lst ds => R ds.reverse (fun _ => True) M1
  | _ => False
noncomputable def dCallK (sp : DSp) (g : List D → List D → List D) (t tk : DTA) : DTE := fun ρ M Q => t ρ M fun ds M1 => tk ρ M1 fun zs M2 => sp (g ds zs) M2 Q
noncomputable abbrev DKw (X : Cx) (kws : List Keyword) (t : DTA) : Prop := PK X kws (lA X.K t)
noncomputable def dBot : DTS := fun _ _ _ => False
end
end DL

set_option Elab.async false
set_option linter.all false
set_option maxRecDepth 100000
namespace DL
open PySem PySem.Spec L2
open PyProof.Rows hiding St
noncomputable abbrev DX := Nat → DH → Prop
noncomputable abbrev DSpX := List D → DH → DK → DX → Prop
noncomputable abbrev CN := Nat → Option Str
noncomputable def AftX (K : PySem.W.Frag) (mg : Str → Option Value) (cn : CN) (H : Hp) (RX : DX) (R0 : Value → Hp → Prop) : Prop := ∀ c x u M' H', RX c M' → cn c = some x → mg x = some u → Ext H H' → SimM K M' H' → R0 u H'
noncomputable def lX (K : PySem.W.Frag) (mg : Str → Option Value) (cn : CN) (RX : DX) : Value → Hp → Prop := fun u H => ∃ c x M, cn c = some x ∧ mg x = some u ∧ SimM K M H ∧ RX c M
noncomputable def lSpX (K : PySem.W.Frag) (mg : Str → Option Value) (cn : CN) (sp : DSpX) : Sp := fun vs H Q E => ∃ ds M R RX, Dens K H ds vs ∧ SimM K M H ∧ sp ds M R RX ∧ Aft K H R Q ∧ AftX K mg cn H RX fun u H' => E u none H'
section
variable {X : Cx} {a b c e : Expr} {es : List Expr} {te : DTE} {pos p2 p np cpos : Pos} {K : PySem.W.Frag} {cn : CN}
noncomputable def dCallX (sp : DSpX) (dds : List D) (xd : DX) (t : DTA) : DTE := fun ρ M Q => t ρ M fun ds M1 => sp (ds ++ dds) M1 Q xd
noncomputable def dRaise (t : DTA) (R : DH → Prop) : DTS := fun _ ρ M => t ρ M fun ds M1 => ds.length ≤ sizeLine ∧ R M1
noncomputable def setOpt : Option Nat → D → DSt → DSt
  | none, _, ρ => ρ
  | some i, d, ρ => ρ.set i (some d)
noncomputable def dTryC (sp : DSpX) (dds : List D) (c : Nat) (tgt : Option Nat) (j : Nat) (l : D) (t : DTA) : DTS := fun DD ρ M => t ρ M fun ds M1 => sp (ds ++ dds) M1 (fun d M2 => DD.nx (setOpt tgt d ρ) M2) fun c' M2 => c' = c ∧ DD.nx (ρ.set j (some l)) M2
end
end DL

set_option Elab.async false
set_option linter.all false
set_option maxRecDepth 100000
namespace DL
open PySem PySem.Spec L2
open PyProof.Rows hiding St

section
variable {X : Cx} {pos : Pos}
noncomputable def dWhile (c : DTT) (tb : DTS) : DTS := fun DD ρ M => ∃ W : Nat → DSt → DH → Prop, (∃ m, W m ρ M) ∧ ∀ m ρ M, W m ρ M →
  c ρ M fun b M1 => if b = true then ∃ N : DSt → DH → Prop, (∀ ρ' M', N ρ' M' → ∃ m', m' < m ∧ W m' ρ' M') ∧ tb { DD with nx := N, ct := N, bk := DD.nx } ρ M1 else DD.nx ρ M1
end

section
variable {X : Cx} {K : PySem.W.Frag} {H : Hp}
noncomputable def lstOf (M : DH) : D → Option (List D)
  | .lst xs => some xs
  | .ref a => match M a with
    | some (.lst xs) => some xs
    | _ => none
  | _ => none
theorem lst_sq {M : DH} {d : D} {v : V} {xs : List D} (m : SimM K M H) (den : Den K H d v) (e : lstOf M d = some xs) : ∃ p vs, v = .ref p ∧ SqL K H p vs ∧ Dens K H xs vs := by
  cases den with
  | lst sq d => cases e; exact ⟨_, _, rfl, sq.sq, d⟩
  | ref p =>
    cases qa : M p with
    | none => simp [lstOf, qa] at e
    | some o =>
      cases o with
      | oth _ => simp only [lstOf, qa] at e; cases e
      | lst ds =>
        simp only [lstOf, qa] at e
        cases e
        obtain ⟨vs, e2, dn⟩ := m.get qa
        exact ⟨_, _, rfl, .inl (.inl e2), dn⟩
  | _ => cases e
noncomputable def rSorted : List D → DH → DK → Prop := fun ds M Q => match ds with
  | [d] => ∃ zs : List (List Nat), lstOf M d = some (zs.map .str) ∧ zs.length < 64 ∧ ∀ zs' : List (List Nat), zs'.Perm zs → zs'.Pairwise (fun a b => a ≤ b) → ∀ p, M p = none → Q (.ref p) (dupd M p (.lst (zs'.map .str)))
  | _ => False
end

section
variable {X : Cx}
noncomputable def rMulS : DR2 := fun x y M Q => match x, y with
  | .str z, .int n => 0 ≤ n ∧ n ≤ 100 ∧ z.length ≤ 1000 ∧ Q (.str (List.replicate n.toNat z).flatten) M
  | _, _ => False
theorem rep_fold (z : List Nat) : ∀ (n : Nat) (l : List Nat), (List.replicate n z.toArray).foldl (· ++ ·) l.toArray = (l ++ (List.replicate n z).flatten).toArray
  | 0, l => by simp
  | n + 1, l => by
    rw [List.replicate_succ, List.foldl_cons, List.append_toArray, rep_fold z n, List.replicate_succ, List.flatten_cons, List.append_assoc]
theorem txt_mul (z : List Nat) (n : Int) (h : 0 ≤ n) : Txt.mul (S z) n = S (List.replicate n.toNat z).flatten := by
  unfold Txt.mul
  by_cases h1 : n < 1
  · rw [if_pos h1]
    have : n.toNat = 0 := by omega
    rw [this]
    rfl
  · rw [if_neg h1]
    split
    · rename_i q
      rw [Bool.or_eq_true, beq_iff_eq, beq_iff_eq] at q
      rcases q with q | q
      · subst q
        simp
      · have : z = [] := List.length_eq_zero_iff.mp q
        subst this
        have : (List.replicate n.toNat ([] : List Nat)).flatten = [] := by simp
        rw [this]
    · have := rep_fold z n.toNat []
      rw [List.nil_append] at this
      show Str.mk _ = Str.mk _
      exact congrArg Str.mk this
theorem od_mulS : OpD X (binaryOp .Mult) rMulS := by
  intro pins s σ H x y v u Q I rx ry ⟨dx, dy, M, R, ex, ey, m, q, k⟩
  cases ex with
  | str z hz =>
    cases ey <;> first | exact False.elim q | skip
    rename_i n
    obtain ⟨h0, h1, h2, q⟩ := q
    obtain ⟨t, rfl⟩ := rx
    obtain ⟨t', rfl⟩ := ry
    have hlen : (S z).length = z.length := rfl
    have hmul : z.length * n.toNat ≤ 1000 * 100 := Nat.mul_le_mul h2 (by omega)
    refine SB.mul (x := S z) (n := n) ⟨?_, fun a b => ?_, fun a b => ?_⟩ fun t' k' => ?_
    · rw [Bool.or_eq_false_iff, decide_eq_false_iff_not, decide_eq_false_iff_not]
      omega
    · rw [hlen]
      have : (1000 : Int) ≤ (2 ^ 63 - 1) / n := by
        refine (Int.le_ediv_iff_mul_le (by omega)).mpr ?_
        omega
      omega
    · rw [hlen]
      show decide (z.length * n.toNat > sizeLine) = false
      rw [decide_eq_false_iff_not, sizeLine_eq]
      omega
    · rw [txt_mul z n h0]
      refine ⟨.str _, H, I.tok _, ⟨_, rfl⟩, k _ M _ H q (Ext.refl H) m (.str _ ?_)⟩
      rw [List.all_eq_true] at hz ⊢
      intro c hc
      obtain ⟨w, hw, hcw⟩ := List.mem_flatten.mp hc
      exact hz c (by rw [List.eq_of_mem_replicate hw] at hcw; exact hcw)
  | _ => exact False.elim (by cases dy <;> exact q)
end

theorem noFill_tup : fillsNumberSlot (.type "tuple") "mul" = pure false :=
  PySem.fillsNumberSlot_seq (id := "tuple.__mul__") (r := some (.builtin "tuple.__rmul__")) F.slot_tuple_mul.lookup (by decide +kernel) F.slot_tuple_rmul.lookup (by decide +kernel)
theorem rep_tup : seqRepeat? (.type "tuple") = pure (some (.builtin "tuple.__mul__")) := by
  unfold seqRepeat?
  rw [PySem.seqSlot_of (T := "tuple") (name := "__mul__") (id := "tuple.__mul__") F.slot_tuple_mul.lookup (by decide +kernel),
    PySem.seqSlot_of (T := "tuple") (name := "__rmul__") (id := "tuple.__rmul__") F.slot_tuple_rmul.lookup (by decide +kernel)]
  rfl
noncomputable abbrev tupO (dd : Option Addr) (xs : Array Value) (n : Nat) (sl : Array (Option Value)) : Obj := { cls := .type "tuple", dict := dd, data := .seq xs n, slots := sl }
section
variable {l : Addr} {dd : Option Addr} {xs : Array Value} {n : Nat} {sl : Array (Option Value)}
theorem int_rmul_tup (a : Int) (t : Tok) :
    Meets (Builtin.«int.__rmul__» ⟨[.int a t, .ref l], []⟩) (fun _ R s => s.heap.get? l = some (tupO dd xs n sl) ∧ R (.ok (.ret Value.notImplemented)) s) :=
  .of_wp fun prog w A R s h => by
    obtain ⟨hp, g, d, tk, os⟩ := s
    obtain ⟨hl, h⟩ := h
    wp_walk
    exact ⟨_, rfl, h⟩
theorem tup_mul_one (u : Tok) :
    Meets (Builtin.«tuple.__mul__» ⟨[.ref l, .int 1 u], []⟩) (fun _ R s => s.heap.get? l = some (tupO dd xs n sl) ∧ R (.ok (.ret (.ref l))) s) :=
  .of_wp fun prog w A R s h => by
    obtain ⟨hp, g, d, tk, os⟩ := s
    obtain ⟨hl, h⟩ := h
    have e1 : (xs.isEmpty || (1 : Int) == 1) = true := by simp
    wp_walk
    exact ⟨_, rfl, h⟩
theorem tup_mul_none (u : Tok) :
    Meets (Builtin.«tuple.__mul__» ⟨[.ref l, .int 0 u], []⟩) (fun _ R s => s.heap.get? l = some (tupO dd xs n sl) ∧ (xs.isEmpty = true → R (.ok (.ret (.ref l))) s) ∧
      (xs.isEmpty = false → R (.ok (.ret (.ref s.heap.objs.size))) { s with heap := s.heap.push { cls := .type "tuple", data := .seq #[] } })) :=
  .of_wp fun prog w A R s h => by
    obtain ⟨hp, g, d, tk, os⟩ := s
    obtain ⟨hl, h1, h2⟩ := h
    cases e : xs.isEmpty with
    | true =>
      wp_walk
      exact ⟨_, rfl, h1 e⟩
    | false =>
      wp_walk
      exact ⟨_, rfl, h2 e⟩
end
section
variable {X : Cx}
noncomputable def rMulT : DR2 := fun x y M Q => match x, y with
  | .tup xs, .int n => (n = 1 ∧ Q (.tup xs) M) ∨ (n = 0 ∧ Q (.tup []) M)
  | _, _ => False
theorem od_mulT : OpD X (binaryOp .Mult) rMulT := by
  intro pins s σ H x y v u Q I rx ry ⟨dx, dy, M, R, ex, ey, m, q, k⟩
  cases ex with
  | @tup a xs vs sq dd =>
    cases ey <;> first | exact False.elim q | skip
    rename_i n
    cases rx
    obtain ⟨t', rfl⟩ := ry
    obtain ⟨its, r', ht, hz⟩ := I.tuple (.of sq)
    obtain ⟨⟨oc, dd', oda, sl⟩, ho, hc, nn, hd⟩ := ht
    dsimp only at hc hd
    subst hc hd
    refine PySem.wpAny_binaryOp_repeat_ref (T := "tuple") (U := "int") (by decide) ⟨_, ho, rfl⟩ (fun s' => typeIs_int s' n t') noFill_tup F.fills_int_mul F.slot_int_rmul rep_tup F.slot_int_index.lookup ?_
    refine call_meets F.slot_int_rmul (typeIs_int s n t') F.entry_int_rmul (F.args_int_rmul_2 _ _) (int_rmul_tup n t') ⟨ho, rfl, ⟨_, ho, rfl⟩, ?_⟩
    rcases q with ⟨rfl, q⟩ | ⟨rfl, q⟩
    · exact call_meets F.slot_tuple_mul ⟨_, ho, rfl⟩ F.entry_tuple_mul (F.args_tuple_mul_2 _ _) (tup_mul_one t') ⟨ho, ⟨.ref a, H, I, rfl, k _ M _ H q (Ext.refl H) m (.tup sq dd)⟩⟩
    · refine call_meets F.slot_tuple_mul ⟨_, ho, rfl⟩ F.entry_tuple_mul (F.args_tuple_mul_2 _ _) (tup_mul_none t') ⟨ho, fun e => ?_, fun e => ?_⟩
      · have e' : its = [] := by simpa using e
        subst e'
        cases r'
        exact ⟨.ref a, H, I, rfl, k _ M _ H q (Ext.refl H) m (.tup sq .nil)⟩
      · have hf : H s.heap.objs.size = none := I.hok.fresh (Nat.le_refl _)
        exact ⟨.ref s.heap.objs.size, upd H s.heap.objs.size (.tup []), I.laid (t' := s.toks) (fun b u e => Heap.get?_push_of_some _ e) (Nat.le_refl _) ⟨Nat.zero_le _, [], .nil, ⟨_, Heap.get?_push_size _ rfl, rfl, _, rfl⟩⟩, rfl,
          k _ M _ _ q (Ext.new hf) (m.new hf) (.tup upd_same .nil)⟩
  | _ => exact False.elim (by cases dy <;> exact q)
end
section
variable {X : Cx} {pos p p2 p3 cpos np : Pos} {cn : CN} {e : Expr} {es : List Expr}
theorem SimS.gone {K : PySem.W.Frag} {H : Hp} : ∀ {ds : DSt} {vs : St} (i : Nat), SimS K H ds vs → SimS K H (ds.set i none) (vs.set i none)
  | _, _, _, .nil => .nil
  | _, _, 0, .cons _ t => .cons trivial t
  | _, _, i + 1, .cons q t => .cons q (SimS.gone i t)
noncomputable def gone (D : DEnds) (i : Nat) : DEnds := ⟨fun ρ M => D.nx (ρ.set i none) M, D.rt, fun ρ M => D.bk (ρ.set i none) M, fun ρ M => D.ct (ρ.set i none) M⟩
theorem Fin.gone {K : PySem.W.Frag} {H : Hp} {DD : DEnds} {D : Ends} (a : Fin K H DD D) (i : Nat) : Fin K H (gone DD i) (D.gone i) :=
  ⟨fun r M s H2 q x y m => a.nx _ M _ H2 q x (y.gone i) m, a.rt, fun r M s H2 q x y m => a.bk _ M _ H2 q x (y.gone i) m, fun r M s H2 q x y m => a.ct _ M _ H2 q x (y.gone i) m⟩
noncomputable def dIsE (je : Nat) (a : Addr) (b : Bool) : DTE := fun ρ M Q => dVar je ρ M fun d M1 => d = .ref a ∧ Q (.bl b) M1
noncomputable def dTryA (sp : DSpX) (dds : List D) (je : Nat) (okc : Nat → Prop) (th : Nat → Addr → DTS) (t : DTA) : DTS := fun DD ρ M => t ρ M fun ds M1 => sp (ds ++ dds) M1 (fun d M2 => DD.nx ρ M2) fun c M2 => okc c ∧ ∀ a, th c a (gone DD je) (ρ.set je (some (.ref a))) M2
end

section
variable {X : Cx}
noncomputable def flat : D → Bool
  | .non => true
  | .bl _ => true
  | .int _ => true
  | .str _ => true
  | _ => false
noncomputable def alike : D → D → Bool
  | .bl _, .int _ => false
  | .int _, .bl _ => false
  | _, _ => true
noncomputable def alikes : List D → List D → Bool
  | x :: xs, y :: ys => alike x y && alikes xs ys
  | _, _ => true
noncomputable def rEqT : DR2 := fun x y M Q => match x, y with
  | .tup xs, .tup ys => xs.all flat = true ∧ ys.all flat = true ∧ alikes xs ys = true ∧ Q (.bl (eqB (.tup xs) (.tup ys))) M
  | _, _ => False
theorem flat_reads {h : Heap} {K : PySem.W.Frag} {H : Hp} : ∀ {ds : List D} {vs : List V} {us : List Value}, ds.all flat = true → Dens K H ds vs → Vals vs us → ∃ as, ReadsAll h us (toPys ds) as
  | [], _, _, _, .nil, .nil => ⟨_, .nil⟩
  | d :: r, v :: vs, u :: us, q, .cons e t, .cons r1 r2 => by
    rw [List.all_cons, Bool.and_eq_true] at q
    obtain ⟨bs, h2⟩ := flat_reads q.2 t r2
    have h1 : ∃ as, Reads h u (toPy d) as := by
      cases e with
      | non => cases r1; exact ⟨_, .none⟩
      | bl b => cases r1; exact ⟨_, .bool b⟩
      | int i => obtain ⟨t, rfl⟩ := r1; exact ⟨_, .int i t⟩
      | str x hx => obtain ⟨t, rfl⟩ := r1; exact ⟨_, .str _ t⟩
      | tup _ _ => exact absurd q.1 (by simp [flat])
      | lst _ _ => exact absurd q.1 (by simp [flat])
      | ref a => exact absurd q.1 (by simp [flat])
    obtain ⟨as, h1⟩ := h1
    exact ⟨_, .cons h1 h2⟩
theorem flat_lay {K : PySem.W.Frag} {H : Hp} : ∀ {ds : List D} {vs : List V}, ds.all flat = true → Dens K H ds vs → PyData.canLayAll0 (toPys ds) = true ∧ PyData.depthAll (toPys ds) = 0
  | [], _, _, .nil => ⟨rfl, rfl⟩
  | d :: r, _, q, .cons e t => by
    rw [List.all_cons, Bool.and_eq_true] at q
    obtain ⟨h1, h2⟩ := flat_lay q.2 t
    have h3 : (toPy d).canLay0 = true ∧ (toPy d).depth = 0 := by
      cases e with
      | str x hx => simp [toPy, PyData.canLay0, PyData.depth, PyData.strOk, S]; simpa using hx
      | tup _ _ => exact absurd q.1 (by simp [flat])
      | lst _ _ => exact absurd q.1 (by simp [flat])
      | ref a => exact absurd q.1 (by simp [flat])
      | _ => simp [toPy, PyData.canLay0, PyData.depth]
    simp only [toPys, PyData.canLayAll0, PyData.depthAll, h1, h2, h3.1, h3.2, Bool.and_self, Nat.max_self, and_self]
theorem flat_eqv : ∀ {ds es : List D}, ds.all flat = true → es.all flat = true → alikes ds es = true → (PyData.eqvAll (toPys ds) (toPys es) = true ↔ ds = es)
  | [], [], _, _, _ => by simp [toPys, PyData.eqvAll]
  | [], _ :: _, _, _, _ => by simp [toPys, PyData.eqvAll]
  | _ :: _, [], _, _, _ => by simp [toPys, PyData.eqvAll]
  | d :: r, e :: t, h1, h2, h3 => by
    rw [List.all_cons, Bool.and_eq_true] at h1 h2
    have h3' : (alike d e && alikes r t) = true := h3
    rw [Bool.and_eq_true] at h3'
    have ih := flat_eqv h1.2 h2.2 h3'.2
    have q : PyData.eqv (toPy d) (toPy e) = true ↔ d = e := by
      have st : ∀ x y : List Nat, (S x == S y) = true ↔ x = y := fun x y => ⟨fun h => S_inj (by simpa using h), fun h => by simp [h]⟩
      have a1 := h1.1
      have a2 := h2.1
      have a3 := h3'.1
      clear h1 h2 h3 h3' ih
      cases d <;> cases e <;> simp_all [flat, alike, toPy, PyData.eqv]
    simp only [toPys, PyData.eqvAll, Bool.and_eq_true, q, ih, List.cons.injEq]
theorem od_eqT (hu : X.A.units + 64 < cLine) : OpD X (compareOp .Eq) rEqT := by
  intro pins s σ H x y v u Q I rx ry ⟨dx, dy, M, R, ex, ey, m, q, k⟩
  cases ex with
  | @tup a xs vs sq dd =>
    cases ey with
    | @tup b ys ws sq' dd' =>
      obtain ⟨f1, f2, f3, q⟩ := q
      cases rx
      cases ry
      obtain ⟨its, rv, ⟨o, ho, hc, n, hd⟩, z⟩ := I.tuple (.of sq)
      obtain ⟨its', rv', ⟨o', ho', hc', n', hd'⟩, z'⟩ := I.tuple (.of sq')
      obtain ⟨as, ra⟩ := flat_reads (h := s.heap) f1 dd rv
      obtain ⟨bs, rb⟩ := flat_reads (h := s.heap) f2 dd' rv'
      obtain ⟨c1, c2⟩ := flat_lay f1 dd
      obtain ⟨c3, c4⟩ := flat_lay f2 dd'
      have sh : ∀ l : List PyData, PyData.canLayAll0 l = true → PyData.depthAll l = 0 → SeqAt.shaped (.tuple l) = true := fun l h1 h2 => by
        unfold SeqAt.shaped
        simp only [PyData.canLay0, PyData.depth, h1, h2, Bool.true_and]
        exact decide_eq_true (by omega)
      refine SeqAt.compareEq_shaped (.tuple ho hc hd (by simpa using ra)) (.tuple ho' hc' hd' (by simpa using rb)) (sh _ c1 c2) (sh _ c3 c4) hu ?_
      have e : PyData.eqv (.tuple (toPys xs)) (.tuple (toPys ys)) = eqB (.tup xs) (.tup ys) := by
        have h := flat_eqv f1 f2 f3
        simp only [PyData.eqv]
        cases q2 : eqB (.tup xs) (.tup ys) with
        | true => exact h.mpr (D.tup.inj ((eqB_iff _ _).mp q2))
        | false =>
          cases q3 : PyData.eqvAll (toPys xs) (toPys ys) with
          | false => rfl
          | true => exact absurd (by rw [h.mp q3]) ((eqB_not _ _).mp q2)
      rw [e]
      exact ⟨.bl _, H, I, rfl, k _ M _ H q (Ext.refl H) m (.bl _)⟩
    | _ => exact False.elim q
  | _ => exact False.elim (by cases dy <;> exact q)
end
end DL

set_option Elab.async false
set_option linter.all false
set_option maxRecDepth 100000
namespace DL
open PySem PySem.Spec L2
open PyProof.Rows hiding St

section
variable {α : Type}
noncomputable def valD (kvs : List (List (List Nat) × D)) (k : List (List Nat)) : Option D := (kvs.find? fun kv => decide (kv.1 = k)).map (·.2)
noncomputable def putD (kvs : List (List (List Nat) × D)) (k : List (List Nat)) (v : D) : List (List (List Nat) × D) :=
  if (kvs.any fun kv => decide (kv.1 = k)) = true then kvs.map (fun kv => if kv.1 = k then (kv.1, v) else kv) else kvs ++ [(k, v)]
theorem valD_pos {p : List (List Nat) × D} {r : List (List (List Nat) × D)} {k : List (List Nat)} (e : p.1 = k) : valD (p :: r) k = some p.2 := by simp [valD, List.find?_cons, e]
theorem valD_neg {p : List (List Nat) × D} {r : List (List (List Nat) × D)} {k : List (List Nat)} (e : ¬ p.1 = k) : valD (p :: r) k = valD r k := by simp [valD, List.find?_cons, e]
end
theorem nk_inj : ∀ {a b : List (List Nat)}, nk a = nk b → a = b
  | [], [], _ => rfl
  | [], _ :: _, e => by simp [nk] at e
  | _ :: _, [], e => by simp [nk] at e
  | x :: xs, y :: ys, e => by
    have e' : (Sum.inr (S x) : Key) :: nk xs = Sum.inr (S y) :: nk ys := e
    injection e' with e1 e2
    injection e1 with e1
    rw [S_inj e1, nk_inj e2]
section
variable {K : PySem.W.Frag} {H : Hp}
theorem strs_keys : ∀ {n : List (List Nat)} {vs : List V}, Dens K H (n.map .str) vs → vs = (nk n).map kV
  | [], _, h => by cases h; rfl
  | x :: r, _, h => by
    cases h with
    | cons h1 h2 =>
      cases h1
      rw [strs_keys h2]
      rfl
theorem KDs.val {kvs : List (List (List Nat) × D)} {vs : List (List Key × V)} (r : KDs K H kvs vs) (k : List (List Nat)) :
    (valD kvs k = none ∧ valV vs (nk k) = none) ∨ ∃ d v, valD kvs k = some d ∧ valV vs (nk k) = some v ∧ Den K H d v := by
  induction r with
  | nil => exact .inl ⟨rfl, rfl⟩
  | @cons p q ps qs h t ih =>
    by_cases e : p.1 = k
    · exact .inr ⟨p.2, q.2, valD_pos e, valV_pos (by rw [h.1, e]), h.2⟩
    · rw [valD_neg e, valV_neg (by rw [h.1]; exact fun z => e (nk_inj z))]; exact ih
theorem KDs.length {kvs : List (List (List Nat) × D)} {vs : List (List Key × V)} (r : KDs K H kvs vs) : kvs.length = vs.length := Paired.length r
noncomputable def putFD (f : Str) (v : D) : List (Str × D) → List (Str × D)
  | [] => [(f, v)]
  | (g, x) :: r => if g = f then (g, v) :: r else (g, x) :: putFD f v r
theorem FDs.lookup {fs : List (Str × D)} {vs : List (Str × V)} (r : FDs K H fs vs) {f : Str} {d : D} (e : fs.lookup f = some d) : ∃ v, vs.lookup f = some v ∧ Den K H d v := by
  induction r with
  | nil => cases e
  | @cons p q ps qs h t ih =>
    obtain ⟨p1, p2⟩ := p
    obtain ⟨q1, q2⟩ := q
    obtain ⟨h1, h2⟩ := h
    cases h1
    rw [List.lookup_cons] at e ⊢
    cases c : f == p1 with
    | true => rw [c] at e; cases e; exact ⟨q2, rfl, h2⟩
    | false => rw [c] at e; exact ih e
theorem FDs.no {fs : List (Str × D)} {vs : List (Str × V)} (r : FDs K H fs vs) {f : Str} (e : fs.lookup f = none) : vs.lookup f = none := by
  induction r with
  | nil => rfl
  | @cons p q ps qs h t ih =>
    obtain ⟨p1, p2⟩ := p
    obtain ⟨q1, q2⟩ := q
    obtain ⟨h1, h2⟩ := h
    cases h1
    rw [List.lookup_cons] at e ⊢
    cases c : f == p1 with
    | true => rw [c] at e; cases e
    | false => rw [c] at e; exact ih e
theorem FDs.length {fs : List (Str × D)} {vs : List (Str × V)} (r : FDs K H fs vs) : fs.length = vs.length := Paired.length r
end
theorem SimM.dct {K : PySem.W.Frag} {H : Hp} {M : DH} (h : SimM K M H) {a : Addr} {kvs : List (List (List Nat) × D)} (e : M a = some (.oth (.dct kvs))) : ∃ vs, H a = some (.dT vs) ∧ KDs K H kvs vs := h a _ e
theorem SimM.ins {K : PySem.W.Frag} {H : Hp} {M : DH} (h : SimM K M H) {a : Addr} {c : Str} {fs : List (Str × D)} (e : M a = some (.oth (.ins c fs))) : ∃ C dx vs, PySem.W.nsIn K mainGlobals c = some (some (.ref C)) ∧ H a = some (.ins C dx vs) ∧ FDs K H fs vs := h a _ e
theorem den_key {K : PySem.W.Frag} {H : Hp} {n : List (List Nat)} {v : V} (h : Den K H (.tup (n.map .str)) v) : ∃ b, v = .ref b ∧ H b = some (.tup ((nk n).map kV)) := by
  cases h with
  | tup q r => exact ⟨_, rfl, by rw [← strs_keys r]; exact q⟩

section
variable {X : Cx} {e o value a b k : Expr} {es : List Expr} {pos pos' apos cpos p : Pos} {te tv tk td : DTE} {t : DTA}
noncomputable def dFld (c f : Str) (te : DTE) : DTE := fun ρ M Q => te ρ M fun x M1 => ∃ a fs d, x = .ref a ∧ M1 a = some (.oth (.ins c fs)) ∧ fs.lookup f = some d ∧ Q d M1
noncomputable def dSetF (c f : Str) (to tv : DTE) : DTS := fun DD ρ M => tv ρ M fun y M1 => to ρ M1 fun x M2 => ∃ a fs, x = .ref a ∧ M2 a = some (.oth (.ins c fs)) ∧ fs.length < 1000 ∧ DD.nx ρ (dupd M2 a (.oth (.ins c (putFD f y fs))))
noncomputable def dMeth (c m : Str) (sp : DSp) (to : DTE) (t : DTA) : DTE := fun ρ M Q => to ρ M fun x M1 => ∃ a fs, x = .ref a ∧ M1 a = some (.oth (.ins c fs)) ∧ fs.lookup m = none ∧ t ρ M1 fun ds M2 => sp (.ref a :: ds) M2 Q
noncomputable def dMake (c : Str) (sp : DSp) (t : DTA) : DTE := fun ρ M Q => t ρ M fun ds M1 => ∀ x, M1 x = none → sp (.ref x :: ds) (dupd M1 x (.oth (.ins c []))) fun d M2 => d = .non ∧ Q (.ref x) M2
noncomputable def dDNew : DTE := fun _ M Q => ∀ q, M q = none → Q (.ref q) (dupd M q (.oth (.dct [])))
noncomputable def dDisp1 (tk tv : DTE) : DTE := fun ρ M Q => ∀ q, M q = none → tk ρ (dupd M q (.oth (.dct []))) fun x M1 => tv ρ M1 fun y M2 => ∃ n : List (List Nat), x = .tup (n.map .str) ∧ M2 q = some (.oth (.dct [])) ∧ Q (.ref q) (dupd M2 q (.oth (.dct [(n, y)])))
noncomputable def rInD (f : Bool → Bool) : DR2 := fun x y M Q => ∃ (n : List (List Nat)) (a : Addr) (kvs : List (List (List Nat) × D)), x = .tup (n.map .str) ∧ y = .ref a ∧ M a = some (.oth (.dct kvs)) ∧ Q (.bl (f (valD kvs n).isSome)) M
theorem val_some {K : PySem.W.Frag} {H : Hp} {kvs : List (List (List Nat) × D)} {vs : List (List Key × V)} (r : KDs K H kvs vs) (n : List (List Nat)) : (valV vs (nk n)).isSome = (valD kvs n).isSome := by
  rcases r.val n with ⟨q1, q2⟩ | ⟨d, v, q1, q2, _⟩ <;> rw [q1, q2] <;> rfl
theorem od_inD (hu : X.A.units + 1 < cLine) : OpD X (compareOp .In) (rInD id) := by
  intro pins s σ H x y v u Q I rx ry ⟨dx, dy, M, R, ex, ey, m, ⟨n, a, kvs, e1, e2, e3, q⟩, k⟩
  subst e1 e2
  obtain ⟨b, rfl, eb⟩ := den_key ex
  cases ey
  obtain ⟨vs, g1, g2⟩ := m.dct e3
  cases ry
  refine d_in hu I (DGet.t g1 eb) rx fun s' I' => ⟨.bl (valV vs (nk n)).isSome, H, I', rfl, ?_⟩
  rw [val_some g2]
  exact k _ M _ H q (Ext.refl H) m (.bl _)
theorem od_ninD (hu : X.A.units + 1 < cLine) : OpD X (compareOp .NotIn) (rInD not) := by
  intro pins s σ H x y v u Q I rx ry ⟨dx, dy, M, R, ex, ey, m, ⟨n, a, kvs, e1, e2, e3, q⟩, k⟩
  subst e1 e2
  obtain ⟨b, rfl, eb⟩ := den_key ex
  cases ey
  obtain ⟨vs, g1, g2⟩ := m.dct e3
  cases ry
  refine d_notIn hu I (DGet.t g1 eb) rx fun s' I' => ⟨.bl (!(valV vs (nk n)).isSome), H, I', rfl, ?_⟩
  rw [val_some g2]
  exact k _ M _ H q (Ext.refl H) m (.bl _)
noncomputable def rDIx : DR2 := fun x y M Q => ∃ (n : List (List Nat)) (a : Addr) (kvs : List (List (List Nat) × D)) (d : D), y = .tup (n.map .str) ∧ x = .ref a ∧ M a = some (.oth (.dct kvs)) ∧ valD kvs n = some d ∧ Q d M
noncomputable def dDGet2 (td tk tx : DTE) : DTE := fun ρ M Q => td ρ M fun x M1 => ∃ (a : Addr) (kvs0 : List (List (List Nat) × D)), x = .ref a ∧ M1 a = some (.oth (.dct kvs0)) ∧ tk ρ M1 fun y M2 => tx ρ M2 fun z M3 => ∃ (n : List (List Nat)) (kvs : List (List (List Nat) × D)), y = .tup (n.map .str) ∧ M3 a = some (.oth (.dct kvs)) ∧ Q ((valD kvs n).getD z) M3
noncomputable def dDSetd (td tk tx : DTE) : DTE := fun ρ M Q => td ρ M fun x M1 => ∃ (a : Addr) (kvs0 : List (List (List Nat) × D)), x = .ref a ∧ M1 a = some (.oth (.dct kvs0)) ∧ tk ρ M1 fun y M2 => tx ρ M2 fun z M3 => ∃ (n : List (List Nat)) (kvs : List (List (List Nat) × D)), y = .tup (n.map .str) ∧ M3 a = some (.oth (.dct kvs)) ∧ kvs.length < sizeLine ∧
  (∀ d, valD kvs n = some d → Q d M3) ∧ (valD kvs n = none → Q z (dupd M3 a (.oth (.dct (putD kvs n z)))))
noncomputable def dDPut (td tk tv : DTE) : DTS := fun DD ρ M => tv ρ M fun v M1 => td ρ M1 fun x M2 => tk ρ M2 fun y M3 => ∃ (a : Addr) (n : List (List Nat)) (kvs : List (List (List Nat) × D)), x = .ref a ∧ y = .tup (n.map .str) ∧ M3 a = some (.oth (.dct kvs)) ∧ kvs.length < sizeLine ∧ DD.nx ρ (dupd M3 a (.oth (.dct (putD kvs n v))))
end
section
variable {X : Cx}
noncomputable def rAddL : DR2 := fun x y M Q => ∃ xs ys, lstOf M x = some xs ∧ lstOf M y = some ys ∧ xs.length + ys.length ≤ sizeLine ∧ ∀ p, M p = none → Q (.ref p) (dupd M p (.lst (xs ++ ys)))
theorem od_addL : OpD X (binaryOp .Add) rAddL := by
  intro pins s σ H x y v u Q I rx ry ⟨dx, dy, M, R, ex, ey, m, ⟨xs, ys, e1, e2, hz, q⟩, k⟩
  obtain ⟨a, vs, rfl, sq, d1⟩ := lst_sq m ex e1
  obtain ⟨b, ws, rfl, sq2, d2⟩ := lst_sq m ey e2
  cases rx
  cases ry
  obtain ⟨its, r1, pl1, _⟩ := I.list sq
  obtain ⟨its2, r2, pl2, _⟩ := I.list sq2
  have l1 := d1.length
  have l2 := d2.length
  have l3 := r1.length
  have l4 := r2.length
  obtain ⟨⟨cls, dd, data, sl⟩, ho, hc, n, hd⟩ := pl1.isList
  obtain ⟨⟨cls2, dd2, data2, sl2⟩, ho2, hc2, n2, hd2⟩ := pl2.isList
  simp only at hc hd hc2 hd2
  subst hc hd hc2 hd2
  have e : its.toArray ++ its2.toArray = (its ++ its2).toArray := by simp
  refine concat_meets ⟨_, ho, rfl⟩ ⟨_, ho2, rfl⟩ noFill_list_add seq_list_add PySem.F.slot_list_add PySem.F.entry_list_add (PySem.F.args_list_add_2 _ _) (list_addW a b its.toArray its2.toArray n n2 dd dd2 sl sl2 (by simp only [List.size_toArray]; rw [← l3, ← l4, ← l1, ← l2]; exact hz)) ⟨ho, ho2, ?_⟩
  rw [e]
  exact ⟨.ref _, _, I.lnew (t' := s.toks) (r1.append r2) (by rw [List.length_append, ← l1, ← l2]; exact hz), rfl, k _ _ _ _ (q _ (m.free I.fresh)) (Ext.new I.fresh) (m.newL I.fresh (d1.append d2)) (.ref _)⟩
noncomputable def rMin1 : List D → DH → DK → Prop := fun ds M Q => match ds with
  | [d] => ∃ ns : List Int, lstOf M d = some (ns.map .int) ∧ 0 < ns.length ∧ ∀ z : Int, z ∈ ns → (∀ a ∈ ns, z ≤ a) → Q (.int z) M
  | _ => False
end
section
variable {X : Cx}
noncomputable def rInB : DR2 := fun x y M Q => ∃ (b : Bool) (bs : List Bool), x = .bl b ∧ lstOf M y = some (bs.map .bl) ∧ Q (.bl (bs.any fun c => c == b)) M
theorem dens_bl {K : PySem.W.Frag} {H : Hp} : ∀ {bs : List Bool} {vs : List V} {its : List Value}, Dens K H (bs.map D.bl) vs → Vals vs its → its = bs.map Value.bool
  | [], _, _, .nil, .nil => rfl
  | b :: r, _, _, .cons (.bl _) t, .cons e u => by
    cases e
    rw [dens_bl t u]
    rfl
theorem od_inB (hu : X.A.units + 64 < cLine) : OpD X (compareOp .In) rInB := by
  intro pins s σ H x y v u Q I rx ry ⟨dx, dy, M, R, ex, ey, m, ⟨b, bs, e1, e2, q⟩, k⟩
  subst e1
  cases ex
  cases rx
  obtain ⟨p, vs, rfl, sq, dd⟩ := lst_sq m ey e2
  cases ry
  obtain ⟨its, r', pl, hz⟩ := I.list sq
  cases dens_bl dd r'
  refine SeqAt.in_listAt (fun y => decide (y = Value.bool b)) pl.isList (fun y hy => ?_) ⟨.bl (bs.any fun c => c == b), H, I, ?_, k _ M _ H q (Ext.refl H) m (.bl _)⟩
  · obtain ⟨c, _, rfl⟩ := List.mem_map.mp (show y ∈ bs.map Value.bool from Array.mem_toList_iff.mpr hy)
    have h := SeqAt.eqAt_reads (.bool c) (.bool b) X.A.in1 s (.bool c) (.bool b) _ _ (.bool c) (.bool b) rfl rfl (by
      have : X.A.in1.units ≤ X.A.units + 1 := by simp [Around.in1]
      have h2 : min (PyData.bool c).depth (PyData.bool b).depth ≤ 11 := Nat.le_trans (Nat.min_le_left _ _) (by simp [PyData.depth])
      omega)
    have e : PyData.eqv (.bool c) (.bool b) = decide (Value.bool c = Value.bool b) := by cases c <;> cases b <;> rfl
    rw [e] at h
    exact h
  · show Value.bool _ = Value.bool _
    congr 1
    rw [← Array.any_toList]
    simp only [List.any_map]
    congr 1
    funext c
    cases c <;> cases b <;> rfl
noncomputable def subR (a : Addr) (ds : List D) : D → D
  | .ref b => if b = a then .lst ds else .ref b
  | d => d
noncomputable def subT (a : Addr) (ds : List D) : D → D
  | .tup xs => .tup (xs.map (subR a ds))
  | d => d
noncomputable def rNeR : DR2 := fun x y M Q => (∃ (a : Addr) (ds : List D), M a = some (.lst ds) ∧ plain 12 (subT a ds x) = true ∧ plain 12 y = true ∧ Q (.bl (!eqB (subT a ds x) y)) M) ∨ (plain 12 x = true ∧ plain 12 y = true ∧ Q (.bl (!eqB x y)) M)
theorem Den.subR {K : PySem.W.Frag} {H H' : Hp} {a : Addr} {ds : List D} (x : Ext H H') (den : Den K H' (.lst ds) (.ref a)) {d : D} {v : V} (h : Den K H d v) : Den K H' (subR a ds d) v := by
  by_cases hr : ∃ b, d = .ref b
  · obtain ⟨b, rfl⟩ := hr
    cases h
    show Den K H' (if b = a then .lst ds else .ref b) (.ref b)
    by_cases e : b = a
    · rw [if_pos e, e]; exact den
    · rw [if_neg e]; exact .ref b
  · have e2 : DL.subR a ds d = d := by cases d <;> first | rfl | exact absurd ⟨_, rfl⟩ hr
    rw [e2]
    exact h.ext x
theorem Dens.subR {K : PySem.W.Frag} {H H' : Hp} {a : Addr} {ds : List D} (x : Ext H H') (den : Den K H' (.lst ds) (.ref a)) : ∀ {xs : List D} {vs : List V}, Dens K H xs vs → Dens K H' (xs.map (DL.subR a ds)) vs
  | [], _, .nil => .nil
  | _ :: _, _, .cons h r => .cons (Den.subR x den h) (Dens.subR x den r)
theorem Den.subT {K : PySem.W.Frag} {H H' : Hp} {a : Addr} {ds : List D} (x : Ext H H') (den : Den K H' (.lst ds) (.ref a)) {d : D} {v : V} (h : Den K H d v) : Den K H' (subT a ds d) v := by
  cases h with
  | tup e r => exact .tup (x.tup _ _ e) (Dens.subR x den r)
  | non => exact .non
  | bl b => exact .bl b
  | int i => exact .int i
  | str y hy => exact .str y hy
  | ref b => exact .ref b
  | lst f r => exact (Den.lst f r).ext x
theorem od_neR (hu : X.A.units + 64 < cLine) : OpD X (compareOp .NotEq) rNeR := by
  intro pins s σ H x y v u Q I rx ry ⟨dx, dy, M, R, ex, ey, m, h, k⟩
  have sh : ∀ d : PyData, d.canLay0 = true → d.depth ≤ 12 → SeqAt.shaped d = true := fun d h1 h2 => by
    unfold SeqAt.shaped
    rw [h1, Bool.true_and]
    exact decide_eq_true (by omega)
  rcases h with ⟨a, ds, ha, h1, h2, q⟩ | ⟨h1, h2, q⟩
  · obtain ⟨vs, e1, e2⟩ := m.get ha
    obtain ⟨o, I2⟩ := I.frozen e1
    have x := Ext.lst (o := .frz o (.lst vs)) e1
    have den : Den X.K (upd H a (.frz o (.lst vs))) (.lst ds) (.ref a) := .lst (.inl ⟨o, upd_same⟩) (e2.ext x)
    have ex' := Den.subT x den ex
    have ey' := ey.ext x
    obtain ⟨as, ra⟩ := plain_reads I2 _ _ _ _ h1 ex' rx
    obtain ⟨bs, rb⟩ := plain_reads I2 _ _ _ _ h2 ey' ry
    obtain ⟨c1, d1⟩ := plain_lay _ _ _ h1 ex'
    obtain ⟨c2, d2⟩ := plain_lay _ _ _ h2 ey'
    refine SeqAt.compareNe_shaped ra rb (sh _ c1 d1) (sh _ c2 d2) hu ?_
    rw [bEq _ _ _ _ h1 h2]
    exact ⟨.bl _, H, I, rfl, k _ M _ H q (Ext.refl H) m (.bl _)⟩
  · obtain ⟨as, ra⟩ := plain_reads I _ _ _ _ h1 ex rx
    obtain ⟨bs, rb⟩ := plain_reads I _ _ _ _ h2 ey ry
    obtain ⟨c1, d1⟩ := plain_lay _ _ _ h1 ex
    obtain ⟨c2, d2⟩ := plain_lay _ _ _ h2 ey
    refine SeqAt.compareNe_shaped ra rb (sh _ c1 d1) (sh _ c2 d2) hu ?_
    rw [bEq _ _ _ _ h1 h2]
    exact ⟨.bl _, H, I, rfl, k _ M _ H q (Ext.refl H) m (.bl _)⟩
noncomputable def mClear : D → List D → DH → DK → Prop := fun d ds M Q => ∃ (a : Addr) (xs : List D), d = .ref a ∧ ds = [] ∧ M a = some (.lst xs) ∧ Q .non (dupd M a (.lst []))
end
end DL

set_option Elab.async false
set_option linter.all false
set_option maxRecDepth 100000
namespace L2
open PySem PySem.Spec PyProof.Rows
end L2
namespace DL
open PySem PySem.Spec L2
open PyProof.Rows hiding St
section
variable {X : Cx}
noncomputable def dFmt (te : DTE) : DTE := fun ρ M Q => te ρ M fun d M1 => match d with
  | .str z => z.length ≤ sizeLine ∧ Q (.str z) M1
  | .int i => 0 ≤ i ∧ i.natAbs.log2 < 1920 ∧ Q (.str (digs i.toNat)) M1
  | _ => False
noncomputable def dJoin : List DTE → List Nat → DTE
  | [], out => fun _ M Q => Q (.str out) M
  | t :: r, out => fun ρ M Q => t ρ M fun d M1 => ∃ y, d = .str y ∧ (out ++ y).length ≤ sizeLine ∧ dJoin r (out ++ y) ρ M1 Q
inductive DJs (X : Cx) : List Expr → List DTE → Prop
  | nil : DJs X [] []
  | cons {e : Expr} {t : DTE} {es : List Expr} {ts : List DTE} : DE X e t → DJs X es ts → DJs X (e :: es) (t :: ts)
end
end DL

set_option Elab.async false
set_option linter.all false
set_option maxRecDepth 100000
namespace IR
open PySem PySem.Spec L2 DL
open PyProof.Rows hiding St

inductive Lit where
  | non | bl (b : Bool) | int (i : Int) | str (x : List Nat)
noncomputable def Lit.d : Lit → D
  | .non => .non | .bl b => .bl b | .int i => .int i | .str x => .str x
noncomputable def Lit.ck : Lit → Const → Bool
  | .non, .none => true
  | .bl b, .bool c => b == c
  | .int i, .int j => i == j
  | .str x, .str y => x == y.cps.toList && (x.all fun c => decide (c < 1114112))
  | _, _ => false

inductive Bn where
  | add | sub | mul | fdiv | mod | pow | mulS | mulT | addL
  deriving DecidableEq
noncomputable def Bn.op : Bn → Operator
  | .add => .Add | .sub => .Sub | .mul => .Mult | .fdiv => .FloorDiv | .mod => .Mod | .pow => .Pow | .mulS => .Mult | .mulT => .Mult | .addL => .Add
noncomputable def Bn.r : Bn → DR2
  | .add => rAddD | .sub => rI2 (fun _ _ => True) (fun i j => i - j) | .mul => rI2 CMul (fun i j => i * j) | .fdiv => rI2 CDiv (fun i j => i / j)
  | .mod => rI2 (fun _ j => 0 < j) (fun i j => i % j) | .pow => rI2 CPow (fun i j => i ^ j.toNat) | .mulS => rMulS | .mulT => rMulT | .addL => rAddL
theorem Bn.ok {X : Cx} : ∀ b : Bn, OpD X (binaryOp b.op) b.r
  | .add => od_add | .sub => od_sub | .mul => od_mul | .fdiv => od_fdiv | .mod => od_mod | .pow => od_pow | .mulS => od_mulS | .mulT => od_mulT | .addL => od_addL

inductive Cp where
  | eq | ne | lt | ltS | le | gt | ge | isN | notN | inn | nin | eqT | inD | ninD | inB | neR
  deriving DecidableEq
noncomputable def Cp.op : Cp → CmpOp
  | .eq => .Eq | .ne => .NotEq | .lt => .Lt | .ltS => .Lt | .le => .LtE | .gt => .Gt | .ge => .GtE | .isN => .Is | .notN => .IsNot | .inn => .In | .nin => .NotIn | .eqT => .Eq | .inD => .In | .ninD => .NotIn | .inB => .In | .neR => .NotEq
noncomputable def Cp.r : Cp → DR2
  | .eq => rEqN id | .ne => rEqN not | .lt => rLtD (fun i j => decide (i < j)) | .ltS => rLtS | .le => rLtD (fun i j => decide (i ≤ j)) | .gt => rLtD (fun i j => decide (j < i)) | .ge => rLtD (fun i j => decide (j ≤ i))
  | .isN => rIsN id | .notN => rIsN not | .inn => rIn1 id | .nin => rIn1 not | .eqT => rEqT | .inD => rInD id | .ninD => rInD not | .inB => rInB | .neR => rNeR
theorem Cp.ok {X : Cx} (hu : X.A.units + 64 < cLine) : ∀ b : Cp, OpD X (compareOp b.op) b.r
  | .eq => od_eq hu | .ne => od_ne hu | .lt => od_lt | .ltS => od_lt_str | .le => od_le | .gt => od_gt | .ge => od_ge | .isN => od_isN | .notN => od_notN | .inn => od_in hu | .nin => od_notin hu | .eqT => od_eqT hu | .inD => od_inD (Nat.lt_of_le_of_lt (Nat.add_le_add_left (by decide) _) hu) | .ninD => od_ninD (Nat.lt_of_le_of_lt (Nat.add_le_add_left (by decide) _) hu) | .inB => od_inB hu | .neR => od_neR hu

inductive Bl where
  | len | tuple | list | min | max | ord | str | int | all | any | sorted | min1
  deriving DecidableEq
noncomputable def Bl.nm : Bl → Str
  | .len => "len" | .tuple => "tuple" | .list => "list" | .min => "min" | .max => "max" | .ord => "ord" | .str => "str" | .int => "int" | .all => "all" | .any => "any" | .sorted => "sorted" | .min1 => "min"
noncomputable def Bl.r : Bl → List D → DH → DK → Prop
  | .len => rLen | .tuple => rTuple | .list => rList | .min => rMin | .max => rMax | .ord => rOrd | .str => rStr | .int => rInt | .all => rAll false | .any => rAll true | .sorted => rSorted | .min1 => rMin1

inductive Ms where
  | index | strip | rstrip | startswith | endswith | find | join | split | lower | upper
  deriving DecidableEq
noncomputable def Ms.nm : Ms → Str
  | .index => "index" | .strip => "strip" | .rstrip => "rstrip" | .startswith => "startswith" | .endswith => "endswith" | .find => "find" | .join => "join" | .split => "split" | .lower => "lower" | .upper => "upper"
noncomputable def Ms.r : Ms → D → List D → DH → DK → Prop
  | .index => mIndex
  | .strip => m1S (fun z _ => z.length ≤ sizeLine) fun z y => .str (strip2 true true y z)
  | .rstrip => m1S (fun z _ => z.length ≤ sizeLine) fun z y => .str (strip2 false true y z)
  | .startswith => m1S (fun _ _ => True) fun z y => .bl (decide (z.take y.length = y))
  | .endswith => m1S (fun _ _ => True) fun z y => .bl (decide (y.length ≤ z.length ∧ z.drop (z.length - y.length) = y))
  | .find => mFind
  | .join => mJoin
  | .split => mSplit
  | .lower => m0S lo1
  | .upper => m0S up1
inductive Ml where
  | append | reverse | clear
  deriving DecidableEq
noncomputable def Ml.nm : Ml → Str
  | .append => "append" | .reverse => "reverse" | .clear => "clear"
noncomputable def Ml.r : Ml → D → List D → DH → DK → Prop
  | .append => mAppend | .reverse => mReverse | .clear => mClear

inductive FP where
  | lit (w : List Nat)
  | var (i : Nat)
noncomputable def FP.d : FP → DTE
  | .lit w => dC (.str w)
  | .var i => dFmt (dVar i)
set_option genSizeOf false in
set_option genInjectivity false in
inductive CE where
  | var (i : Nat)
  | con (l : Lit)
  | bin (op : Bn) (a b : CE)
  | cmp (op : Cp) (a b : CE)
  | and (a b : CE) | not (a : CE)
  | ite (c a b : CE)
  | ix (a b : CE)
  | sl (a lo hi : CE)
  | tup (as : CE) | lst (as : CE) | lstz (as : CE) | frz (e : CE)
  | call (f : Nat) (as : CE)
  | comp (two : Bool) (ix : List Nat) (it c e : CE)
  | compz (two : Bool) (ix : List Nat) (it c e : CE)
  | rng1 (a : CE)
  | nil | cons (a as : CE)
noncomputable def CE.len : CE → Nat
  | .cons _ as => as.len + 1
  | _ => 0

structure FI where
  nm : Str
  np : Nat
  dds : List D
  sp : DSp
structure KI where
  nm : Str
  ks : List Str
  g : List D → List D → List D
  sp : DSp
structure FX where
  nm : Str
  np : Nat
  dds : List D
  sp : DSpX
structure MI where
  cl : Str
  nm : Str
  np : Nat
  sp : DSp
structure TabC where
  fn : Nat → Option FI
  kfn : Nat → Option KI
  con : Nat → Option (Str × D)
  bl : List Str
  fx : Nat → Option FX := fun _ => none
  cl : CN := fun _ => none
  isx : Nat → Str → Option Bool := fun _ _ => none
  lk : List Str := []
  mt : Nat → Option MI := fun _ => none
  ini : Nat → Option MI := fun _ => none
  fd : List (Str × Str) := []
structure Tab extends TabC where
  xd : DX := fun _ _ => False

structure Evs where
  e : DTE
  t : DTT
  a : DTA
  i : DTI
  o : DTO
noncomputable def botE : DTE := fun _ _ _ => False
noncomputable def botT : DTT := fun _ _ _ => False
noncomputable def botA : DTA := fun _ _ _ => False
noncomputable def botI : DTI := fun _ _ _ => False
noncomputable def botO : DTO := fun _ _ _ => False
noncomputable def mkE (t : DTE) : Evs := ⟨t, dB t, botA, diAny t, doSome t⟩
noncomputable def unpOf : Bool → D → Option (List D)
  | false => fun d => some [d]
  | true => unpair

noncomputable def ev (T : Tab) : CE → Evs
  | .var i => mkE (dVar i)
  | .con l => mkE (dC l.d)
  | .bin op a b => mkE (dOp op.r (ev T a).e (ev T b).e)
  | .cmp op a b => mkE (dOp op.r (ev T a).e (ev T b).e)
  | .and a b => { mkE (dAndV (ev T a).e (ev T b).e) with t := dAnd (ev T a).t (ev T b).t }
  | .not a => { mkE (dNotV (ev T a).e) with t := dNot (ev T a).t }
  | .ite c a b => { mkE (dIf (ev T c).t (ev T a).e (ev T b).e) with t := botT }
  | .ix a b => mkE (dOp rIxD (ev T a).e (ev T b).e)
  | .sl a lo hi => mkE (dSl (ev T a).e (ev T lo).o (ev T hi).o)
  | .tup as => mkE (dTup (ev T as).a)
  | .lst as => mkE (dLst (ev T as).a)
  | .lstz as => mkE (dLstZ (ev T as).a)
  | .frz e => { mkE (dFrz (ev T e).e) with t := botT }
  | .call f as => mkE (match T.fn f with | some fi => dCall fi.sp (fi.dds.drop (fi.dds.length - (fi.np - as.len))) (ev T as).a | none => botE)
  | .comp two ix it c e => mkE (dComp (ev T it).i ix (unpOf two) (ev T c).t (ev T e).e)
  | .compz two ix it c e => mkE (dCompZ (ev T it).i ix (unpOf two) (ev T c).t (ev T e).e)
  | .rng1 a => ⟨botE, botT, botA, diRng1 (dCons (ev T a).e dNil), botO⟩
  | .nil => ⟨botE, dTrue, dNil, botI, doNone⟩
  | .cons a as => ⟨botE, botT, dCons (ev T a).e (ev T as).a, botI, botO⟩
theorem ev_var (T : Tab) {i} : ev T (.var i) = (mkE (dVar i)) := rfl
theorem ev_con (T : Tab) {l} : ev T (.con l) = (mkE (dC l.d)) := rfl
theorem ev_bin (T : Tab) {op} {a} {b} : ev T (.bin op a b) = (mkE (dOp op.r (ev T a).e (ev T b).e)) := rfl
theorem ev_cmp (T : Tab) {op} {a} {b} : ev T (.cmp op a b) = (mkE (dOp op.r (ev T a).e (ev T b).e)) := rfl
theorem ev_and (T : Tab) {a} {b} : ev T (.and a b) = ({ mkE (dAndV (ev T a).e (ev T b).e) with t := dAnd (ev T a).t (ev T b).t }) := rfl
theorem ev_not (T : Tab) {a} : ev T (.not a) = ({ mkE (dNotV (ev T a).e) with t := dNot (ev T a).t }) := rfl
theorem ev_ite (T : Tab) {c} {a} {b} : ev T (.ite c a b) = ({ mkE (dIf (ev T c).t (ev T a).e (ev T b).e) with t := botT }) := rfl
theorem ev_ix (T : Tab) {a} {b} : ev T (.ix a b) = (mkE (dOp rIxD (ev T a).e (ev T b).e)) := rfl
theorem ev_sl (T : Tab) {a} {lo} {hi} : ev T (.sl a lo hi) = (mkE (dSl (ev T a).e (ev T lo).o (ev T hi).o)) := rfl
theorem ev_tup (T : Tab) {as} : ev T (.tup as) = (mkE (dTup (ev T as).a)) := rfl
theorem ev_lst (T : Tab) {as} : ev T (.lst as) = (mkE (dLst (ev T as).a)) := rfl
theorem ev_lstz (T : Tab) {as} : ev T (.lstz as) = (mkE (dLstZ (ev T as).a)) := rfl
theorem ev_frz (T : Tab) {e} : ev T (.frz e) = ({ mkE (dFrz (ev T e).e) with t := botT }) := rfl
theorem ev_call (T : Tab) {f} {as} : ev T (.call f as) = (mkE (match T.fn f with | some fi => dCall fi.sp (fi.dds.drop (fi.dds.length - (fi.np - as.len))) (ev T as).a | none => botE)) := rfl
theorem ev_comp (T : Tab) {two} {ix} {it} {c} {e} : ev T (.comp two ix it c e) = (mkE (dComp (ev T it).i ix (unpOf two) (ev T c).t (ev T e).e)) := rfl
theorem ev_compz (T : Tab) {two} {ix} {it} {c} {e} : ev T (.compz two ix it c e) = (mkE (dCompZ (ev T it).i ix (unpOf two) (ev T c).t (ev T e).e)) := rfl
theorem ev_rng1 (T : Tab) {a} : ev T (.rng1 a) = (⟨botE, botT, botA, diRng1 (dCons (ev T a).e dNil), botO⟩) := rfl
theorem ev_nil (T : Tab) : ev T (.nil) = (⟨botE, dTrue, dNil, botI, doNone⟩) := rfl
theorem ev_cons (T : Tab) {a} {as} : ev T (.cons a as) = (⟨botE, botT, dCons (ev T a).e (ev T as).a, botI, botO⟩) := rfl

structure GI where
  N : List Str
  names : List (Str × NameKind)
noncomputable def GI.kd (g : GI) (x : Str) : Option NameKind := g.names.lookup x
noncomputable def notStar : Expr → Bool
  | .Starred _ _ => false
  | _ => true
noncomputable def notSet : Expr → Bool
  | .Set _ _ _ => false
  | _ => true
noncomputable def notSlice : Expr → Bool
  | .Slice _ _ _ _ => false
  | _ => true
noncomputable def notSup : Expr → Bool
  | .Call (.Name _ _) [] [] _ => false
  | _ => true
noncomputable def isGlob (g : GI) (x : Str) : Bool := g.kd x == some .globalImplicit && !(x == ("__debug__" : Str)) && !(x == ("__name__" : Str))
noncomputable def isVis (g : GI) (x : Str) : Bool := (g.kd x == some .local || g.kd x == some .cell || g.kd x == some .free) && !(x == ("__debug__" : Str)) && !(x == ("__classdict__" : Str))
noncomputable def isBlt (T : TabC) (g : GI) (x : Str) : Bool := isGlob g x && T.bl.contains x

noncomputable def vCall : (x : Expr) → Option { p : Str × Pos × Expr × List Expr × Pos // x = .Call (.Name p.1 p.2.1) (p.2.2.1 :: p.2.2.2.1) [] p.2.2.2.2 }
  | .Call (.Name f fp) (z :: zs) [] p => some ⟨(f, fp, z, zs, p), rfl⟩
  | _ => none
noncomputable def vNm : (x : Expr) → Option { p : Str × Pos // x = .Name p.1 p.2 }
  | .Name y p => some ⟨(y, p), rfl⟩
  | _ => none
noncomputable def vCst : (x : Expr) → Option { p : Const × Nat × Pos // x = .Constant p.1 p.2.1 p.2.2 }
  | .Constant k n p => some ⟨(k, n, p), rfl⟩
  | _ => none
noncomputable def vTup : (x : Expr) → Option { p : List Expr × Nat × Pos // x = .Tuple p.1 p.2.1 p.2.2 }
  | .Tuple es n p => some ⟨(es, n, p), rfl⟩
  | _ => none
noncomputable def vAdd : (x : Expr) → Option { p : Expr × Expr × Pos // x = .BinOp p.1 .Add p.2.1 p.2.2 }
  | .BinOp a .Add b p => some ⟨(a, b, p), rfl⟩
  | _ => none
noncomputable def vMeth : (x : Expr) → Option { p : Expr × Str × Pos × List Expr × Pos // x = .Call (.Attribute p.1 p.2.1 p.2.2.1) p.2.2.2.1 [] p.2.2.2.2 }
  | .Call (.Attribute z n ap) es [] cp => some ⟨(z, n, ap, es, cp), rfl⟩
  | _ => none
noncomputable def vCall0 : (x : Expr) → Option { p : Str × Pos × Pos // x = .Call (.Name p.1 p.2.1) [] [] p.2.2 }
  | .Call (.Name f fp) [] [] p => some ⟨(f, fp, p), rfl⟩
  | _ => none
noncomputable def vBin : (x : Expr) → Option { p : Expr × Operator × Expr × Pos // x = .BinOp p.1 p.2.1 p.2.2.1 p.2.2.2 }
  | .BinOp l o r p => some ⟨(l, o, r, p), rfl⟩
  | _ => none
noncomputable def vCmp : (x : Expr) → Option { p : Expr × CmpOp × Expr × Pos // x = .Compare p.1 [p.2.1] [p.2.2.1] p.2.2.2 }
  | .Compare l [o] [r] p => some ⟨(l, o, r, p), rfl⟩
  | _ => none
noncomputable def vIfE : (x : Expr) → Option { p : Expr × Expr × Expr × Pos // x = .IfExp p.1 p.2.1 p.2.2.1 p.2.2.2 }
  | .IfExp l o r p => some ⟨(l, o, r, p), rfl⟩
  | _ => none
noncomputable def vSub : (x : Expr) → Option { p : Expr × Expr × Pos // x = .Subscript p.1 p.2.1 p.2.2 }
  | .Subscript y z p => some ⟨(y, z, p), rfl⟩
  | _ => none
noncomputable def vSl : (x : Expr) → Option { p : Option Expr × Option Expr × Pos // x = .Slice p.1 p.2.1 none p.2.2 }
  | .Slice l u none p => some ⟨(l, u, p), rfl⟩
  | _ => none
noncomputable def vNot : (x : Expr) → Option { p : UnaryOp × Expr × Pos // x = .UnaryOp p.1 p.2.1 p.2.2 }
  | .UnaryOp o y p => some ⟨(o, y, p), rfl⟩
  | _ => none
noncomputable def vLst : (x : Expr) → Option { p : List Expr × Pos // x = .List p.1 p.2 }
  | .List es p => some ⟨(es, p), rfl⟩
  | _ => none
noncomputable def vAtt : (x : Expr) → Option { p : Expr × Str × Pos // x = .Attribute p.1 p.2.1 p.2.2 }
  | .Attribute z n p => some ⟨(z, n, p), rfl⟩
  | _ => none
noncomputable def vLc : (x : Expr) → Option { p : Expr × Expr × Expr × List Expr × Scope × Pos // x = .ListComp p.1 [⟨p.2.1, p.2.2.1, p.2.2.2.1, 0⟩] p.2.2.2.2.1 p.2.2.2.2.2 }
  | .ListComp elt [⟨tg, iter, ifs, 0⟩] scope p => some ⟨(elt, tg, iter, ifs, scope, p), rfl⟩
  | _ => none
noncomputable def vBo : (x : Expr) → Option { p : PySem.BoolOp × List Expr × Pos // x = .BoolOp p.1 p.2.1 p.2.2 }
  | .BoolOp o vs p => some ⟨(o, vs, p), rfl⟩
  | _ => none
noncomputable def vD0 : (x : Expr) → Option { p : Pos // x = .Dict [] [] p }
  | .Dict [] [] p => some ⟨p, rfl⟩
  | _ => none
noncomputable def vD1 : (x : Expr) → Option { p : Expr × Expr × Pos // x = .Dict [some p.1] [p.2.1] p.2.2 }
  | .Dict [some y] [z] p => some ⟨(y, z, p), rfl⟩
  | _ => none
noncomputable def vJn : (x : Expr) → Option { p : List Expr × Pos // x = .JoinedStr p.1 p.2 }
  | .JoinedStr es p => some ⟨(es, p), rfl⟩
  | _ => none
noncomputable def vFm : (x : Expr) → Option { p : Expr × Pos // x = .FormattedValue p.1 (-1) none p.2 }
  | .FormattedValue e c none p => if h : c = -1 then some ⟨(e, p), by rw [h]⟩ else none
  | _ => none
noncomputable def v1 {α : Type} : (xs : List α) → Option { p : α // xs = [p] }
  | [z] => some ⟨z, rfl⟩
  | _ => none
noncomputable def v2 {α : Type} : (xs : List α) → Option { p : α × α // xs = [p.1, p.2] }
  | [z, z'] => some ⟨(z, z'), rfl⟩
  | _ => none
noncomputable def onV {α : Type} {P : α → Prop} (o : Option { p : α // P p }) (f : α → Bool) : Bool := match o with
  | some p => f p.1
  | none => false
structure Chk where
  e : GI → Expr → Bool
  b : PySem.BoolOp → GI → List Expr → Bool
  a : GI → List Expr → Bool
  i : GI → Expr → Bool
  o : GI → Option Expr → Bool
  c : GI → List Expr → Bool
noncomputable def mkC (f : GI → Expr → Bool) : Chk :=
  ⟨f, fun _ g vs => match vs with | [x] => f g x | _ => false, fun _ _ => false, f, fun g o => match o with | some x => f g x | none => false, fun g vs => match vs with | [x] => f g x | _ => false⟩
noncomputable def ckBool (op : PySem.BoolOp) (ca cb : Chk) : GI → List Expr → Bool := fun g vs => match vs with
  | x :: y :: r => ca.e g x && cb.b op g (y :: r)
  | _ => false
noncomputable def ckOpE (op : PySem.BoolOp) (ca cb : Chk) : GI → Expr → Bool := fun g x => onV (vBo x) fun c => c.1 == op && ckBool op ca cb g c.2.1
noncomputable def ckOpB (op : PySem.BoolOp) (ca cb : Chk) : PySem.BoolOp → GI → List Expr → Bool := fun o g vs => if o = op then ckBool op ca cb g vs else match vs with
  | [x] => ckOpE op ca cb g x
  | _ => false
noncomputable def tgNames : Bool → Expr → Option (List Str)
  | false, e => (vNm e).bind fun p => some [p.1.1]
  | true, e => (vTup e).bind fun t => (v2 t.1.1).bind fun p => (vNm p.1.1).bind fun a => (vNm p.1.2).bind fun b => some [a.1.1, b.1.1]
noncomputable def compOkB (g : GI) (scope : Scope) (N : List Str) (k : Nat) (fn : List Str) : Bool :=
  scope.kind == .function && scope.names.all (fun y => !(y.2 == .cell)) && scope.names.all (fun y => !(y.2 == .local) || scope.names.lookup y.1 == some .local)
    && scope.names.all (fun y => !(y.2 == .free) || (g.kd y.1 == some .cell || g.kd y.1 == some .free)) && decide N.Nodup && decide (N.drop k = fn) && decide (N.length = k + fn.length)
    && fn.all (fun y => (g.kd y == some .cell || g.kd y == some .free) && scope.names.lookup y == some .free)
noncomputable def ckComp (two : Bool) (ix : List Nat) (ci cc ce : Chk) : GI → Expr → Bool := fun g x => onV (vLc x) fun c => match tgNames two c.2.1 with
  | some ts => let fn := ix.filterMap fun i => g.N[i]?
    compOkB g c.2.2.2.2.1 (ts ++ fn) ts.length fn && decide (ix.map (fun i => g.N[i]?) = fn.map some) && ts.all (fun y => c.2.2.2.2.1.names.lookup y == some .local) && notSet c.2.2.1 && ci.i g c.2.2.1 && cc.c ⟨ts ++ fn, c.2.2.2.2.1.names⟩ c.2.2.2.1 && ce.e ⟨ts ++ fn, c.2.2.2.2.1.names⟩ c.1
  | none => false

noncomputable def ckR1 (T : TabC) (nm : Str) (f : GI → Expr → Bool) (g : GI) (x : Expr) : Bool := onV (vCall x) fun c => c.2.2.2.1.isEmpty && isBlt T g c.1 && c.1 == nm && notStar c.2.2.1 && f g c.2.2.1
noncomputable def ckR2 (T : TabC) (f f' : GI → Expr → Bool) (g : GI) (x : Expr) : Bool := onV (vCall x) fun c => onV (v1 c.2.2.2.1) fun d => isBlt T g c.1 && c.1 == ("range" : Str) && notStar c.2.2.1 && notStar d && f g c.2.2.1 && f' g d
noncomputable def ckF1 (g : GI) (e : Expr) : FP → Bool
  | .lit w => onV (vCst e) fun c => (Lit.str w).ck c.1
  | .var i => onV (vFm e) fun c => onV (vNm c.1) fun n => g.N[i]? == some n.1 && isVis g n.1
noncomputable def ckF (g : GI) : List FP → List Expr → Bool
  | [], es => es.isEmpty
  | p :: ps, es => match es with
    | e :: es => ckF1 g e p && ckF g ps es
    | [] => false
noncomputable def chkC (T : TabC) : CE → Chk
  | .var i => mkC fun g x => onV (vNm x) fun c => g.N[i]? == some c.1 && isVis g c.1
  | .con l => mkC fun _ x => onV (vCst x) fun c => l.ck c.1
  | .bin op a b => mkC fun g x => onV (vBin x) fun c => c.2.1 == op.op && (chkC T a).e g c.1 && (chkC T b).e g c.2.2.1
  | .cmp op a b => mkC fun g x => onV (vCmp x) fun c => c.2.1 == op.op && notSet c.2.2.1 && (chkC T a).e g c.1 && (chkC T b).e g c.2.2.1
  | .and a b => { mkC (ckOpE .And (chkC T a) (chkC T b)) with b := ckOpB .And (chkC T a) (chkC T b) }
  | .not a => mkC fun g x => onV (vNot x) fun c => c.1 == .Not && (chkC T a).e g c.2.1
  | .ite c a b => mkC fun g x => onV (vIfE x) fun t => (chkC T c).e g t.1 && (chkC T a).e g t.2.1 && (chkC T b).e g t.2.2.1
  | .ix a b => mkC fun g x => onV (vSub x) fun c => notSlice c.2.1 && (chkC T a).e g c.1 && (chkC T b).e g c.2.1
  | .sl a lo hi => mkC fun g x => onV (vSub x) fun c => onV (vSl c.2.1) fun s => (chkC T a).e g c.1 && (chkC T lo).o g s.1 && (chkC T hi).o g s.2.1
  | .tup as => mkC fun g x => onV (vTup x) fun c => (chkC T as).a g c.1
  | .lst as => mkC fun g x => onV (vLst x) fun c => (chkC T as).a g c.1
  | .lstz as => mkC fun g x => onV (vLst x) fun c => (chkC T as).a g c.1
  | .frz e => mkC fun g x => (chkC T e).e g x
  | .call f as => mkC fun g x => onV (vCall x) fun c => match T.fn f with
    | some fi => isGlob g c.1 && c.1 == fi.nm && decide (as.len ≤ fi.np) && decide (fi.np - as.len ≤ fi.dds.length) && (chkC T as).a g (c.2.2.1 :: c.2.2.2.1)
    | none => false
  | .comp two ix it c e => mkC (ckComp two ix (chkC T it) (chkC T c) (chkC T e))
  | .compz two ix it c e => mkC (ckComp two ix (chkC T it) (chkC T c) (chkC T e))
  | .rng1 a => { (mkC fun _ _ => false) with
      i := ckR1 T "range" (chkC T a).e }
  | .nil => ⟨fun _ _ => false, fun _ _ _ => false, fun _ es => es.isEmpty, fun _ _ => false, fun _ o => o.isNone, fun _ es => es.isEmpty⟩
  | .cons a as => ⟨fun _ _ => false, fun _ _ _ => false, fun g es => match es with | x :: r => notStar x && (chkC T a).e g x && (chkC T as).a g r | [] => false, fun _ _ => false, fun _ _ => false, fun _ _ => false⟩
noncomputable abbrev chk (T : Tab) (c : CE) : Chk := chkC T.toTabC c
end IR

set_option Elab.async false
set_option linter.all false
set_option maxRecDepth 100000
namespace IR
open PySem PySem.Spec L2 DL
open PyProof.Rows hiding St

structure FRel (X : Cx) (fi : FI) : Prop where
  ex : ∃ (k : Nat) (f : Addr) (fd : FuncData) (ps : List Str), FnOk X.prog X.w X.K X.mg X.base CX0 k f fd ps (lSp X.K fi.sp) ∧ Room k X.A ∧ X.mg fi.nm = some (.ref f) ∧ PySem.W.keepIn X.K (.ref f) = true ∧ ps.length = fi.np ∧
    ∀ j, j ≤ fi.dds.length → ∃ (ds : List Value) (dvs : List V), Binds X.K fd ps ds ∧ Vals dvs ds ∧ ∀ H, Dens X.K H (fi.dds.drop j) dvs
structure KRel (X : Cx) (ki : KI) : Prop where
  ex : ∃ (k : Nat) (f : Addr) (fd : FuncData) (ps : List Str) (gv : List Value → List Value → List Value) (gV : List V → List V → List V), FnOk X.prog X.w X.K X.mg X.base CX0 k f fd ps (lSp X.K ki.sp) ∧ Room k X.A ∧ X.mg ki.nm = some (.ref f) ∧ PySem.W.keepIn X.K (.ref f) = true ∧
    KBinds X.K fd ps ki.ks gv gV ∧ ∀ H ds vs zs ws, Dens X.K H ds vs → Dens X.K H zs ws → Dens X.K H (ki.g ds zs) (gV vs ws)
structure XFRel (X : Cx) (cn : CN) (fi : FX) : Prop where
  ex : ∃ (k : Nat) (f : Addr) (fd : FuncData) (ps : List Str), FnOk X.prog X.w X.K X.mg X.base (CX1 X.prog X.w) k f fd ps (lSpX X.K X.mg cn fi.sp) ∧ Room k X.A ∧ X.mg fi.nm = some (.ref f) ∧ PySem.W.keepIn X.K (.ref f) = true ∧ ps.length = fi.np ∧
    ∀ j, j ≤ fi.dds.length → ∃ (ds : List Value) (dvs : List V), Binds X.K fd ps ds ∧ Vals dvs ds ∧ ∀ H, Dens X.K H (fi.dds.drop j) dvs
noncomputable def IsxOk (K : PySem.W.Frag) (mg : Str → Option Value) (cl : CN) (c : Nat) (nm : Str) (b : Bool) : Prop :=
  ∃ (x : Str) (C : Addr) (u : Value) (v : V), cl c = some x ∧ mg x = some (.ref C) ∧ XLook K C ∧ (mg nm = some u ∨ (mg nm = none ∧ bootBuiltins nm = some u)) ∧ L2.RelV v u ∧ (∀ u', L2.RelV v u' → u' = u) ∧ PySem.W.kitOne K (.ref C) u = some b
structure MRel (X : Cx) (mi : MI) : Prop where
  ex : ∃ (k : Nat) (C f : Addr) (fd : FuncData) (ps : List Str), PySem.W.nsIn X.K mainGlobals mi.cl = some (some (.ref C)) ∧ Cls X.K C ∧ Meth X.K C mi.nm f ∧ FnOk X.prog X.w X.K X.mg X.base CX0 k f fd ps (lSp X.K mi.sp) ∧ Room k X.A ∧ Binds X.K fd ps []
structure MkRel (X : Cx) (mi : MI) : Prop where
  ex : ∃ (k : Nat) (C f : Addr) (fd : FuncData) (ps : List Str), PySem.W.nsIn X.K mainGlobals mi.cl = some (some (.ref C)) ∧ X.mg mi.cl = some (.ref C) ∧ Mk X.K C f ∧ FnOk X.prog X.w X.K X.mg X.base CX0 k f fd ps (lSp X.K mi.sp) ∧ Room (k + 1) X.A ∧ Binds X.K fd ps []
noncomputable def FdOk (K : PySem.W.Frag) (c f : Str) : Prop := ∃ C, PySem.W.nsIn K mainGlobals c = some (some (.ref C)) ∧ Cls K C ∧ NoAttr K C f
structure Rel (X : Cx) (T : Tab) (g : GI) : Prop where
  N : X.N = g.N
  nd : g.N.Nodup
  calm : X.calm = true
  gl : ∀ x, g.kd x = some .globalImplicit → X.env.scope.names.lookup x = some .globalImplicit
  lc : ∀ x, g.kd x = some .local → X.env.scope.names.lookup x = some .local
  cf : ∀ x, (g.kd x = some .cell ∨ g.kd x = some .free) → (X.env.scope.names.lookup x = some .cell ∨ X.env.scope.names.lookup x = some .free)
  fns : ∀ f fi, T.fn f = some fi → FRel X fi
  kfs : ∀ f ki, T.kfn f = some ki → KRel X ki
  fxs : ∀ f fi, T.fx f = some fi → XFRel X T.cl fi
  cls : ∀ c x, T.cl c = some x → ∃ C, X.mg x = some (.ref C) ∧ XCls X.K C
  tk : Takes X fun cls _ H => lX X.K X.mg T.cl T.xd cls H
  tp : Top X
  con : ∀ i p, T.con i = some p → ∃ u v, X.mg p.1 = some u ∧ L2.RelV v u ∧ ∀ H, Den X.K H p.2 v
  nob : ∀ x ∈ T.bl, X.mg x = none
  isx : ∀ c nm b, T.isx c nm = some b → IsxOk X.K X.mg T.cl c nm b
  lks : ∀ x ∈ T.lk, ∃ C, X.mg x = some (.ref C) ∧ XLook X.K C
  mts : ∀ f mi, T.mt f = some mi → MRel X mi
  mks : ∀ f mi, T.ini f = some mi → MkRel X mi
  fds : ∀ p ∈ T.fd, FdOk X.K p.1 p.2
  un : X.A.units + 64 < cLine

section
variable {X : Cx} {T : Tab} {g : GI} {e : Expr} {es : List Expr} {env : Env}
theorem Rel.glob (R : Rel X T g) {x : Str} (h : isGlob g x = true) : Gl X x ∧ (x == ("__debug__" : Str)) = false ∧ x ≠ "__name__" := by
  unfold isGlob at h
  simp only [Bool.and_eq_true, beq_iff_eq, Bool.not_eq_true'] at h
  refine ⟨R.gl x h.1.1, h.1.2, fun e => ?_⟩
  have q := h.2
  rw [e] at q
  simp at q
theorem Rel.blt (R : Rel X T g) {x : Str} (h : isBlt T.toTabC g x = true) : Gl X x ∧ (x == ("__debug__" : Str)) = false ∧ x ≠ "__name__" ∧ X.mg x = none := by
  unfold isBlt at h
  rw [Bool.and_eq_true] at h
  obtain ⟨a, b, c⟩ := R.glob h.1
  exact ⟨a, b, c, R.nob x (by simpa using h.2)⟩
theorem Rel.vis (R : Rel X T g) {x : Str} (h : isVis g x = true) : Vis X.env.scope x ∧ (x == ("__debug__" : Str)) = false ∧ (x == ("__classdict__" : Str)) = false := by
  unfold isVis at h
  simp only [Bool.and_eq_true, Bool.or_eq_true, beq_iff_eq, Bool.not_eq_true'] at h
  refine ⟨?_, h.1.2, h.2⟩
  rcases h.1.1 with (h | h) | h
  · exact .inl (R.lc x h)
  · rcases R.cf x (.inl h) with q | q
    · exact .inr (.inl q)
    · exact .inr (.inr q)
  · rcases R.cf x (.inr h) with q | q
    · exact .inr (.inl q)
    · exact .inr (.inr q)

theorem relabel_keep {env : Env} {k : NameKind} (hk : k ≠ .free) : ∀ {names : List (Str × NameKind)} {x : Str}, names.lookup x = some k →
    (names.map fun (n, k) => if (k == NameKind.free && env.scope.kind == .function && env.kindOf n == some .cell) then (n, NameKind.cell) else (n, k)).lookup x = some k
  | [], _, h => by simp at h
  | (n, j) :: r, x, h => by
    have ih := @relabel_keep env k hk r x
    rw [List.map_cons]
    dsimp only
    rw [List.lookup_cons] at h
    by_cases hx : x = n
    · subst hx
      simp only [beq_self_eq_true] at h
      cases h
      have hc : ¬ (k == NameKind.free && env.scope.kind == .function && env.kindOf x == some .cell) = true := by
        intro q
        simp only [Bool.and_eq_true, beq_iff_eq] at q
        exact hk q.1.1
      rw [if_neg hc]
      simp [List.lookup_cons]
    · have hne : (x == n) = false := by simpa using hx
      rw [hne] at h
      have ih' := ih h
      by_cases hc : (j == NameKind.free && env.scope.kind == .function && env.kindOf n == some .cell) = true
      · rw [if_pos hc]; simp only [List.lookup_cons, hne]; exact ih'
      · rw [if_neg hc]; simp only [List.lookup_cons, hne]; exact ih'
theorem compOk_of (R : Rel X T g) {scope : Scope} {N fn : List Str} {k : Nat} (h : compOkB g scope N k fn = true) : CompOk X.env.scope scope N k fn := by
  unfold compOkB at h
  simp only [Bool.and_eq_true, beq_iff_eq, List.all_eq_true, Bool.not_eq_true', Bool.or_eq_true, decide_eq_true_eq, beq_eq_false_iff_ne, ne_eq] at h
  obtain ⟨⟨⟨⟨⟨⟨⟨h1, h2⟩, h3⟩, h4⟩, h5⟩, h6⟩, h7⟩, h8⟩ := h
  refine ⟨h1, fun y hy => h2 y hy, fun y hy e => ?_, fun y hy e => ?_, h5, h6, h7, fun y hy => ?_⟩
  · rcases h3 y hy with q | q
    · exact absurd e q
    · exact q
  · rcases h4 y hy with q | q
    · exact absurd e q
    · exact R.cf y.1 q
  · exact ⟨R.cf y (h8 y hy).1, (h8 y hy).2⟩
theorem Rel.comp (R : Rel X T g) {scope : Scope} {N fn : List Str} {k : Nat} (h : compOkB g scope N k fn = true) (cl : List (Str × Addr)) (C : Addr) (s₀ : Shared) (H₀ : Hp) (ex : List Addr) (E : Value → Shared → Prop) (hE : Takes (cxComp X scope N cl C s₀ H₀ ex E) fun cls _ H => lX X.K X.mg T.cl T.xd cls H) : Rel (cxComp X scope N cl C s₀ H₀ ex E) T ⟨N, scope.names⟩ where
  N := rfl
  nd := (compOk_of R h).nd
  calm := R.calm
  gl := fun x e => relabel_keep (k := .globalImplicit) (by decide) e
  lc := fun x e => relabel_keep (k := .local) (by decide) e
  cf := fun x e => by
    rcases e with e | e
    · exact .inl (relabel_keep (k := .cell) (by decide) e)
    · exact relabel_free e
  fns := fun f fi e => ⟨(R.fns f fi e).ex⟩
  kfs := fun f ki e => ⟨(R.kfs f ki e).ex⟩
  fxs := fun f fi e => ⟨(R.fxs f fi e).ex⟩
  cls := R.cls
  tk := hE
  tp := ⟨R.tp.ex⟩
  con := R.con
  nob := R.nob
  isx := R.isx
  lks := R.lks
  mts := fun f mi e => ⟨(R.mts f mi e).ex⟩
  mks := fun f mi e => ⟨(R.mks f mi e).ex⟩
  fds := R.fds
  un := R.un
end

structure Snd (T : Tab) (c : CE) : Prop where
  e : ∀ {X : Cx} {g : GI}, Rel X T g → ∀ {x : Expr}, (chk T c).e g x = true → DE X x (ev T c).e
  t : ∀ {X : Cx} {g : GI}, Rel X T g → ∀ {x : Expr}, (chk T c).e g x = true → DT X x (ev T c).t
  be : ∀ {X : Cx} {g : GI}, Rel X T g → ∀ {op : PySem.BoolOp} {vs : List Expr} {pos : Pos}, (chk T c).b op g vs = true → DE X (.BoolOp op vs pos) (ev T c).e
  bt : ∀ {X : Cx} {g : GI}, Rel X T g → ∀ {op : PySem.BoolOp} {vs : List Expr} {pos : Pos}, (chk T c).b op g vs = true → DW X (.BoolOp op vs pos) (ev T c).t
  a : ∀ {X : Cx} {g : GI}, Rel X T g → ∀ {es : List Expr}, (chk T c).a g es = true → DA X es (ev T c).a ∧ es.all notStar = true ∧ es.length = c.len
  i : ∀ {X : Cx} {g : GI}, Rel X T g → ∀ {x tg : Expr}, (chk T c).i g x = true → DI X tg x (ev T c).i
  o : ∀ {X : Cx} {g : GI}, Rel X T g → ∀ {x : Option Expr}, (chk T c).o g x = true → DO X x (ev T c).o
  k : ∀ {X : Cx} {g : GI}, Rel X T g → ∀ {kws : List Keyword}, (chk T c).a g (kws.map (·.value)) = true → DKw X kws (ev T c).a
  c : ∀ {X : Cx} {g : GI}, Rel X T g → ∀ {xs : List Expr}, (chk T c).c g xs = true → DIfs X xs (ev T c).t

section
variable {T : Tab} {c : CE} {f : GI → Expr → Bool} {t : DTE} {u : DTT}
theorem dw_one {X : Cx} {x : Expr} {op : PySem.BoolOp} {pos : Pos} (h : DT X x u) : DW X (.BoolOp op [x] pos) u := by
  cases op
  · exact dw_and1 h
  · exact dw_or1 h
theorem Snd.of (hc : chk T c = mkC f) (hv : ev T c = { mkE t with t := u }) (h : ∀ {X : Cx} {g : GI}, Rel X T g → ∀ {x : Expr}, f g x = true → DE X x t ∧ DT X x u) : Snd T c where
  e := fun R x q => by rw [hc] at q; rw [hv]; exact (h R q).1
  t := fun R x q => by rw [hc] at q; rw [hv]; exact (h R q).2
  be := fun {X g} R {op vs pos} q => by
    rw [hc] at q
    rw [hv]
    match vs, q with
    | [x], q => exact de_one (h R (show f g x = true from q)).1
  bt := fun {X g} R {op vs pos} q => by
    rw [hc] at q
    rw [hv]
    match vs, q with
    | [x], q => exact dw_one (h R (show f g x = true from q)).2
  a := fun R es q => by rw [hc] at q; cases q
  k := fun R kws q => by rw [hc] at q; cases q
  i := fun {X g} R {x tg} q => by
    rw [hc] at q
    rw [hv]
    exact di_any (h R (show f g x = true from q)).1
  o := fun {X g} R {x} q => by
    rw [hc] at q
    rw [hv]
    match x, q with
    | some x, q => exact do_some (h R (show f g x = true from q)).1
  c := fun {X g} R {xs} q => by
    rw [hc] at q
    rw [hv]
    match xs, q with
    | [x], q => exact difs_one (h R (show f g x = true from q)).2
end
end IR

set_option Elab.async false
set_option linter.all false
set_option maxRecDepth 100000
namespace IR
open PySem PySem.Spec L2 DL
open PyProof.Rows hiding St
section
variable {T : Tab} {X : Cx} {g : GI} {x : Expr}
end
end IR

set_option Elab.async false
set_option linter.all false
set_option maxRecDepth 100000
namespace IR
open PySem PySem.Spec L2 DL
open PyProof.Rows hiding St

inductive HP where
  | isx (nm : Str) | lit (l : Lit)
set_option genSizeOf false in
set_option genInjectivity false in
inductive CS where
  | nil | seq (s r : CS)
  | set (i : Nat) (e : CE)
  | ret (e : CE)
  | ite (c : CE) (a b : CS)
  | for1 (i : Nat) (it : CE) (b : CS)
noncomputable def hP (T : Tab) (c je : Nat) (a : Addr) : HP → DTE
  | .isx nm => match T.isx c nm with
    | some b => dIsE je a b
    | none => botE
  | .lit l => dC l.d
noncomputable def hA (T : Tab) (c je : Nat) (a : Addr) : List HP → DTA
  | [] => dNil
  | p :: r => dCons (hP T c je a p) (hA T c je a r)
noncomputable def hS (T : Tab) (c je : Nat) (a : Addr) (y : Nat) : List (List HP) → DTS
  | [] => dNext
  | p :: r => dSeq (dSet y (dOp rAddD (dVar y) (dTup (hA T c je a p)))) (hS T c je a y r)
noncomputable def evS (T : Tab) : CS → DTS
  | .nil => dNext
  | .seq s r => dSeq (evS T s) (evS T r)
  | .set i e => dSet i (ev T e).e
  | .ret e => dRet (ev T e).e
  | .ite c a b => dIfS (ev T c).t (evS T a) (evS T b)
  | .for1 i it b => dFor (ev T it).i (dgName i) (evS T b)
theorem evS_nil (T : Tab) : evS T (.nil) = (dNext) := rfl
theorem evS_seq (T : Tab) {s} {r} : evS T (.seq s r) = (dSeq (evS T s) (evS T r)) := rfl
theorem evS_set (T : Tab) {i} {e} : evS T (.set i e) = (dSet i (ev T e).e) := rfl
theorem evS_ret (T : Tab) {e} : evS T (.ret e) = (dRet (ev T e).e) := rfl
theorem evS_ite (T : Tab) {c} {a} {b} : evS T (.ite c a b) = (dIfS (ev T c).t (evS T a) (evS T b)) := rfl
theorem evS_for1 (T : Tab) {i} {it} {b} : evS T (.for1 i it b) = (dFor (ev T it).i (dgName i) (evS T b)) := rfl
noncomputable def notComp : Expr → Bool
  | .ListComp .. | .SetComp .. | .DictComp .. => false
  | _ => true
noncomputable def notTup : Expr → Bool
  | .Tuple .. => false
  | _ => true
noncomputable def swapB (g : GI) (y : Str) (p : Pos) : Expr → Bool
  | .ListComp _ _ s q => g.kd y == some .local && p.line == q.line && !(s.names.any fun (n, k) => n == y && (k == .local || k == .cell))
  | _ => false
noncomputable def isOwn (g : GI) (i : Nat) (y : Str) : Bool := g.N[i]? == some y && (g.kd y == some .local || g.kd y == some .cell)
noncomputable def vTry : (x : Stmt) → Option { p : Stmt × ExceptHandler × Pos // x = .Try [p.1] [p.2.1] [] [] p.2.2 }
  | .Try [b] [h] [] [] p => some ⟨(b, h, p), rfl⟩
  | _ => none
noncomputable def vRet : (x : Stmt) → Option { p : Expr × Pos // x = .Return (some p.1) p.2 }
  | .Return (some v) p => some ⟨(v, p), rfl⟩
  | _ => none
noncomputable def vHan : (x : ExceptHandler) → Option { p : Str × Pos × Option Str × Stmt × List Stmt × Pos // x = .ExceptHandler (some (.Name p.1 p.2.1)) p.2.2.1 (p.2.2.2.1 :: p.2.2.2.2.1) p.2.2.2.2.2 }
  | .ExceptHandler (some (.Name x np)) n (b :: r) p => some ⟨(x, np, n, b, r, p), rfl⟩
  | _ => none
noncomputable def vEx : (x : Stmt) → Option { p : Expr × Pos // x = .Expr p.1 p.2 }
  | .Expr e p => some ⟨(e, p), rfl⟩
  | _ => none
noncomputable def vSet : (x : Stmt) → Option { p : Str × Pos × Expr × Pos // x = .Assign [.Name p.1 p.2.1] p.2.2.1 p.2.2.2 }
  | .Assign [.Name y yp] v p => some ⟨(y, yp, v, p), rfl⟩
  | _ => none
structure ChkS where
  s : GI → Stmt → Bool
  b : GI → List Stmt → Bool
noncomputable def mkS (f : GI → Stmt → Bool) : ChkS := ⟨f, fun _ _ => false⟩
noncomputable def isComp : CE → Bool
  | .comp .. | .compz .. => true
  | _ => false
noncomputable def ckP (g : GI) (n : Str) : HP → Expr → Bool
  | .isx nm => fun e => onV (vCall e) fun c => c.1 == ("isinstance" : Str) && onV (vNm c.2.2.1) (fun m => m.1 == n) && (match c.2.2.2.1 with
    | [k] => onV (vNm k) (fun k => k.1 == nm) && isGlob g nm
    | _ => false)
  | .lit l => fun e => onV (vCst e) fun k => l.ck k.1
noncomputable def ckA (g : GI) (n : Str) : List HP → List Expr → Bool
  | [] => fun es => es.isEmpty
  | p :: r => fun es => match es with
    | e :: es => ckP g n p e && ckA g n r es
    | [] => false
noncomputable def ckT (g : GI) (n : Str) (ps : List HP) (e : Expr) : Bool := onV (vTup e) fun t => ckA g n ps t.1
noncomputable def ckHs (g : GI) (n : Str) (y : Nat) : List (List HP) → List Stmt → Bool
  | [] => fun sts => sts.isEmpty
  | p :: r => fun sts => match sts with
    | st :: sts => onV (vSet st) (fun a => isOwn g y a.1 && isVis g a.1 && onV (vAdd a.2.2.1) fun b => onV (vNm b.1) (fun m => m.1 == a.1) && ckT g n p b.2.1) && ckHs g n y r sts
    | [] => false
noncomputable def ckX (T : TabC) (f : Nat) (as : CE) (g : GI) (e : Expr) : Bool := match T.fx f with
  | some fi => onV (vCall e) fun c => isGlob g c.1 && c.1 == fi.nm && decide (as.len ≤ fi.np) && decide (fi.np - as.len ≤ fi.dds.length) && (chkC T as).a g (c.2.2.1 :: c.2.2.2.1)
  | none => false
noncomputable def chkSC (T : TabC) : CS → ChkS
  | .nil => ⟨fun _ _ => false, fun _ sts => sts.isEmpty⟩
  | .seq s r => ⟨fun _ _ => false, fun g sts => match sts with | x :: xs => (chkSC T s).s g x && (chkSC T r).b g xs | [] => false⟩
  | .set i e => mkS fun g x => match x with
    | .Assign [.Name y p] v _ => isOwn g i y && (chkC T e).e g v && (notComp v || (swapB g y p v && isComp e))
    | _ => false
  | .ret e => mkS fun g x => match x with
    | .Return (some v) _ => (chkC T e).e g v
    | _ => false
  | .ite c a b => mkS fun g x => match x with
    | .If t y z _ => (chkC T c).e g t && (chkSC T a).b g y && (chkSC T b).b g z
    | _ => false
  | .for1 i it b => mkS fun g x => match x with
    | .For (.Name y _) iter body [] _ => isOwn g i y && notSet iter && (chkC T it).i g iter && (chkSC T b).b g body
    | _ => false
noncomputable abbrev chkS (T : Tab) (c : CS) : ChkS := chkSC T.toTabC c

structure RelS (X : Cx) (T : Tab) (g : GI) : Prop extends Rel X T g where
  kind : X.env.scope.kind = .function
  pass : PassesOwn (model X.prog X.w) X.A X.env X.xe
  own : ∀ x, g.kd x = some .cell → X.env.scope.names.lookup x = some .cell
  fn : ∀ x, X.fn x = true

section
variable {X : Cx} {T : Tab} {g : GI}
theorem RelS.loc (R : RelS X T g) {i : Nat} {y : Str} (h : isOwn g i y = true) : X.N.Nodup ∧ X.N[i]? = some y ∧ Loc X.env.scope y ∧ (X.fn y = true ∨ X.env.scope.names.lookup y = some .local) := by
  unfold isOwn at h
  simp only [Bool.and_eq_true, Bool.or_eq_true, beq_iff_eq] at h
  refine ⟨by rw [R.N]; exact R.nd, by rw [R.N]; exact h.1, ?_, .inl (R.fn y)⟩
  rcases h.2 with q | q
  · exact .inl (R.lc y q)
  · exact .inr (R.own y q)
theorem RelS.tg (R : RelS X T g) {i : Nat} {y : Str} {p : Pos} (h : isOwn g i y = true) : DL.DG X (.Name y p) (dgName i) := by
  obtain ⟨a, b, c, d⟩ := R.loc h
  exact dg_name a b c d

structure SndS (T : Tab) (c : CS) : Prop where
  s : ∀ {X : Cx} {g : GI}, RelS X T g → ∀ {x : Stmt}, (chkS T c).s g x = true → DL.DS X x (evS T c)
  b : ∀ {X : Cx} {g : GI}, RelS X T g → ∀ {xs : List Stmt}, (chkS T c).b g xs = true → DSs X xs (evS T c)
theorem SndS.of {c : CS} {f : GI → Stmt → Bool} (hc : chkS T c = mkS f) (h : ∀ {X : Cx} {g : GI}, RelS X T g → ∀ {x : Stmt}, f g x = true → DL.DS X x (evS T c)) : SndS T c where
  s := fun R x q => by rw [hc] at q; exact h R q
  b := fun R x q => by rw [hc] at q; cases q

theorem Rel.holds (R : Rel X T g) (hno : ∀ c M, ¬ T.xd c M) (pins : List (Addr × Obj)) (E : Value → Shared → Prop) : Rel (X.holds pins E) T g where
  N := R.N
  nd := R.nd
  calm := R.calm
  gl := R.gl
  lc := R.lc
  cf := R.cf
  fns := fun f fi e => ⟨(R.fns f fi e).ex⟩
  kfs := fun f ki e => ⟨(R.kfs f ki e).ex⟩
  fxs := fun f fi e => ⟨(R.fxs f fi e).ex⟩
  cls := R.cls
  tk := fun _ _ _ _ _ _ _ ⟨c, _, M, _, _, _, h⟩ => (hno c M h).elim
  tp := ⟨R.tp.ex⟩
  con := R.con
  nob := R.nob
  isx := R.isx
  lks := R.lks
  mts := fun f mi e => ⟨(R.mts f mi e).ex⟩
  mks := fun f mi e => ⟨(R.mks f mi e).ex⟩
  fds := R.fds
  un := R.un
structure HRel (X : Cx) (T : Tab) (g : GI) (Y : Cx) (n : Str) (je c : Nat) (a C : Addr) (oe : Obj) : Prop where
  R : RelS X T g
  y : Y = L2.handlingAs X a oe
  vis : isVis g n = true
  own : X.N[je]? = some n
  bi : isBlt T.toTabC g "isinstance" = true
  cl : ∃ x, T.cl c = some x ∧ X.mg x = some (.ref C)
  oc : oe.cls = .ref C
end

structure FunV (K : PySem.W.Frag) (x qual : Str) (st : Stmt) (f : Addr) (fd : FuncData) (dV : Value) : Prop where
  ex : ∃ (oc : Value) (od : Option Addr) (kV doc pm : Value) (an : Option Addr) (cdv ct : Value) (osl : Array (Option Value)),
    fd = PySem.W.fnOf x qual (defArgs st) (defBody st) (defScope st) dV kV doc pm an cdv ct ∧ K.lookup f = some ⟨oc, od, .func fd, osl⟩ ∧ PySem.W.codeIn K cdv qual = true
  kp : PySem.W.keepIn K (.ref f) = true
theorem _root_.L2.Fun.v {K : PySem.W.Frag} {x qual : Str} {st : Stmt} {f : Addr} {fd : FuncData} (F : Fun K x qual st f fd) : FunV K x qual st f fd .none := ⟨F.ex, F.kp⟩
theorem FunV.ok {P : Program} {w : World} {K : PySem.W.Frag} {mg : Str → Option Value} {base : Heap} {x qual : Str} {st : Stmt} {f : Addr} {fd : FuncData} {dV : Value} {N ps : List Str} {k : Nat} {sp : DSp} (F : FunV K x qual st f fd dV) (S : FnScope N ps (defScope st)) (len : ∀ ds M R, sp ds M R → ds.length = ps.length)
    (hb : ∀ (cdv : Value) (A : Around) (outer : List Env) (s : Shared) (H : Hp) (E : XK), Room k (A.deeper (envOfC qual (defScope st) s.heap.objs.size f cdv)) →
      ∃ td : DTS, DSs (cxOf CX0 P w K mg base N qual (defScope st) f cdv A outer s H E).nox (defBody st) td ∧ ∀ ds M R, sp ds M R → td (dends' R) (dstart N ds) M) : FnOk P w K mg base CX0 (k + 1) f fd ps (lSp K sp) := by
  obtain ⟨oc, od, kV, doc, pm, an, cdv, ct, osl, rfl, lk, hcd⟩ := F.ex
  refine fn_of lk hcd S (fun vs H Q E ⟨ds, M, R, e, m, h, k⟩ => by rw [← e.length]; exact len ds M R h) fun A outer s H vs Q E hr ⟨ds, M, R, e, m, h, k⟩ => ?_
  obtain ⟨td, ht, hq⟩ := hb cdv A outer s H E hr
  refine ⟨_, ht.nox, dstart N ds, M, dends' R, ?_, m, hq ds M R h, ⟨fun ρ' M' σ' H' ⟨M0, q0, q⟩ x' s' m' => k .non M0 .non H' q x' (m'.sub q0) .non, fun d M' v H' ⟨M0, q0, q⟩ x' m' e' => k d M0 v H' q x' (m'.sub q0) e', fun _ _ _ _ q => q.elim, fun _ _ _ _ q => q.elim⟩⟩
  unfold dstart L2.start
  rw [← e.length]
  exact (SimS.ofDens e).append (SimS.nones _)
structure TabOk (P : Program) (w : World) (K : PySem.W.Frag) (mg : Str → Option Value) (base : Heap) (T : Tab) (k : Nat) : Prop where
  fns : ∀ f fi, T.fn f = some fi → ∃ (j : Nat) (fa : Addr) (fd : FuncData) (ps : List Str), j ≤ k ∧ FnOk P w K mg base CX0 j fa fd ps (lSp K fi.sp) ∧ mg fi.nm = some (.ref fa) ∧ PySem.W.keepIn K (.ref fa) = true ∧ ps.length = fi.np ∧
    ∀ j, j ≤ fi.dds.length → ∃ (ds : List Value) (dvs : List V), Binds K fd ps ds ∧ Vals dvs ds ∧ ∀ H, Dens K H (fi.dds.drop j) dvs
  fxs : ∀ f fi, T.fx f = some fi → ∃ (j : Nat) (fa : Addr) (fd : FuncData) (ps : List Str), j ≤ k ∧ FnOk P w K mg base (CX1 P w) j fa fd ps (lSpX K mg T.cl fi.sp) ∧ mg fi.nm = some (.ref fa) ∧ PySem.W.keepIn K (.ref fa) = true ∧ ps.length = fi.np ∧
    ∀ j, j ≤ fi.dds.length → ∃ (ds : List Value) (dvs : List V), Binds K fd ps ds ∧ Vals dvs ds ∧ ∀ H, Dens K H (fi.dds.drop j) dvs
  cls : ∀ c x, T.cl c = some x → ∃ C, mg x = some (.ref C) ∧ XCls K C
  kfs : ∀ f ki, T.kfn f = some ki → ∃ (j : Nat) (fa : Addr) (fd : FuncData) (ps : List Str) (gv : List Value → List Value → List Value) (gV : List V → List V → List V), j ≤ k ∧ FnOk P w K mg base CX0 j fa fd ps (lSp K ki.sp) ∧ mg ki.nm = some (.ref fa) ∧ PySem.W.keepIn K (.ref fa) = true ∧
    KBinds K fd ps ki.ks gv gV ∧ ∀ H ds vs zs ws, Dens K H ds vs → Dens K H zs ws → Dens K H (ki.g ds zs) (gV vs ws)
  con : ∀ i p, T.con i = some p → ∃ u v, mg p.1 = some u ∧ L2.RelV v u ∧ ∀ H, Den K H p.2 v
  nob : ∀ x ∈ T.bl, mg x = none
  isx : ∀ c nm b, T.isx c nm = some b → IsxOk K mg T.cl c nm b
  lks : ∀ x ∈ T.lk, ∃ C, mg x = some (.ref C) ∧ XLook K C
  mts : ∀ f mi, T.mt f = some mi → ∃ (j : Nat) (C fa : Addr) (fd : FuncData) (ps : List Str), j ≤ k ∧ PySem.W.nsIn K mainGlobals mi.cl = some (some (.ref C)) ∧ Cls K C ∧ Meth K C mi.nm fa ∧ FnOk P w K mg base CX0 j fa fd ps (lSp K mi.sp) ∧ Binds K fd ps []
  mks : ∀ f mi, T.ini f = some mi → ∃ (j : Nat) (C fa : Addr) (fd : FuncData) (ps : List Str), j + 1 ≤ k ∧ PySem.W.nsIn K mainGlobals mi.cl = some (some (.ref C)) ∧ mg mi.cl = some (.ref C) ∧ Mk K C fa ∧ FnOk P w K mg base CX0 j fa fd ps (lSp K mi.sp) ∧ Binds K fd ps []
  fds : ∀ p ∈ T.fd, FdOk K p.1 p.2
noncomputable def endX (RX : DX) : DX := fun c M' => ∃ M0, Sub M0 M' ∧ RX c M0
noncomputable def Tab.only (T : Tab) (l : List Nat) : Tab := { T with fn := fun i => if i ∈ l then T.fn i else none, kfn := fun i => if i ∈ l then T.kfn i else none, fx := fun i => if i ∈ l then T.fx i else none, mt := fun i => if i ∈ l then T.mt i else none, ini := fun i => if i ∈ l then T.ini i else none }
noncomputable def KOk (P : Program) (w : World) (K : PySem.W.Frag) (mg : Str → Option Value) (base : Heap) (ki : KI) (k : Nat) : Prop :=
  ∃ (j : Nat) (fa : Addr) (fd : FuncData) (ps : List Str) (gv : List Value → List Value → List Value) (gV : List V → List V → List V), j ≤ k ∧ FnOk P w K mg base CX0 j fa fd ps (lSp K ki.sp) ∧ mg ki.nm = some (.ref fa) ∧ PySem.W.keepIn K (.ref fa) = true ∧
    KBinds K fd ps ki.ks gv gV ∧ ∀ H ds vs zs ws, Dens K H ds vs → Dens K H zs ws → Dens K H (ki.g ds zs) (gV vs ws)
noncomputable def FOk (P : Program) (w : World) (K : PySem.W.Frag) (mg : Str → Option Value) (base : Heap) (fi : FI) (k : Nat) : Prop :=
  ∃ (j : Nat) (fa : Addr) (fd : FuncData) (ps : List Str), j ≤ k ∧ FnOk P w K mg base CX0 j fa fd ps (lSp K fi.sp) ∧ mg fi.nm = some (.ref fa) ∧ PySem.W.keepIn K (.ref fa) = true ∧ ps.length = fi.np ∧
    ∀ j, j ≤ fi.dds.length → ∃ (ds : List Value) (dvs : List V), Binds K fd ps ds ∧ Vals dvs ds ∧ ∀ H, Dens K H (fi.dds.drop j) dvs
section
variable {P : Program} {w : World} {K : PySem.W.Frag} {mg : Str → Option Value} {base : Heap} {T : Tab} {k : Nat} {fi : FI}
theorem TabOk.nil (hc : ∀ i p, T.con i = some p → ∃ u v, mg p.1 = some u ∧ L2.RelV v u ∧ ∀ H, Den K H p.2 v) (hb : ∀ x ∈ T.bl, mg x = none) (hcl : ∀ c x, T.cl c = some x → ∃ C, mg x = some (.ref C) ∧ XCls K C)
    (hix : ∀ c nm b, T.isx c nm = some b → IsxOk K mg T.cl c nm b := by intro _ _ _ h; cases h) (hlk : ∀ x ∈ T.lk, ∃ C, mg x = some (.ref C) ∧ XLook K C := by intro _ h; cases h) (hfd : ∀ p ∈ T.fd, FdOk K p.1 p.2 := by intro _ h; cases h) : TabOk P w K mg base (T.only []) k :=
  ⟨fun f fi e => by simp [Tab.only] at e, fun f fi e => by simp [Tab.only] at e, hcl, fun f fi e => by simp [Tab.only] at e, hc, hb, hix, hlk, fun f fi e => by simp [Tab.only] at e, fun f fi e => by simp [Tab.only] at e, hfd⟩
theorem only_in {α : Type} {F : Nat → Option α} {f f' : Nat} {l : List Nat} {y : α} (h : (if f' ∈ f :: l then F f' else none) = some y) : (f' = f ∧ F f = some y) ∨ (if f' ∈ l then F f' else none) = some y := by
  by_cases hf : f' = f
  · subst hf
    rw [if_pos List.mem_cons_self] at h
    exact .inl ⟨rfl, h⟩
  · right
    by_cases hm : f' ∈ l
    · rw [if_pos (List.mem_cons_of_mem _ hm)] at h
      rw [if_pos hm]; exact h
    · rw [if_neg (by simp [hf, hm])] at h
      cases h
noncomputable def XOk (P : Program) (w : World) (K : PySem.W.Frag) (mg : Str → Option Value) (base : Heap) (cn : CN) (fi : FX) (k : Nat) : Prop :=
  ∃ (j : Nat) (fa : Addr) (fd : FuncData) (ps : List Str), j ≤ k ∧ FnOk P w K mg base (CX1 P w) j fa fd ps (lSpX K mg cn fi.sp) ∧ mg fi.nm = some (.ref fa) ∧ PySem.W.keepIn K (.ref fa) = true ∧ ps.length = fi.np ∧
    ∀ j, j ≤ fi.dds.length → ∃ (ds : List Value) (dvs : List V), Binds K fd ps ds ∧ Vals dvs ds ∧ ∀ H, Dens K H (fi.dds.drop j) dvs
noncomputable def MtOk (P : Program) (w : World) (K : PySem.W.Frag) (mg : Str → Option Value) (base : Heap) (mi : MI) (k : Nat) : Prop :=
  ∃ (j : Nat) (C fa : Addr) (fd : FuncData) (ps : List Str), j ≤ k ∧ PySem.W.nsIn K mainGlobals mi.cl = some (some (.ref C)) ∧ Cls K C ∧ Meth K C mi.nm fa ∧ FnOk P w K mg base CX0 j fa fd ps (lSp K mi.sp) ∧ Binds K fd ps []
noncomputable def MkOk (P : Program) (w : World) (K : PySem.W.Frag) (mg : Str → Option Value) (base : Heap) (mi : MI) (k : Nat) : Prop :=
  ∃ (j : Nat) (C fa : Addr) (fd : FuncData) (ps : List Str), j + 1 ≤ k ∧ PySem.W.nsIn K mainGlobals mi.cl = some (some (.ref C)) ∧ mg mi.cl = some (.ref C) ∧ Mk K C fa ∧ FnOk P w K mg base CX0 j fa fd ps (lSp K mi.sp) ∧ Binds K fd ps []
theorem TabOk.add {f : Nat} {l : List Nat} (r : TabOk P w K mg base (T.only l) k) (h1 : ∀ fi, T.fn f = some fi → FOk P w K mg base fi k) (h2 : ∀ ki, T.kfn f = some ki → KOk P w K mg base ki k) (h3 : ∀ fi, T.fx f = some fi → XOk P w K mg base T.cl fi k)
    (h4 : ∀ mi, T.mt f = some mi → MtOk P w K mg base mi k) (h5 : ∀ mi, T.ini f = some mi → MkOk P w K mg base mi k) : TabOk P w K mg base (T.only (f :: l)) k :=
  { cls := r.cls
    fxs := fun f' fi' e' => by
      rcases only_in e' with ⟨rfl, e'⟩ | e'
      · exact h3 _ e'
      · exact r.fxs f' fi' e'
    fns := fun f' fi' e' => by
      rcases only_in e' with ⟨rfl, e'⟩ | e'
      · exact h1 _ e'
      · exact r.fns f' fi' e'
    kfs := fun f' ki e' => by
      rcases only_in e' with ⟨rfl, e'⟩ | e'
      · exact h2 _ e'
      · exact r.kfs f' ki e'
    mts := fun f' mi e' => by
      rcases only_in e' with ⟨rfl, e'⟩ | e'
      · exact h4 _ e'
      · exact r.mts f' mi e'
    mks := fun f' mi e' => by
      rcases only_in e' with ⟨rfl, e'⟩ | e'
      · exact h5 _ e'
      · exact r.mks f' mi e'
    con := r.con
    nob := r.nob
    isx := r.isx
    lks := r.lks
    fds := r.fds }
theorem no_of {α : Type} {o : Option α} {p : α → Prop} (h : o = none) : ∀ x, o = some x → p x := fun x e => by rw [h] at e; cases e
theorem one_of {α : Type} {o : Option α} {p : α → Prop} {y : α} (h : o = some y) (hp : p y) : ∀ x, o = some x → p x := fun x e => by rw [h] at e; cases e; exact hp
theorem TabOk.cons {f : Nat} {l : List Nat} (e : T.fn f = some fi) (h : FOk P w K mg base fi k) (r : TabOk P w K mg base (T.only l) k) (en : T.kfn f = none) (ex : T.fx f = none) (em : T.mt f = none := by rfl) (ei : T.ini f = none := by rfl) : TabOk P w K mg base (T.only (f :: l)) k :=
  r.add (one_of e h) (no_of en) (no_of ex) (no_of em) (no_of ei)
end
end IR

set_option Elab.async false
set_option linter.all false
set_option maxRecDepth 100000
namespace My
open PySem PySem.Spec L2 DL IR
open PyProof.Rows hiding St
noncomputable abbrev W := List Nat
noncomputable def dn (ws : List W) : D := .tup (ws.map D.str)
@[elab_as_elim] theorem len1 {α : Type} {P : List α → Prop} (us : List α) (h : us.length = 1) (k : ∀ a, P [a]) : P us := by
  cases us with
  | nil => cases h
  | cons a t => cases t with
    | nil => exact k a
    | cons b t => cases h
@[elab_as_elim] theorem len2 {α : Type} {P : List α → Prop} (us : List α) (h : us.length = 2) (k : ∀ a b, P [a, b]) : P us := by
  cases us with
  | nil => cases h
  | cons a t => exact len1 t (Nat.succ.inj h) (k a)
@[elab_as_elim] theorem len3 {α : Type} {P : List α → Prop} (us : List α) (h : us.length = 3) (k : ∀ a b c, P [a, b, c]) : P us := by
  cases us with
  | nil => cases h
  | cons a t => exact len2 t (Nat.succ.inj h) (k a)
@[elab_as_elim] theorem len4 {α : Type} {P : List α → Prop} (us : List α) (h : us.length = 4) (k : ∀ a b c d, P [a, b, c, d]) : P us := by
  cases us with
  | nil => cases h
  | cons a t => exact len3 t (Nat.succ.inj h) (k a)
@[elab_as_elim] theorem len5 {α : Type} {P : List α → Prop} (us : List α) (h : us.length = 5) (k : ∀ a b c d e, P [a, b, c, d, e]) : P us := by
  cases us with
  | nil => cases h
  | cons a t => exact len4 t (Nat.succ.inj h) (k a)
@[elab_as_elim] theorem len6 {α : Type} {P : List α → Prop} (us : List α) (h : us.length = 6) (k : ∀ a b c d e f, P [a, b, c, d, e, f]) : P us := by
  cases us with
  | nil => cases h
  | cons a t => exact len5 t (Nat.succ.inj h) (k a)

set_option Elab.async false
set_option linter.all false
set_option maxRecDepth 100000
open PySem PySem.Spec L2 DL IR
open PyProof.Rows hiding St
local macro_rules | `(tactic| walk_at "ev") => `(tactic| simp only [IR.evS_nil, IR.evS_seq, IR.evS_set, IR.evS_ret, IR.evS_ite, IR.evS_for1, IR.ev_var, IR.ev_con, IR.ev_bin, IR.ev_cmp, IR.ev_and, IR.ev_not, IR.ev_ite, IR.ev_ix, IR.ev_sl, IR.ev_tup, IR.ev_lst, IR.ev_lstz, IR.ev_frz, IR.ev_call, IR.ev_comp, IR.ev_compz, IR.ev_rng1, IR.ev_nil, IR.ev_cons, mkE, dSeq, dNext, dRet, dRetN, dSet, dIfS, dAsg, dFor, dDrop, dBreak, dCont, dOp, dSl, dVar, dC, dstart, dCB, dCall, dCons, dNil, dTup, dLst, dLstZ, dComp, dCompZ, doNone, doSome, dB, dAnd, dOr, dNot, dAndV, dOrV, dNotV, dNeg, dIf, dIsI, dMS, dML, dJoinR, dChain, diAny, diRng1, diRng2, diRev, dCallK, dBot, dRaise, dCallX, dTryC, dTryA, gone, hP, hA, hS, dIsE, rMulS, rMulT, rSorted, lstOf, rEqT, setOpt, dFld, dMeth, dMake, dDNew, dJoin, FP.d, dFmt, dDisp1, rInD, rInB, rNeR, rDIx, dDGet2, dDSetd, dSetF, dDPut, dFzS, mSplit, m0S, dgName, dgTup, dgCons, dgNil, dTrue, unpOf, Lit.d, Bn.r, Cp.r, Bl.r, Ms.r, Ml.r, rLen, rLen1, rSlD, rTuple, rList, seqOf, rAddD, rI2, rLtD, rEqN, rIsN, res, rMin, rMin1, rAddL, rMax, rStr, rInt, rIn1, m1S, mAppend, mReverse, mClear, isNon, dends', eqB_int, eqB_str, CE.len, Nat.sub_self, List.drop_nil, List.drop_zero, List.append_nil,
  List.map_cons, List.map_nil, List.cons_append, List.nil_append, List.getElem?_cons_zero, List.getElem?_cons_succ, List.getElem?_nil, List.set_cons_zero, List.set_cons_succ, List.length_cons, List.length_nil, Nat.reduceAdd, Nat.reduceSub, List.replicate, Option.getD, if_true, if_false, Bool.false_eq_true, Bool.not_true, Bool.not_false, id, true_and, and_true])
noncomputable def signs : W := [97, 98, 99, 100, 101, 102, 103, 104, 105, 106, 107, 108, 109, 110, 111, 112, 113, 114, 115, 116, 117, 118, 119, 120, 121, 122, 48, 49, 50, 51, 52, 53, 54, 55, 56, 57, 45]
structure Wd (w : W) : Prop where
  lo : 1 ≤ w.length
  hi : w.length ≤ 12
  al : ∀ c ∈ w, c ∈ signs
noncomputable def sp_at_or_beneath : DSp := fun ds M R => ∃ a b : List W, ds = [dn a, dn b] ∧ R (.bl (decide (a.take b.length = b))) M
noncomputable def aboveL (a : List W) : List D := (List.range (a.length + 1)).map fun k => dn (a.take k)
noncomputable def sp_above : DSp := fun ds M R => ∃ a : List W, ds = [dn a] ∧ a.length ≤ 900 ∧ ∀ p, M p = none → R (.ref p) (dupd M p (.lst (aboveL a)))
noncomputable def sp_l_cell_at : DSp := fun ds M R => ∃ (ns : List Int) (k : Nat), ds = [.lst (ns.map D.int), .int k] ∧ ∀ n, R (.int n) M
noncomputable def sp_l_word : DSp := fun ds M R => ∃ c : Int, ds = [.int c] ∧ ∀ w, Wd w → R (.str w) M
section
variable {T : Tab}
end
noncomputable def lcp : List W → List W → List W
  | x :: a, y :: b => if x = y then x :: lcp a b else []
  | _, _ => []
noncomputable def sp_shared : DSp := fun ds M R => ∃ a b : List W, ds = [dn a, dn b] ∧ a.length ≤ 900 ∧ R (dn (lcp a b)) M
set_option Elab.async false
set_option linter.all false
set_option maxRecDepth 100000
open PySem PySem.Spec L2 DL IR
open PyProof.Rows hiding St
noncomputable def letters : W := [97, 98, 99, 100, 101, 102, 103, 104, 105, 106, 107, 108, 109, 110, 111, 112, 113, 114, 115, 116, 117, 118, 119, 120, 121, 122]
noncomputable def figures : W := [48, 49, 50, 51, 52, 53, 54, 55, 56, 57]
theorem sz {n : Nat} (h : n ≤ 1000) : n ≤ sizeLine := Nat.le_of_lt (small1000 h)
noncomputable def sp_made_of : DSp := fun ds M R => ∃ z y : W, ds = [.str z, .str y] ∧ z.length ≤ 1000 ∧ R (.bl (decide (∀ c ∈ z, c ∈ y))) M
noncomputable def kindB (z : W) : Bool := decide (1 ≤ z.length ∧ z.length ≤ 8 ∧ ∀ c ∈ z, c ∈ letters)
noncomputable def sp_is_kind : DSp := fun ds M R => ∃ z : W, ds = [.str z] ∧ z.length ≤ 1000 ∧ R (.bl (kindB z)) M
noncomputable def valSign (c : Nat) : Prop := 33 ≤ c ∧ c ≤ 126 ∧ c ≠ 37
noncomputable instance (c : Nat) : Decidable (valSign c) := by unfold valSign; infer_instance
noncomputable def sp_is_value_sign : DSp := fun ds M R => ∃ c : Nat, ds = [.str [c]] ∧ R (.bl (decide (valSign c))) M
noncomputable def valB (z : W) : Bool := decide (1 ≤ z.length ∧ z.length ≤ 40 ∧ ∀ c ∈ z, valSign c)
noncomputable def sp_is_value : DSp := fun ds M R => ∃ z : W, ds = [.str z] ∧ z.length ≤ 1000 ∧ R (.bl (valB z)) M
noncomputable def lifeOk (z : W) : Prop := 1 ≤ z.length ∧ z.length ≤ 9 ∧ (∀ c ∈ z, c ∈ figures) ∧ ¬ (1 < z.length ∧ z.take 1 = [48])
noncomputable instance (z : W) : Decidable (lifeOk z) := by unfold lifeOk; infer_instance
noncomputable def lifeD (z : W) : D := if lifeOk z then .int (NumText.digitsVal z : Nat) else .non
noncomputable def sp_read_life : DSp := fun ds M R => ∃ z : W, ds = [.str z] ∧ z.length ≤ 1000 ∧ R (lifeD z) M
set_option Elab.async false
set_option linter.all false
set_option maxRecDepth 100000
open PySem PySem.Spec L2 DL IR
open PyProof.Rows hiding St
noncomputable def showN (a : List W) : W := joinL [46] a.reverse ++ [46]
noncomputable def dots (ws : List W) : W := (ws.map fun w => w ++ [46]).flatten
structure Small (a : List W) : Prop where
  many : a.length ≤ 100
  long : ∀ w ∈ a, w.length ≤ 1000
noncomputable def sp_show_name : DSp := fun ds M R => ∃ a : List W, ds = [dn a] ∧ Small a ∧ R (.str (showN a)) M
set_option Elab.async false
set_option linter.all false
set_option maxRecDepth 100000
open PySem PySem.Spec L2 DL IR
open PyProof.Rows hiding St
noncomputable def sp_l_part : DSp := fun ds M R => ∃ (c k m : Int), ds = [.int c, .int k, .int m] ∧ 0 ≤ k ∧ k ≤ 1000000 ∧ 0 < m ∧ ∀ v : Nat, (v : Int) < m → R (.int v) M
noncomputable def sp_l_words : DSp := fun ds M R => ∃ (a b : Int), ds = [.int a, .int b] ∧ ∀ ws : List W, ws.length = 4 → (∀ w ∈ ws, Wd w) → R (.lst (ws.map D.str)) M
noncomputable def sp_l_below : DSp := fun ds M R => ∃ (ws : List W) (c k : Int) (m : Nat), ds = [.lst (ws.map D.str), .int c, .int k, .int m] ∧ ws.length = 4 ∧ (∀ w ∈ ws, Wd w) ∧ 0 ≤ k ∧ k ≤ 1000 ∧ m ≤ 100 ∧ ∀ a : List W, a.length = m → (∀ w ∈ a, Wd w) → R (dn a) M
noncomputable def some93 : W := [33, 34, 35, 36, 38, 39, 40, 41, 42, 43, 44, 45, 46, 47, 48, 49, 50, 51, 52, 53, 54, 55, 56, 57, 58, 59, 60, 61, 62, 63, 64, 65, 66, 67, 68, 69, 70, 71, 72, 73, 74, 75, 76, 77, 78, 79, 80, 81, 82, 83, 84, 85, 86, 87, 88, 89, 90, 91, 92, 93, 94, 95, 96, 97, 98, 99, 100, 101, 102, 103, 104, 105, 106, 107, 108, 109, 110, 111, 112, 113, 114, 115, 116, 117, 118, 119, 120, 121, 122, 123, 124, 125, 126]
structure Vd (w : W) : Prop where
  lo : 1 ≤ w.length
  hi : w.length ≤ 40
  al : ∀ c ∈ w, c ∈ some93
noncomputable def sp_l_value : DSp := fun ds M R => ∃ c : Int, ds = [.int c] ∧ ∀ w, Vd w → R (.str w) M
set_option Elab.async false
set_option linter.all false
set_option maxRecDepth 100000
open PySem PySem.Spec L2 DL IR
open PyProof.Rows hiding St
structure Wt where
  y : W
  n : List W
  k : W
noncomputable def Wt.d (x : Wt) : D := .tup [.str x.y, dn x.n, .str x.k]
structure Wt.Ok (x : Wt) : Prop where
  m : x.n.length ≤ 10
  w : ∀ w ∈ x.n, w.length ≤ 12
noncomputable def isRows (w : W) : Bool := decide (w = [114, 111, 119, 115])
noncomputable def tailW (word : W) (vals : List W) : List W := if isRows word = true then [61] :: vals else []
noncomputable def outW (word : W) (vals : List W) (ws : List Wt) : W := joinL [32] (word :: (ws.map (fun x => showN x.n) ++ tailW word vals))
structure OutOk (word : W) (vals : List W) (ws : List Wt) : Prop where
  a : word.length ≤ 100
  b : vals.length ≤ 100
  c : ∀ v ∈ vals, v.length ≤ 100
  d : ws.length ≤ 100
  e : ∀ x ∈ ws, x.Ok
noncomputable def sp_show_outcome : DSp := fun ds M R => ∃ (word : W) (vals : List W) (ws : List Wt), ds = [.str word, .lst (vals.map D.str), .lst (ws.map Wt.d)] ∧ OutOk word vals ws ∧ R (.str (outW word vals ws)) M
noncomputable def sp_l_wait : DSp := fun ds M R => ∃ (ws : List W) (c : Int), ds = [.lst (ws.map D.str), .int c] ∧ ws.length = 4 ∧ (∀ w ∈ ws, Wd w) ∧ ∀ x : Wt, x.Ok → R x.d M
noncomputable def dueW (word : W) (vals : List W) (ws : List Wt) : W := word ++ (ws.map fun x => [32] ++ showN x.n).flatten ++ (if isRows word = true then [32, 61] ++ (vals.map ([32] ++ ·)).flatten else [])
noncomputable def sp_l_due : DSp := fun ds M R => ∃ (word : W) (vals : List W) (ws : List Wt), ds = [.str word, .lst (vals.map D.str), .lst (ws.map Wt.d)] ∧ OutOk word vals ws ∧ R (.str (dueW word vals ws)) M
noncomputable def sp_law : DSp := dLaw 63
set_option Elab.async false
set_option linter.all false
set_option maxRecDepth 100000
open PySem PySem.Spec L2 DL IR
open PyProof.Rows hiding St
noncomputable def top (i : Nat) : Stmt := PySem.Challenge.pw_namewell_k81_an_outcome_shown.main.body.getD i (.Pass ⟨0, 0, 0, 0⟩)
noncomputable abbrev s_show_name : Stmt := top 1
noncomputable abbrev s_show_outcome : Stmt := top 4
noncomputable abbrev s_l_cell_at : Stmt := top 6
noncomputable abbrev s_l_part : Stmt := top 7
noncomputable abbrev s_l_words : Stmt := top 8
noncomputable abbrev s_l_below : Stmt := top 9
noncomputable abbrev s_l_value : Stmt := top 10
noncomputable abbrev s_l_wait : Stmt := top 11
noncomputable abbrev s_l_due : Stmt := top 12
noncomputable abbrev s_law : Stmt := top 13
noncomputable def bls : List Str := ["reversed", "len", "range", "isinstance", "str", "list"]
noncomputable def cons : Nat → Option (Str × D)
  | 15 => some ("ROWS", D.str [114, 111, 119, 115])
  | _ => none
noncomputable def fns : Nat → Option FI
  | 6 => some ⟨"show_name", 1, [], sp_show_name⟩
  | 30 => some ⟨"show_outcome", 3, [], sp_show_outcome⟩
  | 100 => some ⟨"_law_cell_at", 2, [], sp_l_cell_at⟩
  | 101 => some ⟨"_law_part", 3, [], sp_l_part⟩
  | 102 => some ⟨"_law_words", 2, [], sp_l_words⟩
  | 103 => some ⟨"_law_below", 4, [], sp_l_below⟩
  | 104 => some ⟨"_law_value", 1, [], sp_l_value⟩
  | 105 => some ⟨"_law_wait", 2, [], sp_l_wait⟩
  | 106 => some ⟨"_law_due", 3, [], sp_l_due⟩
  | _ => none
noncomputable def kfns : Nat → Option KI
  | _ => none
noncomputable def fxs : Nat → Option FX
  | _ => none
noncomputable def mts : Nat → Option MI
  | _ => none
noncomputable def mks : Nat → Option MI
  | _ => none
noncomputable def fds : List (Str × Str) := []
noncomputable def cls : CN
  | _ => none
noncomputable def tab : Tab := { fn := fns, kfn := kfns, con := cons, bl := bls, fx := fxs, cl := cls, mt := mts, ini := mks, fd := fds }
noncomputable def N_show_name : List Str := ["name"]
noncomputable def N_show_outcome : List Str := ["word", "values", "waits", "words"]
noncomputable def N_l_cell_at : List Str := ["_law_script", "_law_k"]
noncomputable def N_l_part : List Str := ["_law_cell", "_law_k", "_law_many"]
noncomputable def N_l_words : List Str := ["_law_one", "_law_other", "_law_signs", "_law_size", "_law_at", "_law_words_here", "_law_k", "_law_word", "_law_j", "_law_number"]
noncomputable def N_l_below : List Str := ["_law_words_here", "_law_cell", "_law_k", "_law_many", "_law_name", "_law_j"]
noncomputable def N_l_value : List Str := ["_law_cell", "_law_some", "_law_at"]
noncomputable def N_l_wait : List Str := ["_law_words_here", "_law_cell", "_law_why", "_law_kind"]
noncomputable def N_l_due : List Str := ["_law_word", "_law_values", "_law_waits", "_law_text", "_law_wait_here", "_law_name", "_law_part_here", "_law_value_here"]
noncomputable def N_law : List Str := ["_law_script", "_law_words_here", "_law_cell", "_law_word", "_law_values", "_law_waits", "_law_handed", "_law_found"]
end My
open PySem PySem.W PyProof.Rows
set_option maxRecDepth 100000 in
set_option maxHeartbeats 0 in
theorem PySem.Challenge.cw_namewell_k81_an_outcome_shown_holds : PySem.Challenge.rw_namewell_k81_an_outcome_shown.Holds := by
  w_on; o_law; k_head; (case hw => w_witness2)
  k_fill
  refine My.walk (l := PySem.Challenge.rw_namewell_k81_an_outcome_shown) rfl rfl (fun w h Y => PySem.W.kIn_of Y) ?F
  case F =>
    intro w mg fa h KX G hmg
    refine' My.all_mk KX G hmg ?a0 ?l0 ?c0 ?k0 ?a1 ?l1 ?c1 ?k1 ?a2 ?l2 ?c2 ?k2 ?a3 ?l3 ?c3 ?k3 ?a4 ?l4 ?c4 ?k4 ?a5 ?l5 ?c5 ?k5 ?a6 ?l6 ?c6 ?k6 ?a7 ?l7 ?c7 ?k7 ?a8 ?l8 ?c8 ?k8 ?a9 ?l9 ?c9 ?k9 ?z0 ?z1 ?z2 ?z3 ?z4 ?z5 ?con0
    (case a0 => k_is)
    (case l0 => k_is)
    (case c0 => k_is)
    (case k0 => k_is)
    (case a1 => k_is)
    (case l1 => k_is)
    (case c1 => k_is)
    (case k1 => k_is)
    (case a2 => k_is)
    (case l2 => k_is)
    (case c2 => k_is)
    (case k2 => k_is)
    (case a3 => k_is)
    (case l3 => k_is)
    (case c3 => k_is)
    (case k3 => k_is)
    (case a4 => k_is)
    (case l4 => k_is)
    (case c4 => k_is)
    (case k4 => k_is)
    (case a5 => k_is)
    (case l5 => k_is)
    (case c5 => k_is)
    (case k5 => k_is)
    (case a6 => k_is)
    (case l6 => k_is)
    (case c6 => k_is)
    (case k6 => k_is)
    (case a7 => k_is)
    (case l7 => k_is)
    (case c7 => k_is)
    (case k7 => k_is)
    (case a8 => k_is)
    (case l8 => k_is)
    (case c8 => k_is)
    (case k8 => k_is)
    (case a9 => k_is)
    (case l9 => k_is)
    (case c9 => k_is)
    (case k9 => k_is)
    (case z0 => k_is)
    (case z1 => k_is)
    (case z2 => k_is)
    (case z3 => k_is)
    (case z4 => k_is)
    (case z5 => k_is)
    (case con0 => k_is)




