import PyProof.Rows.All
import KE.KTryMore
import KE.KIntText
import KE.KSort
import KE.KMinKey
import PyProof.ExcArgsOwn
import PyProof.ExcAttrAll.ValueError
import Wide.All
import OpenK.AllK
import Wide.FinOn
import Lean
import PyProof.EqAt
import PyProof.EqKinds
import PyProof.TupleCall
import PySem.Challenge.RW_treeclock_k31_whole_parts_of_all
set_option Elab.async false
set_option linter.all false
set_option genSizeOf false
set_option bootstrap.genMatcherCode false
set_option maxRecDepth 100000
/-! THE HAND LAYER, for ints, bools, texts, own classes, LISTS and tuples (index, slices, in, append, pop ..), calls, loops. Paste it whole ahead of your own text; what your proof does not reach may be deleted. -/
namespace L2
open PySem PySem.Spec PyProof.Rows

/-- a key: an int or a str -/
noncomputable abbrev Key := Sum Int Str
noncomputable def keyIs : Key → Value → Bool
  | .inl k, v => Value.isInt k v
  | .inr x, v => Value.isStrOf x v
noncomputable def keyH (w : World) : Key → Int
  | .inl k => hashInt k
  | .inr x => hashStr w x
theorem keyIs_shape : ∀ {k : Key} {v : Value}, keyIs k v = true → (∃ i t, k = Sum.inl i ∧ v = Value.int i t) ∨ (∃ x t, k = Sum.inr x ∧ v = Value.str x t)
  | .inl i, v, h => by
    obtain ⟨t, e⟩ := Value.isInt_shape (k := i) (v := v) h
    exact .inl ⟨i, t, rfl, e⟩
  | .inr x, v, h => by
    obtain ⟨t, e⟩ := Value.isStrOf_shape (x := x) (v := v) h
    exact .inr ⟨x, t, rfl, e⟩
theorem key_ll (a b : Int) : decide ((Sum.inl a : Key) = Sum.inl b) = (a == b) := by
  by_cases e : a = b
  · subst e; simp
  · have h : ¬ (Sum.inl a : Key) = Sum.inl b := fun q => e (Sum.inl.inj q)
    rw [decide_eq_false h]
    exact (beq_eq_false_iff_ne.mpr e).symm
theorem key_rr (a b : Str) : decide ((Sum.inr a : Key) = Sum.inr b) = decide (a = b) := by
  by_cases e : a = b
  · subst e; simp
  · have h : ¬ (Sum.inr a : Key) = Sum.inr b := fun q => e (Sum.inr.inj q)
    rw [decide_eq_false h, decide_eq_false e]
theorem key_lr (a : Int) (b : Str) : decide ((Sum.inl a : Key) = Sum.inr b) = false := decide_eq_false (fun q => nomatch q)
theorem key_rl (a : Str) (b : Int) : decide ((Sum.inr a : Key) = Sum.inl b) = false := decide_eq_false (fun q => nomatch q)

noncomputable def mixKind (prog : Program) (w : World) : PySem.KeyKind prog w Key where
  is := keyIs
  hash := keyH w
  inj := fun v a b ha hb => by
    rcases keyIs_shape ha with ⟨i, t, rfl, rfl⟩ | ⟨x, t, rfl, rfl⟩
    · rcases keyIs_shape hb with ⟨j, u, rfl, e⟩ | ⟨y, u, rfl, e⟩
      · injection e with e1 _; rw [e1]
      · exact nomatch e
    · rcases keyIs_shape hb with ⟨j, u, rfl, e⟩ | ⟨y, u, rfl, e⟩
      · exact nomatch e
      · injection e with e1 _; rw [e1]
  byValue := fun k v h => by
    rcases keyIs_shape h with ⟨i, t, rfl, rfl⟩ | ⟨x, t, rfl, rfl⟩ <;> rfl
  pyHash := fun hv h => by
    rcases keyIs_shape hv with ⟨i, t, rfl, rfl⟩ | ⟨x, t, rfl, rfl⟩
    · exact wpAny_pyHash_int h
    · exact wpAny_pyHash_str h
  eqBool := fun hu hv h => by
    rcases keyIs_shape hu with ⟨i, t, rfl, rfl⟩ | ⟨x, t, rfl, rfl⟩
    · rcases keyIs_shape hv with ⟨j, u, rfl, rfl⟩ | ⟨y, u, rfl, rfl⟩
      · rw [key_ll] at h; exact wpAny_eqBool_int h
      · rw [key_lr] at h; exact SeqAt.EqAt.int_str i t y u _ _ _ _ h
    · rcases keyIs_shape hv with ⟨j, u, rfl, rfl⟩ | ⟨y, u, rfl, rfl⟩
      · rw [key_rl] at h; exact SeqAt.EqAt.str_int x t j u _ _ _ _ h
      · rw [key_rr] at h; exact wpAny_eqBool_str h
  «strs» := fun k x t v h => by
    rcases keyIs_shape h with ⟨i, u, rfl, e⟩ | ⟨y, u, rfl, e⟩
    · exact nomatch e
    · injection e with e1 _
      subst e1
      cases v <;> rfl

end L2

namespace L2
open PySem PySem.Spec PyProof.Rows

/-- a value, without the heap -/
inductive V where
  | non | bl (b : Bool) | int (i : Int) | str (x : Str) | byt (b : Array UInt8) | flt (b : UInt64) | ref (a : Addr) | ty (n : String)
  deriving DecidableEq

noncomputable def RelV : V → Value → Prop
  | .non, u => u = Value.none
  | .bl b, u => u = Value.bool b
  | .int i, u => ∃ t, u = Value.int i t
  | .str x, u => ∃ t, u = Value.str x t
  | .byt b, u => ∃ t, u = Value.bytes b t
  | .flt b, u => ∃ t, u = Value.float b t
  | .ref a, u => u = Value.ref a
  | .ty n, u => u = Value.type n

noncomputable abbrev Vals : List V → List Value → Prop := Paired RelV
theorem Vals.length {xs : List V} {us : List Value} (r : Vals xs us) : xs.length = us.length := Paired.length r
theorem Vals.get : ∀ {xs : List V} {us : List Value} {i : Nat} {x : V}, Vals xs us → xs[i]? = some x → ∃ u, us[i]? = some u ∧ RelV x u
  | _, _, _, _, .nil, e => by simp at e
  | _, _, 0, _, .cons r _, e => by simp at e; subst e; exact ⟨_, rfl, r⟩
  | _, _, i + 1, x, .cons _ t, e => by
    obtain ⟨u, h1, h2⟩ := Vals.get (i := i) (x := x) t (by simpa using e)
    exact ⟨u, by simpa using h1, h2⟩
theorem Vals.set {x : V} {u : Value} (r : RelV x u) : ∀ {xs : List V} {us : List Value} (i : Nat), Vals xs us → Vals (xs.set i x) (us.set i u)
  | _, _, _, .nil => .nil
  | _, _, 0, .cons _ t => .cons r t
  | _, _, i + 1, .cons q t => .cons q (Vals.set r i t)
theorem Vals.append : ∀ {xs ys : List V} {us ws : List Value}, Vals xs us → Vals ys ws → Vals (xs ++ ys) (us ++ ws)
  | _, _, _, _, .nil, s => s
  | _, _, _, _, .cons r t, s => .cons r (Vals.append t s)
theorem Vals.take : ∀ {xs : List V} {us : List Value} (n : Nat), Vals xs us → Vals (xs.take n) (us.take n)
  | _, _, 0, _ => .nil
  | _, _, _ + 1, .nil => .nil
  | _, _, n + 1, .cons r t => .cons r (Vals.take n t)
theorem Vals.drop : ∀ {xs : List V} {us : List Value} (n : Nat), Vals xs us → Vals (xs.drop n) (us.drop n)
  | _, _, 0, r => r
  | _, _, _ + 1, .nil => .nil
  | _, _, n + 1, .cons _ t => Vals.drop n t
noncomputable def RelO : Option V → Option Value → Prop
  | some v, some u => RelV v u
  | none, none => True
  | _, _ => False
noncomputable def KV {κ : Type} : List (κ × V) → List (κ × Value) → Prop := Paired fun (p : κ × V) (q : κ × Value) => p.1 = q.1 ∧ RelV p.2 q.2

/-- a key of a dict (00_mix): an int or a text -/
noncomputable def kV : Key → V
  | .inl i => .int i
  | .inr x => .str x

/-- what stands at a tracked address -/
inductive HO where
  /-- a list -/
  | lst (xs : List V)
  /-- a tuple (never changes) -/
  | tup (xs : List V)
  /-- a dict whose keys are ints and texts; one whose keys are tuples of ints and texts (the empty one is both) -/
  | dK (kvs : List (Key × V)) | dT (kvs : List (List Key × V))
  /-- a set of ints: its members, its size -/
  | set (S : Int → Bool) (n : Nat)
  /-- an instance of the class at C, its dict at dx, its attributes -/
  | ins (C dx : Addr) (fs : List (Str × V))
  /-- the dict of the instance at x -/
  | own (x : Addr)
  /-- the dict of an exception -/
  | xd (fs : List (Str × V))
  /-- a bound method, f of x -/
  | met (f x : Addr)
  /-- a range object lo, lo + 1, .. below hi -/
  | rng (lo hi : Int)
  /-- a thing that is known to the object (the script; a dict while a loop walks it): read, never written while it is so -/
  | frz (o : Obj) (u : HO)
  /-- a code object's table -/
  | tbl (ps : Array Value)
  /-- any other thing, by what is true of its one object (a def of one's own: SetO a S n := HO.ext fun h => ..) -/
  | ext (φ : Heap → Prop)

noncomputable abbrev Hp := Addr → Option HO
noncomputable def upd (H : Hp) (a : Addr) (o : HO) : Hp := fun b => if b = a then some o else H b
theorem upd_same {H : Hp} {a : Addr} {o : HO} : upd H a o a = some o := by unfold upd; rw [if_pos rfl]
theorem upd_ne {H : Hp} {a b : Addr} {o : HO} (h : b ≠ a) : upd H a o b = H b := by unfold upd; rw [if_neg h]
theorem ne_of_none {H : Hp} {a b : Addr} {o : HO} (h : H a = some o) (h' : H b = none) : a ≠ b := by
  intro e; subst e; rw [h] at h'; cases h'

section
variable (P : Program) (w : World)
noncomputable def ObjOk (H : Hp) (h : Heap) (a : Addr) : HO → Prop
  | .lst xs => xs.length ≤ sizeLine ∧ ∃ (its : List Value) (n : Nat), Vals xs its ∧ h.get? a = some { cls := .type "list", data := .seq its.toArray n }
  | .tup xs => xs.length ≤ sizeLine ∧ ∃ its : List Value, Vals xs its ∧ IsTup h a its.toArray
  | .dK kvs => kvs.length ≤ sizeLine ∧ (a == sysModules) = false ∧ ∃ vs, KV kvs vs ∧ h.DictOf (mixKind P w) a vs
  | .dT kvs => kvs.length ≤ sizeLine ∧ (a == sysModules) = false ∧ ∃ xs : List (List Key × Addr × Value),
      Paired (fun (p : List Key × V) (q : List Key × Addr × Value) => p.1 = q.1 ∧ H q.2.1 = some (.tup (p.1.map kV)) ∧ RelV p.2 q.2.2) kvs xs ∧
      ∃ o es ep, h.get? a = some o ∧ o.ExactDict ∧ o.data = .dict es ep ∧ es.toList = xs.map (entryOfKey (tupleKind (mixKind P w))) ∧ (xs.map (·.1)).Nodup
  | .set S n => h.SetOf (intKind P w) a S n
  | .ins C dx fs => H dx = some (.own a) ∧ fs.length ≤ 1000 ∧ dx ≠ a ∧ h.get? a = some (PySem.W.instObj C dx) ∧
      ∃ mA, h.Ns1 dx mA ∧ (∀ f, RelO (fs.lookup f) (mA f)) ∧ PySem.Within mA (fs.map (·.1))
  | .own _ => ∃ o, h.get? a = some o
  | .xd fs => ∃ mA, h.Ns1 a mA ∧ ∀ f, RelO (fs.lookup f) (mA f)
  | .rng lo hi => ∃ t u v, h.get? a = some { cls := .type "range", data := .fields #[.int lo t, .int hi u, .int 1 v] }
  | .frz o u => h.get? a = some o ∧ ObjOk H h a u
  | .tbl ps => h.get? a = some { cls := .none, data := .fields ps }
  | .met f x => h.get? a = some (PySem.W.methodObj (.ref f) (.ref x))
  | .ext φ => φ h ∧ (∃ o, h.get? a = some o) ∧ ∀ h1 h2 : Heap, φ h1 → (∀ o, h1.get? a = some o → h2.get? a = some o) → φ h2
/-- the abstract heap is held -/
noncomputable def HOk (H : Hp) (h : Heap) : Prop := ∀ a o, H a = some o → ObjOk P w H h a o
end

section
variable {P : Program} {w : World} {H H' : Hp} {h h' : Heap} {a : Addr} {o : HO}
theorem ObjOk.lt (x : ObjOk P w H h a o) : a < h.objs.size := by
  cases o with
  | lst xs => obtain ⟨_, _, _, _, e⟩ := x; exact Heap.lt_size e
  | tup xs => obtain ⟨_, _, _, p⟩ := x; exact p.lt
  | dK kvs => obtain ⟨_, _, _, _, o, _, _, e, _⟩ := x; exact Heap.lt_size e
  | dT kvs => obtain ⟨_, _, _, _, o, _, _, e, _⟩ := x; exact Heap.lt_size e
  | set S n => obtain ⟨o, _, _, _, e, _⟩ := x; exact Heap.lt_size e
  | ins C dx fs => obtain ⟨_, _, _, e, _⟩ := x; exact Heap.lt_size e
  | own y => obtain ⟨_, e⟩ := x; exact Heap.lt_size e
  | xd fs => obtain ⟨_, ⟨_, _, _, e, _⟩, _⟩ := x; exact Heap.lt_size e
  | rng lo hi => obtain ⟨_, _, _, e⟩ := x; exact Heap.lt_size e
  | frz ob u => obtain ⟨e, _⟩ := x; exact Heap.lt_size e
  | tbl ps => exact Heap.lt_size (show h.get? a = some _ from x)
  | met f y => exact Heap.lt_size (show h.get? a = some _ from x)
  | ext φ => obtain ⟨_, ⟨_, e⟩, _⟩ := x; exact Heap.lt_size e
theorem Paired.mapP {α β : Type} {F G : α → β → Prop} : ∀ {l₁ : List α} {l₂ : List β}, Paired F l₁ l₂ → (∀ a b, F a b → G a b) → Paired G l₁ l₂
  | _, _, .nil, _ => .nil
  | _, _, .cons r t, f => .cons (f _ _ r) (Paired.mapP t f)
/-- what an object's description leans on: its own object, its own dict, the tuples -/
theorem ObjOk.stay (x : ObjOk P w H h a o) (k : ∀ b u, (b = a ∨ H b = some (.own a)) → h.get? b = some u → h'.get? b = some u)
    (ho : ∀ b, H b = some (.own a) → H' b = some (.own a)) (ht : ∀ b xs, H b = some (.tup xs) → H' b = some (.tup xs)) : ObjOk P w H' h' a o := by
  induction o with
  | lst xs => obtain ⟨z, its, n, r, e⟩ := x; exact ⟨z, its, n, r, k _ _ (.inl rfl) e⟩
  | tup xs => obtain ⟨z, its, r, ob, e, c⟩ := x; exact ⟨z, its, r, ob, k _ _ (.inl rfl) e, c⟩
  | dK kvs => obtain ⟨z, y, vs, r, ob, es, ep, e, c⟩ := x; exact ⟨z, y, vs, r, ob, es, ep, k _ _ (.inl rfl) e, c⟩
  | dT kvs =>
    obtain ⟨z, y, xs, r, ob, es, ep, e, c⟩ := x
    exact ⟨z, y, xs, Paired.mapP r fun p q z => ⟨z.1, ht _ _ z.2.1, z.2.2⟩, ob, es, ep, k _ _ (.inl rfl) e, c⟩
  | set S n => obtain ⟨ob, es, ep, t, e, c⟩ := x; exact ⟨ob, es, ep, t, k _ _ (.inl rfl) e, c⟩
  | ins C dx fs =>
    obtain ⟨d, z, ne, e, mA, ⟨od, es, ep, e2, c⟩, r⟩ := x
    exact ⟨ho _ d, z, ne, k _ _ (.inl rfl) e, mA, ⟨od, es, ep, k _ _ (.inr d) e2, c⟩, r⟩
  | own y => obtain ⟨ob, e⟩ := x; exact ⟨ob, k _ _ (.inl rfl) e⟩
  | xd fs => obtain ⟨mA, ⟨od, es, ep, e, c⟩, r⟩ := x; exact ⟨mA, ⟨od, es, ep, k _ _ (.inl rfl) e, c⟩, r⟩
  | rng lo hi => obtain ⟨t, u, v, e⟩ := x; exact ⟨t, u, v, k _ _ (.inl rfl) e⟩
  | frz ob u ih => obtain ⟨e, q⟩ := x; exact ⟨k _ _ (.inl rfl) e, ih q⟩
  | tbl ps =>
    have e : h.get? a = some { cls := .none, data := .fields ps } := x
    show h'.get? a = some { cls := .none, data := .fields ps }
    exact k a _ (.inl rfl) e
  | met f y =>
    have e : h.get? a = some (PySem.W.methodObj (.ref f) (.ref y)) := x
    show h'.get? a = some (PySem.W.methodObj (.ref f) (.ref y))
    exact k a _ (.inl rfl) e
  | ext φ => obtain ⟨p, ⟨o, e⟩, st⟩ := x; exact ⟨st _ _ p fun o q => k _ _ (.inl rfl) q, ⟨o, k _ _ (.inl rfl) e⟩, st⟩
theorem HOk.lt (x : HOk P w H h) (e : H a = some o) : a < h.objs.size := (x a o e).lt
theorem HOk.fresh (x : HOk P w H h) (e : h.objs.size ≤ a) : H a = none := by
  cases q : H a with
  | none => rfl
  | some u => exact absurd (Nat.lt_of_lt_of_le (x.lt q) e) (Nat.lt_irrefl _)
/-- every object of the heap is kept -/
theorem HOk.kept (x : HOk P w H h) (k : ∀ b u, h.get? b = some u → h'.get? b = some u) : HOk P w H h' := fun a o e =>
  (x a o e).stay (fun b u _ q => k b u q) (fun _ q => q) fun _ _ q => q
/-- a new object is laid and tracked -/
theorem HOk.laid (x : HOk P w H h) (k : ∀ b u, h.get? b = some u → h'.get? b = some u) (hp : h.objs.size ≤ a) (new : ObjOk P w (upd H a o) h' a o) : HOk P w (upd H a o) h' := fun b u e => by
  have hn := x.fresh hp
  by_cases hb : b = a
  · subst hb; rw [upd_same] at e; cases e; exact new
  · rw [upd_ne hb] at e
    exact (x b u e).stay (fun c v _ q => k c v q) (fun c q => by rw [upd_ne (ne_of_none q hn)]; exact q) fun c xs q => by rw [upd_ne (ne_of_none q hn)]; exact q
end

/-- what may be read as u: it is u, or a known u -/
noncomputable def Rd (H : Hp) (a : Addr) (u : HO) : Prop := H a = some u ∨ ∃ o, H a = some (.frz o u)
theorem Rd.of {H : Hp} {a : Addr} {u : HO} (h : H a = some u) : Rd H a u := .inl h
theorem Rd.ok {P : Program} {w : World} {H : Hp} {h : Heap} {a : Addr} {u : HO} (r : Rd H a u) (x : HOk P w H h) : ObjOk P w H h a u := by
  rcases r with r | ⟨o, r⟩
  · exact x a u r
  · obtain ⟨_, q⟩ := x a _ r
    exact q
section
variable {P : Program} {w : World} {H : Hp} {h h' : Heap} {x e : Addr} {o' : HO}
end

/-! ### kept unless tracked; of the frames at fs (the callers') the slots may change (an exception that passes writes there); of the records at ex (iterators) nothing is said -/
structure Un (fs ex : List Addr) (H H' : Hp) (h h' : Heap) : Prop where
  keep : ∀ b o, h.get? b = some o → H b = none → b ∉ fs → b ∉ ex → h'.get? b = some o
  slot : ∀ b o, h.get? b = some o → H b = none → b ∈ fs → b ∉ ex → ∃ sl, h'.get? b = some { o with slots := sl }
  free : ∀ b o, h.get? b = some o → H b = none → b ∉ ex → H' b = none
  there : ∀ b o, h.get? b = some o → b ∉ ex → ∃ o', h'.get? b = some o'
  tups : ∀ b xs, H b = some (.tup xs) → H' b = some (.tup xs)
  frzs : ∀ b o u, H b = some (.frz o u) → H' b = some (.frz o u)
  tbls : ∀ b ps, H b = some (.tbl ps) → ∃ more, H' b = some (.tbl (ps ++ more))
section
variable {fs fs' ex ex' : List Addr} {H H1 H2 : Hp} {h h1 h2 h' : Heap} {a x e : Addr} {o : HO}
theorem Un.any (u : Un fs ex H H1 h h1) {b : Addr} {ob : Obj} (q : h.get? b = some ob) (n : H b = none) (hx : b ∉ ex) : ∃ sl, h1.get? b = some { ob with slots := sl } := by
  by_cases hb : b ∈ fs
  · exact u.slot b ob q n hb hx
  · exact ⟨ob.slots, u.keep b ob q n hb hx⟩
theorem Un.trans (a : Un fs ex H H1 h h1) (b : Un fs ex H1 H2 h1 h2) : Un fs ex H H2 h h2 where
  keep := fun c ob q n hc hx => b.keep c ob (a.keep c ob q n hc hx) (a.free c ob q n hx) hc hx
  slot := fun c ob q n hc hx => by
    obtain ⟨sl, e1⟩ := a.slot c ob q n hc hx
    obtain ⟨sl', e2⟩ := b.slot c _ e1 (a.free c ob q n hx) hc hx
    exact ⟨sl', e2⟩
  free := fun c ob q n hx => by
    obtain ⟨o', e1⟩ := a.there c ob q hx
    exact b.free c o' e1 (a.free c ob q n hx) hx
  there := fun c ob q hx => by
    obtain ⟨o', e1⟩ := a.there c ob q hx
    exact b.there c o' e1 hx
  tups := fun c xs q => b.tups c xs (a.tups c xs q)
  frzs := fun c ob xs q => b.frzs c ob xs (a.frzs c ob xs q)
  tbls := fun c ps q => by
    obtain ⟨m1, e1⟩ := a.tbls c ps q
    obtain ⟨m2, e2⟩ := b.tbls c _ e1
    exact ⟨m1 ++ m2, by rw [e2, Array.append_assoc]⟩
theorem Un.kept (k : ∀ b u, h.get? b = some u → h'.get? b = some u) : Un fs ex H H h h' :=
  ⟨fun b ob q _ _ _ => k b ob q, fun b ob q _ _ _ => ⟨ob.slots, k b ob q⟩, fun _ _ _ n _ => n, fun b ob q _ => ⟨ob, k b ob q⟩, fun _ _ q => q, fun _ _ _ q => q, fun _ ps q => ⟨#[], by rw [q]; simp⟩⟩
theorem Un.refl : Un fs ex H H h h := Un.kept fun _ _ q => q
theorem Un.laid (k : ∀ b u, h.get? b = some u → h'.get? b = some u) (hp : h.objs.size ≤ a) (hn : H a = none) : Un fs ex H (upd H a o) h h' where
  keep := fun b u q _ _ _ => k b u q
  slot := fun b u q _ _ _ => ⟨u.slots, k b u q⟩
  free := fun b u q n _ => by rw [upd_ne (Nat.ne_of_lt (Nat.lt_of_lt_of_le (Heap.lt_size q) hp))]; exact n
  there := fun b u q _ => ⟨u, k b u q⟩
  tups := fun b xs q => by rw [upd_ne (ne_of_none q hn)]; exact q
  frzs := fun b u xs q => by rw [upd_ne (ne_of_none q hn)]; exact q
  tbls := fun b ps q => ⟨#[], by rw [upd_ne (ne_of_none q hn), q]; simp⟩
theorem Un.mono (u : Un fs ex H H1 h h1) (hs : ∀ b ∈ fs, b ∈ fs') (hx : ∀ b ∈ ex, b ∈ ex') : Un fs' ex' H H1 h h1 :=
  ⟨fun b ob q n hb he => u.keep b ob q n (fun z => hb (hs b z)) fun z => he (hx b z), fun _ _ q n _ he => u.any q n fun z => he (hx _ z), fun b ob q n he => u.free b ob q n fun z => he (hx b z), fun b ob q he => u.there b ob q fun z => he (hx b z), u.tups, u.frzs, u.tbls⟩
end

/-! ### the heap without what is tracked -/
noncomputable def trk (h : Heap) (H : Hp) : List Addr := (List.range h.objs.size).filter fun a => (H a).isSome
noncomputable def hidT (h : Heap) (H : Hp) : Heap := PySem.W.hideAll h (trk h H)
theorem hidT_size (h : Heap) (H : Hp) : (hidT h H).objs.size = h.objs.size := PySem.W.hideAll_size _ _
theorem hidT_get {h : Heap} {H : Hp} {b : Addr} {o : Obj} (e : h.get? b = some o) (n : H b = none) : (hidT h H).get? b = some o :=
  PySem.W.hideAll_get _ e fun hm => by
    have q : (H b).isSome = true := (List.mem_filter.mp hm).2
    rw [n] at q; simp at q
theorem of_hidT {h : Heap} {H : Hp} {b : Addr} {o : Obj} (e : (hidT h H).get? b = some o) : h.get? b = some o ∧ H b = none := by
  have e' : h.get? b = some o := PySem.W.of_hideAll (trk h H) e
  refine ⟨e', ?_⟩
  cases q : H b with
  | none => rfl
  | some x =>
    have hm : b ∈ trk h H := List.mem_filter.mpr ⟨List.mem_range.mpr (Heap.lt_size e'), by simp [q]⟩
    have z : (hidT h H).get? b = none := PySem.W.hideAll_none (trk h H) hm
    rw [z] at e; cases e

/-! ### OpenK's ledger, filled with every new object but one -/
noncomputable def allNews (g h : Heap) (L : Addr) : List (Addr × Obj) := (List.range h.objs.size).filterMap fun a => if a = L ∨ (g.get? a).isSome = true then none else (h.get? a).map fun o => (a, o)
noncomputable def rest (g h : Heap) (L d : Addr) : List (Addr × Obj) := (allNews g h L).filter fun p => decide (p.1 ≠ d)
end L2

namespace L2
open PySem PySem.Spec PyProof.Rows

/-- the module's facts, over the base: the heap at the law's entry without what is tracked there -/
structure Mod (K : PySem.W.Frag) (mg : Str → Option Value) (base : Heap) : Prop where
  kin : K.In base
  glob : base.Ns mainGlobals mg
  blt : ∃ mb, base.Ns builtinsNs mb ∧ ∀ x : Str, x ≠ "__name__" → mb x = bootBuiltins x
  nolimit : base.NoLimit

/-- the context: a def's body (or a comprehension's block) running. base: fixed through the whole law; s₀, H₀: the entry; outer: the frames whose slots others may change (a def's callers); stack: all frames that run;
   ex: iterators that were made ahead of the entry and are walked here (a comprehension's); fn: the names whose cells were made at the entry (a def: all; a comprehension's block: its own); calm: not within an except suite; pn: pins that every state bears; xe: what is wanted of an exception that leaves the code -/
structure Cx where
  prog : Program
  w : World
  K : PySem.W.Frag
  mg : Str → Option Value
  base : Heap
  A : Around
  N : List Str
  s₀ : Shared
  H₀ : Hp
  env : Env
  outer : List Env
  stack : List Env
  ex : List Addr
  fn : Str → Bool
  calm : Bool
  pn : List (Addr × Obj)
  xe : Value → Shared → Prop
/-- the callers' frames -/
noncomputable def frs (l : List Env) : List Addr := l.filterMap (·.frame)
noncomputable abbrev Cx.fs (X : Cx) : List Addr := frs X.outer

noncomputable def Vis (sc : Scope) (x : Str) : Prop := sc.names.lookup x = some .local ∨ sc.names.lookup x = some .cell ∨ sc.names.lookup x = some .free
noncomputable def Loc (sc : Scope) (x : Str) : Prop := sc.names.lookup x = some .local ∨ sc.names.lookup x = some .cell
noncomputable def Look (env : Env) (h : Heap) (m : Str → Option Value) (x : Str) (u : Value) : Prop :=
  (env.kindOf x = some .local ∧ m x = some u) ∨ ((env.kindOf x = some .cell ∨ env.kindOf x = some .free) ∧ ∃ c, env.cells.lookup x = some c ∧ h.IsCell c (some u))

structure Cx.Ok (X : Cx) : Prop where
  mod : Mod X.K X.mg X.base
  kind : X.env.scope.kind = .function
  glob : X.env.globals = mainGlobals
  blt : X.env.builtins = builtinsNs
  above : X.s₀.heap.objs.size ≤ X.env.locals
  inj : ∀ x y c, X.env.cells.lookup x = some c → X.env.cells.lookup y = some c → x = y
  has : ∀ x, (X.env.kindOf x = some .cell ∨ X.env.kindOf x = some .free) → ∃ c, X.env.cells.lookup x = some c
  cab : ∀ x c, X.fn x = true → X.env.cells.lookup x = some c → X.s₀.heap.objs.size ≤ c
  hd : X.calm = true → X.A.handled = none
  frames : X.A.frames = some X.stack
  stk : X.stack = X.outer ∨ (X.stack = X.env :: X.outer ∧ X.env.frame = some X.env.locals)
  exf : ∀ b ∈ X.ex, b ≠ X.env.locals ∧ ∀ x c, X.env.cells.lookup x = some c → c ≠ b
  bs : ∀ b o, X.base.get? b = some o → X.s₀.heap.get? b = some o ∧ X.H₀ b = none
  bsz : X.base.objs.size ≤ X.s₀.heap.objs.size
  noex : ∀ b o, X.base.get? b = some o → b ∉ X.ex
  exfs : ∀ b ∈ X.ex, b ∉ X.fs
  funs : X.s₀.heap.FunFrames X.base X.outer
  frf : ∀ b ∈ X.fs, X.H₀ b = none

structure Inv (X : Cx) (pins : List (Addr × Obj)) (σ : List (Option V)) (H : Hp) (s : Shared) : Prop where
  ok : X.Ok
  os : s.os = X.s₀.os
  bare : AllBare s.gens
  base : Un X.fs X.ex X.H₀ H X.s₀.heap s.heap
  loc : ∃ m, s.heap.Ns X.env.locals m ∧ ∀ (i : Nat) (x : Str) (v : V), X.N[i]? = some x → σ[i]? = some (some v) → Vis X.env.scope x → ∃ u, RelV v u ∧ Look X.env s.heap m x u
  cell : ∀ x c, X.env.cells.lookup x = some c → ∃ v, s.heap.IsCell c v
  free : H X.env.locals = none
  freeC : ∀ x c, X.env.cells.lookup x = some c → H c = none
  pin : ∀ p ∈ X.pn ++ pins, s.heap.get? p.1 = some p.2 ∧ H p.1 = none ∧ p.1 ≠ X.env.locals ∧ p.1 ∉ X.fs ∧ ∀ v, p.2.data ≠ .cell v
  hok : HOk X.prog X.w H s.heap
  len : σ.length = X.N.length

section
variable {X : Cx} {pins : List (Addr × Obj)} {σ : List (Option V)} {H H' : Hp} {s : Shared} {h' : Heap}

theorem Cx.Ok.nofr (ok : X.Ok) {b : Addr} {o : Obj} (e : X.base.get? b = some o) : b ∉ X.fs := fun hb => by
  have := (ok.funs.mem hb).1
  rw [e] at this; cases this
theorem Inv.bs (I : Inv X pins σ H s) : ∀ b o, X.base.get? b = some o → s.heap.get? b = some o ∧ H b = none := fun b o e =>
  ⟨I.base.keep b o (I.ok.bs b o e).1 (I.ok.bs b o e).2 (I.ok.nofr e) (I.ok.noex b o e), I.base.free b o (I.ok.bs b o e).1 (I.ok.bs b o e).2 (I.ok.noex b o e)⟩
theorem Inv.bk (I : Inv X pins σ H s) : ∀ b o, X.base.get? b = some o → s.heap.get? b = some o := fun b o e => (I.bs b o e).1
theorem Inv.mod (I : Inv X pins σ H s) : Mod X.K X.mg X.base := I.ok.mod
theorem Inv.kIn (I : Inv X pins σ H s) : X.K.In s.heap := I.ok.mod.kin.keeps I.bk
theorem Inv.nolimit (I : Inv X pins σ H s) : s.heap.NoLimit := I.ok.mod.nolimit.keeps I.bk
theorem Inv.lt (I : Inv X pins σ H s) : X.env.locals < s.heap.objs.size := let ⟨_, hn, _⟩ := I.loc; hn.lt
theorem Inv.sz (I : Inv X pins σ H s) : X.s₀.heap.objs.size ≤ s.heap.objs.size := Nat.le_trans I.ok.above (Nat.le_of_lt I.lt)
theorem Inv.nofs (I : Inv X pins σ H s) {a : Addr} (h : s.heap.objs.size ≤ a) : a ∉ X.fs := fun hb => by
  obtain ⟨_, o, ho, _⟩ := I.ok.funs.mem hb
  exact absurd (Nat.lt_of_lt_of_le (Heap.lt_size ho) (Nat.le_trans I.sz h)) (Nat.lt_irrefl _)
theorem Inv.cne (I : Inv X pins σ H s) : ∀ x c, X.env.cells.lookup x = some c → c ≠ X.env.locals := fun x c e z => by
  obtain ⟨v, o, ho, hd⟩ := I.cell x c e
  obtain ⟨m, ⟨o', es, ep, ho', hd', _⟩, _⟩ := I.loc
  rw [z, ho'] at ho; cases ho; rw [hd'] at hd; cases hd
theorem Inv.funs (I : Inv X pins σ H s) : s.heap.FunFrames X.base X.outer := by
  have all : ∀ (l : List Env), (∀ b ∈ frs l, b ∈ X.fs) → X.s₀.heap.FunFrames X.base l → s.heap.FunFrames X.base l := by
    intro l
    induction l with
    | nil => intro _ _; trivial
    | cons env r ih =>
      intro hs hl
      obtain ⟨hk, ⟨L, o, hf, hn, ho, hd⟩, hr⟩ := hl
      have hL : L ∈ X.fs := hs L (by unfold frs; rw [List.filterMap_cons, hf]; exact List.mem_cons_self)
      obtain ⟨sl, e⟩ := I.base.slot L o ho (I.ok.frf L hL) hL fun z => I.ok.exfs L z hL
      exact ⟨hk, ⟨L, _, hf, hn, e, hd⟩, ih (fun b hb => hs b (by unfold frs; rw [List.filterMap_cons, hf]; exact List.mem_cons_of_mem _ hb)) hr⟩
  exact all X.outer (fun _ hb => hb) I.ok.funs

/-- the frames that run, for a call -/
theorem Inv.stack (I : Inv X pins σ H s) : s.heap.FunFrames X.base X.stack := by
  rcases I.ok.stk with e | ⟨e, hf⟩
  · rw [e]; exact I.funs
  · rw [e]
    obtain ⟨m, hn, _⟩ := I.loc
    refine .cons (by rw [I.ok.kind]; decide) hf hn ?_ I.funs
    exact Heap.get?_none_of_le (Nat.le_trans I.ok.bsz I.ok.above)
theorem Inv.stkSub (I : Inv X pins σ H s) : ∀ b ∈ frs X.stack, b ∈ X.env.locals :: X.fs := fun b hb => by
  rcases I.ok.stk with e | ⟨e, hf⟩
  · rw [e] at hb; exact List.mem_cons_of_mem _ hb
  · rw [e] at hb
    unfold frs at hb
    rw [List.filterMap_cons, hf] at hb
    exact hb
theorem Inv.stkFree (I : Inv X pins σ H s) : ∀ b ∈ frs X.stack, H b = none := fun b hb => by
  rcases List.mem_cons.mp (I.stkSub b hb) with e | hb
  · rw [e]; exact I.free
  · obtain ⟨_, o, ho, _⟩ := I.ok.funs.mem hb
    exact I.base.free b o ho (I.ok.frf b hb) fun z => I.ok.exfs b z hb

/-- THE STEP: the untracked objects but the frame and the records at ch are kept (the callers' frames up to slots), the frame's map is kept, the new abstract heap is held -/
theorem Inv.step {g' : Array GenState} {t' : Nat} {d' : Drawn} {ch : List Addr} (I : Inv X pins σ H s)
    (hch : ∀ b ∈ ch, (b ∈ X.ex ∨ X.s₀.heap.objs.size ≤ b) ∧ b ≠ X.env.locals ∧ (∀ x c, X.env.cells.lookup x = some c → c ≠ b) ∧ ∀ p ∈ X.pn ++ pins, p.1 ≠ b)
    (keep : ∀ b o, b ≠ X.env.locals → b ∉ X.fs → b ∉ ch → s.heap.get? b = some o → H b = none → h'.get? b = some o)
    (slot : ∀ b o, b ≠ X.env.locals → b ∈ X.fs → b ∉ ch → s.heap.get? b = some o → H b = none → ∃ sl, h'.get? b = some { o with slots := sl }) (free : ∀ b o, b ∉ ch → s.heap.get? b = some o → H b = none → H' b = none)
    (there : ∀ b o, b ∉ ch → s.heap.get? b = some o → ∃ o', h'.get? b = some o')
    (tups : ∀ b xs, H b = some (.tup xs) → H' b = some (.tup xs)) (frzs : ∀ b o u, H b = some (.frz o u) → H' b = some (.frz o u)) (tbls : ∀ b ps, H b = some (.tbl ps) → ∃ more, H' b = some (.tbl (ps ++ more)))
    (ns : ∀ m, s.heap.Ns X.env.locals m → h'.Ns X.env.locals m) (hok : HOk X.prog X.w H' h') (hg : AllBare g') :
    Inv X pins σ H' { s with heap := h', gens := g', drawn := d', toks := t' } := by
  have neL : ∀ b o, X.s₀.heap.get? b = some o → b ≠ X.env.locals := fun b o e => Nat.ne_of_lt (Nat.lt_of_lt_of_le (Heap.lt_size e) I.ok.above)
  have neC : ∀ b o, X.s₀.heap.get? b = some o → b ∉ X.ex → b ∉ ch := fun b o e hx hb => by
    rcases (hch b hb).1 with z | z
    · exact hx z
    · exact absurd (Nat.lt_of_lt_of_le (Heap.lt_size e) z) (Nat.lt_irrefl _)
  have cellK : ∀ x c, X.env.cells.lookup x = some c → ∀ v, s.heap.IsCell c v → h'.IsCell c v := fun x c e v ⟨o, ho, hd⟩ => by
    have nch : c ∉ ch := fun z => (hch c z).2.2.1 x c e rfl
    by_cases hc : c ∈ X.fs
    · obtain ⟨sl, q⟩ := slot c o (I.cne x c e) hc nch ho (I.freeC x c e)
      exact ⟨_, q, hd⟩
    · exact ⟨o, keep c o (I.cne x c e) hc nch ho (I.freeC x c e), hd⟩
  refine ⟨I.ok, I.os, hg, ⟨fun b o e n hb hx => ?_, fun b o e n hb hx => ?_, fun b o e n hx => ?_, fun b o e hx => ?_, fun b xs e => tups b xs (I.base.tups b xs e), fun b o xs e => frzs b o xs (I.base.frzs b o xs e), fun b ps e => ?_⟩, ?_, fun x c e => ?_, ?_, fun x c e => ?_, fun p hp => ?_, hok, I.len⟩
  · exact keep b o (neL b o e) hb (neC b o e hx) (I.base.keep b o e n hb hx) (I.base.free b o e n hx)
  · obtain ⟨sl, e1⟩ := I.base.slot b o e n hb hx
    obtain ⟨sl', e2⟩ := slot b _ (neL b o e) hb (neC b o e hx) e1 (I.base.free b o e n hx)
    exact ⟨sl', e2⟩
  · obtain ⟨o', e1⟩ := I.base.there b o e hx
    exact free b o' (neC b o e hx) e1 (I.base.free b o e n hx)
  · obtain ⟨o', e1⟩ := I.base.there b o e hx
    exact there b o' (neC b o e hx) e1
  · obtain ⟨m1, e1⟩ := I.base.tbls b ps e
    obtain ⟨m2, e2⟩ := tbls b _ e1
    exact ⟨m1 ++ m2, by rw [e2, Array.append_assoc]⟩
  · obtain ⟨m, hn, hl⟩ := I.loc
    refine ⟨m, ns m hn, fun i x v e1 e2 e3 => ?_⟩
    obtain ⟨u, r, l⟩ := hl i x v e1 e2 e3
    refine ⟨u, r, ?_⟩
    rcases l with l | ⟨k, c, e, z⟩
    · exact .inl l
    · exact .inr ⟨k, c, e, cellK x c e _ z⟩
  · obtain ⟨v, z⟩ := I.cell x c e
    exact ⟨v, cellK x c e v z⟩
  · obtain ⟨m, ⟨o, _, _, ho, _⟩, _⟩ := I.loc
    exact free _ o (fun z => (hch _ z).2.1 rfl) ho I.free
  · obtain ⟨v, o, ho, hd⟩ := I.cell x c e
    exact free c o (fun z => (hch c z).2.2.1 x c e rfl) ho (I.freeC x c e)
  · obtain ⟨e, n, ne, nf, d⟩ := I.pin p hp
    have nch : p.1 ∉ ch := fun z => (hch p.1 z).2.2.2 p hp rfl
    exact ⟨keep p.1 p.2 ne nf nch e n, free p.1 p.2 nch e n, ne, nf, d⟩
/-- .. where the frame's own object is kept too -/
theorem Inv.un {t' : Nat} (I : Inv X pins σ H s) (u : Un X.fs [] H H' s.heap h') (hok : HOk X.prog X.w H' h') : Inv X pins σ H' { s with heap := h', toks := t' } := by
  obtain ⟨m, ⟨o, es, ep, ho, r⟩, _⟩ := id I.loc
  obtain ⟨sl, hL⟩ := u.any ho I.free (by simp)
  exact I.step (g' := s.gens) (d' := s.drawn) (ch := []) (fun _ z => nomatch z) (fun b o _ hb _ e n => u.keep b o e n hb (by simp)) (fun b o _ hb _ e n => u.slot b o e n hb (by simp)) (fun b o _ e n => u.free b o e n (by simp)) (fun b o _ e => u.there b o e (by simp)) u.tups u.frzs u.tbls (fun m' hm => by
    obtain ⟨o', es', ep', ho', r'⟩ := hm
    rw [ho] at ho'; cases ho'
    exact ⟨_, es', ep', hL, r'⟩) hok I.bare
/-- behind a call (or a comprehension's block): the slots of this frame may have changed too, the records at ch may have turned -/
theorem Inv.call {g' : Array GenState} {t' : Nat} {d' : Drawn} {ch : List Addr} (I : Inv X pins σ H s) (u : Un (frs X.stack) ch H H' s.heap h') (hok : HOk X.prog X.w H' h') (hg : AllBare g')
    (hch : ∀ b ∈ ch, (b ∈ X.ex ∨ X.s₀.heap.objs.size ≤ b) ∧ b ≠ X.env.locals ∧ (∀ x c, X.env.cells.lookup x = some c → c ≠ b) ∧ ∀ p ∈ X.pn ++ pins, p.1 ≠ b) :
    Inv X pins σ H' { s with heap := h', gens := g', drawn := d', toks := t' } := by
  obtain ⟨m, ⟨o, es, ep, ho, r⟩, _⟩ := id I.loc
  obtain ⟨sl, hL⟩ := u.any ho I.free fun z => (hch _ z).2.1 rfl
  exact I.step (ch := ch) hch (fun b o hL hb hc e n => u.keep b o e n (fun z => (List.mem_cons.mp (I.stkSub b z)).elim hL hb) hc) (fun b o _ _ hc e n => u.any e n hc) (fun b o hc e n => u.free b o e n hc) (fun b o hc e => u.there b o e hc) u.tups u.frzs u.tbls (fun m' hm => by
    obtain ⟨o', es', ep', ho', r'⟩ := hm
    rw [ho] at ho'; cases ho'
    exact ⟨_, es', ep', hL, r'⟩) hok hg
/-- an untracked record of ours (an iterator) has turned -/
theorem Inv.turned {t' : Nat} {it : Addr} (I : Inv X pins σ H s) (k : ∀ b o, b ≠ it → s.heap.get? b = some o → h'.get? b = some o) (hn : H it = none) (hL : it ≠ X.env.locals)
    (h1 : it ∈ X.ex ∨ X.s₀.heap.objs.size ≤ it) (h2 : ∀ x c, X.env.cells.lookup x = some c → c ≠ it) (h3 : ∀ p ∈ X.pn ++ pins, p.1 ≠ it) : Inv X pins σ H { s with heap := h', toks := t' } := by
  have nit : ∀ b u, H b = some u → b ≠ it := fun b u e z => by rw [z, hn] at e; cases e
  refine I.step (g' := s.gens) (d' := s.drawn) (ch := [it]) (fun b hb => ?_) (fun b o _ _ hc e _ => k b o (fun z => hc (by simp [z])) e) (fun b o _ _ hc e _ => ⟨o.slots, k b o (fun z => hc (by simp [z])) e⟩) (fun _ _ _ _ n => n)
    (fun b o hc e => ⟨o, k b o (fun z => hc (by simp [z])) e⟩) (fun _ _ e => e) (fun _ _ _ e => e) (fun b ps e => ⟨#[], by rw [e]; simp⟩) (fun m hm => ?_) (fun b u e => ?_) I.bare
  · have e : b = it := by simpa using hb
    subst e
    exact ⟨h1, hL, h2, h3⟩
  · obtain ⟨o, es, ep, ho, r⟩ := hm
    exact ⟨o, es, ep, k _ o (Ne.symm hL) ho, r⟩
  · refine (I.hok b u e).stay (fun c v hc q => k c v ?_ q) (fun _ q => q) fun _ _ q => q
    rcases hc with z | z
    · rw [z]; exact nit b u e
    · exact nit c _ z
theorem Inv.tok (I : Inv X pins σ H s) (t : Nat) : Inv X pins σ H { s with toks := t } := I.un (h' := s.heap) (t' := t) Un.refl I.hok
/-- all objects kept -/
theorem Inv.kept {t' : Nat} (I : Inv X pins σ H s) (k : ∀ b u, s.heap.get? b = some u → h'.get? b = some u) : Inv X pins σ H { s with heap := h', toks := t' } := I.un (Un.kept k) (I.hok.kept k)
/-- a new object laid and tracked -/
theorem Inv.laid {a : Addr} {o : HO} {t' : Nat} (I : Inv X pins σ H s) (k : ∀ b u, s.heap.get? b = some u → h'.get? b = some u) (hp : s.heap.objs.size ≤ a) (new : ObjOk X.prog X.w (upd H a o) h' a o) :
    Inv X pins σ (upd H a o) { s with heap := h', toks := t' } := I.un (Un.laid k hp (I.hok.fresh hp)) (I.hok.laid k hp new)
theorem Inv.pins_of {pins' : List (Addr × Obj)} (I : Inv X pins σ H s) (h : ∀ p ∈ pins', s.heap.get? p.1 = some p.2 ∧ H p.1 = none ∧ p.1 ≠ X.env.locals ∧ p.1 ∉ X.fs ∧ ∀ v, p.2.data ≠ .cell v) : Inv X pins' σ H s :=
  ⟨I.ok, I.os, I.bare, I.base, I.loc, I.cell, I.free, I.freeC, fun p hp => (List.mem_append.mp hp).elim (fun z => I.pin p (List.mem_append_left _ z)) (h p), I.hok, I.len⟩

theorem nodup_ix {N : List Str} (hN : N.Nodup) {i j : Nat} {x : Str} (a : N[i]? = some x) (b : N[j]? = some x) : i = j := by
  obtain ⟨h1, e1⟩ := List.getElem?_eq_some_iff.mp a
  obtain ⟨h2, e2⟩ := List.getElem?_eq_some_iff.mp b
  exact (List.getElem_inj hN).mp (e1.trans e2.symm)

/-- a name is stored; what changed -/
theorem store_ok2 {M : Model} {A : Around} {E : Value → Shared → Prop} {i : Nat} {x : Str} {v : V} {u : Value} {Q : Unit → Shared → Prop} (I : Inv X pins σ H s) (hN : X.N.Nodup) (hi : X.N[i]? = some x) (hx : Loc X.env.scope x) (r : RelV v u)
    (h : ∀ s', Inv X pins (σ.set i (some v)) H s' → (∃ a, Heap.SameBut a s.heap s'.heap ∧ (a = X.env.locals ∨ X.env.cells.lookup x = some a)) → Q () s') (hf : X.fn x = true ∨ X.env.scope.names.lookup x = some .local := by first | exact .inl rfl | exact .inr rfl | assumption) : wpAny M A (storeName X.env x u) Q E s := by
  obtain ⟨m, hn, hl⟩ := id I.loc
  have hcls : (X.env.scope.kind == .class || (X.env.scope.kind == .module && X.env.locals != X.env.globals)) = false := by rw [I.ok.kind]; rfl
  have hiσ : i < σ.length := by rw [I.len]; exact (List.getElem?_eq_some_iff.mp hi).1
  have cne := I.cne
  have tracked : ∀ {a : Addr} {h' : Heap}, (∃ o, s.heap.get? a = some o ∧ H a = none) → Heap.SameBut a s.heap h' → HOk X.prog X.w H h' := fun {a h'} ha hs b ob e => by
    obtain ⟨_, _, hfree⟩ := ha
    refine (I.hok b ob e).stay (fun c w' hc q => (hs.2 c ?_).trans q) (fun _ q => q) fun _ _ q => q
    rintro rfl
    rcases hc with rfl | hc
    · rw [hfree] at e; cases e
    · rw [hfree] at hc; cases hc
  rcases hx with hk | hk
  · refine wpAny_storeName_local hk hn (fun h' hn' hs => ?_) hcls
    obtain ⟨oL, _, _, hoL, _⟩ := id hn
    refine h _ ⟨I.ok, I.os, I.bare, ⟨fun b o e n hb hx => ?_, fun b o e n hb hx => ?_, I.base.free, fun b o e hx => ?_, I.base.tups, I.base.frzs, I.base.tbls⟩, ⟨_, hn', fun j y v' e1 e2 e3 => ?_⟩, fun y c e => ?_, I.free, I.freeC, fun p hp => ?_, tracked ⟨oL, hoL, I.free⟩ hs, by simpa using I.len⟩ ⟨_, hs, .inl rfl⟩
    · exact (hs.2 b (Nat.ne_of_lt (Nat.lt_of_lt_of_le (Heap.lt_size e) I.ok.above))).trans (I.base.keep b o e n hb hx)
    · obtain ⟨sl, e1⟩ := I.base.slot b o e n hb hx
      exact ⟨sl, (hs.2 b (Nat.ne_of_lt (Nat.lt_of_lt_of_le (Heap.lt_size e) I.ok.above))).trans e1⟩
    · obtain ⟨o', e1⟩ := I.base.there b o e hx
      exact ⟨o', (hs.2 b (Nat.ne_of_lt (Nat.lt_of_lt_of_le (Heap.lt_size e) I.ok.above))).trans e1⟩
    · by_cases hj : j = i
      · subst hj
        rw [hi] at e1; cases e1
        rw [List.getElem?_set_self hiσ] at e2
        cases e2
        exact ⟨u, r, .inl ⟨hk, by simp⟩⟩
      · rw [List.getElem?_set_ne (Ne.symm hj)] at e2
        obtain ⟨u', r', q⟩ := hl j y v' e1 e2 e3
        refine ⟨u', r', ?_⟩
        rcases q with ⟨k, e⟩ | ⟨k, c, e, z⟩
        · refine .inl ⟨k, ?_⟩
          have : y ≠ x := fun e => hj (nodup_ix hN e1 (e ▸ hi))
          simp [this, e]
        · exact .inr ⟨k, c, e, z.sameBut hs (cne y c e)⟩
    · obtain ⟨w', z⟩ := I.cell y c e
      exact ⟨w', z.sameBut hs (cne y c e)⟩
    · obtain ⟨e, n, ne, nf, d⟩ := I.pin p hp
      exact ⟨(hs.2 p.1 ne).trans e, n, ne, nf, d⟩
  · have hfn : X.fn x = true := by
      rcases hf with z | z
      · exact z
      · rw [z] at hk; cases hk
    obtain ⟨c, hc⟩ := I.ok.has x (.inl hk)
    obtain ⟨w', z⟩ := I.cell x c hc
    refine wpAny_storeName_cell I.ok.kind hk hc z (fun h' hc' hs => ?_)
    obtain ⟨oc, hoc, hocd⟩ := id z
    refine h { s with heap := h' } ⟨I.ok, I.os, I.bare, ⟨fun b o e n hb hx => ?_, fun b o e n hb hx => ?_, I.base.free, fun b o e hx => ?_, I.base.tups, I.base.frzs, I.base.tbls⟩, ⟨m, hn.sameBut hs (Ne.symm (cne x c hc)), fun j y v' e1 e2 e3 => ?_⟩, fun y c' e => ?_, I.free, I.freeC, fun p hp => ?_, tracked ⟨oc, hoc, I.freeC x c hc⟩ hs, by simpa using I.len⟩ ⟨c, hs, .inr hc⟩
    · exact (hs.2 b (Nat.ne_of_lt (Nat.lt_of_lt_of_le (Heap.lt_size e) (I.ok.cab x c hfn hc)))).trans (I.base.keep b o e n hb hx)
    · obtain ⟨sl, e1⟩ := I.base.slot b o e n hb hx
      exact ⟨sl, (hs.2 b (Nat.ne_of_lt (Nat.lt_of_lt_of_le (Heap.lt_size e) (I.ok.cab x c hfn hc)))).trans e1⟩
    · obtain ⟨o', e1⟩ := I.base.there b o e hx
      exact ⟨o', (hs.2 b (Nat.ne_of_lt (Nat.lt_of_lt_of_le (Heap.lt_size e) (I.ok.cab x c hfn hc)))).trans e1⟩
    · by_cases hj : j = i
      · subst hj
        rw [hi] at e1; cases e1
        rw [List.getElem?_set_self hiσ] at e2
        cases e2
        exact ⟨u, r, .inr ⟨.inl hk, c, hc, hc'⟩⟩
      · rw [List.getElem?_set_ne (Ne.symm hj)] at e2
        obtain ⟨u', r', q⟩ := hl j y v' e1 e2 e3
        refine ⟨u', r', ?_⟩
        rcases q with q | ⟨k, c', e, z'⟩
        · exact .inl q
        · refine .inr ⟨k, c', e, z'.sameBut hs ?_⟩
          rintro rfl
          exact hj (nodup_ix hN e1 (I.ok.inj _ _ _ e hc ▸ hi))
    · by_cases hcc : c' = c
      · subst hcc; exact ⟨_, hc'⟩
      · obtain ⟨w2, z2⟩ := I.cell y c' e
        exact ⟨w2, z2.sameBut hs hcc⟩
    · obtain ⟨e, n, ne, nf, d⟩ := I.pin p hp
      refine ⟨(hs.2 p.1 ?_).trans e, n, ne, nf, d⟩
      intro q
      rw [q, hoc] at e
      have q' : oc = p.2 := Option.some.inj e
      exact d w' (by rw [← q']; exact hocd)
theorem store_ok {M : Model} {A : Around} {E : Value → Shared → Prop} {i : Nat} {x : Str} {v : V} {u : Value} {Q : Unit → Shared → Prop} (I : Inv X pins σ H s) (hN : X.N.Nodup) (hi : X.N[i]? = some x) (hx : Loc X.env.scope x) (r : RelV v u)
    (h : ∀ s', Inv X pins (σ.set i (some v)) H s' → Q () s') (hf : X.fn x = true ∨ X.env.scope.names.lookup x = some .local := by first | exact .inl rfl | exact .inr rfl | assumption) : wpAny M A (storeName X.env x u) Q E s :=
  store_ok2 I hN hi hx r (fun s' I' _ => h s' I') hf
/-- behind a call or a block, the state as it is -/
theorem Inv.call' {s' : Shared} {ch : List Addr} (I : Inv X pins σ H s) (ho : s'.os = s.os) (u : Un (frs X.stack) ch H H' s.heap s'.heap) (hok : HOk X.prog X.w H' s'.heap) (hg : AllBare s'.gens)
    (hch : ∀ b ∈ ch, (b ∈ X.ex ∨ X.s₀.heap.objs.size ≤ b) ∧ b ≠ X.env.locals ∧ (∀ x c, X.env.cells.lookup x = some c → c ≠ b) ∧ ∀ p ∈ X.pn ++ pins, p.1 ≠ b) : Inv X pins σ H' s' := by
  obtain ⟨h', g', d', t', o'⟩ := s'
  have e : o' = s.os := ho
  subst e
  exact I.call (g' := g') (t' := t') (d' := d') u hok hg hch
end

/-! ### the judgements -/
/-- an exception: its class, its own dict's address (where it has one), the abstract heap behind it -/
noncomputable abbrev XK := Value → Option Addr → Hp → Prop
noncomputable abbrev St := List (Option V)
noncomputable abbrev VK := V → Hp → Prop
/-- an expression's reading; a test's; an argument list's -/
noncomputable abbrev TE := St → Hp → VK → Prop
noncomputable abbrev TT := St → Hp → (Bool → Hp → Prop) → Prop
noncomputable abbrev TA := St → Hp → (List V → Hp → Prop) → Prop
/-- what is wanted behind a statement -/
structure Ends where
  nx : St → Hp → Prop
  rt : VK
  bk : St → Hp → Prop := fun _ _ => False
  ct : St → Hp → Prop := fun _ _ => False
noncomputable abbrev TS := Ends → St → Hp → Prop

noncomputable def EP (X : Cx) (pins : List (Addr × Obj)) (σ : St) (Q : VK) (u : Value) (s' : Shared) : Prop := ∃ v H', Inv X pins σ H' s' ∧ RelV v u ∧ Q v H'
noncomputable def TP (X : Cx) (pins : List (Addr × Obj)) (σ : St) (Q : Bool → Hp → Prop) (b : Bool) (s' : Shared) : Prop := ∃ H', Inv X pins σ H' s' ∧ Q b H'
noncomputable def AP (X : Cx) (pins : List (Addr × Obj)) (σ : St) (Q : List V → Hp → Prop) (us : List Value) (s' : Shared) : Prop := ∃ vs H', Inv X pins σ H' s' ∧ Vals vs us ∧ Q vs H'
noncomputable def SP (X : Cx) (pins : List (Addr × Obj)) (D : Ends) (f : Flow) (s' : Shared) : Prop :=
  match f with
  | .next => ∃ σ' H', Inv X pins σ' H' s' ∧ D.nx σ' H'
  | .brk => ∃ σ' H', Inv X pins σ' H' s' ∧ D.bk σ' H'
  | .cont => ∃ σ' H', Inv X pins σ' H' s' ∧ D.ct σ' H'
  | .ret u => ∃ v σ' H', Inv X pins σ' H' s' ∧ RelV v u ∧ D.rt v H'

noncomputable def PE (X : Cx) (e : Expr) (t : TE) : Prop :=
  ∀ (pins : List (Addr × Obj)) (s : Shared) (σ : St) (H : Hp) (Q : VK), Inv X pins σ H s → t σ H Q → wpAny (model X.prog X.w) X.A (eval e X.env) (EP X pins σ Q) X.xe s
noncomputable def PT (X : Cx) (e : Expr) (t : TT) : Prop :=
  ∀ (pins : List (Addr × Obj)) (s : Shared) (σ : St) (H : Hp) (Q : Bool → Hp → Prop), Inv X pins σ H s → t σ H Q → wpAny (model X.prog X.w) X.A (isTrue e X.env (eval e X.env)) (TP X pins σ Q) X.xe s
/-- a test whatever its 'whole' is (and, or) -/
noncomputable def PW (X : Cx) (e : Expr) (t : TT) : Prop :=
  ∀ (whole : Sem Value) (pins : List (Addr × Obj)) (s : Shared) (σ : St) (H : Hp) (Q : Bool → Hp → Prop), Inv X pins σ H s → t σ H Q → wpAny (model X.prog X.w) X.A (isTrue e X.env whole) (TP X pins σ Q) X.xe s
theorem PW.pt {X : Cx} {e : Expr} {t : TT} (h : PW X e t) : PT X e t := h _
/-- an argument list (no star), from the left -/
noncomputable def PA (X : Cx) (es : List Expr) (t : TA) : Prop :=
  ∀ (pos : Pos) (pins : List (Addr × Obj)) (s : Shared) (σ : St) (H : Hp) (Q : List V → Hp → Prop), Inv X pins σ H s → t σ H Q → wpAny (model X.prog X.w) X.A (spliced (backTo pos (starEach es X.env))) (AP X pins σ Q) X.xe s
noncomputable def PS (X : Cx) (st : Stmt) (t : TS) : Prop :=
  ∀ (pins : List (Addr × Obj)) (s : Shared) (σ : St) (H : Hp) (D : Ends), Inv X pins σ H s → t D σ H → wpAny (model X.prog X.w) X.A (exec st X.env) (SP X pins D) X.xe s
noncomputable def PSs (X : Cx) (st : List Stmt) (t : TS) : Prop :=
  ∀ (pins : List (Addr × Obj)) (s : Shared) (σ : St) (H : Hp) (D : Ends), Inv X pins σ H s → t D σ H → wpAny (model X.prog X.w) X.A (execs st X.env) (SP X pins D) X.xe s
/-- weaken the end -/
theorem thn {α : Type} {t : Sem α} {Q Q' : α → Shared → Prop} {M : Model} {A : Around} {E : Value → Shared → Prop} {s : Shared} (h : wpAny M A t Q E s) (hQ : ∀ a s, Q a s → Q' a s) : wpAny M A t Q' E s := wpAny_mono h hQ fun _ _ x => x
end L2

namespace L2
open PySem PySem.Spec PyProof.Rows
section
variable {X : Cx}

/-- two expressions in a row -/
theorem bin {a b : Expr} {ta tb : TE} (ha : PE X a ta) (hb : PE X b tb) {pins : List (Addr × Obj)} {s : Shared} {σ : St} {H : Hp} {R : V → V → Hp → Prop} (I : Inv X pins σ H s) (h : ta σ H fun x H1 => tb σ H1 fun y H2 => R x y H2)
    {α : Type} {Q : α → Shared → Prop} {f : Value → Value → Sem α}
    (hf : ∀ v u s2 x y H2, Inv X pins σ H2 s2 → RelV x v → RelV y u → R x y H2 → wpAny (model X.prog X.w) X.A (f v u) Q X.xe s2) :
    wpAny (model X.prog X.w) X.A (eval a X.env) (fun v s₁ => wpAny (model X.prog X.w) X.A (eval b X.env) (fun u s₂ => wpAny (model X.prog X.w) X.A (f v u) Q X.xe s₂) X.xe s₁) X.xe s := by
  refine thn (ha pins s σ H _ I h) fun v s1 ⟨x, H1, I1, r1, q1⟩ => ?_
  refine thn (hb pins s1 σ H1 _ I1 q1) fun u s2 ⟨y, H2, I2, r2, q2⟩ => ?_
  exact hf v u s2 x y H2 I2 r1 r2 q2

/-! ### names and constants -/
noncomputable def tVar (i : Nat) : TE := fun σ H Q => ∃ v, σ[i]? = some (some v) ∧ Q v H
noncomputable def tC (v : V) : TE := fun _ H Q => Q v H
theorem pe_var {i : Nat} {x : Str} {pos : Pos} (hN : X.N[i]? = some x) (hv : Vis X.env.scope x) (hd : (x == ("__debug__" : Str)) = false := by decide) (hcd : (x == ("__classdict__" : Str)) = false := by decide) : PE X (.Name x pos) (tVar i) := by
  intro pins s σ H Q I h
  obtain ⟨v, e, h⟩ := h
  obtain ⟨m, hn, hl⟩ := I.loc
  obtain ⟨u, r, l⟩ := hl i x v hN e hv
  have fin : EP X pins σ Q u s := ⟨v, H, I, r, h⟩
  rcases l with ⟨hk, hm⟩ | ⟨hk, c, hc, hcell⟩
  · exact wpAny_Name (wpAny_loadName_local I.ok.kind hk hn hm fin) hd
  · rcases hk with hk | hk
    · exact wpAny_Name (wpAny_loadName_cell I.ok.kind hk hc hcell fin) hd
    · exact wpAny_Name (wpAny_loadName_free I.ok.kind hk hc hcell fin hcd) hd
theorem pe_int {i j pos} : PE X (.Constant (.int i) j pos) (tC (.int i)) := fun _ _ _ H _ I h => wpAny_Constant_int ⟨.int i, H, I.tok _, ⟨_, rfl⟩, h⟩
theorem pe_bl {b j pos} : PE X (.Constant (.bool b) j pos) (tC (.bl b)) := fun _ _ _ H _ I h => Constant_bool ⟨.bl b, H, I, rfl, h⟩
theorem pe_non {j pos} : PE X (.Constant .none j pos) (tC .non) := fun _ _ _ H _ I h => Constant_none ⟨.non, H, I, rfl, h⟩
theorem pe_str {x j pos} : PE X (.Constant (.str x) j pos) (tC (.str x)) := fun _ _ _ H _ I h => Calls.Constant_str ⟨.str x, H, I.tok _, ⟨_, rfl⟩, h⟩

/-- a global name of the def -/
noncomputable def Gl (X : Cx) (x : Str) : Prop := X.env.kindOf x = some .globalImplicit
theorem ld_glob {E : Value → Shared → Prop} {pins : List (Addr × Obj)} {s : Shared} {σ : St} {H : Hp} {x : Str} {u : Value} {pos : Pos} {Q : Value → Shared → Prop} (I : Inv X pins σ H s) (hg : Gl X x) (hm : X.mg x = some u) (h : Q u s)
    (hd : (x == ("__debug__" : Str)) = false := by decide) : wpAny (model X.prog X.w) X.A (eval (.Name x pos) X.env) Q E s :=
  Calls.Name_function_global I.ok.kind hg (Calls.loadGlobal_global (by rw [I.ok.glob]; exact I.mod.glob.keeps I.bk) hm h) hd
theorem ld_blt {E : Value → Shared → Prop} {pins : List (Addr × Obj)} {s : Shared} {σ : St} {H : Hp} {x : Str} {u : Value} {pos : Pos} {Q : Value → Shared → Prop} (I : Inv X pins σ H s) (hg : Gl X x) (hm : X.mg x = none) (hv : bootBuiltins x = some u) (h : Q u s)
    (hn : x ≠ "__name__" := by decide) (hd : (x == ("__debug__" : Str)) = false := by decide) : wpAny (model X.prog X.w) X.A (eval (.Name x pos) X.env) Q E s := by
  obtain ⟨mb, h1, h2⟩ := I.mod.blt
  exact Calls.Name_function_global I.ok.kind hg (Calls.loadGlobal_builtin (by rw [I.ok.glob]; exact I.mod.glob.keeps I.bk) hm (by rw [I.ok.blt]; exact h1.keeps I.bk) ((h2 x hn).trans hv) h) hd
/-- a module's constant, a class, a function, as a value -/
theorem pe_glob {x : Str} {v : V} {u : Value} {pos : Pos} (hg : Gl X x) (hm : X.mg x = some u) (r : RelV v u) (hd : (x == ("__debug__" : Str)) = false := by decide) : PE X (.Name x pos) (tC v) :=
  fun _ _ _ H _ I h => ld_glob I hg hm ⟨v, H, I, r, h⟩ hd
theorem pe_bltn {x : Str} {v : V} {u : Value} {pos : Pos} (hg : Gl X x) (hm : X.mg x = none) (hv : bootBuiltins x = some u) (r : RelV v u) (hn : x ≠ "__name__" := by decide) (hd : (x == ("__debug__" : Str)) = false := by decide) : PE X (.Name x pos) (tC v) :=
  fun _ _ _ H _ I h => ld_blt I hg hm hv ⟨v, H, I, r, h⟩ hn hd

/-! ### arithmetic -/
variable {a b : Expr} {ta tb : TE} {pos : Pos}
/-! ### comparisons -/
/-- a comparison as a value, as a test -/
noncomputable def tB (t : TE) : TT := fun σ H Q => t σ H fun x H1 => ∃ c, x = .bl c ∧ Q c H1
/-- an expression whose value is a bool, as a test -/
theorem pt_val {e : Expr} {t : TE} (h : PE X e t) (he : ∀ whole, isTrue e X.env whole = (do let v ← whole; standAt e.pos; holding [v] (truthy v)) := by intro _; rfl) : PT X e (tB t) := by
  intro pins s σ H Q I hw
  refine isTrue_plain (thn (h pins s σ H _ I hw) fun v s1 ⟨x, H1, I1, r1, q1⟩ => ?_) (he _)
  obtain ⟨d, rfl, q⟩ := q1
  cases r1
  exact wpAny_truthy_bool ⟨H1, I1, q⟩

/-! ### and, or, not -/
variable {tA tB' : TT} {rest : List Expr}
noncomputable def tAnd (t u : TT) : TT := fun σ H Q => t σ H fun c H1 => if c = true then u σ H1 Q else Q false H1
noncomputable def tOr (t u : TT) : TT := fun σ H Q => t σ H fun c H1 => if c = true then Q true H1 else u σ H1 Q
noncomputable def tNot (t : TT) : TT := fun σ H Q => t σ H fun c H1 => Q (!c) H1
theorem pw_and1 (ha : PT X a tA) : PW X (.BoolOp .And [a] pos) tA := by
  intro wh pins s σ H Q I h
  refine isTrue_and (thn (ha pins s σ H Q I h) fun c s1 e => ?_)
  cases c with
  | true => exact isTrue_and_nil e
  | false => exact e
theorem pw_or1 (ha : PT X a tA) : PW X (.BoolOp .Or [a] pos) tA := by
  intro wh pins s σ H Q I h
  refine isTrue_or (thn (ha pins s σ H Q I h) fun c s1 e => ?_)
  cases c with
  | false => exact isTrue_or_nil e
  | true => exact e
theorem pw_and (ha : PT X a tA) (hb : PW X (.BoolOp .And (b :: rest) pos) tB') : PW X (.BoolOp .And (a :: b :: rest) pos) (tAnd tA tB') := by
  intro wh pins s σ H Q I h
  refine isTrue_and (thn (ha pins s σ H _ I h) fun c s1 ⟨H1, I1, q1⟩ => ?_)
  cases c with
  | true => exact hb wh pins s1 σ H1 Q I1 q1
  | false => exact ⟨H1, I1, q1⟩
theorem pw_or (ha : PT X a tA) (hb : PW X (.BoolOp .Or (b :: rest) pos) tB') : PW X (.BoolOp .Or (a :: b :: rest) pos) (tOr tA tB') := by
  intro wh pins s σ H Q I h
  refine isTrue_or (thn (ha pins s σ H _ I h) fun c s1 ⟨H1, I1, q1⟩ => ?_)
  cases c with
  | true => exact ⟨H1, I1, q1⟩
  | false => exact hb wh pins s1 σ H1 Q I1 q1
theorem pt_not (ha : PT X a tA) : PT X (.UnaryOp .Not a pos) (tNot tA) := by
  intro pins s σ H Q I h
  exact isTrue_not (ha pins s σ H (fun c H1 => Q (!c) H1) I h)
/-- .. as values (bools) -/
noncomputable def tAndV (ta tb : TE) : TE := fun σ H Q => ta σ H fun x H1 => ∃ c, x = .bl c ∧ if c = true then tb σ H1 Q else Q (.bl false) H1
noncomputable def tOrV (ta tb : TE) : TE := fun σ H Q => ta σ H fun x H1 => ∃ c, x = .bl c ∧ if c = true then Q (.bl true) H1 else tb σ H1 Q
noncomputable def tNotV (ta : TE) : TE := fun σ H Q => ta σ H fun x H1 => ∃ c, x = .bl c ∧ Q (.bl (!c)) H1
theorem pe_one {op} {t : TE} (h : PE X a t) : PE X (.BoolOp op [a] pos) t := fun pins s σ H Q I hw => BoolOp_one (h pins s σ H Q I hw)
theorem pe_and (ha : PE X a ta) (hb : PE X (.BoolOp .And (b :: rest) pos) tb) : PE X (.BoolOp .And (a :: b :: rest) pos) (tAndV ta tb) := by
  intro pins s σ H Q I h
  refine BoolOp_and (thn (ha pins s σ H _ I h) fun v s1 ⟨x, H1, I1, r1, q1⟩ => ?_)
  obtain ⟨c, rfl, q1⟩ := q1
  cases r1
  refine wpAny_truthy_bool ?_
  cases c with
  | true => exact hb pins s1 σ H1 Q I1 q1
  | false => exact ⟨.bl false, H1, I1, rfl, q1⟩
theorem pe_or (ha : PE X a ta) (hb : PE X (.BoolOp .Or (b :: rest) pos) tb) : PE X (.BoolOp .Or (a :: b :: rest) pos) (tOrV ta tb) := by
  intro pins s σ H Q I h
  refine BoolOp_or (thn (ha pins s σ H _ I h) fun v s1 ⟨x, H1, I1, r1, q1⟩ => ?_)
  obtain ⟨c, rfl, q1⟩ := q1
  cases r1
  refine wpAny_truthy_bool ?_
  cases c with
  | false => exact hb pins s1 σ H1 Q I1 q1
  | true => exact ⟨.bl true, H1, I1, rfl, q1⟩
theorem pe_not (ha : PE X a ta) : PE X (.UnaryOp .Not a pos) (tNotV ta) := by
  intro pins s σ H Q I h
  refine UnaryOp_ (thn (ha pins s σ H _ I h) fun v s1 ⟨x, H1, I1, r1, q1⟩ => ?_)
  obtain ⟨c, rfl, q1⟩ := q1
  cases r1
  exact not_of (wpAny_truthy_bool ⟨.bl (!c), H1, I1, rfl, q1⟩)
/-- a if t else b -/
noncomputable def tIf (t : TT) (ta tb : TE) : TE := fun σ H Q => t σ H fun c H1 => if c = true then ta σ H1 Q else tb σ H1 Q
theorem pe_ifExp {c : Expr} (hc : PT X c tA) (ha : PE X a ta) (hb : PE X b tb) : PE X (.IfExp c a b pos) (tIf tA ta tb) := by
  intro pins s σ H Q I h
  refine wpAny_IfExp (thn (hc pins s σ H _ I h) fun d s1 ⟨H1, I1, q1⟩ => ?_)
  cases d with
  | true => exact ha pins s1 σ H1 Q I1 q1
  | false => exact hb pins s1 σ H1 Q I1 q1
end
end L2

namespace L2
open PySem PySem.Spec PyProof.Rows

/-! ### a list, a tuple that is read: tracked, frozen, or an object of the module -/
noncomputable def SqL (K : PySem.W.Frag) (H : Hp) (a : Addr) (xs : List V) : Prop :=
  Rd H a (.lst xs) ∨
    ∃ (o : Obj) (its : Array Value) (n : Nat), K.lookup a = some o ∧ o.cls = .type "list" ∧ o.dict = none ∧ o.data = .seq its n ∧ its.size ≤ sizeLine ∧ Vals xs its.toList
noncomputable def SqT (K : PySem.W.Frag) (H : Hp) (a : Addr) (xs : List V) : Prop :=
  Rd H a (.tup xs) ∨
    ∃ (o : Obj) (its : Array Value) (n : Nat), K.lookup a = some o ∧ o.cls = .type "tuple" ∧ o.data = .seq its n ∧ its.size ≤ sizeLine ∧ Vals xs its.toList
noncomputable def absV : Value → Option V
  | .none => some .non
  | .bool b => some (.bl b)
  | .int i _ => some (.int i)
  | .str x _ => some (.str x)
  | .bytes b _ => some (.byt b)
  | .float b _ => some (.flt b)
  | .ref a => some (.ref a)
  | .type n => some (.ty n)
  | _ => none
theorem RelV.abs {x : V} {u : Value} (r : RelV x u) : absV u = some x := by
  cases x with
  | non => cases r; rfl
  | bl _ => cases r; rfl
  | int _ => obtain ⟨t, rfl⟩ := r; rfl
  | str _ => obtain ⟨t, rfl⟩ := r; rfl
  | byt _ => obtain ⟨t, rfl⟩ := r; rfl
  | flt _ => obtain ⟨t, rfl⟩ := r; rfl
  | ref _ => cases r; rfl
  | ty _ => cases r; rfl
theorem RelV.inj {x y : V} {u : Value} (r : RelV x u) (q : RelV y u) : x = y := Option.some.inj (r.abs.symm.trans q.abs)
theorem Vals.inj : ∀ {xs ys : List V} {us : List Value}, Vals xs us → Vals ys us → xs = ys
  | _, _, _, .nil, .nil => rfl
  | _, _, _, .cons r t, .cons r' t' => by rw [r.inj r', Vals.inj t t']
section
variable {X : Cx} {pins : List (Addr × Obj)} {σ : St} {H : Hp} {s : Shared} {a : Addr} {xs ys : List V}
theorem SqL.of {K : PySem.W.Frag} (h : H a = some (.lst xs)) : SqL K H a xs := .inl (.inl h)
theorem SqT.of {K : PySem.W.Frag} (h : H a = some (.tup xs)) : SqT K H a xs := .inl (.inl h)
theorem Inv.list (I : Inv X pins σ H s) (h : SqL X.K H a xs) : ∃ its : List Value, Vals xs its ∧ PlainL s.heap a its.toArray ∧ xs.length ≤ sizeLine := by
  rcases h with h | ⟨o, its, n, hk, hc, hd, hs, hz, r⟩
  · obtain ⟨z, its, n, r, e⟩ := h.ok I.hok
    exact ⟨its, r, ⟨_, n, e, rfl, rfl, rfl⟩, z⟩
  · refine ⟨its.toList, r, ⟨o, n, I.kIn a o hk, hc, hd, by simpa using hs⟩, ?_⟩
    have e := r.length
    simp only [Array.length_toList] at e
    omega
theorem Inv.tuple (I : Inv X pins σ H s) (h : SqT X.K H a xs) : ∃ its : List Value, Vals xs its ∧ IsTup s.heap a its.toArray ∧ xs.length ≤ sizeLine := by
  rcases h with h | ⟨o, its, n, hk, hc, hs, hz, r⟩
  · obtain ⟨z, its, r, p⟩ := h.ok I.hok
    exact ⟨its, r, p, z⟩
  · refine ⟨its.toList, r, ⟨o, I.kIn a o hk, hc, n, by simpa using hs⟩, ?_⟩
    have e := r.length
    simp only [Array.length_toList] at e
    omega
theorem Inv.list_inj (I : Inv X pins σ H s) (h : SqL X.K H a xs) (h' : SqL X.K H a ys) : xs = ys := by
  obtain ⟨its, r, ⟨o, n, e, _, _, d⟩, _⟩ := I.list h
  obtain ⟨its', r', ⟨o', n', e', _, _, d'⟩, _⟩ := I.list h'
  rw [e] at e'; cases e'
  rw [d] at d'
  injection d' with d1 _
  have : its = its' := by simpa using congrArg Array.toList d1
  subst this
  exact r.inj r'
theorem Inv.tuple_inj (I : Inv X pins σ H s) (h : SqT X.K H a xs) (h' : SqT X.K H a ys) : xs = ys := by
  obtain ⟨its, r, ⟨o, e, _, n, d⟩, _⟩ := I.tuple h
  obtain ⟨its', r', ⟨o', e', _, n', d'⟩, _⟩ := I.tuple h'
  rw [e] at e'; cases e'
  rw [d] at d'
  injection d' with d1 _
  have : its = its' := by simpa using congrArg Array.toList d1
  subst this
  exact r.inj r'
end

/-! ### another wish about exceptions -/
noncomputable abbrev Cx.wish (X : Cx) (E : Value → Shared → Prop) : Cx := { X with xe := E }
/-- no exception leaves -/
noncomputable abbrev Cx.nox (X : Cx) : Cx := X.wish fun _ _ => False
theorem Cx.Ok.wish {X : Cx} (ok : X.Ok) (E : Value → Shared → Prop) : (X.wish E).Ok :=
  ⟨ok.mod, ok.kind, ok.glob, ok.blt, ok.above, ok.inj, ok.has, ok.cab, ok.hd, ok.frames, ok.stk, ok.exf, ok.bs, ok.bsz, ok.noex, ok.exfs, ok.funs, ok.frf⟩
theorem Cx.Ok.unwish {X : Cx} {E : Value → Shared → Prop} (ok : (X.wish E).Ok) : X.Ok :=
  ⟨ok.mod, ok.kind, ok.glob, ok.blt, ok.above, ok.inj, ok.has, ok.cab, ok.hd, ok.frames, ok.stk, ok.exf, ok.bs, ok.bsz, ok.noex, ok.exfs, ok.funs, ok.frf⟩
section
variable {X : Cx} {pins : List (Addr × Obj)} {σ : St} {H : Hp} {s : Shared} {E : Value → Shared → Prop}
theorem Inv.wish (I : Inv X pins σ H s) (E : Value → Shared → Prop) : Inv (X.wish E) pins σ H s := ⟨I.ok.wish E, I.os, I.bare, I.base, I.loc, I.cell, I.free, I.freeC, I.pin, I.hok, I.len⟩
theorem Inv.unwish (I : Inv (X.wish E) pins σ H s) : Inv X pins σ H s := ⟨I.ok.unwish, I.os, I.bare, I.base, I.loc, I.cell, I.free, I.freeC, I.pin, I.hok, I.len⟩
theorem SP.unwish {D : Ends} {f : Flow} {s' : Shared} (h : SP (X.wish E) pins D f s') : SP X pins D f s' := by
  cases f with
  | next => obtain ⟨σ', H', I, q⟩ := h; exact ⟨σ', H', I.unwish, q⟩
  | brk => obtain ⟨σ', H', I, q⟩ := h; exact ⟨σ', H', I.unwish, q⟩
  | cont => obtain ⟨σ', H', I, q⟩ := h; exact ⟨σ', H', I.unwish, q⟩
  | ret u => obtain ⟨v, σ', H', I, r, q⟩ := h; exact ⟨v, σ', H', I.unwish, r, q⟩
theorem PE.nox {e : Expr} {t : TE} (h : PE X.nox e t) : PE X e t := fun pins s σ H Q I hw =>
  wpAny_mono (h pins s σ H Q (I.wish _) hw) (fun _ _ ⟨v, H', I', r, q⟩ => ⟨v, H', I'.unwish, r, q⟩) fun _ _ z => False.elim z
theorem PT.nox {e : Expr} {t : TT} (h : PT X.nox e t) : PT X e t := fun pins s σ H Q I hw =>
  wpAny_mono (h pins s σ H Q (I.wish _) hw) (fun _ _ ⟨H', I', q⟩ => ⟨H', I'.unwish, q⟩) fun _ _ z => False.elim z
theorem PSs.nox {st : List Stmt} {t : TS} (h : PSs X.nox st t) : PSs X st t := fun pins s σ H D I hw =>
  wpAny_mono (h pins s σ H D (I.wish _) hw) (fun _ _ q => q.unwish) fun _ _ z => False.elim z
end

/-! ### blocks and small statements -/
section
variable {X : Cx} {st : Stmt} {rest : List Stmt} {t u : TS} {e : Expr} {te : TE} {pos : Pos}
noncomputable def tNext : TS := fun D σ H => D.nx σ H
noncomputable def tSeq (t u : TS) : TS := fun D σ H => t { D with nx := u D } σ H
theorem pss_nil : PSs X [] tNext := fun _ _ σ H _ I h => wpAny_execs_nil ⟨σ, H, I, h⟩
theorem pss_cons (h1 : PS X st t) (h2 : PSs X rest u) : PSs X (st :: rest) (tSeq t u) := by
  intro pins s σ H D I h
  refine wpAny_execs_cons (thn (h1 pins s σ H { D with nx := u D } I h) fun f s1 q => ?_)
  cases f with
  | next =>
    obtain ⟨σ', H', I', q⟩ := q
    exact h2 pins s1 σ' H' D I' q
  | ret v => exact q
  | brk => exact q
  | cont => exact q
noncomputable def tRet (te : TE) : TS := fun D σ H => te σ H D.rt
theorem ps_ret (he : PE X e te) : PS X (.Return (some e) pos) (tRet te) := by
  intro pins s σ H D I h
  exact wpAny_Return_some (thn (he pins s σ H _ I h) fun v s1 ⟨x, H1, I1, r1, q1⟩ => ⟨x, σ, H1, I1, r1, q1⟩)
noncomputable def tIfS (c : TT) (t u : TS) : TS := fun D σ H => c σ H fun b H1 => if b = true then t D σ H1 else u D σ H1
theorem ps_if {c : Expr} {a b : List Stmt} {tc : TT} (hc : PT X c tc) (ha : PSs X a t) (hb : PSs X b u) : PS X (.If c a b pos) (tIfS tc t u) := by
  intro pins s σ H D I h
  refine wpAny_If (thn (hc pins s σ H _ I h) fun d s1 ⟨H1, I1, q1⟩ => ?_)
  cases d with
  | true => exact ha pins s1 σ H1 D I1 q1
  | false => exact hb pins s1 σ H1 D I1 q1
/-- code that the proof never comes to -/
noncomputable def tNever : TS := fun _ _ _ => False
theorem ps_never : PS X st tNever := fun _ _ _ _ _ _ h => h.elim
end

/-! ### targets -/
noncomputable abbrev TG := V → St → Hp → (St → Hp → Prop) → Prop
noncomputable abbrev TGs := List V → St → Hp → (St → Hp → Prop) → Prop
noncomputable def PG (X : Cx) (target : Expr) (t : TG) : Prop :=
  ∀ (pins : List (Addr × Obj)) (s : Shared) (σ : St) (H : Hp) (v : V) (u : Value) (Q : St → Hp → Prop), Inv X pins σ H s → RelV v u → t v σ H Q →
    wpAny (model X.prog X.w) X.A (assign target X.env u) (fun _ s' => ∃ σ' H', Inv X pins σ' H' s' ∧ Q σ' H') X.xe s
/-- several targets, one after another -/
noncomputable def PGs (X : Cx) (ts : List Expr) (t : TGs) : Prop :=
  ∀ (pins : List (Addr × Obj)) (s : Shared) (σ : St) (H : Hp) (vs : List V) (us : List Value) (Q : St → Hp → Prop), Inv X pins σ H s → Vals vs us → t vs σ H Q →
    wpAny (model X.prog X.w) X.A (assignInOrder ((assignEach ts X.env).map (·.2)) us) (fun _ s' => ∃ σ' H', Inv X pins σ' H' s' ∧ Q σ' H') X.xe s
section
variable {X : Cx} {pos : Pos}
noncomputable def gName (i : Nat) : TG := fun v σ H Q => Q (σ.set i (some v)) H
theorem pg_name {i : Nat} {x : Str} (hN : X.N.Nodup) (hi : X.N[i]? = some x) (hx : Loc X.env.scope x) (hf : X.fn x = true ∨ X.env.scope.names.lookup x = some .local := by first | exact .inl rfl | exact .inr rfl | assumption) : PG X (.Name x pos) (gName i) := by
  intro pins s σ H v u Q I r h
  exact wpAny_assign_Name (store_ok I hN hi hx r (fun s' I' => ⟨_, H, I', h⟩) hf)
noncomputable def gNil : TGs := fun vs σ H Q => vs = [] ∧ Q σ H
noncomputable def gCons (t : TG) (u : TGs) : TGs := fun vs σ H Q => ∃ v r, vs = v :: r ∧ t v σ H fun σ' H' => u r σ' H' Q
theorem pgs_nil : PGs X [] gNil := by
  intro pins s σ H vs us Q I r h
  obtain ⟨e, h⟩ := h
  subst e
  cases r
  exact assignInOrder_nil ⟨σ, H, I, h⟩
theorem pgs_cons {e : Expr} {es : List Expr} {t : TG} {u : TGs} (h1 : PG X e t) (h2 : PGs X es u)
    (hs : (assignEach (e :: es) X.env).map (·.2) = assign e X.env :: (assignEach es X.env).map (·.2) := by rfl) : PGs X (e :: es) (gCons t u) := by
  intro pins s σ H vs us Q I r h
  obtain ⟨v, vr, e1, h⟩ := h
  subst e1
  cases r with
  | cons r rr =>
    rw [hs]
    refine assignInOrder_cons (thn (h1 pins s σ H _ _ _ I r h) fun _ s1 ⟨σ1, H1, I1, q1⟩ => ?_)
    exact h2 pins s1 σ1 H1 _ _ Q I1 rr q1
/-- (a, b, ..) = a tuple of that length -/
noncomputable def gTup (K : PySem.W.Frag) (n : Nat) (t : TGs) : TG := fun v σ H Q => ∃ a xs, v = .ref a ∧ SqT K H a xs ∧ xs.length = n ∧ t xs σ H Q
theorem pg_tup {es : List Expr} {k : Nat} {t : TGs} {n : Nat} (hc : X.calm = true) (h : PGs X es t)
    (hn : (assignEach es X.env).length = n := by rfl) (hst : (assignEach es X.env).findIdx? (·.1) = none := by rfl) : PG X (.Tuple es k pos) (gTup X.K n t) := by
  intro pins s σ H v u Q I r hw
  obtain ⟨a, xs, e1, hq, hl, hw⟩ := hw
  subst e1
  cases r
  obtain ⟨its, rv, ht, hz⟩ := I.tuple hq
  refine assign_Tuple_tuple (I.ok.hd hc) ht (by simp [hn, ← hl, rv.length]) hst fun h' hx => ?_
  have I1 : Inv X pins σ H { s with heap := h' } := I.kept (t' := s.toks) fun b o e => hx b o (Nat.ne_of_lt (Heap.lt_size e)) e
  exact h pins _ σ H xs _ Q I1 (by simpa using rv) hw
/-- target = value -/
noncomputable def tAsg (te : TE) (g : TG) : TS := fun D σ H => te σ H fun x H1 => g x σ H1 D.nx
theorem ps_asg {tg e : Expr} {te : TE} {g : TG} (he : PE X e te) (hg : PG X tg g) (hs : swapsWithSole [tg] e pos.line X.env = pure false := by rfl) (hw : swappedStores [tg] e X.env = pure none := by rfl)
    (h1 : (assignEach [tg] X.env).map (·.2) = [assign tg X.env] := by rfl) : PS X (.Assign [tg] e pos) (tAsg te g) := by
  intro pins s σ H D I h
  refine wpAny_Assign_stores (thn (he pins s σ H _ I h) fun v s1 ⟨x, H1, I1, r1, q1⟩ => ?_) hs hw
  rw [h1]
  exact thn (hg pins s1 σ H1 x v _ I1 r1 q1) fun _ s2 q => q
end

/-! ### while -/
section
variable {X : Cx} {pos : Pos}
end

/-! ### what a loop or a comprehension walks -/
/-- at turn i: it yields x (the heap may grow), or it stops -/
structure It where
  go : Nat → Hp → Prop
  yld : Nat → Hp → V → Hp → Prop
  stop : Nat → Hp → Prop
/-- the iterator's own objects may turn: they are not the frame's, not pinned, younger than the entry (or a comprehension's own) -/
noncomputable def FpOk (X : Cx) (pins : List (Addr × Obj)) (H : Hp) (b : Addr) : Prop :=
  H b = none ∧ b ≠ X.env.locals ∧ b ∉ X.fs ∧ (b ∈ X.ex ∨ X.s₀.heap.objs.size ≤ b) ∧ (∀ x c, X.env.cells.lookup x = some c → c ≠ b) ∧ ∀ p ∈ X.pn ++ pins, p.1 ≠ b
theorem Inv.fpOk {X : Cx} {pins : List (Addr × Obj)} {σ : St} {H H' : Hp} {s : Shared} {b : Addr} (I : Inv X pins σ H s) (hb : s.heap.objs.size ≤ b) (hn : H' b = none) : FpOk X pins H' b := by
  refine ⟨hn, Nat.ne_of_gt (Nat.lt_of_lt_of_le I.lt hb), I.nofs hb, .inr (Nat.le_trans I.sz hb), fun x c e z => ?_, fun p hp z => ?_⟩
  · obtain ⟨v, q⟩ := I.cell x c e
    exact absurd (Nat.lt_of_lt_of_le q.lt (by rw [z]; exact hb)) (Nat.lt_irrefl _)
  · exact absurd (Nat.lt_of_lt_of_le (Heap.lt_size (I.pin p hp).1) (by rw [z]; exact hb)) (Nat.lt_irrefl _)
structure Turn (P : Program) (w : World) (K : PySem.W.Frag) (tg : Expr) (J : It) (fp : List Addr) (it : Addr) (tn : Nat → Heap → Prop) : Prop where
  mem : it ∈ fp
  obj : ∀ i h, tn i h → ∀ b ∈ fp, ∃ o, h.get? b = some o ∧ ∀ v, o.data ≠ .cell v
  keep : ∀ i h h', tn i h → (∀ b ∈ fp, ∀ o, h.get? b = some o → h'.get? b = some o) → tn i h'
  item : ∀ (X : Cx), X.prog = P → X.w = w → X.K = K → X.calm = true → ∀ (i : Nat) (pins : List (Addr × Obj)) (s : Shared) (σ : St) (H : Hp) (E : Value → Shared → Prop), Inv X pins σ H s → (∀ b ∈ fp, FpOk X pins H b) → tn i s.heap → J.go i H →
    wpAny (model P w) X.A (pyNext (.ref it)) (fun r s1 => ∃ u, r = some u ∧
      wpAny (model P w) X.A (letOwnedTupleGo tg (.ref it) u) (fun _ s2 => ∃ x H', Inv X pins σ H' s2 ∧ RelV x u ∧ J.yld i H x H' ∧ tn (i + 1) s2.heap ∧ ∀ b ∈ fp, H' b = none) E s1) E s
  done : ∀ (X : Cx), X.prog = P → X.w = w → X.K = K → X.calm = true → ∀ (i : Nat) (pins : List (Addr × Obj)) (s : Shared) (σ : St) (H : Hp) (E : Value → Shared → Prop), Inv X pins σ H s → (∀ b ∈ fp, FpOk X pins H b) → tn i s.heap → J.stop i H →
    wpAny (model P w) X.A (pyNext (.ref it)) (fun r s1 => r = none ∧ Inv X pins σ H s1) E s
  self : ∀ (A : Around) (i : Nat) (s : Shared) (Q : Value → Shared → Prop) (E : Value → Shared → Prop), tn i s.heap → Q (.ref it) s → wpAny (model P w) A (pyIter (.ref it)) Q E s
noncomputable abbrev TI := St → Hp → (It → Hp → Prop) → Prop
/-- an iterator has come -/
noncomputable def PIE (X : Cx) (pins : List (Addr × Obj)) (σ : St) (tg : Expr) (R : It → Hp → Prop) (itv : Value) (s2 : Shared) : Prop :=
  ∃ (it : Addr) (fp : List Addr) (tn : Nat → Heap → Prop) (J : It) (H' : Hp), itv = .ref it ∧ Inv X pins σ H' s2 ∧ Turn X.prog X.w X.K tg J fp it tn ∧ tn 0 s2.heap ∧ (∀ b ∈ fp, FpOk X pins H' b) ∧ R J H'
noncomputable def PI (X : Cx) (tg iter : Expr) (wi : TI) : Prop :=
  ∀ (pins : List (Addr × Obj)) (s : Shared) (σ : St) (H : Hp) (R : It → Hp → Prop), Inv X pins σ H s → wi σ H R →
    wpAny (model X.prog X.w) X.A (eval iter X.env) (fun v s1 => wpAny (model X.prog X.w) X.A (pyIter v) (PIE X pins σ tg R) X.xe s1) X.xe s

/-- the step ahead of the store is nothing for an iterator that keeps no tuple -/
theorem go_of {M : Model} {A : Around} {E : Value → Shared → Prop} {s : Shared} {tg : Expr} {it : Addr} {u : Value} {o : Obj} {n : String} {vs : Array Value} {Q : Unit → Shared → Prop} (ho : s.heap.get? it = some o) (hc : o.cls = .type n) (hd : o.data = .fields vs)
    (hn : ["enumerate", "zip", "dict_itemiterator", "dict_reverseitemiterator", "odict_iterator", "itertools.zip_longest", "itertools.pairwise"].contains n = false) (hQ : Q () s) : wpAny M A (letOwnedTupleGo tg (.ref it) u) Q E s := by
  unfold letOwnedTupleGo
  cases tg <;> first
    | exact wpAny_pure hQ
    | (cases u <;> first
        | exact wpAny_pure hQ
        | (refine wpAny_bind (wpAny_load ho ?_)
           rw [hc, hd]
           show wpAny M A (if (["enumerate", "zip", "dict_itemiterator", "dict_reverseitemiterator", "odict_iterator", "itertools.zip_longest", "itertools.pairwise"].contains n && vs[0]? == some (rawInt _)) = true then _ else _) Q E s
           rw [if_neg (by intro h; rw [hn, Bool.false_and] at h; cases h)]
           exact wpAny_pure hQ))

/-- the list at a, as it stands at each turn (a loop may append to it) -/
noncomputable def Itl (K : PySem.W.Frag) (a : Addr) : It :=
  ⟨fun i H => ∃ xs x, SqL K H a xs ∧ xs[i]? = some x, fun i H x H' => H' = H ∧ ∀ xs, SqL K H a xs → xs[i]? = some x, fun i H => ∃ xs, SqL K H a xs ∧ xs.length ≤ i⟩
noncomputable def Itt (K : PySem.W.Frag) (a : Addr) : It :=
  ⟨fun i H => ∃ xs x, SqT K H a xs ∧ xs[i]? = some x, fun i H x H' => H' = H ∧ ∀ xs, SqT K H a xs → xs[i]? = some x, fun i H => ∃ xs, SqT K H a xs ∧ xs.length ≤ i⟩
/-- lo, lo + 1, .. (n of them) -/
noncomputable def Itr (lo : Int) (n : Nat) : It := ⟨fun i _ => i < n, fun i H x H' => H' = H ∧ x = .int (lo + i), fun i _ => n ≤ i⟩
theorem turn_list {P : Program} {w : World} {K : PySem.W.Frag} {tg : Expr} (a it : Addr) : Turn P w K tg (Itl K a) [it] it (fun i h => h.IsListIter it a i) where
  mem := by simp
  obj := fun i h st b hb => by
    have e : b = it := by simpa using hb
    subst e
    obtain ⟨o, e, c, d⟩ := st
    exact ⟨o, e, fun v z => by rw [d] at z; cases z⟩
  keep := fun i h h' st k => st.at fun o e => k it (by simp) o e
  item := by
    intro X hP hw hK hc i pins s σ H E I hf st hg
    subst hP hw hK
    obtain ⟨xs, x, hq, hx⟩ := hg
    obtain ⟨its, rv, p, hz⟩ := I.list hq
    obtain ⟨u, hu, ru⟩ := rv.get hx
    obtain ⟨f0, f1, f2, f3, f4, f5⟩ := hf it (by simp)
    refine wpAny_pyNext_list_item st p.isList (x := u) (by simpa using hu) fun h' st' sb => ?_
    have I1 : Inv X pins σ H { s with heap := h' } := I.turned (t' := s.toks) (fun b o hb e => (sb.2 b hb).trans e) f0 f1 f3 f4 f5
    obtain ⟨o, e, c, d⟩ := id st'
    exact ⟨u, rfl, go_of (s := { s with heap := h' }) e c d (by decide) ⟨x, H, I1, ru, ⟨rfl, fun ys hy => by rw [I.list_inj hy hq]; exact hx⟩, st', fun b hb => (hf b hb).1⟩⟩
  done := by
    intro X hP hw hK hc i pins s σ H E I hf st hg
    subst hP hw hK
    obtain ⟨xs, hq, hx⟩ := hg
    obtain ⟨its, rv, p, hz⟩ := I.list hq
    obtain ⟨f0, f1, f2, f3, f4, f5⟩ := hf it (by simp)
    have hl := rv.length
    exact wpAny_pyNext_list_end (I.ok.hd hc) st p.isList (by simp; omega) fun h' eb => ⟨rfl, I.turned (t' := s.toks) (fun b o hb e => eb b o hb e) f0 f1 f3 f4 f5⟩
  self := fun _ _ _ _ _ st h => wpAny_pyIter_listiter st h
theorem turn_tuple {P : Program} {w : World} {K : PySem.W.Frag} {tg : Expr} (a it : Addr) : Turn P w K tg (Itt K a) [it] it (fun i h => h.IsTupleIter it a i) where
  mem := by simp
  obj := fun i h st b hb => by
    have e : b = it := by simpa using hb
    subst e
    obtain ⟨o, e, c, d⟩ := st
    exact ⟨o, e, fun v z => by rw [d] at z; cases z⟩
  keep := fun i h h' st k => st.at fun o e => k it (by simp) o e
  item := by
    intro X hP hw hK hc i pins s σ H E I hf st hg
    subst hP hw hK
    obtain ⟨xs, x, hq, hx⟩ := hg
    obtain ⟨its, rv, p, hz⟩ := I.tuple hq
    obtain ⟨u, hu, ru⟩ := rv.get hx
    obtain ⟨f0, f1, f2, f3, f4, f5⟩ := hf it (by simp)
    refine wpAny_pyNext_tuple_item st (show s.heap.IsTuple a its.toArray from p) (x := u) (by simpa using hu) fun h' st' sb => ?_
    have I1 : Inv X pins σ H { s with heap := h' } := I.turned (t' := s.toks) (fun b o hb e => (sb.2 b hb).trans e) f0 f1 f3 f4 f5
    obtain ⟨o, e, c, d⟩ := id st'
    exact ⟨u, rfl, go_of (s := { s with heap := h' }) e c d (by decide) ⟨x, H, I1, ru, ⟨rfl, fun ys hy => by rw [I.tuple_inj hy hq]; exact hx⟩, st', fun b hb => (hf b hb).1⟩⟩
  done := by
    intro X hP hw hK hc i pins s σ H E I hf st hg
    subst hP hw hK
    obtain ⟨xs, hq, hx⟩ := hg
    obtain ⟨its, rv, p, hz⟩ := I.tuple hq
    obtain ⟨f0, f1, f2, f3, f4, f5⟩ := hf it (by simp)
    have hl := rv.length
    exact wpAny_pyNext_tuple_end (I.ok.hd hc) st (show s.heap.IsTuple a its.toArray from p) (by simp; omega) fun h' eb => ⟨rfl, I.turned (t' := s.toks) (fun b o hb e => eb b o hb e) f0 f1 f3 f4 f5⟩
  self := fun _ _ _ _ _ st h => wpAny_pyIter_tupleiter st h
theorem turn_range {P : Program} {w : World} {K : PySem.W.Frag} {tg : Expr} (it : Addr) (lo : Int) (n : Nat) : Turn P w K tg (Itr lo n) [it] it (fun i h => IsRangeIter h it (lo + (i : Nat) * 1) ((n : Int) - (i : Nat)) 1) where
  mem := by simp
  obj := fun i h st b hb => by
    have e : b = it := by simpa using hb
    subst e
    exact ⟨_, st, fun v z => by
      have z' : Data.fields _ = Data.cell v := z
      cases z'⟩
  keep := fun i h h' st k => k it (by simp) _ st
  item := by
    intro X hP hw hK hc i pins s σ H E I hf st hg
    subst hP hw hK
    obtain ⟨f0, f1, f2, f3, f4, f5⟩ := hf it (by simp)
    have W := Walks.range (prog := X.prog) (w := X.w) (I.ok.hd hc) it lo 1 n
    refine W.item i s _ _ hg st fun v h' tk hv st' kk => ?_
    obtain ⟨t, rfl⟩ := hv
    have I1 : Inv X pins σ H { s with heap := h', toks := tk } := I.turned (fun b o hb e => kk b o (by simpa using hb) e) f0 f1 f3 f4 f5
    refine ⟨_, rfl, go_of (s := { s with heap := h', toks := tk }) (n := "range_iterator") st' rfl rfl (by decide) ⟨.int (lo + i), H, I1, ⟨t, ?_⟩, ⟨rfl, rfl⟩, st', fun b hb => (hf b hb).1⟩⟩
    rw [Int.mul_one]
  done := by
    intro X hP hw hK hc i pins s σ H E I hf st hg
    subst hP hw hK
    obtain ⟨f0, f1, f2, f3, f4, f5⟩ := hf it (by simp)
    exact wpAny_pyNext_range_end (I.ok.hd hc) st (by have : n ≤ i := hg; omega) fun h' eb => ⟨rfl, I.turned (t' := s.toks) (fun b o hb e => eb b o hb e) f0 f1 f3 f4 f5⟩
  self := fun _ _ _ _ _ st h => wpAny_pyIter_rangeiter st h
end L2

namespace L2
open PySem PySem.Spec PyProof.Rows
section
variable {X : Cx} {tg : Expr}
/-- a range object just made, walked -/
theorem range_it {pins : List (Addr × Obj)} {σ : St} {H : Hp} {s : Shared} {R : It → Hp → Prop} {E : Value → Shared → Prop} {lo hi : Int} {t u v : Tok} {tk : Nat} (I : Inv X pins σ H s) (h1 : -(2 ^ 62) ≤ lo) (h2 : lo < 2 ^ 62) (h3 : -(2 ^ 62) ≤ hi) (h4 : hi < 2 ^ 62)
    (q : R (Itr lo (hi - lo).toNat) H) : wpAny (model X.prog X.w) X.A (pyIter (.ref s.heap.objs.size)) (PIE X pins σ tg R) E { s with heap := s.heap.push { cls := .type "range", data := .fields #[.int lo t, .int hi u, .int 1 v] }, toks := tk } := by
  refine wpAny_pyIter_range (IsRange.new ..) (small_one h1 h2 h3 h4) ?_
  have I1 : Inv X pins σ H { s with heap := s.heap.push { cls := .type "range", data := .fields #[.int lo t, .int hi u, .int 1 v] }, toks := tk } := I.kept fun b o e => Heap.get?_push_of_some _ e
  refine ⟨(s.heap.push { cls := .type "range", data := .fields #[.int lo t, .int hi u, .int 1 v] }).objs.size, [(s.heap.push { cls := .type "range", data := .fields #[.int lo t, .int hi u, .int 1 v] }).objs.size], _, _, H, rfl,
    I1.kept (t' := tk) fun b o e => Heap.get?_push_of_some _ e, turn_range _ lo (hi - lo).toNat, ?_, fun b hb => ?_, q⟩
  · have e1 : lo + ((0 : Nat) : Int) * 1 = lo := by simp
    have e2 : (((hi - lo).toNat : Nat) : Int) - ((0 : Nat) : Int) = Builtin.Range.rangeSize lo hi 1 := by rw [rangeSize_one]; split <;> omega
    show IsRangeIter _ _ (lo + ((0 : Nat) : Int) * 1) ((((hi - lo).toNat : Nat) : Int) - ((0 : Nat) : Int)) 1
    rw [e1, e2]
    exact Heap.get?_push_size _ rfl
  · have e : b = (s.heap.push { cls := .type "range", data := .fields #[.int lo t, .int hi u, .int 1 v] }).objs.size := by simpa using hb
    subst e
    exact I1.fpOk (Nat.le_refl _) (I1.hok.fresh (Nat.le_refl _))
noncomputable def iRng1 (ta : TA) : TI := fun σ H R => ta σ H fun vs H1 => ∃ j : Int, vs = [.int j] ∧ -(2 ^ 62) ≤ j ∧ j < 2 ^ 62 ∧ R (Itr 0 j.toNat) H1
theorem pi_range1 {a : Expr} {ta : TA} {p pos : Pos} (hg : Gl X "range") (hm : X.mg "range" = none) (ha : PA X [a] ta) (hs : starEach [a] X.env = [(false, eval a X.env)] := by rfl) : PI X tg (.Call (.Name "range" p) [a] [] pos) (iRng1 ta) := by
  intro pins s σ H R I h
  refine Call_ (ld_blt I hg hm boot_range (PyProof.Rows.callWith_type1 (thn (ha pos pins s σ H _ I h) fun us s1 ⟨vs, H1, I1, r1, q1⟩ => ?_) hs rfl))
  obtain ⟨j, e, q1, q2, q⟩ := q1
  subst e
  cases r1 with
  | cons r rr =>
    cases rr
    obtain ⟨t, rfl⟩ := r
    exact call_range_1 (range_it I1 (by omega) (by omega) q1 q2 (by simpa using q))
/-! ### for -/
/-- W: the invariant by the turn and a measure; N: what the body is to reach -/
noncomputable def tFor (wi : TI) (g : TG) (tb : TS) : TS := fun D σ H => wi σ H fun J H1 => ∃ W : Nat → Nat → St → Hp → Prop, (∃ m, W 0 m σ H1) ∧ ∀ i m σ H, W i m σ H →
  (J.stop i H ∧ D.nx σ H) ∨ (J.go i H ∧ ∃ N : St → Hp → Prop, (∀ σ' H', N σ' H' → ∃ m', m' < m ∧ W (i + 1) m' σ' H') ∧ ∀ x H', J.yld i H x H' → g x σ H' fun σ2 H2 => tb { D with nx := N, ct := N, bk := D.nx } σ2 H2)
/-- the records at fp as they stand -/
noncomputable def pinsAt (fp : List Addr) (h : Heap) : List (Addr × Obj) := fp.filterMap fun b => (h.get? b).map fun o => (b, o)
theorem mem_pinsAt {fp : List Addr} {h : Heap} {b : Addr} {o : Obj} (hb : b ∈ fp) (e : h.get? b = some o) : (b, o) ∈ pinsAt fp h := List.mem_filterMap.mpr ⟨b, hb, by rw [e]; rfl⟩
theorem of_pinsAt {fp : List Addr} {h : Heap} {p : Addr × Obj} (hp : p ∈ pinsAt fp h) : p.1 ∈ fp ∧ h.get? p.1 = some p.2 := by
  obtain ⟨b, hb, e⟩ := List.mem_filterMap.mp hp
  cases q : h.get? b with
  | none => rw [q] at e; cases e
  | some o =>
    rw [q] at e
    have e' : (b, o) = p := Option.some.inj e
    subst e'
    exact ⟨hb, q⟩
theorem Inv.pinned {pins : List (Addr × Obj)} {σ : St} {H : Hp} {s : Shared} {fp : List Addr} (I : Inv X pins σ H s) (hf : ∀ b ∈ fp, FpOk X pins H b) (ho : ∀ b ∈ fp, ∃ o, s.heap.get? b = some o ∧ ∀ v, o.data ≠ .cell v) : Inv X (pins ++ pinsAt fp s.heap) σ H s :=
  I.pins_of fun p hp => (List.mem_append.mp hp).elim (fun z => I.pin p (List.mem_append_right _ z)) fun z => by
    obtain ⟨hb, e⟩ := of_pinsAt z
    obtain ⟨f0, f1, f2, _⟩ := hf p.1 hb
    obtain ⟨o, e', d⟩ := ho p.1 hb
    rw [e] at e'; cases e'
    exact ⟨e, f0, f1, f2, d⟩
theorem Inv.unpinned {pins pl : List (Addr × Obj)} {σ : St} {H : Hp} {s : Shared} (I : Inv X (pins ++ pl) σ H s) : Inv X pins σ H s := I.pins_of fun p hp => I.pin p (List.mem_append_right _ (List.mem_append_left _ hp))
theorem ps_for {iter : Expr} {body : List Stmt} {wi : TI} {g : TG} {tb : TS} {pos : Pos} (hp : PassesOwn (model X.prog X.w) X.A X.env X.xe) (hc : X.calm = true) (hi : PI X tg iter wi) (hg : PG X tg g) (hb : PSs X body tb)
    (hs : ∀ x, foldedSetIterable iter X.env x = pure x := by intro _; rfl) : PS X (.For tg iter body [] pos) (tFor wi g tb) := by
  intro pins s σ H D I h
  refine wpAny_For (thn (hi pins s σ H _ I h) fun v s1 h1 => thn h1 fun itv s2 h2 => ?_) hs
  obtain ⟨it, fp, tn, J, H2, e, I2, T, st2, f2, W, ⟨m0, w0⟩, turn⟩ := h2
  subst e
  -- what stays true of the iterator's objects through the loop
  have stat : ∀ {H' : Hp}, (∀ b ∈ fp, H' b = none) → ∀ b ∈ fp, FpOk X pins H' b := fun hn b hb => ⟨hn b hb, (f2 b hb).2⟩
  refine codeAny_forLoop_any (fun n s' => ∃ i σ' H', Inv X pins σ' H' s' ∧ tn i s'.heap ∧ (∀ b ∈ fp, H' b = none) ∧ W i n σ' H') ?_ m0 ⟨0, σ, H2, I2, st2, fun b hb => (f2 b hb).1, w0⟩
  rintro n s3 ⟨i, σ3, H3, I3, st3, fr3, w3⟩
  rcases turn i n σ3 H3 w3 with ⟨stop, qn⟩ | ⟨go, N, hN, step⟩
  · refine wpAny_passesOwn hp (thn (T.done X rfl rfl rfl hc i pins s3 σ3 H3 X.xe I3 (stat fr3) st3 stop) fun r s4 ⟨hr, I4⟩ => ?_)
    subst hr
    exact wpAny_execs_nil ⟨σ3, H3, I4, qn⟩
  · refine wpAny_passesOwn hp (thn (T.item X rfl rfl rfl hc i pins s3 σ3 H3 X.xe I3 (stat fr3) st3 go) fun r s4 ⟨u, hr, h4⟩ => ?_)
    subst hr
    refine wpAny_passesOwn hp (thn h4 fun _ s5 ⟨x, H5, I5, r5, y5, st5, fr5⟩ => ?_)
    have I5' := I5.pinned (stat fr5) (T.obj _ _ st5)
    refine wpAny_passesOwn hp (thn (hg _ s5 σ3 H5 x u _ I5' r5 (step x H5 y5)) fun _ s6 ⟨σ6, H6, I6, q6⟩ => ?_)
    refine wpAny_passesOwn hp (thn (hb _ s6 σ6 H6 _ I6 q6) fun f s7 q7 => ?_)
    have again : ∀ {σ7 : St} {H7 : Hp}, Inv X (pins ++ pinsAt fp s5.heap) σ7 H7 s7 → N σ7 H7 → ∃ m, m < n ∧ ∃ i σ' H', Inv X pins σ' H' s7 ∧ tn i s7.heap ∧ (∀ b ∈ fp, H' b = none) ∧ W i m σ' H' := fun {σ7 H7} I7 n7 => by
      obtain ⟨m', hm, w7⟩ := hN σ7 H7 n7
      refine ⟨m', hm, i + 1, σ7, H7, I7.unpinned, T.keep _ _ _ st5 fun b hb o e => (I7.pin (b, o) (List.mem_append_right _ (List.mem_append_right _ (mem_pinsAt hb e)))).1, fun b hb => ?_, w7⟩
      obtain ⟨o, e, d⟩ := T.obj _ _ st5 b hb
      exact (I7.pin (b, o) (List.mem_append_right _ (List.mem_append_right _ (mem_pinsAt hb e)))).2.1
    cases f with
    | next => obtain ⟨σ7, H7, I7, n7⟩ := q7; exact again I7 n7
    | cont => obtain ⟨σ7, H7, I7, n7⟩ := q7; exact again I7 n7
    | brk => obtain ⟨σ7, H7, I7, q7⟩ := q7; exact ⟨σ7, H7, I7.unpinned, q7⟩
    | ret v => obtain ⟨x7, σ7, H7, I7, r7, q7⟩ := q7; exact ⟨x7, σ7, H7, I7.unpinned, r7, q7⟩
end

/-! ### the forms one uses -/
end L2

namespace L2
open PySem PySem.Spec PyProof.Rows

noncomputable abbrev R2 := V → V → Hp → VK → Prop
/-- a two-place operation on values: f is binaryOp op, inplaceOp op or compareOp op -/
noncomputable def OpR (X : Cx) (f : Value → Value → Sem Value) (r : R2) : Prop :=
  ∀ (pins : List (Addr × Obj)) (s : Shared) (σ : St) (H : Hp) (x y : V) (v u : Value) (Q : VK), Inv X pins σ H s → RelV x v → RelV y u → r x y H Q →
    wpAny (model X.prog X.w) X.A (f v u) (EP X pins σ Q) X.xe s
/-- a one-place operation -/
noncomputable def UnR (X : Cx) (f : Value → Sem Value) (r : V → Hp → VK → Prop) : Prop :=
  ∀ (pins : List (Addr × Obj)) (s : Shared) (σ : St) (H : Hp) (x : V) (v : Value) (Q : VK), Inv X pins σ H s → RelV x v → r x H Q →
    wpAny (model X.prog X.w) X.A (f v) (EP X pins σ Q) X.xe s
/-- a call of a value that is known (a builtin, a type) with values -/
noncomputable def CallR (X : Cx) (f : Value) (r : List V → Hp → VK → Prop) : Prop :=
  ∀ (pins : List (Addr × Obj)) (s : Shared) (σ : St) (H : Hp) (xs : List V) (us : List Value) (Q : VK), Inv X pins σ H s → Vals xs us → r xs H Q →
    wpAny (model X.prog X.w) X.A (call f us) (EP X pins σ Q) X.xe s
noncomputable def tOp (r : R2) (ta tb : TE) : TE := fun σ H Q => ta σ H fun x H1 => tb σ H1 fun y H2 => r x y H2 Q
noncomputable def tUn (r : V → Hp → VK → Prop) (ta : TE) : TE := fun σ H Q => ta σ H fun x H1 => r x H1 Q
/-- ints in, under C, and a value out -/
noncomputable def rI (C : Int → Int → Prop) (g : Int → Int → V) : R2 := fun x y H Q => ∃ i j, x = .int i ∧ y = .int j ∧ C i j ∧ Q (g i j) H
noncomputable def rI0 (g : Int → Int → V) : R2 := fun x y H Q => ∃ i j, x = .int i ∧ y = .int j ∧ Q (g i j) H
noncomputable def rU (g : Int → V) : V → Hp → VK → Prop := fun x H Q => ∃ i, x = .int i ∧ Q (g i) H

section
variable {X : Cx} {a b c : Expr} {ta tb tc : TE} {pos : Pos}

theorem binT (ha : PE X a ta) (hb : PE X b tb) {pins : List (Addr × Obj)} {s : Shared} {σ : St} {H : Hp} {R : V → V → Hp → Prop} (I : Inv X pins σ H s)
    (h : ta σ H fun x H1 => tb σ H1 fun y H2 => R x y H2) {Q : Value → Shared → Prop} {f : Value → Value → Sem Value}
    (hf : ∀ v u s2 x y H2, Inv X pins σ H2 s2 → RelV x v → RelV y u → R x y H2 → wpAny (model X.prog X.w) X.A (f v u) Q X.xe s2) :
    wpAny (model X.prog X.w) X.A (eval a X.env) (fun v s₁ => wpAny (model X.prog X.w) X.A (eval b X.env) (fun u s₂ => wpAny (model X.prog X.w) X.A (f v u) Q X.xe s₂) X.xe s₁) X.xe s := by
  refine thn (ha pins s σ H _ I h) fun v s1 ⟨x, H1, I1, r1, q1⟩ => ?_
  refine thn (hb pins s1 σ H1 _ I1 q1) fun u s2 ⟨y, H2, I2, r2, q2⟩ => ?_
  exact hf v u s2 x y H2 I2 r1 r2 q2

theorem pe_op {op : Operator} {r : R2} (ho : OpR X (binaryOp op) r) (ha : PE X a ta) (hb : PE X b tb) : PE X (.BinOp a op b pos) (tOp r ta tb) := by
  intro pins s σ H Q I h
  exact wpAny_BinOp (binT ha hb I h fun v u s2 x y H2 I2 rx ry q => ho pins s2 σ H2 x y v u Q I2 rx ry q)
theorem pe_un {op : UnaryOp} {r : V → Hp → VK → Prop} (ho : UnR X (unaryOp op) r) (ha : PE X a ta) : PE X (.UnaryOp op a pos) (tUn r ta) := by
  intro pins s σ H Q I h
  exact UnaryOp_ (thn (ha pins s σ H _ I h) fun v s1 ⟨x, H1, I1, r1, q1⟩ => ho pins s1 σ H1 x v Q I1 r1 q1)
/-! ### ints -/
theorem opI {f : Value → Value → Sem Value} {C : Int → Int → Prop} {g : Int → Int → Int}
    (rule : ∀ (i j : Int) (t u : Tok) (s : Shared) (Q : Value → Shared → Prop) (E : Value → Shared → Prop), C i j → Q (.int (g i j) s.toks) { s with toks := s.toks + 1 } → wpAny (model X.prog X.w) X.A (f (.int i t) (.int j u)) Q E s) :
    OpR X f (rI C fun i j => .int (g i j)) := by
  intro pins s σ H x y v u Q I rx ry h
  obtain ⟨i, j, rfl, rfl, hc, q⟩ := h
  obtain ⟨t, rfl⟩ := rx
  obtain ⟨t', rfl⟩ := ry
  exact rule i j t t' s _ _ hc ⟨.int (g i j), H, I.tok _, ⟨_, rfl⟩, q⟩
theorem opI0 {f : Value → Value → Sem Value} {g : Int → Int → Int}
    (rule : ∀ (i j : Int) (t u : Tok) (s : Shared) (Q : Value → Shared → Prop) (E : Value → Shared → Prop), Q (.int (g i j) s.toks) { s with toks := s.toks + 1 } → wpAny (model X.prog X.w) X.A (f (.int i t) (.int j u)) Q E s) :
    OpR X f (rI0 fun i j => .int (g i j)) := by
  intro pins s σ H x y v u Q I rx ry h
  obtain ⟨i, j, rfl, rfl, q⟩ := h
  obtain ⟨t, rfl⟩ := rx
  obtain ⟨t', rfl⟩ := ry
  exact rule i j t t' s _ _ ⟨.int (g i j), H, I.tok _, ⟨_, rfl⟩, q⟩
theorem opB0 {f : Value → Value → Sem Value} {g : Int → Int → Bool}
    (rule : ∀ (i j : Int) (t u : Tok) (s : Shared) (Q : Value → Shared → Prop) (E : Value → Shared → Prop), Q (.bool (g i j)) s → wpAny (model X.prog X.w) X.A (f (.int i t) (.int j u)) Q E s) :
    OpR X f (rI0 fun i j => .bl (g i j)) := by
  intro pins s σ H x y v u Q I rx ry h
  obtain ⟨i, j, rfl, rfl, q⟩ := h
  obtain ⟨t, rfl⟩ := rx
  obtain ⟨t', rfl⟩ := ry
  exact rule i j t t' s _ _ ⟨.bl (g i j), H, I, rfl, q⟩

noncomputable def CDiv (i j : Int) : Prop := 0 < j ∧ j < 1073741824
noncomputable def CPow (i j : Int) : Prop := 0 ≤ j ∧ j ≤ 1000000 ∧ i.natAbs < 2 ^ 64
noncomputable def CMul (i j : Int) : Prop := (-(2 ^ 64) < i ∧ i < 2 ^ 64) ∨ (-(2 ^ 64) < j ∧ j < 2 ^ 64)
theorem CMul.ok {i j : Int} (h : CMul i j) : IntMulOk i j := by
  rcases h with ⟨h1, h2⟩ | ⟨h1, h2⟩
  · exact .of_left (intBits_le_64 h1 h2)
  · exact .of_right (intBits_le_64 h1 h2)
theorem op_add : OpR X (binaryOp .Add) (rI0 fun i j => .int (i + j)) := opI0 fun _ _ _ _ _ _ _ q => add_int q
theorem op_sub : OpR X (binaryOp .Sub) (rI0 fun i j => .int (i - j)) := opI0 fun _ _ _ _ _ _ _ q => sub_int q
/-- // by a positive divisor -/
theorem op_fdiv : OpR X (binaryOp .FloorDiv) (rI CDiv fun i j => .int (i / j)) := opI fun i j _ _ _ _ _ hc q => by
  have h1 : (0 : Int) < j := hc.1
  have h2 : j < 1073741824 := hc.2
  exact floordiv_int (by omega) (by rw [Int.fdiv_eq_ediv_of_nonneg i (by omega)]; exact q) (.inl (PyProof.noPylong_small (by omega)))
/-- % by a positive divisor of any size -/
theorem op_mod : OpR X (binaryOp .Mod) (rI (fun _ j => 0 < j) fun i j => .int (i % j)) := opI fun i j _ _ _ _ _ hc q => by
  have h1 : (0 : Int) < j := hc
  exact mod_int' (by omega) (by rw [Int.fmod_eq_emod_of_nonneg i (by omega)]; exact q)
theorem op_pow : OpR X (binaryOp .Pow) (rI CPow fun i j => .int (i ^ j.toNat)) := opI fun _ _ _ _ _ _ _ hc q => pow_int_small hc.1 hc.2.1 hc.2.2 q
theorem unI {f : Value → Sem Value} {g : Int → Int}
    (rule : ∀ (i : Int) (t : Tok) (s : Shared) (Q : Value → Shared → Prop) (E : Value → Shared → Prop), Q (.int (g i) s.toks) { s with toks := s.toks + 1 } → wpAny (model X.prog X.w) X.A (f (.int i t)) Q E s) :
    UnR X f (rU fun i => .int (g i)) := by
  intro pins s σ H x v Q I rx h
  obtain ⟨i, rfl, q⟩ := h
  obtain ⟨t, rfl⟩ := rx
  exact rule i t s _ _ ⟨.int (g i), H, I.tok _, ⟨_, rfl⟩, q⟩
theorem un_neg : UnR X (unaryOp .USub) (rU fun i => .int (-i)) := unI fun _ _ _ _ _ q => neg_int q
/-! ### bools among ints: n += (a < b) -/
end

/-! ### comparisons -/
section
variable {X : Cx} {a b c : Expr} {ta tb tc : TE} {pos : Pos}
theorem op_lt : OpR X (compareOp .Lt) (rI0 fun i j => .bl (decide (i < j))) := opB0 fun _ _ _ _ _ _ _ q => lt_int q
theorem op_le : OpR X (compareOp .LtE) (rI0 fun i j => .bl (decide (i ≤ j))) := opB0 fun _ _ _ _ _ _ _ q => le_int q
theorem op_gt : OpR X (compareOp .Gt) (rI0 fun i j => .bl (decide (j < i))) := opB0 fun _ _ _ _ _ _ _ q => gt_int q
theorem op_ge : OpR X (compareOp .GtE) (rI0 fun i j => .bl (decide (j ≤ i))) := opB0 fun _ _ _ _ _ _ _ q => ge_int q
/-- two rules for one operation: by cases -/
theorem OpR.or {f : Value → Value → Sem Value} {r r' : R2} (h : OpR X f r) (h' : OpR X f r') : OpR X f (fun x y H Q => r x y H Q ∨ r' x y H Q) := by
  intro pins s σ H x y v u Q I rx ry q
  rcases q with q | q
  · exact h pins s σ H x y v u Q I rx ry q
  · exact h' pins s σ H x y v u Q I rx ry q

/-- a comparison as a value; hm: nomark b, or (for in, not in) by with_unfolding_all rfl -/
theorem pe_cmpR {op : CmpOp} {r : R2} (ho : OpR X (compareOp op) r) (ha : PE X a ta) (hb : PE X b tb) (hm : behindInMarks op b = false) : PE X (.Compare a [op] [b] pos) (tOp r ta tb) := by
  intro pins s σ H Q I h
  exact wpAny_Compare1 (binT ha hb I h fun v u s2 x y H2 I2 rx ry q => ho pins s2 σ H2 x y v u Q I2 rx ry q) hm
/-- a reading of a value as a test -/
noncomputable def tTest (t : TE) : TT := fun σ H Q => t σ H fun x H' => ∃ k, x = .bl k ∧ Q k H'
theorem pt_cmpR {op : CmpOp} {r : R2} (ho : OpR X (compareOp op) r) (ha : PE X a ta) (hb : PE X b tb) (hm : behindInMarks op b = false) : PT X (.Compare a [op] [b] pos) (tTest (tOp r ta tb)) := by
  intro pins s σ H Q I h
  refine wpAny_isTrue_Compare1 (thn (ha pins s σ H _ I h) fun v s1 ⟨x, H1, I1, r1, q1⟩ => thn (hb pins s1 σ H1 _ I1 q1) fun u s2 ⟨y, H2, I2, r2, q2⟩ =>
    thn (ho pins s2 σ H2 x y v u _ I2 r1 r2 q2) fun c s3 ⟨z, H3, I3, r3, k, e, q3⟩ => ?_) hm
  subst e
  cases r3
  exact wpAny_truthy_bool ⟨H3, I3, q3⟩
/-! ### truth -/
theorem line63 : (sizeLine : Nat) < 2 ^ 63 := by rw [sizeLine_eq]; decide
/-! ### strs and bytes -/
theorem op_add_str : OpR X (binaryOp .Add) (fun x y H Q => ∃ i j, x = .str i ∧ y = .str j ∧ i.length + j.length ≤ sizeLine ∧ Q (.str (i ++ j)) H) := by
  intro pins s σ H x y v u Q I rx ry h
  obtain ⟨i, j, rfl, rfl, hz, q⟩ := h
  obtain ⟨t, rfl⟩ := rx
  obtain ⟨t', rfl⟩ := ry
  exact add_str (fun t' tk => ⟨.str (i ++ j), H, I.tok _, ⟨_, rfl⟩, q⟩) hz
/-! ### scalar builtins, by CallR -/
theorem vals1 {x : V} {us : List Value} (r : Vals [x] us) : ∃ u, us = [u] ∧ RelV x u := by
  cases r with
  | cons r1 r2 => cases r2; exact ⟨_, rfl, r1⟩
theorem vals2 {x y : V} {us : List Value} (r : Vals [x, y] us) : ∃ u w', us = [u, w'] ∧ RelV x u ∧ RelV y w' := by
  cases r with
  | cons r1 r2 =>
    cases r2 with
    | cons r3 r4 => cases r4; exact ⟨_, _, rfl, r1, r3⟩
theorem call_max2 (hc : X.calm = true) : CallR X (.builtin "max") (fun xs H Q => ∃ i j, xs = [.int i, .int j] ∧ Q (.int (if j > i then j else i)) H) := by
  intro pins s σ H xs us Q I r h
  obtain ⟨i, j, rfl, q⟩ := h
  obtain ⟨u, w', rfl, ⟨t, rfl⟩, ⟨t', rfl⟩⟩ := vals2 r
  refine max_two_ints (I.ok.hd hc) fun h' tk k => ⟨_, H, I.kept k, ?_, q⟩
  by_cases hj : j > i
  · rw [if_pos hj, if_pos hj]; exact ⟨_, rfl⟩
  · rw [if_neg hj, if_neg hj]; exact ⟨_, rfl⟩
theorem call_min2 (hc : X.calm = true) : CallR X (.builtin "min") (fun xs H Q => ∃ i j, xs = [.int i, .int j] ∧ Q (.int (if j < i then j else i)) H) := by
  intro pins s σ H xs us Q I r h
  obtain ⟨i, j, rfl, q⟩ := h
  obtain ⟨u, w', rfl, ⟨t, rfl⟩, ⟨t', rfl⟩⟩ := vals2 r
  refine min_two_ints (I.ok.hd hc) fun h' tk k => ⟨_, H, I.kept k, ?_, q⟩
  by_cases hj : j < i
  · rw [if_pos hj, if_pos hj]; exact ⟨_, rfl⟩
  · rw [if_neg hj, if_neg hj]; exact ⟨_, rfl⟩
theorem call_int1 : CallR X (.type "int") (fun xs H Q => (∃ i, xs = [.int i] ∧ Q (.int i) H) ∨ ∃ k, xs = [.bl k] ∧ Q (.int (if k then 1 else 0)) H) := by
  intro pins s σ H xs us Q I r h
  rcases h with ⟨i, rfl, q⟩ | ⟨k, rfl, q⟩
  · obtain ⟨u, rfl, t, rfl⟩ := vals1 r
    exact call_int_int ⟨.int i, H, I, ⟨_, rfl⟩, q⟩
  · obtain ⟨u, rfl, r1⟩ := vals1 r
    cases r1
    exact call_int_bool ⟨.int (if k then 1 else 0), H, I.tok _, ⟨_, rfl⟩, q⟩
theorem call_str_int : CallR X (.type "str") (fun xs H Q => ∃ i, xs = [.int i] ∧ i.natAbs.log2 < 1920 ∧ Q (.str (toString i)) H) := by
  intro pins s σ H xs us Q I r h
  obtain ⟨i, rfl, hz, q⟩ := h
  obtain ⟨u, rfl, t, rfl⟩ := vals1 r
  exact PySem.P.str_of_int hz ⟨.str _, H, I.tok _, ⟨_, rfl⟩, q⟩
end
end L2

namespace L2
open PySem PySem.Spec PyProof.Rows

/-! ### an instance, its attributes a map -/
structure ObjM (h : Heap) (x dx C : Addr) (mA : Str → Option Value) : Prop where
  obj : h.get? x = some (PySem.W.instObj C dx)
  ns : h.Ns1 dx mA
  ne : dx ≠ x

section
variable {prog : Program} {w : World} {A : Around} {E : Value → Shared → Prop} {s : Shared} {K : PySem.W.Frag} {x dx C f : Addr} {mA : Str → Option Value} {name : Str} {v : Value}

end

/-! ### the attributes as a list of pairs -/
section
variable {P : Program} {w : World} {H H' : Hp} {h h' : Heap} {a C dx : Addr} {fs fs' : List (Str × V)}
end

/-! ### what of the text a class must have -/
structure Cls (K : PySem.W.Frag) (C : Addr) : Prop where
  pg : PySem.W.plainGet K C Str.empty = true
  hd : PySem.W.hasDictIn K C = true
  po : PySem.W.plainOver K C = true
  sa : PySem.W.findIn K (.ref C) "__setattr__" = some (some (.builtin "object.__setattr__"))
theorem Cls.get {K : PySem.W.Frag} {C : Addr} (c : Cls K C) (f : Str) : PySem.W.plainGet K C f = true := c.pg
/-- a constant of the class -/
structure Con (K : PySem.W.Frag) (C : Addr) (f : Str) (v : V) (u : Value) : Prop where
  at_ : PySem.W.findIn K (.ref C) f = some (some u)
  rel : RelV v u
  get : PySem.W.specialIn K u "__get__" = some none
  cp : PySem.W.copiedNames.contains f = false
/-- a method: a plain def of the class or of one above it -/
structure Meth (K : PySem.W.Frag) (C : Addr) (m : Str) (f : Addr) : Prop where
  at_ : PySem.W.findIn K (.ref C) m = some (some (.ref f))
  fn : PySem.W.isFn K (.ref f) = true
  kp : PySem.W.keepIn K (.ref f) = true

section
variable {X : Cx} {pins : List (Addr × Obj)} {σ : St} {H : Hp} {s : Shared} {a C dx : Addr} {fs : List (Str × V)} {f : Str} {v : V} {A : Around} {E : Value → Shared → Prop}

/-- a new instance, tracked, without attributes -/
theorem Inv.made (I : Inv X pins σ H s) : Inv X pins σ (upd (upd H s.heap.objs.size (.own (s.heap.objs.size + 1))) (s.heap.objs.size + 1) (.ins C s.heap.objs.size []))
    { s with heap := (s.heap.push PySem.W.emptyDict).push (PySem.W.instObj C s.heap.objs.size) } := by
  have e1 : (s.heap.push PySem.W.emptyDict).get? s.heap.objs.size = some PySem.W.emptyDict := Heap.get?_push_size s.heap rfl
  have e2 : ((s.heap.push PySem.W.emptyDict).push (PySem.W.instObj C s.heap.objs.size)).get? (s.heap.objs.size + 1) = some (PySem.W.instObj C s.heap.objs.size) := by
    have := Heap.get?_push_size (s.heap.push PySem.W.emptyDict) (o := PySem.W.instObj C s.heap.objs.size) rfl
    rwa [Heap.size_push] at this
  have e3 : (s.heap.push PySem.W.emptyDict).Ns s.heap.objs.size (fun _ => none) := ⟨PySem.W.emptyDict, #[], _, e1, rfl, (fun e he => absurd he (by simp)), fun _ => rfl⟩
  have I1 := I.laid (a := s.heap.objs.size) (o := .own (s.heap.objs.size + 1)) (h' := s.heap.push PySem.W.emptyDict) (t' := s.toks) (fun b u q => Heap.get?_push_of_some _ q) (Nat.le_refl _) ⟨_, e1⟩
  refine I1.laid (a := s.heap.objs.size + 1) (o := .ins C s.heap.objs.size []) (t' := s.toks) (fun b u q => Heap.get?_push_of_some _ q) (Nat.le_of_eq (Heap.size_push _ _)) ?_
  have ne : s.heap.objs.size ≠ s.heap.objs.size + 1 := Nat.ne_of_lt (Nat.lt_succ_self _)
  refine ⟨by rw [upd_ne ne, upd_same], Nat.zero_le _, ne, e2, fun _ => none, (Heap.Ns1.of_empty e3).at fun o q => Heap.get?_push_of_some _ q, fun _ => True.intro, fun y hy => absurd rfl hy⟩

end

/-! ### readings and rules -/
section
variable {X : Cx} {o e value : Expr} {f : Str} {pos pos' tpos : Pos} {ta tv : TE}
end

/-! ### isinstance -/
section
variable {X : Cx} {pins : List (Addr × Obj)} {σ : St} {H : Hp} {s : Shared} {A : Around} {E : Value → Shared → Prop} {Q : Value → Shared → Prop} {c : Value} {b : Bool}
/-- the type of a value, as the fragment's deciders take it; for an instance its class -/
inductive TyOf (K : PySem.W.Frag) (H : Hp) : V → Value → Prop where
  | non : TyOf K H .non (.type "NoneType")
  | bl (x : Bool) : TyOf K H (.bl x) (.type "bool")
  | int (i : Int) : TyOf K H (.int i) (.type "int")
  | str (x : Str) : TyOf K H (.str x) (.type "str")
  | flt (x : UInt64) : TyOf K H (.flt x) (.type "float")
  | lst {a : Addr} {xs : List V} (e : H a = some (.lst xs)) : TyOf K H (.ref a) (.type "list")
  | frz {a : Addr} {o : Obj} {xs : List V} (e : H a = some (.frz o (.lst xs))) : TyOf K H (.ref a) (.type "list")
  | tup {a : Addr} {xs : List V} (e : H a = some (.tup xs)) : TyOf K H (.ref a) (.type "tuple")
  | dK {a : Addr} {kvs : List (Key × V)} (e : H a = some (.dK kvs)) : TyOf K H (.ref a) (.type "dict")
  | dT {a : Addr} {kvs : List (List Key × V)} (e : H a = some (.dT kvs)) : TyOf K H (.ref a) (.type "dict")
  | ins {a C dx : Addr} {fs : List (Str × V)} (e : H a = some (.ins C dx fs)) (cl : Cls K C) (ha : PySem.W.findIn K (.ref C) "__class__" = some (some (.builtin "object.__class__")))
      (hn : PySem.W.specialIn K (.builtin "object.__class__") "__get__" = some (some (.builtin "getset_descriptor.__get__"))) (htk : PySem.W.takesIn K (.builtin "object.__class__") = some true)
      (hm : PySem.W.mroIn K C (.type "object") = some true) : TyOf K H (.ref a) (.ref C)
end
end L2

namespace L2
open PySem PySem.Spec PyProof.Rows

/-! ### room -/
structure Room (k : Nat) (A : Around) : Prop where
  hd : A.handled = none
  dp : A.depth + 3 * k + 5 < recursionLimit
  un : A.units + 16 * k + 200 < cLine
theorem Room.mono {j k : Nat} {A : Around} (r : Room k A) (h : j ≤ k) : Room j A := ⟨r.hd, by have := r.dp; omega, by have := r.un; omega⟩
theorem Room.deeper {k : Nat} {A : Around} (r : Room (k + 1) A) (env : Env) : Room k (A.deeper env) :=
  ⟨r.hd, by have := r.dp; show A.depth + 1 + 3 * k + 5 < _; omega, by have := r.un; show A.units + 3 + 16 * k + 200 < _; omega⟩
theorem Room.in1 {k : Nat} {A : Around} (r : Room (k + 1) A) : Room k A.in1 :=
  ⟨r.hd, by have := r.dp; show A.depth + 3 * k + 5 < _; omega, by have := r.un; show A.units + 1 + 16 * k + 200 < _; omega⟩
theorem Room.depth {k : Nat} {A : Around} (r : Room k A) : A.depth < recursionLimit := by have := r.dp; omega
theorem Room.units {k : Nat} {A : Around} (r : Room k A) : A.units + 64 < cLine := by have := r.un; omega
/-! ### argument lists and displays -/
noncomputable def tNil : TA := fun _ H Q => Q [] H
noncomputable def tCons (ta : TE) (tr : TA) : TA := fun σ H Q => ta σ H fun x H1 => tr σ H1 fun xs H2 => Q (x :: xs) H2
section
variable {X : Cx} {e : Expr} {es : List Expr} {te : TE} {t : TA} {pos : Pos}
theorem pa_nil : PA X [] tNil := fun _ _ _ _ H Q I h => Calls.spliced_nil ⟨[], H, I, .nil, h⟩
theorem pa_cons (ha : PE X e te) (hr : PA X es t) (hs : starEach (e :: es) X.env = (false, eval e X.env) :: starEach es X.env := by rfl) : PA X (e :: es) (tCons te t) := by
  intro pos pins s σ H Q I h
  rw [hs]
  show wpAny _ _ (spliced ((false, eval e X.env) :: backTo pos (starEach es X.env))) _ _ s
  refine Calls.spliced_cons (thn (ha pins s σ H _ I h) fun u s1 ⟨x, H1, I1, r1, q1⟩ => ?_)
  exact thn (hr pos pins s1 σ H1 _ I1 q1) fun us s2 ⟨xs, H2, I2, r2, q2⟩ => ⟨x :: xs, H2, I2, .cons r1 r2, q2⟩

/-- a tuple, a list of written items -/
noncomputable def tTup (t : TA) : TE := fun σ H Q => t σ H fun xs H1 => xs.length ≤ sizeLine ∧ ∀ p, H1 p = none → Q (.ref p) (upd H1 p (.tup xs))
noncomputable def tLst (t : TA) : TE := fun σ H Q => t σ H fun xs H1 => xs.length ≤ sizeLine ∧ ∀ p, H1 p = none → Q (.ref p) (upd H1 p (.lst xs))
theorem pe_tup {x1} (h : PA X es t) : PE X (.Tuple es x1 pos) (tTup t) := by
  intro pins s σ H Q I hq
  refine wpAny_Tuple_spliced (thn (h pos pins s σ H _ I hq) fun us s1 ⟨xs, H1, I1, r, z, q⟩ => ⟨by rw [← r.length]; exact z, ?_⟩)
  have hf : H1 s1.heap.objs.size = none := I1.hok.fresh (Nat.le_refl _)
  refine ⟨.ref s1.heap.objs.size, upd H1 s1.heap.objs.size (.tup xs), I1.laid (t' := s1.toks) (fun b u e => Heap.get?_push_of_some _ e) (Nat.le_refl _) ?_, rfl, q _ hf⟩
  exact ⟨z, us, r, ⟨_, Heap.get?_push_size _ rfl, rfl, _, rfl⟩⟩
theorem pe_lst (h : PA X es t) : PE X (.List es pos) (tLst t) := by
  intro pins s σ H Q I hq
  refine wpAny_List_spliced (thn (h pos pins s σ H _ I hq) fun us s1 ⟨xs, H1, I1, r, z, q⟩ => ⟨by rw [← r.length]; exact z, ?_⟩)
  have hf : H1 s1.heap.objs.size = none := I1.hok.fresh (Nat.le_refl _)
  refine ⟨.ref s1.heap.objs.size, upd H1 s1.heap.objs.size (.lst xs), I1.laid (t' := s1.toks) (fun b u e => Heap.get?_push_of_some _ e) (Nat.le_refl _) ?_, rfl, q _ hf⟩
  exact ⟨z, us, 0, r, Heap.get?_push_size _ rfl⟩
end

/-! ### what a def promises -/
/-- a def's promise: the bound arguments in the parameters' order, the heap, the wanted end, the wanted exception -/
noncomputable abbrev Sp := List V → Hp → VK → XK → Prop
/-- how an exception lies behind a call (file 08 gives it): the callers' frames, abstract heap and state ahead of the call, the wish, the exception, the state -/
noncomputable abbrev CXT := List Env → Hp → Shared → XK → Value → Shared → Prop

/-- the state at a call -/
structure Env0 (P : Program) (w : World) (K : PySem.W.Frag) (mg : Str → Option Value) (base : Heap) (A : Around) (outer : List Env) (s : Shared) (H : Hp) : Prop where
  frames : A.frames = some outer
  mod : Mod K mg base
  bs : ∀ b o, base.get? b = some o → s.heap.get? b = some o ∧ H b = none
  bsz : base.objs.size ≤ s.heap.objs.size
  funs : s.heap.FunFrames base outer
  frf : ∀ b ∈ frs outer, H b = none
  hok : HOk P w H s.heap
  bare : AllBare s.gens
/-- a call's end -/
noncomputable def CE (outer : List Env) (P : Program) (w : World) (H : Hp) (s : Shared) (Q : VK) (u : Value) (s' : Shared) : Prop :=
  ∃ v H', s'.os = s.os ∧ AllBare s'.gens ∧ Un (frs outer) [] H H' s.heap s'.heap ∧ HOk P w H' s'.heap ∧ RelV v u ∧ Q v H'
noncomputable def CR (CX : CXT) (outer : List Env) (P : Program) (w : World) (H : Hp) (s : Shared) (Q : VK) (E : XK) (r : Result) (s' : Shared) : Prop :=
  match r with
  | .ok (.ret u) => CE outer P w H s Q u s'
  | .ok _ => False
  | .error e => CX outer H s E e s'
structure FnOk (P : Program) (w : World) (K : PySem.W.Frag) (mg : Str → Option Value) (base : Heap) (CX : CXT) (k : Nat) (f : Addr) (fd : FuncData) (ps : List Str) (sp : Sp) : Prop where
  len : ∀ vs H Q E, sp vs H Q E → vs.length = ps.length
  run : ∀ (A : Around) (outer : List Env) (s : Shared) (H : Hp) (args : Args) (us : List Value) (vs : List V) (Q : VK) (E : XK), Room k A → Env0 P w K mg base A outer s H → BindsTo s fd args (ps.zip us) → Vals vs us → sp vs H Q E →
    codeAny (model P w) A (.call (.ref f) args) (CR CX outer P w H s Q E) s
theorem FnOk.mono {P : Program} {w : World} {K : PySem.W.Frag} {mg : Str → Option Value} {base : Heap} {CX : CXT} {j k : Nat} {f : Addr} {fd : FuncData} {ps : List Str} {sp : Sp} (F : FnOk P w K mg base CX j f fd ps sp) (h : j ≤ k) :
    FnOk P w K mg base CX k f fd ps sp := ⟨F.len, fun A outer s H args us vs Q E hr => F.run A outer s H args us vs Q E (hr.mono h)⟩
/-- a weaker promise -/
theorem FnOk.imp {P : Program} {w : World} {K : PySem.W.Frag} {mg : Str → Option Value} {base : Heap} {CX : CXT} {k : Nat} {f : Addr} {fd : FuncData} {ps : List Str} {sp sp' : Sp} (F : FnOk P w K mg base CX k f fd ps sp)
    (h : ∀ vs H Q E, sp' vs H Q E → sp vs H Q E) : FnOk P w K mg base CX k f fd ps sp' :=
  ⟨fun vs H Q E q => F.len vs H Q E (h _ _ _ _ q), fun A outer s H args us vs Q E hr he hb hv hs => F.run A outer s H args us vs Q E hr he hb hv (h _ _ _ _ hs)⟩

theorem Env0.in1 {P : Program} {w : World} {K : PySem.W.Frag} {mg : Str → Option Value} {base : Heap} {A : Around} {outer : List Env} {s : Shared} {H : Hp} (e : Env0 P w K mg base A outer s H) :
    Env0 P w K mg base A.in1 outer s H := ⟨e.frames, e.mod, e.bs, e.bsz, e.funs, e.frf, e.hok, e.bare⟩

section
variable {X : Cx} {pins : List (Addr × Obj)} {σ : St} {H : Hp} {s s' : Shared}
/-- from a body: what a callee wants -/
theorem Inv.env0 (I : Inv X pins σ H s) : Env0 X.prog X.w X.K X.mg X.base X.A X.stack s H :=
  ⟨I.ok.frames, I.ok.mod, I.bs, Nat.le_trans I.ok.bsz I.sz, I.stack, I.stkFree, I.hok, I.bare⟩
/-- behind a call -/
theorem Inv.after {Q : VK} {u : Value} (I : Inv X pins σ H s) (h : CE X.stack X.prog X.w H s Q u s') : EP X pins σ Q u s' := by
  obtain ⟨v, H', os, bare, un, hok, r, q⟩ := h
  obtain ⟨hh, g, d, t, os'⟩ := s'
  obtain rfl : os' = s.os := os
  exact ⟨v, H', I.call (h' := hh) (g' := g) (d' := d) (t' := t) (ch := []) un hok bare (fun b z => absurd z (by simp)), r, q⟩
end

/-! ### calls -/
/-- f(..): the written arguments, then the defaults dvs; E: what is wanted of an exception -/
noncomputable def tCall (sp : Sp) (dvs : List V) (E : XK) (t : TA) : TE := fun σ H Q => t σ H fun vs H1 => sp (vs ++ dvs) H1 Q E
/-- how the parameters are bound: us the positional arguments, kw the keywords' values by name, ds the defaults that fill up -/
noncomputable def Binds (K : PySem.W.Frag) (fd : FuncData) (ps : List Str) (ds : List Value) : Prop :=
  ∀ (s : Shared) (us : List Value), K.In s.heap → (us ++ ds).length = ps.length → BindsTo s fd ⟨us, []⟩ (ps.zip (us ++ ds))
/-- every parameter is given -/
theorem Binds.all {K : PySem.W.Frag} {fd : FuncData} {ps : List Str} (h : ∀ us : List Value, us.length = ps.length → bindArgs fd ⟨us, []⟩ = pure (ps.zip us)) : Binds K fd ps [] := fun s us _ hl => by
  rw [List.append_nil] at hl ⊢
  exact .of_eq (h us hl)

/-- an exception of a callee reaches what this body wants of exceptions -/
noncomputable def Passes (CX : CXT) (X : Cx) (E : XK) : Prop := ∀ (pins : List (Addr × Obj)) (σ : St) (H : Hp) (s : Shared) (e : Value) (s' : Shared), Inv X pins σ H s → CX X.stack H s E e s' → X.xe e s'

section
variable {X : Cx} {CX : CXT} {k : Nat} {f C : Addr} {fd : FuncData} {ps : List Str} {sp : Sp} {dvs : List V} {ds : List Value} {E : XK} {x m : Str} {p pos apos : Pos} {e o : Expr} {es : List Expr} {ta : TE} {t : TA}

/-- the callee runs -/
theorem run_fn {pins : List (Addr × Obj)} {σ : St} {H : Hp} {s : Shared} {Q : VK} {us : List Value} {vs : List V} (F : FnOk X.prog X.w X.K X.mg X.base CX k f fd ps sp) (hr : Room k X.A) (hb : Binds X.K fd ps ds) (hd : Vals dvs ds) (hx : Passes CX X E)
    (I : Inv X pins σ H s) (r : Vals vs us) (h : sp (vs ++ dvs) H Q E) : wpAny (model X.prog X.w) X.A (call (.ref f) us) (EP X pins σ Q) X.xe s := by
  have r2 : Vals (vs ++ dvs) (us ++ ds) := r.append hd
  have hl : (us ++ ds).length = ps.length := by rw [← r2.length]; exact F.len _ _ _ _ h
  refine wpAny_call (codeAny_mono (F.run X.A X.stack s H ⟨us, []⟩ (us ++ ds) (vs ++ dvs) Q E hr I.env0 (hb s us I.kIn hl) r2 h) fun r s' hq => ?_)
  cases r with
  | error e => exact hx pins σ H s e s' I hq
  | ok fl =>
    cases fl with
    | ret u => exact I.after hq
    | next => exact False.elim hq
    | brk => exact False.elim hq
    | cont => exact False.elim hq

theorem pe_call (F : FnOk X.prog X.w X.K X.mg X.base CX k f fd ps sp) (hr : Room k X.A) (hg : Gl X x) (hm : X.mg x = some (.ref f)) (hk : PySem.W.keepIn X.K (.ref f) = true) (hb : Binds X.K fd ps ds) (hd : Vals dvs ds) (hx : Passes CX X E)
    (ha : PA X (e :: es) t) (hdb : (x == ("__debug__" : Str)) = false := by decide) (he : starEach (e :: es) X.env = (false, eval e X.env) :: starEach es X.env := by rfl) (hpl : (backTo pos (starEach es X.env)).any (·.1) = false := by rfl) :
    PE X (.Call (.Name x p) (e :: es) [] pos) (tCall sp dvs E t) := by
  intro pins s σ H Q I h
  refine wpAny_Call_Name_kw (ld_glob I hg hm ?_ hdb)
  refine PySem.W.callWith_K (h₀ := X.base) I.ok.mod.kin hk (thn (ha pos pins s σ H _ I h) fun us s1 ⟨vs, H1, I1, r, q⟩ => ⟨I1.kIn, ?_⟩) he hpl
  exact run_fn F hr hb hd hx I1 r q
theorem pe_call0 (F : FnOk X.prog X.w X.K X.mg X.base CX k f fd ps sp) (hr : Room k X.A) (hg : Gl X x) (hm : X.mg x = some (.ref f)) (hk : PySem.W.keepIn X.K (.ref f) = true) (hb : Binds X.K fd ps ds) (hd : Vals dvs ds) (hx : Passes CX X E)
    (hdb : (x == ("__debug__" : Str)) = false := by decide) : PE X (.Call (.Name x p) [] [] pos) (tCall sp dvs E tNil) := by
  intro pins s σ H Q I h
  refine wpAny_Call_Name_kw (ld_glob I hg hm ?_ hdb)
  exact PySem.W.callWith_K0 I.kIn hk (run_fn (us := []) F hr hb hd hx I .nil h)

/-- what a class must have to be made -/
structure Mk (K : PySem.W.Frag) (C f : Addr) : Prop where
  makes : PySem.W.makesIn K C = true
  init : PySem.W.findIn K (.ref C) "__init__" = some (some (.ref f))
  fn : PySem.W.isFn K (.ref f) = true
  kp : PySem.W.keepIn K (.ref C) = true

end

/-! ### keywords -/
/-- the values of the keywords, from the left -/
noncomputable def PK (X : Cx) (kws : List Keyword) (t : TA) : Prop :=
  ∀ (pos : Pos) (pins : List (Addr × Obj)) (s : Shared) (σ : St) (H : Hp) (Q : List V → Hp → Prop), Inv X pins σ H s → t σ H Q → wpAny (model X.prog X.w) X.A (evalAll ((backToKw pos (keywordEach kws X.env)).map (·.2))) (AP X pins σ Q) X.xe s
section
variable {X : Cx} {CX : CXT} {k : Nat} {f C : Addr} {fd : FuncData} {ps ks : List Str} {sp : Sp} {E : XK} {x m : Str} {p pos apos kpos : Pos} {e o : Expr} {es : List Expr} {kws : List Keyword} {te ta : TE} {t tk : TA} {nm : Option Str}
theorem pk_nil : PK X [] tNil := fun _ _ _ _ H Q I h => wpAny_evalAll_nil ⟨[], H, I, .nil, h⟩
theorem pk_cons (ha : PE X e te) (hr : PK X kws t) : PK X (⟨nm, e, kpos⟩ :: kws) (tCons te t) := by
  intro pos pins s σ H Q I h
  show wpAny _ _ (evalAll ((do let v ← eval e X.env; standAt pos; pure v) :: (backToKw pos (keywordEach kws X.env)).map (·.2))) _ _ s
  refine wpAny_evalAll_cons (wpAny_bind (thn (ha pins s σ H _ I h) fun u s1 ⟨x, H1, I1, r1, q1⟩ => wpAny_bind (wpAny_standAt (wpAny_pure ?_))))
  exact thn (hr pos pins s1 σ H1 _ I1 q1) fun us s2 ⟨xs, H2, I2, r2, q2⟩ => ⟨x :: xs, H2, I2, .cons r1 r2, q2⟩

/-- how a call with keywords binds: g puts the positional values us and the keywords' values ws (names ks) in the parameters' order, defaults among them -/
structure KBinds (K : PySem.W.Frag) (fd : FuncData) (ps ks : List Str) (g : List Value → List Value → List Value) (gV : List V → List V → List V) : Prop where
  to : ∀ (s : Shared) (us ws : List Value), K.In s.heap → (g us ws).length = ps.length → BindsTo s fd ⟨us, ks.zip ws⟩ (ps.zip (g us ws))
  rel : ∀ {vs : List V} {us : List Value} {zs : List V} {ws : List Value}, Vals vs us → Vals zs ws → Vals (gV vs zs) (g us ws)
variable {g : List Value → List Value → List Value} {gV : List V → List V → List V}
end

/-! ### a def's body keeps its promise -/
/-- names: the parameters first -/
structure FnScope (N P : List Str) (sc : Scope) : Prop where
  kind : sc.kind = .function
  co : sc.isCoroutine = false
  gen : sc.isGenerator = false
  nd : N.Nodup
  pre : N.take P.length = P
  par : ∀ x ∈ P, sc.names.lookup x = some .local ∨ sc.names.lookup x = some .cell
  nofree : ∀ y ∈ sc.names, y.2 ≠ .free

theorem bindL_out {kindOf : Str → Option NameKind} {x : Str} : ∀ {binds : List (Str × Value)} {m : Str → Option Value}, (∀ v, (x, v) ∉ binds) → bindL kindOf binds m x = m x
  | [], _, _ => rfl
  | (n, v) :: r, m, h => by
    unfold bindL
    rw [bindL_out fun w hw => h w (List.mem_cons_of_mem _ hw)]
    split
    · have : x ≠ n := by rintro rfl; exact h v List.mem_cons_self
      simp [this]
    · rfl
theorem bindC_out {kindOf : Str → Option NameKind} {x : Str} : ∀ {binds : List (Str × Value)} {m : Str → Option Value}, (∀ v, (x, v) ∉ binds) → bindC kindOf binds m x = m x
  | [], _, _ => rfl
  | (n, v) :: r, m, h => by
    unfold bindC
    rw [bindC_out fun w hw => h w (List.mem_cons_of_mem _ hw)]
    split
    · rfl
    · have : x ≠ n := by rintro rfl; exact h v List.mem_cons_self
      simp [this]
theorem bindL_get {kindOf : Str → Option NameKind} {x : Str} {v : Value} : ∀ {P : List Str} {vs : List Value} {i : Nat} {m : Str → Option Value}, P.Nodup → P[i]? = some x → vs[i]? = some v → kindOf x = some .local →
    bindL kindOf (P.zip vs) m x = some v
  | [], _, _, _, _, h, _, _ => by simp at h
  | _ :: _, [], _, _, _, _, h, _ => by simp at h
  | p :: P, w :: vs, 0, m, nd, h1, h2, hk => by
    simp at h1 h2; subst h1; subst h2
    show bindL kindOf ((p, w) :: P.zip vs) m p = _
    unfold bindL
    rw [bindL_out fun v hv => (List.nodup_cons.mp nd).1 (List.of_mem_zip hv).1, if_pos hk]
    simp
  | p :: P, w :: vs, i + 1, m, nd, h1, h2, hk => by
    show bindL kindOf ((p, w) :: P.zip vs) m x = _
    unfold bindL
    exact bindL_get (i := i) (List.nodup_cons.mp nd).2 (by simpa using h1) (by simpa using h2) hk
theorem bindC_get {kindOf : Str → Option NameKind} {x : Str} {v : Value} : ∀ {P : List Str} {vs : List Value} {i : Nat} {m : Str → Option Value}, P.Nodup → P[i]? = some x → vs[i]? = some v → kindOf x ≠ some .local →
    bindC kindOf (P.zip vs) m x = some v
  | [], _, _, _, _, h, _, _ => by simp at h
  | _ :: _, [], _, _, _, _, h, _ => by simp at h
  | p :: P, w :: vs, 0, m, nd, h1, h2, hk => by
    simp at h1 h2; subst h1; subst h2
    show bindC kindOf ((p, w) :: P.zip vs) m p = _
    unfold bindC
    rw [bindC_out fun v hv => (List.nodup_cons.mp nd).1 (List.of_mem_zip hv).1, if_neg hk]
    simp
  | p :: P, w :: vs, i + 1, m, nd, h1, h2, hk => by
    show bindC kindOf ((p, w) :: P.zip vs) m x = _
    unfold bindC
    exact bindC_get (i := i) (List.nodup_cons.mp nd).2 (by simpa using h1) (by simpa using h2) hk

/-- the names' values at the entry -/
noncomputable def start (N : List Str) (vs : List V) : St := vs.map some ++ List.replicate (N.length - vs.length) none

/-- the context of a def's body, at its entry; an exception leaves the frame, then lies as CX says -/
noncomputable def cxOf (CX : CXT) (P : Program) (w : World) (K : PySem.W.Frag) (mg : Str → Option Value) (base : Heap) (N : List Str) (qual : Str) (scope : Scope) (f : Addr) (cd : Value) (A : Around) (outer : List Env) (s : Shared) (H : Hp) (E : XK) : Cx where
  prog := P
  w := w
  K := K
  mg := mg
  base := base
  A := A.deeper (envOfC qual scope s.heap.objs.size f cd)
  N := N
  s₀ := s
  H₀ := H
  env := envOfC qual scope s.heap.objs.size f cd
  outer := outer
  stack := envOfC qual scope s.heap.objs.size f cd :: outer
  ex := []
  calm := true
  fn := fun _ => true
  pn := []
  xe := fun e s' => wpAny (model P w) (A.deeper (envOfC qual scope s.heap.objs.size f cd)) (leaving (envOfC qual scope s.heap.objs.size f cd) e) (fun _ s'' => CX outer H s E e s'') (fun e' s'' => CX outer H s E e' s'') s'

theorem cell_has {sc : Scope} {n : Nat} {x : Str} (h : sc.names.lookup x = some .cell) : ∃ c, (cellsFrom n sc.names []).lookup x = some c := by
  have q := PySem.W.cellsFrom_some sc.names n [] (.inl h)
  exact Option.isSome_iff_exists.mp q

theorem inv_start {CX : CXT} {P : Program} {w : World} {K : PySem.W.Frag} {mg : Str → Option Value} {base : Heap} {N ps : List Str} {qual : Str} {scope : Scope} {f : Addr} {cd : Value} {A : Around} {outer : List Env} {s s1 : Shared} {H : Hp} {E : XK} {us : List Value} {vs : List V}
    (S : FnScope N ps scope) (hd : A.handled = none) (e0 : Env0 P w K mg base A outer s H) (hl : vs.length = ps.length) (r : Vals vs us)
    (x : InCallC s s.heap.objs.size (bindL (envOfC qual scope s.heap.objs.size f cd).kindOf (ps.zip us) fun _ => none) (cellsFrom (s.heap.objs.size + 1) scope.names []) (bindC (envOfC qual scope s.heap.objs.size f cd).kindOf (ps.zip us) fun _ => none) s1) :
    Inv (cxOf CX P w K mg base N qual scope f cd A outer s H E) [] (start N vs) H s1 := by
  have hpl : ps.length ≤ N.length := by have := congrArg List.length S.pre; rw [List.length_take] at this; omega
  obtain ⟨h1, tk, rfl, hk⟩ := x.done
  have noA : ∀ b : Addr, b ∉ (cxOf CX P w K mg base N qual scope f cd A outer s H E).ex := fun b z => absurd (show b ∈ ([] : List Addr) from z) (by simp)
  refine ⟨⟨e0.mod, S.kind, rfl, rfl, Nat.le_refl _, fun y z c h1 h2 => ?_, fun y hy => ?_, fun y c _ h => ?_, fun _ => hd, Around.frames_deeper e0.frames, .inr ⟨rfl, rfl⟩, fun b z => absurd z (noA b), e0.bs, e0.bsz, fun b _ _ => noA b, fun b z => absurd z (noA b), e0.funs, e0.frf⟩,
    rfl, e0.bare, Un.kept hk, ⟨_, x.toInCall.ns, fun i y v h1 h2 h3 => ?_⟩, fun y c h => ⟨_, x.cell y c h⟩, e0.hok.fresh (Nat.le_refl _), fun y c h => ?_, fun p hp => absurd (show p ∈ ([] : List (Addr × Obj)) from hp) (by simp), e0.hok.kept hk, ?_⟩
  · exact name_of_addr x.apart (PySem.mem_of_lookup h1) (PySem.mem_of_lookup h2)
  · have hy : scope.names.lookup y = some .cell ∨ scope.names.lookup y = some .free := hy
    rcases hy with hy | hy
    · exact cell_has hy
    · exact absurd rfl (S.nofree _ (PySem.mem_of_lookup hy))
  · exact Nat.le_of_lt (x.above y c (PySem.mem_of_lookup h))
  · have hi : i < vs.length := by
      unfold start at h2
      by_cases hi : i < vs.length
      · exact hi
      · rw [List.getElem?_append_right (by simpa using hi)] at h2
        rw [List.getElem?_replicate] at h2
        split at h2 <;> cases h2
    have ha : vs[i]? = some v := by
      unfold start at h2
      rw [List.getElem?_append_left (by simpa using hi), List.getElem?_map] at h2
      cases e : vs[i]? with
      | none => rw [e] at h2; cases h2
      | some a => rw [e] at h2; cases h2; rfl
    obtain ⟨u, hu, rv⟩ := r.get ha
    have hp : ps[i]? = some y := by
      rw [← S.pre, List.getElem?_take_of_lt (by omega)]; exact h1
    have ndP : ps.Nodup := by rw [← S.pre]; exact S.nd.sublist (List.take_sublist _ _)
    refine ⟨u, rv, ?_⟩
    rcases S.par y (List.mem_of_getElem? hp) with k | k
    · exact .inl ⟨k, bindL_get ndP hp hu k⟩
    · obtain ⟨c, e⟩ := cell_has (n := s.heap.objs.size + 1) k
      refine .inr ⟨.inl k, c, e, ?_⟩
      have q := x.cell y c e
      rw [bindC_get ndP hp hu (by show scope.names.lookup y ≠ _; rw [k]; decide)] at q
      exact q
  · exact e0.hok.fresh (Nat.le_of_lt (x.above y c (PySem.mem_of_lookup h)))
  · unfold start
    show _ = N.length
    rw [List.length_append, List.length_map, List.length_replicate]
    omega

/-- THE RULE: a def (or a method) of the text, by its body. The body's reading t is chosen for each entry; it is run at the parameters' values -/
theorem fn_of {CX : CXT} {P : Program} {w : World} {K : PySem.W.Frag} {mg : Str → Option Value} {base : Heap} {k : Nat} {f : Addr} {name qual : Str} {params : Arguments} {body : List Stmt} {scope : Scope} {dV kV doc pm cdv ct oc : Value} {an od : Option Addr}
    {osl : Array (Option Value)} {N ps : List Str} {sp : Sp} (lk : K.lookup f = some ⟨oc, od, .func (PySem.W.fnOf name qual params body scope dV kV doc pm an cdv ct), osl⟩) (hcd : PySem.W.codeIn K cdv qual = true) (S : FnScope N ps scope)
    (len : ∀ vs H Q E, sp vs H Q E → vs.length = ps.length)
    (hbody : ∀ (A : Around) (outer : List Env) (s : Shared) (H : Hp) (vs : List V) (Q : VK) (E : XK), Room k (A.deeper (envOfC qual scope s.heap.objs.size f cdv)) → sp vs H Q E →
      ∃ t, PSs (cxOf CX P w K mg base N qual scope f cdv A outer s H E) body t ∧ t { nx := fun _ H' => Q .non H', rt := Q } (start N vs) H) :
    FnOk P w K mg base CX (k + 1) f (PySem.W.fnOf name qual params body scope dV kV doc pm an cdv ct) ps sp := by
  refine ⟨len, fun A outer s H args us vs Q E hr e0 hb r hsp => ?_⟩
  have hl := len _ _ _ _ hsp
  have KX : K.In s.heap := e0.mod.kin.keeps fun b o e => (e0.bs b o e).1
  have lim : s.heap.NoLimit := e0.mod.nolimit.keeps fun b o e => (e0.bs b o e).1
  have hkind : ∀ y ∈ ps.zip us, scope.names.lookup y.1 = some .local ∨ (scope.names.lookup y.1 = some .cell ∧ ((cellsFrom (s.heap.objs.size + 1) scope.names []).lookup y.1).isSome = true) := fun ⟨n, v⟩ hy => by
    rcases S.par n (List.of_mem_zip hy).1 with q | q
    · exact .inl q
    · exact .inr ⟨q, PySem.W.cellsFrom_some _ _ _ (.inl q)⟩
  refine codeAny_call_function hr.depth (KX _ _ lk) rfl S.co S.gen rfl (PySem.W.codeRec_of KX hcd) (hb _ _ _ _ ?_)
  refine wpAny_newFunctionEnv_cells S.kind hkind fun env he s1 x => ?_
  subst he
  refine ⟨lim.keeps x.toInCall.keep, codeAny_func ?_⟩
  obtain ⟨t, ht, hq⟩ := hbody A outer s H vs Q E (hr.deeper _) hsp
  have I : Inv (cxOf CX P w K mg base N qual scope f cdv A outer s H E) [] (start N vs) H s1 := inv_start S hr.hd e0 hl r x
  refine wpAny_mono (ht [] s1 (start N vs) H _ I hq) (fun fl s' hs => ?_) fun e s' hs => hs
  have fin : ∀ {σ' : St} {H' : Hp} {v : V} {u : Value}, Inv (cxOf CX P w K mg base N qual scope f cdv A outer s H E) [] σ' H' s' → RelV v u → Q v H' → CE outer P w H s Q u s' :=
    fun {σ' H' v u} J rv q => ⟨v, H', J.os, J.bare, J.base, J.hok, rv, q⟩
  cases fl with
  | ret u =>
    obtain ⟨v, σ', H', J, rv, q⟩ := hs
    exact fin J rv q
  | next =>
    obtain ⟨σ', H', J, q⟩ := hs
    exact fin (v := V.non) (u := Value.none) J rfl q
  | brk =>
    obtain ⟨_, _, _, q⟩ := hs
    exact False.elim q
  | cont =>
    obtain ⟨_, _, _, q⟩ := hs
    exact False.elim q
end L2

namespace L2
open PySem PySem.Spec PyProof.Rows
section
variable {X : Cx} {x : Str} {p pos : Pos} {e : Expr} {es : List Expr} {t : TA} {id T : String} {r : List V → Hp → VK → Prop}

noncomputable def tCB (r : List V → Hp → VK → Prop) (t : TA) : TE := fun σ H Q => t σ H fun vs H1 => r vs H1 Q
/-- f(e, ..), f a built-in function -/
theorem pe_callB (hc : CallR X (.builtin id) r) (hg : Gl X x) (hm : X.mg x = none) (hv : bootBuiltins x = some (.builtin id)) (ha : PA X (e :: es) t) (hn : x ≠ "__name__" := by decide) (hdb : (x == ("__debug__" : Str)) = false := by decide)
    (he : starEach (e :: es) X.env = (false, eval e X.env) :: starEach es X.env := by rfl) (hpl : (backTo pos (starEach es X.env)).any (·.1) = false := by rfl) : PE X (.Call (.Name x p) (e :: es) [] pos) (tCB r t) := by
  intro pins s σ H Q I h
  refine wpAny_Call_Name_kw (ld_blt I hg hm hv ?_ hn hdb)
  exact PyProof.Rows.callWith_builtin1 (thn (ha pos pins s σ H _ I h) fun us s1 ⟨vs, H1, I1, r1, q1⟩ => hc pins s1 σ H1 vs us Q I1 r1 q1) he hpl
/-- T(e, ..), T a built-in type -/
theorem pe_callTy (hc : CallR X (.type T) r) (hg : Gl X x) (hm : X.mg x = none) (hv : bootBuiltins x = some (.type T)) (ha : PA X (e :: es) t) (hn : x ≠ "__name__" := by decide) (hdb : (x == ("__debug__" : Str)) = false := by decide)
    (he : starEach (e :: es) X.env = (false, eval e X.env) :: starEach es X.env := by rfl) (hpl : (backTo pos (starEach es X.env)).any (·.1) = false := by rfl) : PE X (.Call (.Name x p) (e :: es) [] pos) (tCB r t) := by
  intro pins s σ H Q I h
  refine wpAny_Call_Name_kw (ld_blt I hg hm hv ?_ hn hdb)
  exact PyProof.Rows.callWith_type1 (thn (ha pos pins s σ H _ I h) fun us s1 ⟨vs, H1, I1, r1, q1⟩ => hc pins s1 σ H1 vs us Q I1 r1 q1) he hpl
end
end L2

namespace HT
open PySem PyProof.Rows

theorem rcLt_int (A : Around) (s : Shared) (a : Int) (t : Tok) (c : Int) (u : Tok) (prog : Program) (w : World) (E : Value → Shared → Prop) (Q : Value → Shared → Prop) (h : Q (.bool (decide (a < c))) s) :
    wpAny (model prog w) A (richCompare .Lt (.int a t) (.int c u)) Q E s :=
  (PyProof.Rows.lt_int h : wpAny (model prog w) A (compareOp .Lt (.int a t) (.int c u)) Q E s)

section
open PySem.SeqAt
open PySem.AutoSeq1 (wpAny_loadPart')
open PySem.MeetsSeq PySem.MeetsSeq2 PySem.MeetsSeq3

end

section
variable {prog : Program} {w : World} {A : Around} {E : Value → Shared → Prop} {s : Shared}

/-- t + u, t not empty -/
theorem cat_tup {t b : Addr} {vs ws : List Value} {Q : Value → Shared → Prop} (ht : IsTup s.heap t vs.toArray) (hb : IsTup s.heap b ws.toArray) (hv : vs ≠ [])
    (h1 : ws = [] → Q (.ref t) s) (h2 : ws ≠ [] → Q (.ref s.heap.objs.size) { s with heap := s.heap.push { cls := .type "tuple", data := .seq (vs ++ ws).toArray } })
    (hsz : vs.length + ws.length ≤ sizeLine) : wpAny (model prog w) A (binaryOp .Add (.ref t) (.ref b)) Q E s := by
  obtain ⟨⟨cls, dd, data, sl⟩, ho, hc, n, hd⟩ := id ht
  obtain ⟨⟨cls2, dd2, data2, sl2⟩, ho2, hc2, n2, hd2⟩ := id hb
  simp only at hc hd hc2 hd2
  subst hc hd hc2 hd2
  have e : vs.toArray ++ ws.toArray = (vs ++ ws).toArray := by simp
  by_cases hw : ws = []
  · exact concat_meets ⟨_, ho, rfl⟩ ⟨_, ho2, rfl⟩ noFill_tuple_add seq_tuple_add PySem.F.slot_tuple_add PySem.F.entry_tuple_add (PySem.F.args_tuple_add_2 _ _)
      (tuple_addW1 t b vs.toArray ws.toArray n n2 dd dd2 sl sl2 (by simpa using hv) (by simp [hw])) ⟨ho, ho2, h1 hw⟩
  · refine concat_meets ⟨_, ho, rfl⟩ ⟨_, ho2, rfl⟩ noFill_tuple_add seq_tuple_add PySem.F.slot_tuple_add PySem.F.entry_tuple_add (PySem.F.args_tuple_add_2 _ _)
      (tuple_addW2 t b vs.toArray ws.toArray n n2 dd dd2 sl sl2 (by simpa using hv) (by simpa using hw) (by rw [List.size_toArray, List.size_toArray]; exact hsz)) ⟨ho, ho2, ?_⟩
    rw [e]
    exact h2 hw

/-! ### t[a:b], not the whole -/
/-- a slice's bound as a place among n (d where it is left out) -/
noncomputable def sIx (n d : Nat) : Option Int → Nat
  | none => d
  | some v => if v < 0 then (v + (n : Int)).toNat else min v.toNat n
theorem sIx_none (n d : Nat) : sIx n d none = d := rfl
theorem sIx_nat (n d k : Nat) : sIx n d (some (k : Int)) = min k n := by
  show (if (k : Int) < 0 then ((k : Int) + (n : Int)).toNat else min (k : Int).toNat n) = min k n
  rw [if_neg (by omega), Int.toNat_natCast]
theorem sIx_le (n d : Nat) (hd : d ≤ n) (o : Option Int) : sIx n d o ≤ n := by
  cases o with
  | none => exact hd
  | some v =>
    show (if v < 0 then (v + (n : Int)).toNat else min v.toNat n) ≤ n
    by_cases hv : v < 0
    · rw [if_pos hv]; omega
    · rw [if_neg hv]; exact Nat.min_le_right _ _
theorem clip_eq (v : Int) (n d : Nat) : (if v < 0 then max (v + (n : Int)) 0 else min v (n : Int)) = ((sIx n d (some v) : Nat) : Int) := by
  show (if v < 0 then max (v + (n : Int)) 0 else min v (n : Int)) = (((if v < 0 then (v + (n : Int)).toNat else min v.toNat n) : Nat) : Int)
  by_cases hv : v < 0
  · simp only [if_pos hv]; omega
  · simp only [if_neg hv]; omega
theorem adjust_gen (lo hi : Option Int) (n : Nat) : Builtin.Slice.sliceAdjust lo hi 1 (n : Int) = (((sIx n 0 lo : Nat) : Int), ((sIx n n hi : Nat) : Int)) := by
  have h1 : ¬ ((1 : Int) < 0) := by omega
  unfold Builtin.Slice.sliceAdjust
  simp only [h1, if_false]
  refine Prod.ext ?_ ?_
  · cases lo with
    | none => rfl
    | some v => exact clip_eq v n 0
  · cases hi with
    | none => rfl
    | some v => exact clip_eq v n n
theorem places_gen (i j : Nat) : Builtin.Slice.slicePlaces (i : Int) (j : Int) 1 = j - i := by
  unfold Builtin.Slice.slicePlaces
  have h1 : (1 : Int) > 0 := by omega
  simp only [h1, if_true, Int.ediv_one]
  split <;> omega
theorem slicePart_ {v : Value} {o : Option Int} {Q : Option Int → Shared → Prop} (p : IsPart v o) (h : Q o s) : wpAny (model prog w) A (Builtin.Slice.slicePartIndex v) Q E s := by
  cases p with
  | none => exact slicePart_none h
  | int i t => exact slicePart_int h
theorem sliceApplied_gen {sl : Addr} {vl vu : Value} {lo hi : Option Int} {n : Nat} {Q : Int × Int × Nat → Shared → Prop} (hs : s.heap.IsSliceOf sl vl vu .none) (pl : IsPart vl lo) (pu : IsPart vu hi)
    (h : Q (((sIx n 0 lo : Nat) : Int), 1, sIx n n hi - sIx n 0 lo) s) : wpAny (model prog w) A (Builtin.Slice.sliceApplied (.ref sl) (pure (n : Int))) Q E s := by
  obtain ⟨os, hos, hcs, hds⟩ := id hs
  unfold Builtin.Slice.sliceApplied Builtin.Slice.sliceFields
  refine wpAny_bind (wpAny_bind (wpAny_field hos hds (x := vl) rfl (wpAny_bind (wpAny_field hos hds (x := vu) rfl (wpAny_bind (wpAny_field hos hds (x := .none) rfl (wpAny_pure ?_)))))))
  refine wpAny_bind (slicePart_none ?_)
  show wpAny _ _ (if ((1 : Int) == 0) = true then _ else _) _ _ s
  rw [if_neg (by decide)]
  refine wpAny_bind (slicePart_ pl (wpAny_bind (slicePart_ pu (wpAny_bind (wpAny_pure ?_)))))
  show wpAny _ _ (match Builtin.Slice.sliceAdjust lo hi 1 (n : Int) with | (lo, hi) => pure (lo, (1 : Int), Builtin.Slice.slicePlaces lo hi 1)) _ _ s
  rw [adjust_gen lo hi n]
  show wpAny _ _ (pure (((sIx n 0 lo : Nat) : Int), (1 : Int), Builtin.Slice.slicePlaces ((sIx n 0 lo : Nat) : Int) ((sIx n n hi : Nat) : Int) 1)) _ _ s
  rw [places_gen]
  exact wpAny_pure h
theorem pick_gen (xs : Array Value) (i k : Nat) : ((List.range k).filterMap fun (m : Nat) => xs[((i : Int) + (m : Int) * 1).toNat]?).toArray = ((xs.toList.drop i).take k).toArray := by
  have e : (fun (m : Nat) => xs[((i : Int) + (m : Int) * 1).toNat]?) = fun m => xs[i + m]? := by
    funext m
    have : ((i : Int) + (m : Int) * 1).toNat = i + m := by omega
    rw [this]
  rw [e]
  have := pick_run xs i k
  rw [List.filterMap_map] at this
  have e2 : ((fun x => xs[x]?) ∘ fun x => i + x) = fun m => xs[i + m]? := rfl
  rw [e2] at this
  rw [this]

theorem getItem_tuple_cut {t sl : Addr} {items : Array Value} {vl vu : Value} {lo hi : Option Int} {Q : Value → Shared → Prop} (ht : IsTup s.heap t items) (hs : s.heap.IsSliceOf sl vl vu .none) (pl : IsPart vl lo) (pu : IsPart vu hi)
    (hw : ¬ (sIx items.size 0 lo = 0 ∧ sIx items.size items.size hi = items.size))
    (h : Q (.ref s.heap.objs.size) { s with heap := s.heap.push { cls := .type "tuple", data := .seq ((items.toList.drop (sIx items.size 0 lo)).take (sIx items.size items.size hi - sIx items.size 0 lo)).toArray } })
    (hsz : items.size ≤ sizeLine) : wpAny (model prog w) A (getItem (.ref t) (.ref sl)) Q E s := by
  have htake : sizeOk (.seq ((items.toList.drop (sIx items.size 0 lo)).take (sIx items.size items.size hi - sIx items.size 0 lo)).toArray) := by
    show ((items.toList.drop (sIx items.size 0 lo)).take (sIx items.size items.size hi - sIx items.size 0 lo)).toArray.size ≤ sizeLine
    rw [List.size_toArray, List.length_take, List.length_drop, Array.length_toList]
    omega
  have hj : sIx items.size items.size hi ≤ items.size := sIx_le _ _ (Nat.le_refl _) hi
  obtain ⟨os, hos, hcs, hds⟩ := id hs
  have hTs : s.TypeIs (.ref sl) "slice" := ⟨os, hos, hcs⟩
  unfold getItem
  try with_reducible refine wpAny_holding ?_
  first | refine wpAny_bind (wpAny_pure ?_) | skip
  refine wpAny_bind (wpAny_sequenceKey ht.typeIs (by decide) ?_)
  refine wpAny_bind (wpAny_callSpecial?_slot (name := Str.ofString "__getitem__") ht.typeIs PyProof.Rows.slot_tuple_getitem
    (wpAny_call_entry PyProof.Rows.slot_tuple_getitem ht.typeIs entry_tuple_getitem ?_ (args_tuple_getitem _ _)))
  show wpAny _ _ (Builtin.Tuple.tupleItemsOf (.ref t) >>= _) _ _ s
  refine wpAny_bind (tupleItemsOf_ ht ?_)
  refine wpAny_bind (wpAny_typeOf hTs ?_)
  rw [if_pos (by decide)]
  refine wpAny_bind (sliceApplied_gen hs pl pu ?_)
  have hno : ¬ ((((sIx items.size 0 lo : Nat) : Int) == 0 && (1 : Int) == 1 && (sIx items.size items.size hi - sIx items.size 0 lo) == items.size) = true) := by
    intro q
    rw [Bool.and_eq_true, Bool.and_eq_true] at q
    have q1 : ((sIx items.size 0 lo : Nat) : Int) = 0 := eq_of_beq q.1.1
    have q2 : sIx items.size items.size hi - sIx items.size 0 lo = items.size := eq_of_beq q.2
    exact hw ⟨by omega, by omega⟩
  show wpAny _ _ (if (((sIx items.size 0 lo : Nat) : Int) == 0 && (1 : Int) == 1 && (sIx items.size items.size hi - sIx items.size 0 lo) == items.size) = true then _ else _) _ _ s
  rw [if_neg hno, pick_gen]
  first
    | exact wpAny_bind (m := Builtin.Tuple.tupleExact _) (wpAny_newObj_type (wpAny_pure ⟨_, rfl, wpAny_pure h⟩) htake)
    | exact wpAny_bind (m := Builtin.Tuple.tupleExact _) (wpAny_newObj_type (wpAny_bind (wpAny_pure (wpAny_pure ⟨_, rfl, wpAny_pure h⟩))) htake)
    | exact wpAny_bind (wpAny_bind (m := Builtin.Tuple.tupleExact _) (wpAny_newObj_type (wpAny_pure (wpAny_pure ⟨_, rfl, wpAny_pure h⟩)) htake))
    | exact wpAny_bind (wpAny_bind (m := Builtin.Tuple.tupleExact _) (wpAny_newObj_type (wpAny_pure ⟨_, rfl, wpAny_pure h⟩) htake))
end
end HT

namespace L2
open PySem PySem.Spec PyProof.Rows

/-! ### the parts of a slice -/
noncomputable abbrev TO := St → Hp → (Option Int → Hp → Prop) → Prop
/-- a slice's part (left out, or an int) -/
noncomputable def PO (X : Cx) (e : Option Expr) (t : TO) : Prop :=
  ∀ (pins : List (Addr × Obj)) (s : Shared) (σ : St) (H : Hp) (Q : Option Int → Hp → Prop), Inv X pins σ H s → t σ H Q →
    wpAny (model X.prog X.w) X.A (evalPart e X.env) (fun u s' => ∃ o H', Inv X pins σ H' s' ∧ IsPart u o ∧ Q o H') X.xe s
noncomputable def tNoPart : TO := fun _ H Q => Q none H
noncomputable def tPart (t : TE) : TO := fun σ H Q => t σ H fun x H1 => ∃ i, x = .int i ∧ Q (some i) H1

section
variable {X : Cx} {e : Expr} {te : TE} {lo hi : Option Expr} {tl th : TO} {pos p2 : Pos}

theorem po_none : PO X none tNoPart := by
  intro pins s σ H Q I h
  rw [evalPart_none]
  exact wpAny_pure ⟨none, H, I, .none, h⟩
theorem po_some (h : PE X e te) : PO X (some e) (tPart te) := by
  intro pins s σ H Q I hw
  rw [evalPart_some]
  refine thn (h pins s σ H _ I hw) fun u s1 ⟨x, H1, I1, r1, q1⟩ => ?_
  obtain ⟨i, rfl, q⟩ := q1
  obtain ⟨t, rfl⟩ := r1
  exact ⟨some i, H1, I1, .int i t, q⟩

/-- what a slice of a value is, by values: the slice object stands at sl -/
noncomputable def SlR (X : Cx) (r : V → Option Int → Option Int → Hp → VK → Prop) : Prop :=
  ∀ (pins : List (Addr × Obj)) (s : Shared) (σ : St) (H : Hp) (x : V) (v vl vu : Value) (lo hi : Option Int) (sl : Addr) (Q : VK), Inv X pins σ H s → RelV x v → s.heap.IsSliceOf sl vl vu .none → IsPart vl lo → IsPart vu hi → r x lo hi H Q →
    ∃ T id, typeLookup (.type T) "__getitem__" = pure (some (.builtin id)) ∧ s.TypeIs v T ∧ wpAny (model X.prog X.w) X.A (getItem v (.ref sl)) (EP X pins σ Q) X.xe s
theorem SlR.or {r r' : V → Option Int → Option Int → Hp → VK → Prop} (h : SlR X r) (h' : SlR X r') : SlR X (fun x lo hi H Q => r x lo hi H Q ∨ r' x lo hi H Q) := by
  intro pins s σ H x v vl vu lo hi sl Q I rx hs pl pu q
  rcases q with q | q
  · exact h pins s σ H x v vl vu lo hi sl Q I rx hs pl pu q
  · exact h' pins s σ H x v vl vu lo hi sl Q I rx hs pl pu q
noncomputable def tSl (r : V → Option Int → Option Int → Hp → VK → Prop) (te : TE) (tl th : TO) : TE := fun σ H Q => te σ H fun x H1 => tl σ H1 fun l H2 => th σ H2 fun u H3 => r x l u H3 Q
/-- a[lo:hi], any a -/
theorem pe_slice {r : V → Option Int → Option Int → Hp → VK → Prop} (hr : SlR X r) (he : PE X e te) (hl : PO X lo tl) (hu : PO X hi th) : PE X (.Subscript e (.Slice lo hi none p2) pos) (tSl r te tl th) := by
  intro pins s σ H Q I h
  refine Subscript_ (thn (he pins s σ H _ I h) fun v s1 ⟨x, H1, I1, r1, q1⟩ => ?_)
  refine wpAny_Slice (thn (hl pins s1 σ H1 _ I1 q1) fun vl s2 ⟨l, H2, I2, pl, q2⟩ => thn (hu pins s2 σ H2 _ I2 q2) fun vu s3 ⟨u, H3, I3, pu, q3⟩ => ?_)
  rw [evalPart_none]
  refine wpAny_pure ?_
  have I4 : Inv X pins σ H3 { s3 with heap := s3.heap.push { cls := .type "slice", data := .fields #[vl, vu, .none] } } := I3.kept (t' := s3.toks) fun b ob q => Heap.get?_push_of_some _ q
  obtain ⟨T, id, hT, ht, hg⟩ := hr pins { s3 with heap := s3.heap.push { cls := .type "slice", data := .fields #[vl, vu, .none] } } σ H3 x v vl vu l u s3.heap.objs.size Q I4 r1 (Heap.IsSliceOf.new ..) pl pu q3
  show wpAny (model X.prog X.w) X.A (subscriptTail e (.Slice lo hi none p2) v (.ref s3.heap.objs.size)) (EP X pins σ Q) X.xe { s3 with heap := s3.heap.push { cls := .type "slice", data := .fields #[vl, vu, .none] } }
  exact tail_any (ops := [.ref s3.heap.objs.size, v]) ht hT hg (by with_unfolding_all rfl)

/-- the items of xs[lo:hi] -/
noncomputable def cutV (xs : List V) (lo hi : Option Int) : List V := (xs.drop (HT.sIx xs.length 0 lo)).take (HT.sIx xs.length xs.length hi - HT.sIx xs.length 0 lo)
theorem cutV_length (xs : List V) (lo hi : Option Int) : (cutV xs lo hi).length ≤ xs.length := by
  unfold cutV
  rw [List.length_take, List.length_drop]
  omega
/-- t[lo:hi], not the whole of it (the whole would be t itself) -/
noncomputable def rSlT (K : PySem.W.Frag) : V → Option Int → Option Int → Hp → VK → Prop := fun x lo hi H Q => ∃ a xs, x = .ref a ∧ SqT K H a xs ∧
  ¬ (HT.sIx xs.length 0 lo = 0 ∧ HT.sIx xs.length xs.length hi = xs.length) ∧ ∀ p, H p = none → Q (.ref p) (upd H p (.tup (cutV xs lo hi)))
theorem sl_tup : SlR X (rSlT X.K) := by
  intro pins s σ H x v vl vu lo hi sl Q I rx hs pl pu h
  obtain ⟨a, xs, rfl, hx, hw, q⟩ := h
  cases rx
  obtain ⟨its, r, ht, hz⟩ := I.tuple hx
  have hlen : its.toArray.size = xs.length := by rw [List.size_toArray]; exact r.length.symm
  refine ⟨"tuple", _, PyProof.Rows.slot_tuple_getitem.lookup, ht.typeIs, ?_⟩
  refine HT.getItem_tuple_cut ht hs pl pu (by rw [hlen]; exact hw) ?_ (by rw [hlen]; exact hz)
  rw [hlen]
  refine ⟨.ref s.heap.objs.size, _, I.laid (t' := s.toks) (o := .tup (cutV xs lo hi)) (fun b ob q => Heap.get?_push_of_some _ q) (Nat.le_refl _) ?_, rfl, q _ (I.hok.fresh (Nat.le_refl _))⟩
  exact ⟨Nat.le_trans (cutV_length xs lo hi) hz, _, (r.drop (HT.sIx xs.length 0 lo)).take (HT.sIx xs.length xs.length hi - HT.sIx xs.length 0 lo), IsTup.new _ _⟩

/-! ### t < u, t + u -/
/-- t + u, t not empty: u empty gives t itself -/
noncomputable def rCatT (K : PySem.W.Frag) : R2 := fun x y H Q => ∃ a b xs ys, x = .ref a ∧ y = .ref b ∧ SqT K H a xs ∧ SqT K H b ys ∧ xs ≠ [] ∧ xs.length + ys.length ≤ sizeLine ∧
  (ys = [] → Q (.ref a) H) ∧ (ys ≠ [] → ∀ p, H p = none → Q (.ref p) (upd H p (.tup (xs ++ ys))))
theorem Vals.nil_iff {xs : List V} {us : List Value} (r : Vals xs us) : us = [] ↔ xs = [] := by
  cases r with
  | nil => simp
  | cons _ _ => simp
theorem op_catT : OpR X (binaryOp .Add) (rCatT X.K) := by
  intro pins s σ H x y v u Q I rx ry h
  obtain ⟨a, b, xs, ys, rfl, rfl, ha, hb, hx, hz, q1, q2⟩ := h
  cases rx
  cases ry
  obtain ⟨its, r1, p1, _⟩ := I.tuple ha
  obtain ⟨its2, r2, p2, _⟩ := I.tuple hb
  refine HT.cat_tup p1 p2 (fun z => hx (r1.nil_iff.mp z)) (fun z => ⟨.ref a, H, I, rfl, q1 (r2.nil_iff.mp z)⟩) (fun z => ?_) (by rw [← r1.length, ← r2.length]; exact hz)
  refine ⟨.ref s.heap.objs.size, _, I.laid (t' := s.toks) (o := .tup (xs ++ ys)) (fun b ob q => Heap.get?_push_of_some _ q) (Nat.le_refl _) ?_, rfl, q2 (fun w => z (r2.nil_iff.mpr w)) _ (I.hok.fresh (Nat.le_refl _))⟩
  exact ⟨by rw [List.length_append]; exact hz, _, r1.append r2, IsTup.new _ _⟩
end
end L2

namespace L2
open PySem PySem.Spec PyProof.Rows

/-! ### places -/
/-- the place that an index of any sign means -/
noncomputable def ixN (n : Nat) (i : Int) : Option Nat := if 0 ≤ i then (if i < n then some i.toNat else none) else if -(n : Int) ≤ i then some (i + n).toNat else none
noncomputable def atI {α : Type} (xs : List α) (i : Int) : Option α := (ixN xs.length i).bind fun j => xs[j]?
theorem ixN_seq {n : Nat} {i : Int} {j : Nat} (h : ixN n i = some j) : seqIndex? i n = some j ∧ j < n ∧ -(n : Int) ≤ i ∧ i < n := by
  unfold ixN at h
  by_cases h0 : 0 ≤ i
  · rw [if_pos h0] at h
    by_cases h1 : i < n
    · rw [if_pos h1] at h
      have e : i.toNat = j := Option.some.inj h
      exact ⟨by rw [seqIndex_of h0 h1, e], by omega, by omega, h1⟩
    · rw [if_neg h1] at h; cases h
  · rw [if_neg h0] at h
    by_cases h1 : -(n : Int) ≤ i
    · rw [if_pos h1] at h
      have e : (i + n).toNat = j := Option.some.inj h
      exact ⟨by rw [seqIndex_neg (by omega) h1, e], by omega, h1, by omega⟩
    · rw [if_neg h1] at h; cases h
theorem atI_get {α : Type} {xs : List α} {i : Int} {v : α} (h : atI xs i = some v) : ∃ j, seqIndex? i xs.length = some j ∧ xs[j]? = some v ∧ j < xs.length ∧ -(xs.length : Int) ≤ i ∧ i < xs.length := by
  unfold atI at h
  cases e : ixN xs.length i with
  | none => rw [e] at h; cases h
  | some j =>
    rw [e] at h
    obtain ⟨h1, h2, h3, h4⟩ := ixN_seq e
    exact ⟨j, h1, h, h2, h3, h4⟩
theorem atI_nat {α : Type} {xs : List α} {j : Nat} {v : α} (h : xs[j]? = some v) : atI xs (j : Int) = some v := by
  have hj : j < xs.length := (List.getElem?_eq_some_iff.mp h).1
  have e : ixN xs.length (j : Int) = some j := by
    unfold ixN
    rw [if_pos (by omega), if_pos (by omega)]; simp
  unfold atI; rw [e]; exact h
/-! ### what may be subscripted -/
/-- what stands as an index of a plain subscript -/
noncomputable def PlainIx (b : Expr) : Prop := ∀ o i, subscripted b false o i = operate [o, i] (getItem o i)
/-- a subscript by values -/
noncomputable def IxR (X : Cx) (r : R2) : Prop :=
  ∀ (value slice : Expr) (pins : List (Addr × Obj)) (s : Shared) (σ : St) (H : Hp) (x y : V) (v u : Value) (Q : VK), Inv X pins σ H s → RelV x v → RelV y u → r x y H Q →
    subscripted slice false v u = operate [v, u] (getItem v u) → wpAny (model X.prog X.w) X.A (subscriptTail value slice v u) (EP X pins σ Q) X.xe s
/-- a call of a builtin's method by values: the receiver, the arguments -/
noncomputable def MtR (X : Cx) (id : String) (r : V → List V → Hp → VK → Prop) : Prop :=
  ∀ (pins : List (Addr × Obj)) (s : Shared) (σ : St) (H : Hp) (x : V) (xs : List V) (v : Value) (us : List Value) (Q : VK), Inv X pins σ H s → RelV x v → Vals xs us → r x xs H Q →
    wpAny (model X.prog X.w) X.A (call (.builtin id) (v :: us)) (EP X pins σ Q) X.xe s
section
variable {X : Cx} {a b : Expr} {ta tb : TE} {pos : Pos}
theorem IxR.or {r r' : R2} (h : IxR X r) (h' : IxR X r') : IxR X (fun x y H Q => r x y H Q ∨ r' x y H Q) := by
  intro value slice pins s σ H x y v u Q I rx ry q hs
  rcases q with q | q
  · exact h value slice pins s σ H x y v u Q I rx ry q hs
  · exact h' value slice pins s σ H x y v u Q I rx ry q hs
theorem MtR.or {id : String} {r r' : V → List V → Hp → VK → Prop} (h : MtR X id r) (h' : MtR X id r') : MtR X id (fun x xs H Q => r x xs H Q ∨ r' x xs H Q) := by
  intro pins s σ H x xs v us Q I rx rs q
  rcases q with q | q
  · exact h pins s σ H x xs v us Q I rx rs q
  · exact h' pins s σ H x xs v us Q I rx rs q
/-- a[b] -/
theorem pe_ix {r : R2} (hr : IxR X r) (ha : PE X a ta) (hb : PE X b tb) (hs : PlainIx b) : PE X (.Subscript a b pos) (tOp r ta tb) := by
  intro pins s σ H Q I h
  exact Subscript_ (binT ha hb I h fun v u s2 x y H2 I2 rx ry q => hr a b pins s2 σ H2 x y v u Q I2 rx ry q (hs _ _))

noncomputable def rIxL (K : PySem.W.Frag) : R2 := fun x y H Q => ∃ p xs i v, x = .ref p ∧ y = .int i ∧ SqL K H p xs ∧ atI xs i = some v ∧ Q v H
noncomputable def rIxT (K : PySem.W.Frag) : R2 := fun x y H Q => ∃ p xs i v, x = .ref p ∧ y = .int i ∧ SqT K H p xs ∧ atI xs i = some v ∧ Q v H
noncomputable def rIxS : R2 := fun x y H Q => ∃ z i c, x = .str z ∧ y = .int i ∧ z.length ≤ sizeLine ∧ atI z.cps.toList i = some c ∧ Q (.str ⟨#[c]⟩) H
theorem ix_list : IxR X (rIxL X.K) := by
  intro value slice pins s σ H x y v u Q I rx ry h hs
  obtain ⟨p, xs, i, z, rfl, rfl, hq, he, q⟩ := h
  cases rx
  obtain ⟨t, rfl⟩ := ry
  obtain ⟨its, r, pl, hz⟩ := I.list hq
  obtain ⟨j, h1, h2, h3, h4, h5⟩ := atI_get he
  obtain ⟨w, ew, rw'⟩ := r.get h2
  have hl := r.length
  have hn := line63
  have fin : EP X pins σ Q w s := ⟨z, H, I, rw', q⟩
  by_cases h0 : 0 ≤ i
  · have hj : i.toNat = j := by
      rw [seqIndex_of h0 h5] at h1
      exact Option.some.inj h1
    exact item_listR pl.isList h0 (by omega) (by rw [hj]; simpa using ew) fin hs
  · have hj : (i + (its.toArray.size : Int)).toNat = j := by
      rw [seqIndex_neg (by omega) h4] at h1
      rw [List.size_toArray, ← hl]
      exact Option.some.inj h1
    exact subscriptTail_builtinR (x := w) pl.isList.typeIs slot_list_getitem.lookup
      (wpAny_getItem_list_neg (Q := fun r s' => r = w ∧ EP X pins σ Q r s') pl.isList (by omega) (by rw [List.size_toArray] <;> omega) (by omega) (by rw [hj]; simpa using ew) ⟨rfl, fin⟩) hs
theorem ix_tup : IxR X (rIxT X.K) := by
  intro value slice pins s σ H x y v u Q I rx ry h hs
  obtain ⟨p, xs, i, z, rfl, rfl, hq, he, q⟩ := h
  cases rx
  obtain ⟨t, rfl⟩ := ry
  obtain ⟨its, r, pl, hz⟩ := I.tuple hq
  obtain ⟨j, h1, h2, h3, h4, h5⟩ := atI_get he
  obtain ⟨w, ew, rw'⟩ := r.get h2
  have hl := r.length
  have hn := line63
  have fin : EP X pins σ Q w s := ⟨z, H, I, rw', q⟩
  exact subscriptTail_builtinR (x := w) pl.typeIs slot_tuple_getitem.lookup
    (getItem_tuple (j := j) (Q := fun r s' => r = w ∧ EP X pins σ Q r s') pl (by omega) (by omega) (by rw [List.size_toArray, ← hl]; exact h1) (by simpa using ew) ⟨rfl, fin⟩) hs
theorem ix_str : IxR X rIxS := by
  intro value slice pins s σ H x y v u Q I rx ry h hs
  obtain ⟨z, i, c, rfl, rfl, hz, he, q⟩ := h
  obtain ⟨t, rfl⟩ := rx
  obtain ⟨t', rfl⟩ := ry
  obtain ⟨j, h1, h2, h3, h4, h5⟩ := atI_get he
  have hl : z.cps.toList.length = z.length := by simp [Str.length]
  rw [hl] at h1 h4 h5
  have hn := line63
  exact tail_any (typeIs_str s z t) slot_str_getitem.lookup (getItem_str (c := c) (by
    have e1 : decide (i < -(2 ^ 63 : Int)) = false := decide_eq_false (by omega)
    have e2 : decide (i ≥ 2 ^ 63) = false := decide_eq_false (by omega)
    rw [e1, e2, Bool.or_false]) (by rw [h1]; simpa using h2) ⟨.str ⟨#[c]⟩, H, I.tok _, ⟨_, rfl⟩, q⟩) hs
/-! ### xs[i] = v, any sign -/
theorem Inv.lst {pins : List (Addr × Obj)} {σ : St} {H : Hp} {s : Shared} {p : Addr} {xs : List V} (I : Inv X pins σ H s) (h : H p = some (.lst xs)) :
    ∃ (its : List Value) (n : Nat), Vals xs its ∧ s.heap.get? p = some { cls := .type "list", data := .seq its.toArray n } ∧ xs.length ≤ sizeLine := by
  obtain ⟨z, its, n, r, e⟩ := I.hok p _ h
  exact ⟨its, n, r, e, z⟩
/-! ### slices -/
theorem slice_bounds (lo hi : Option Int) (n : Nat) : (sliceBounds lo hi none n).1 = ((HT.sIx n 0 lo : Nat) : Int) ∧ (sliceBounds lo hi none n).2.1 = ((HT.sIx n n hi : Nat) : Int) ∧ (sliceBounds lo hi none n).2.2 = 1 := by
  refine ⟨?_, ?_, rfl⟩
  · cases lo with
    | none => simp [sliceBounds, HT.sIx]
    | some i =>
      simp only [sliceBounds, HT.sIx, Option.getD_none, show (1 : Int) > 0 by decide, if_true]
      by_cases h : i < 0
      · simp only [h, if_true] <;> omega
      · simp only [h, if_false] <;> omega
  · cases hi with
    | none => simp [sliceBounds, HT.sIx]
    | some i =>
      simp only [sliceBounds, HT.sIx, Option.getD_none, show (1 : Int) > 0 by decide, if_true]
      by_cases h : i < 0
      · simp only [h, if_true] <;> omega
      · simp only [h, if_false] <;> omega
theorem slicePick_cut (its : List Value) (lo hi : Option Int) : slicePick its.toArray lo hi none = ((its.drop (HT.sIx its.length 0 lo)).take (HT.sIx its.length its.length hi - HT.sIx its.length 0 lo)).toArray := by
  obtain ⟨h1, h2, h3⟩ := slice_bounds lo hi its.toArray.size
  unfold slicePick
  rw [h1, h2, h3]
  simp only [sliceRange_one, pick_run, List.size_toArray] <;> rfl
/-- xs[lo:hi] of a list: a new list -/
noncomputable def rSlL (K : PySem.W.Frag) : V → Option Int → Option Int → Hp → VK → Prop := fun x lo hi H Q => ∃ a xs, x = .ref a ∧ SqL K H a xs ∧ ∀ p, H p = none → Q (.ref p) (upd H p (.lst (cutV xs lo hi)))
theorem sl_list : SlR X (rSlL X.K) := by
  intro pins s σ H x v vl vu lo hi sl Q I rx hs pl pu h
  obtain ⟨a, xs, rfl, hx, q⟩ := h
  cases rx
  obtain ⟨its, r, ht, hz⟩ := I.list hx
  have hlen := r.length
  refine ⟨"list", _, slot_list_getitem.lookup, ht.isList.typeIs, ?_⟩
  refine wpAny_getItem_list_slice ht.isList hs pl pu .none (by simp) ?_ (by rw [List.size_toArray] <;> omega)
  rw [slicePick_cut, ← hlen]
  refine ⟨.ref s.heap.objs.size, _, I.laid (t' := s.toks) (o := .lst (cutV xs lo hi)) (fun b ob q => Heap.get?_push_of_some _ q) (Nat.le_refl _) ?_, rfl, q _ (I.hok.fresh (Nat.le_refl _))⟩
  exact ⟨Nat.le_trans (cutV_length xs lo hi) hz, _, 0, (r.drop (HT.sIx xs.length 0 lo)).take (HT.sIx xs.length xs.length hi - HT.sIx xs.length 0 lo), Heap.get?_push_size _ rfl⟩

/-! ### in, not in: flat items -/
/-! ### len, list(x), tuple(x) of any list or tuple that is read -/
theorem call_len_seq : CallR X (.builtin "len") (fun xs H Q => ∃ p ys, xs = [.ref p] ∧ (SqL X.K H p ys ∨ SqT X.K H p ys) ∧ Q (.int ys.length) H) := by
  intro pins s σ H xs us Q I r h
  obtain ⟨p, ys, rfl, hq, q⟩ := h
  obtain ⟨u, rfl, rx⟩ := vals1 r
  cases rx
  have hn := line63
  rcases hq with hq | hq
  · obtain ⟨its, r', pl, hz⟩ := I.list hq
    have hlen := r'.length
    exact Calls.call_len_list pl.isList (by simp only [List.size_toArray] <;> omega) ⟨.int ys.length, H, I.tok _, ⟨s.toks + 1, by rw [List.size_toArray, hlen]⟩, q⟩
  · obtain ⟨its, r', pl, hz⟩ := I.tuple hq
    have hlen := r'.length
    exact len_tuple pl (by simp only [List.size_toArray] <;> omega) ⟨.int ys.length, H, I.tok _, ⟨s.toks + 1, by rw [List.size_toArray, hlen]⟩, q⟩
theorem call_len_str : CallR X (.builtin "len") (fun xs H Q => ∃ z, xs = [.str z] ∧ z.length ≤ sizeLine ∧ Q (.int z.length) H) := by
  intro pins s σ H xs us Q I r h
  obtain ⟨z, rfl, hz, q⟩ := h
  obtain ⟨u, rfl, t, rfl⟩ := vals1 r
  have hn := line63
  exact len_str (by omega) ⟨.int z.length, H, I.tok _, ⟨_, rfl⟩, q⟩
theorem CallR.or {f : Value} {r r' : List V → Hp → VK → Prop} (h : CallR X f r) (h' : CallR X f r') : CallR X f (fun xs H Q => r xs H Q ∨ r' xs H Q) := by
  intro pins s σ H xs us Q I rs q
  rcases q with q | q
  · exact h pins s σ H xs us Q I rs q
  · exact h' pins s σ H xs us Q I rs q
theorem call_list_of : CallR X (.type "list") (fun xs H Q => ∃ p ys, xs = [.ref p] ∧ (SqL X.K H p ys ∨ SqT X.K H p ys) ∧ ∀ l, H l = none → Q (.ref l) (upd H l (.lst ys))) := by
  intro pins s σ H xs us Q I r h
  obtain ⟨p, ys, rfl, hq, q⟩ := h
  obtain ⟨u, rfl, rx⟩ := vals1 r
  cases rx
  have fin : ∀ (its : List Value), Vals ys its → ys.length ≤ sizeLine → ∀ (h' : Heap) (c' : Nat), (∀ b o', s.heap.get? b = some o' → h'.get? b = some o') →
      h'.get? s.heap.objs.size = some { cls := .type "list", dict := none, data := .seq its.toArray c', slots := #[] } → EP X pins σ Q (.ref s.heap.objs.size) { s with heap := h' } := fun its r' hz h' c' kp e =>
    ⟨.ref s.heap.objs.size, _, I.laid (t' := s.toks) kp (Nat.le_refl _) (show ObjOk X.prog X.w _ h' _ (.lst ys) from ⟨hz, its, c', r', e⟩), rfl, q _ (I.hok.fresh (Nat.le_refl _))⟩
  rcases hq with hq | hq
  · obtain ⟨its, r', pl, hz⟩ := I.list hq
    have hlen := r'.length
    obtain ⟨o, ho, hc, n, hd⟩ := pl.isList
    exact call_list_seq p (.inl rfl) ho hc hd (fun h' c' kp e => fin its r' hz h' c' kp e) (by simp only [List.size_toArray] <;> omega)
  · obtain ⟨its, r', pl, hz⟩ := I.tuple hq
    have hlen := r'.length
    obtain ⟨o, ho, hc, n, hd⟩ := pl
    exact call_list_seq p (.inr rfl) ho hc hd (fun h' c' kp e => fin its r' hz h' c' kp e) (by simp only [List.size_toArray] <;> omega)
theorem call_tuple_of : CallR X (.type "tuple") (fun xs H Q => ∃ p ys, xs = [.ref p] ∧ ((SqL X.K H p ys ∧ ∀ l, H l = none → Q (.ref l) (upd H l (.tup ys))) ∨ (SqT X.K H p ys ∧ Q (.ref p) H))) := by
  intro pins s σ H xs us Q I r h
  obtain ⟨p, ys, rfl, h⟩ := h
  obtain ⟨u, rfl, rx⟩ := vals1 r
  cases rx
  rcases h with ⟨hq, q⟩ | ⟨hq, q⟩
  · obtain ⟨its, r', pl, hz⟩ := I.list hq
    have hlen := r'.length
    refine call_tuple_list pl.isList (fun h' kp => ?_) (by simp only [List.size_toArray] <;> omega)
    have I1 : Inv X pins σ H { s with heap := h' } := I.kept (t' := s.toks) kp
    have I2 : Inv X pins σ (upd H h'.objs.size (.tup ys)) { s with heap := h'.push { cls := .type "tuple", data := .seq its.toArray } } :=
      I1.laid (t' := s.toks) (fun b o e => Heap.get?_push_of_some _ e) (Nat.le_refl _) (show ObjOk X.prog X.w _ _ _ (.tup ys) from ⟨hz, its, r', IsTup.new _ _⟩)
    exact ⟨.ref h'.objs.size, _, I2, rfl, q _ (I1.hok.fresh (Nat.le_refl _))⟩
  · obtain ⟨its, r', pl, hz⟩ := I.tuple hq
    exact call_tuple_same pl ⟨.ref p, H, I, rfl, q⟩

/-! ### the call of a builtin's method: o.m(..) -/
variable {o e : Expr} {es : List Expr} {to : TE} {t : TA} {name : Str} {apos cpos : Pos} {T id : String} {r : V → List V → Hp → VK → Prop}
/- xs.append(e), list.index on a module's tuple .. are MtR facts of 06m -/
end
end L2

namespace L2
open PySem PySem.Spec PyProof.Rows

/-! ### lists of values -/
theorem Vals.one : ∀ {x : V} {us : List Value}, Vals [x] us → ∃ u, us = [u] ∧ RelV x u
  | x, us, h => by cases h with | cons r t => cases t; exact ⟨_, rfl, r⟩
theorem Vals.two : ∀ {x y : V} {us : List Value}, Vals [x, y] us → ∃ u v, us = [u, v] ∧ RelV x u ∧ RelV y v
  | x, y, us, h => by cases h with | cons r t => cases t with | cons q t => cases t; exact ⟨_, _, rfl, r, q⟩
theorem Vals.zero : ∀ {us : List Value}, Vals [] us → us = []
  | _, .nil => rfl
theorem Vals.eraseIdx : ∀ {xs : List V} {us : List Value} (i : Nat), Vals xs us → Vals (xs.eraseIdx i) (us.eraseIdx i)
  | _, _, _, .nil => .nil
  | _, _, 0, .cons _ t => t
  | _, _, i + 1, .cons r t => .cons r (Vals.eraseIdx i t)
theorem Vals.reverse {xs : List V} {us : List Value} (h : Vals xs us) : Vals xs.reverse us.reverse := by
  induction h with
  | nil => exact .nil
  | cons r t ih => rw [List.reverse_cons, List.reverse_cons]; exact Vals.append ih (.cons r .nil)
section
variable {X : Cx} {pins : List (Addr × Obj)} {σ : St} {H : Hp} {s : Shared} {l b : Addr} {xs ys zs : List V}

/-! ### the two steps: a tracked list is rewritten, a new list is laid -/
theorem Inv.lnew {its : List Value} {t' : Nat} (I : Inv X pins σ H s) (hv : Vals ys its) (hz : ys.length ≤ sizeLine) :
    Inv X pins σ (upd H s.heap.objs.size (.lst ys)) { s with heap := s.heap.push { cls := .type "list", data := .seq its.toArray }, toks := t' } :=
  I.laid (fun _ _ q => Heap.get?_push_of_some _ q) (Nat.le_refl _) ⟨hz, its, 0, hv, Heap.get?_push_size _ rfl⟩
theorem Inv.fresh (I : Inv X pins σ H s) : H s.heap.objs.size = none := I.hok.fresh (Nat.le_refl _)
end

section
variable {X : Cx}

/-! ### methods -/
/-! ### list + list, list += list, list * int -/
/-! ### del xs[i] -/
end

/-! ### xs[a:b] = ys -/
section
variable {prog : Program} {w : World} {A : Around} {E : Value → Shared → Prop} {s : Shared}
end

section
variable {X : Cx}
end
end L2

namespace Att
open PySem PySem.W PySem.Calls PyProof.Rows

/-! ### the script -/
theorem ints_of_wellAll {P : Params} {h : Heap} : ∀ (ns : List Int) (vs : List Value), WellAll P h vs (ns.map WData.int) → IntsAre vs ns := by
  intro ns
  induction ns with
  | nil =>
    intro vs w
    rw [List.map_nil] at w
    cases w
    exact .nil
  | cons n ns ih =>
    intro vs w
    rw [List.map_cons] at w
    cases w with
    | cons a b =>
      cases a
      exact .cons _ _ (ih _ b)

theorem script_of {l : OpenLaw} {n : Nat} (hn : l.most = some n) {P : Params} {h : Heap} {args : List WData} {vals : List Value}
    (hpre : l.row.toRowW.claim.pre args = true) (hwl : WellAll P h vals args) :
    ∃ a vs ns, vals = [Value.ref a] ∧ args = [WData.list (ns.map WData.int)] ∧ h.get? a = some { cls := .type "list", data := .seq vs.toArray } ∧ IntsAre vs ns ∧ ns.length ≤ n := by
  have hsh : WShape.hasAll [] args [.list .int] = true := (pre_splitW hpre).1
  have hc : l.pre.holds [] { args := args } = true := (pre_splitW hpre).2
  obtain ⟨d, r, rfl, h1, h2⟩ := hasAllW_cons hsh
  obtain rfl := hasAllW_nil h2
  obtain ⟨xs, rfl, h3⟩ := hasW_list h1
  obtain ⟨ns, rfl⟩ := items_int h3
  have hlen : ns.length ≤ n := by
    unfold OpenLaw.pre at hc
    have h4 : (WTm.not (.lt (.lit (.int (n : Int))) (.len (.arg 0)))).holds [] { args := [.list (ns.map .int)] } = true := by
      have h4 := (holds_andW hc).1
      rw [hn] at h4
      exact h4
    have h5 := condW_of h4 (w_not (w_lt w_lit (w_len_list (w_arg rfl))))
    rw [List.length_map] at h5
    refine Nat.le_of_not_lt fun q => ?_
    have q' : (n : Int) < ((ns.length : Nat) : Int) := by omega
    first
      | (rw [decide_eq_true q'] at h5; exact absurd h5 (by decide))
      | (simp at h5; omega)
  cases hwl with
  | cons w1 w2 =>
    cases w2
    cases w1 with
    | list ho hall => exact ⟨_, _, ns, rfl, rfl, ho, ints_of_wellAll ns _ hall, hlen⟩

theorem post_true (l : OpenLaw) (args : List WData) : l.row.toRowW.claim.post args (.bool true) args = true :=
  postW_of (r := l.row.toRowW) (X := (true == true))
    (show WShape.has [] (.bool true) .bool = true by first | rfl | decide | simp [WShape.has, WShape.arms, WShape.armsAll])
    (show (WTm.eq .res (.lit (.bool true))).value [] { args := args, res := some (.bool true), after := args } = some (.bool (true == true)) from w_eq_bool (w_res rfl) w_lit) rfl

/-! ### the attachment: holds_open's last premise (the goal 'hc' behind k_head) from a wpAny of the law's body -/
/-- the same from a codeAny of the CALL (for a layer whose function contracts speak of calls) -/
theorem attach_call {l : OpenLaw} {n : Nat} {q : Program} {loose : List Str} {XP : (Str → Option Value) → Heap → Prop} {YP : World → Heap → Prop} {d : DefRec}
    (hn : l.most = some n) (hdf : d.params.defaults = [])
    (call : ∀ (w : World) (s₀ s₁ : Shared) (mg mb : Str → Option Value) (fa : Addr) (o : Obj) (pm cd doc : Value) (a : Addr) (vs : List Value) (ns : List Int),
      Ground q loose [] XP w s₀ mg mb s₁.heap → YP w s₁.heap →
      s₁.heap.get? fa = some o → o.data = .func (docDef d.name d.params d.body d.scope pm cd doc) → s₁.heap.CodeRec cd d.name → mg d.name = some (.ref fa) →
      s₁.heap.get? a = some { cls := .type "list", data := .seq vs.toArray } → IntsAre vs ns → ns.length ≤ n → s₁.gens = #[] →
      codeAny (model l.prog w) callerA (.call (.ref fa) ⟨[.ref a], []⟩) (fun r s' => r = .ok (.ret (.bool true)) ∧ OldK s₁.heap s'.heap ∧ s'.os = s₁.os ∧ AllBare s'.gens) s₁) :
    WalkO q loose XP YP l.row.toRowW d [] (fun f vs => PySem.call f vs) := by
  intro w s₀ s₁ mg mb G Y fa o pm cd doc dV kV ho hd hcd hD hmg hg args vals as hpre hlay hrd hwl hlo
  obtain rfl : dV = .none := Dflts.none hD hdf
  obtain rfl : kV = .none := Dflts.noKw hD
  obtain ⟨a, vs, ns, rfl, rfl, hobj, hints, hlen⟩ := script_of hn hpre hwl
  refine enter_call (codeAny_mono (call w s₀ s₁ mg mb fa o pm cd doc a vs ns G Y ho (fd_plain hd) hcd hmg hobj hints hlen hg) fun r s' hq => ?_)
  obtain ⟨rfl, h2, h3, h4⟩ := hq
  exact ⟨.inl ⟨.bool true, .bool true, [], rfl, fun _ => rfl, .bool true, post_true l _, fun _ => ⟨List.Pairwise.nil, fun _ hm => (nomatch hm)⟩⟩, h2, h3, h4⟩

/-! ### rules over ANY heap (no ledger) from facts about the written part K: the library's own take a ledger (News) for what they write -/
section
variable {prog : Program} {w : World} {A : Around} {E : Value → Shared → Prop} {s : Shared} {K : Frag}

/-! the whole heap as the ledger: makes every rule that writes through a ledger a rule over any heap -/
end
end Att

namespace L2
open PySem PySem.Spec PyProof.Rows

theorem vals_ints : ∀ {vs : List Value} {ns : List Int}, IntsAre vs ns → Vals (ns.map V.int) vs
  | _, _, .nil => .nil
  | _, _, .cons n t h => .cons ⟨t, rfl⟩ (vals_ints h)

/-- nothing is tracked but the script, known to the object (or it is an object of the module) -/
noncomputable def Only (H : Hp) : Prop := ∀ b, H b = none ∨ ∃ o xs, H b = some (.frz o (.lst xs))

/-- THE HEAD: the law's promise, at the heap behind the top. F, the promise of the law's def, may use that base is part of the heap (so K.In base, base.Ns mainGlobals mg stand in Mod) -/
theorem law_call {P : Program} {w : World} {K : PySem.W.Frag} {mg mb : Str → Option Value} {CX : CXT} {k : Nat} {fa a : Addr} {fd : FuncData} {x : Str} {sp : Sp} {s₁ : Shared} {vs : List Value} {ns : List Int}
    (KX : K.In s₁.heap) (hns : s₁.heap.Ns mainGlobals mg) (hb : s₁.heap.Ns builtinsNs mb) (hbb : ∀ x : Str, x ≠ "__name__" → mb x = bootBuiltins x) (hlim : s₁.heap.NoLimit) (hg : s₁.gens = #[])
    (ha : s₁.heap.get? a = some { cls := .type "list", data := .seq vs.toArray }) (hi : IntsAre vs ns) (hl : ns.length ≤ sizeLine) (hr : Room k callerA)
    (F : ∀ base : Heap, K.In base → base.Ns mainGlobals mg → FnOk P w K mg base CX k fa fd [x] sp) (hbind : ∀ (s : Shared) (u : Value), BindsTo s fd ⟨[u], []⟩ [(x, u)])
    (hsp : ∀ H : Hp, Only H → SqL K H a (ns.map V.int) → sp [.ref a] H (fun v _ => v = .bl true) fun _ _ _ => False)
    (hCX : ∀ H e s', CX [] H s₁ (fun _ _ _ => False) e s' → False) :
    codeAny (model P w) callerA (.call (.ref fa) ⟨[.ref a], []⟩) (fun r s' => r = .ok (.ret (.bool true)) ∧ OldK s₁.heap s'.heap ∧ s'.os = s₁.os ∧ AllBare s'.gens) s₁ := by
  have rv := vals_ints hi
  have lenV := hi.length
  -- from an abstract heap in which nothing but the script may be tracked
  have core : ∀ H : Hp, Only H → SqL K H a (ns.map V.int) → HOk P w H s₁.heap → (∀ b, H b ≠ none → b = a) → (H a ≠ none → K.lookup a = none) →
      codeAny (model P w) callerA (.call (.ref fa) ⟨[.ref a], []⟩) (fun r s' => r = .ok (.ret (.bool true)) ∧ OldK s₁.heap s'.heap ∧ s'.os = s₁.os ∧ AllBare s'.gens) s₁ := by
    intro H hO hS hok hA hK
    have base_of : ∀ {b : Addr} {o : Obj}, s₁.heap.get? b = some o → H b = none → (hidT s₁.heap H).get? b = some o := fun e n => hidT_get e n
    have noA : ∀ {b : Addr} {o : Obj} {es : Array DictEntry} {ep : Nat}, s₁.heap.get? b = some o → o.data = .dict es ep → H b = none := fun {b o es ep} e d => by
      cases q : H b with
      | none => rfl
      | some u =>
        have e' : b = a := hA b (by rw [q]; simp)
        subst e'
        rw [ha] at e; cases e
        have d' : Data.seq vs.toArray _ = Data.dict es ep := d
        cases d'
    have nsK : ∀ {b : Addr} {m : Str → Option Value}, s₁.heap.Ns b m → (hidT s₁.heap H).Ns b m := fun {b m} ⟨o, es, ep, e, d, r⟩ => ⟨o, es, ep, base_of e (noA e d), d, r⟩
    have hKb : K.In (hidT s₁.heap H) := fun b o e => base_of (KX b o e) (by
      cases q : H b with
      | none => rfl
      | some u =>
        have e' : b = a := hA b (by rw [q]; simp)
        subst e'
        rw [hK (by rw [q]; simp)] at e; cases e)
    have hM : Mod K mg (hidT s₁.heap H) := ⟨hKb, nsK hns, ⟨mb, nsK hb, hbb⟩, let ⟨mc, h1, h2⟩ := hlim; ⟨mc, nsK h1, h2⟩⟩
    have e0 : Env0 P w K mg (hidT s₁.heap H) callerA [] s₁ H := ⟨rfl, hM, fun b o e => of_hidT e, Nat.le_of_eq (hidT_size _ _), trivial, fun b hb => absurd (show b ∈ ([] : List Addr) from hb) (by simp), hok, .of_eq hg⟩
    refine codeAny_mono ((F _ hKb (nsK hns)).run callerA [] s₁ H ⟨[.ref a], []⟩ [.ref a] [.ref a] _ _ hr e0 (hbind s₁ (.ref a)) (.cons rfl .nil) (hsp H hO hS)) fun r s' h => ?_
    cases r with
    | error e => exact (hCX H e s' h).elim
    | ok fl =>
      cases fl with
      | next => exact False.elim h
      | brk => exact False.elim h
      | cont => exact False.elim h
      | ret u =>
        obtain ⟨v, H', os, bare, un, hok', r', q⟩ := h
        have q' : v = .bl true := q
        subst q'
        obtain rfl : u = Value.bool true := r'
        refine ⟨rfl, OldK.of_keep fun b o e => ?_, os, bare⟩
        cases q : H b with
        | none => exact un.keep b o e q (by intro z; exact absurd (show b ∈ ([] : List Addr) from z) (by simp)) (by simp)
        | some u =>
          rcases hO b with z | ⟨ob, xs, z⟩
          · rw [q] at z; cases z
          · have z2 := un.frzs b ob _ z
            obtain ⟨e1, _⟩ := hok b _ z
            obtain ⟨e2, _⟩ := hok' b _ z2
            rw [e] at e1; cases e1
            exact e2
  cases hk : K.lookup a with
  | some o =>
    -- the script is one of the module's own objects
    have e := KX a o hk
    rw [ha] at e
    cases e
    refine core (fun _ => none) (fun _ => .inl rfl) (.inr ⟨_, vs.toArray, _, hk, rfl, rfl, rfl, by rw [List.size_toArray, lenV]; exact hl, by simpa using rv⟩) (fun b u z => by have z' : (none : Option HO) = some u := z; cases z') (fun b z => absurd rfl z) fun z => absurd rfl z
  | none =>
    refine core (fun b => if b = a then some (.frz { cls := .type "list", data := .seq vs.toArray } (.lst (ns.map V.int))) else none) (fun b => ?_) (.inl (.inr ⟨{ cls := .type "list", data := .seq vs.toArray }, if_pos rfl⟩)) (fun b u z => ?_) (fun b z => ?_) fun _ => hk
    · by_cases hb : b = a
      · exact .inr ⟨_, _, if_pos hb⟩
      · exact .inl (if_neg hb)
    · by_cases hb : b = a
      · have z' := (if_pos hb).symm.trans z
        cases z'
        subst hb
        exact ⟨ha, by rw [List.length_map]; exact hl, vs, _, rv, ha⟩
      · have z' := (if_neg hb).symm.trans z
        cases z'
    · by_cases hb : b = a
      · exact hb
      · exact absurd (if_neg hb) z
end L2

namespace L2
open PySem PySem.Spec PyProof.Rows

noncomputable abbrev KOf {K : PySem.W.Frag} {h : Heap} (_ : K.In h) : PySem.W.Frag := K

/-- the goal that k_head leaves (case hc), from the law's promise. F gives the function object fd (K's own) once, then the promise over every base -/
theorem walk_of {l : PySem.W.OpenLaw} {n k : Nat} {q : Program} {loose : List Str} {XP : (Str → Option Value) → Heap → Prop} {YP : World → Heap → Prop} {d : DefRec} {K : Params → PySem.W.Frag} {CX : World → CXT} {sp : World → Sp} {x : Str}
    (hn : l.most = some n) (hn2 : n ≤ sizeLine) (hdf : d.params.defaults = []) (hr : Room k callerA)
    (hY : ∀ (w : World) (h : Heap), YP w h → (K w.params).In h)
    (F : ∀ (w : World) (mg : Str → Option Value) (fa : Addr) (h : Heap), (K w.params).In h → h.Ns mainGlobals mg → mg d.name = some (.ref fa) →
      ∃ fd : FuncData, (∀ (s : Shared) (u : Value), BindsTo s fd ⟨[u], []⟩ [(x, u)]) ∧
        ∀ base : Heap, (K w.params).In base → base.Ns mainGlobals mg → FnOk l.prog w (K w.params) mg base (CX w) k fa fd [x] (sp w))
    (hsp : ∀ (w : World) (H : Hp) (a : Addr) (ns : List Int), ns.length ≤ n → Only H → SqL (K w.params) H a (ns.map V.int) → sp w [.ref a] H (fun v _ => v = .bl true) fun _ _ _ => False)
    (hCX : ∀ (w : World) (H : Hp) (s : Shared) (e : Value) (s' : Shared), CX w [] H s (fun _ _ _ => False) e s' → False) :
    PySem.W.WalkO q loose XP YP l.row.toRowW d [] (fun f vs => PySem.call f vs) := by
  refine Att.attach_call hn hdf fun w s₀ s₁ mg mb fa o pm cd doc a vs ns G Y ho hd hcd hmg hobj hints hlen hg => ?_
  have KX := hY w _ Y
  obtain ⟨fd, hb, hF⟩ := F w mg fa _ KX G.T.g hmg
  exact law_call KX G.T.g G.T.b G.T.builtins G.T.nolimit hg hobj hints (Nat.le_trans hlen hn2) hr hF hb (fun H hO hS => hsp w H a ns hlen hO hS) fun H e s' => hCX w H s₁ e s'
end L2



/-! SHORT WORDS over the layer: a def of the text, its body, what a loop and a test want. -/
namespace L2
open PySem PySem.Spec PyProof.Rows

/-! ### the text by places -/
noncomputable def defArgs (s : Stmt) : Arguments := match s with
  | .FunctionDef _ a _ _ _ _ _ _ _ _ => a
  | _ => { posonlyargs := [], args := [], vararg := none, kwonlyargs := [], kw_defaults := [], kwarg := none, defaults := [] }
noncomputable def defBody (s : Stmt) : List Stmt := match s with
  | .FunctionDef _ _ b _ _ _ _ _ _ _ => b
  | _ => []
noncomputable def defScope (s : Stmt) : Scope := match s with
  | .FunctionDef _ _ _ _ _ _ sc _ _ _ => sc
  | _ => { kind := .function, names := [], isGenerator := false, isCoroutine := false }

/-! ### no exception leaves a def -/
noncomputable abbrev CX0 : CXT := fun _ _ _ _ _ _ => False
noncomputable abbrev E0 : XK := fun _ _ _ => False
theorem pass0 {X : Cx} : Passes CX0 X E0 := fun _ _ _ _ _ _ _ h => h.elim

/-! ### a def (or method) of the text as it stands behind the top -/
structure Fun (K : PySem.W.Frag) (x qual : Str) (st : Stmt) (f : Addr) (fd : FuncData) : Prop where
  ex : ∃ (oc : Value) (od : Option Addr) (kV doc pm : Value) (an : Option Addr) (cdv ct : Value) (osl : Array (Option Value)),
    fd = PySem.W.fnOf x qual (defArgs st) (defBody st) (defScope st) .none kV doc pm an cdv ct ∧ K.lookup f = some ⟨oc, od, .func fd, osl⟩ ∧ PySem.W.codeIn K cdv qual = true
  kp : PySem.W.keepIn K (.ref f) = true
section
variable {P : Program} {w : World} {K : PySem.W.Frag} {mg : Str → Option Value} {base : Heap}
/-- THE RULE for a def: its body as a term of rules, and the reading of that term -/
theorem Fun.ok {x qual : Str} {st : Stmt} {f : Addr} {fd : FuncData} {N ps : List Str} {k : Nat} {sp : Sp} (F : Fun K x qual st f fd) (S : FnScope N ps (defScope st)) (len : ∀ vs H Q E, sp vs H Q E → vs.length = ps.length)
    (hbody : ∀ (cdv : Value) (A : Around) (outer : List Env) (s : Shared) (H : Hp) (vs : List V) (Q : VK) (E : XK), Room k (A.deeper (envOfC qual (defScope st) s.heap.objs.size f cdv)) → sp vs H Q E →
      ∃ t, PSs (cxOf CX0 P w K mg base N qual (defScope st) f cdv A outer s H E).nox (defBody st) t ∧ t { nx := fun _ H' => Q .non H', rt := Q } (start N vs) H) : FnOk P w K mg base CX0 (k + 1) f fd ps sp := by
  obtain ⟨oc, od, kV, doc, pm, an, cdv, ct, osl, rfl, lk, hcd⟩ := F.ex
  refine fn_of lk hcd S len fun A outer s H vs Q E hr hsp => ?_
  obtain ⟨t, h, q⟩ := hbody cdv A outer s H vs Q E hr hsp
  exact ⟨t, h.nox, q⟩
/-- how its arguments bind (no defaults): h is «fun _ _ _ _ _ _ us hl => match us, hl with | [_, _], _ => rfl», one _ a parameter -/
theorem Fun.binds {x qual : Str} {st : Stmt} {f : Addr} {fd : FuncData} {ps : List Str} (F : Fun K x qual st f fd)
    (h : ∀ (kV doc pm : Value) (an : Option Addr) (cdv ct : Value) (us : List Value), us.length = ps.length → bindArgs (PySem.W.fnOf x qual (defArgs st) (defBody st) (defScope st) .none kV doc pm an cdv ct) ⟨us, []⟩ = pure (ps.zip us)) : Binds K fd ps [] := by
  obtain ⟨oc, od, kV, doc, pm, an, cdv, ct, osl, rfl, lk, hcd⟩ := F.ex
  exact .all (h kV doc pm an cdv ct)
theorem fun_mk {x qual : Str} {st : Stmt} {f : Addr} {oc : Value} {od an : Option Addr} {osl : Array (Option Value)} {kV doc pm cdv ct : Value} (l : K.lookup f = some ⟨oc, od, .func (PySem.W.fnOf x qual (defArgs st) (defBody st) (defScope st) .none kV doc pm an cdv ct), osl⟩)
    (c : PySem.W.codeIn K cdv qual = true) (k : PySem.W.keepIn K (.ref f) = true) : Fun K x qual st f (PySem.W.fnOf x qual (defArgs st) (defBody st) (defScope st) .none kV doc pm an cdv ct) := ⟨⟨oc, od, kV, doc, pm, an, cdv, ct, osl, rfl, l, c⟩, k⟩
end
/-! ### expressions in short: the name that stands in the i-th slot -/
section
variable {X : Cx}
theorem pv (i : Nat) {x : Str} {pos : Pos} (hN : X.N[i]? = some x := by rfl) (hv : Vis X.env.scope x := by first | exact Or.inl rfl | exact Or.inr (Or.inl rfl) | exact Or.inr (Or.inr rfl)) (hd : (x == ("__debug__" : Str)) = false := by decide)
    (hcd : (x == ("__classdict__" : Str)) = false := by decide) : PE X (.Name x pos) (tVar i) := pe_var hN hv hd hcd
end

/-! ### tests -/
/-! ### heaps -/
/-- all that was tracked is as it was -/
noncomputable def Same (H H' : Hp) : Prop := ∀ b o, H b = some o → H' b = some o
theorem Same.refl (H : Hp) : Same H H := fun _ _ h => h
theorem Same.trans {H H1 H2 : Hp} (a : Same H H1) (b : Same H1 H2) : Same H H2 := fun c o h => b c o (a c o h)
theorem Same.free {H H' : Hp} (e : Same H H') {l : Addr} (h : H' l = Option.none) : H l = Option.none := by
  cases q : H l with
  | none => rfl
  | some o =>
    rw [e l o q] at h
    cases h
theorem Same.seq {K : PySem.W.Frag} {H H' : Hp} {a : Addr} {xs : List V} (e : Same H H') (h : SqL K H a xs) : SqL K H' a xs := by
  rcases h with (h | ⟨o, h⟩) | h
  · exact .inl (.inl (e _ _ h))
  · exact .inl (.inr ⟨o, e _ _ h⟩)
  · exact .inr h

end L2

set_option Elab.async false
set_option linter.all false
set_option maxRecDepth 100000
namespace PL
open PySem PySem.Spec PyProof.Rows L2

/-- a def as a datum -/
noncomputable def fnD (x : Str) : PyData := .dict [(.none, .str x)]
/-- an exception of the class c as a datum -/
noncomputable def excD (c : Str) : PyData := .dict [(.str c, .none)]
/-- the program's own error classes -/
noncomputable def xcNames : List Str := ["ClockError", "NoClock", "NoText", "NotApart"]
noncomputable def excP (a C : Addr) (h : Heap) : Prop := ∃ o, h.get? a = some o ∧ o.cls = .ref C

section
variable (K : PySem.W.Frag) (mg : Str → Option Value)
mutual
noncomputable def Br (H : Hp) : PyData → V → Prop
  | .none, v => v = .non
  | .bool b, v => v = .bl b
  | .int i, v => v = .int i
  | .str x, v => v = .str x
  | .list ds, v => ∃ a vs, v = .ref a ∧ SqL K H a vs ∧ Brs H ds vs
  | .tuple ds, v => ∃ a vs, v = .ref a ∧ SqT K H a vs ∧ Brs H ds vs
  | .dict kvs, v => (∃ x f, kvs = [(.none, .str x)] ∧ v = .ref f ∧ mg x = some (.ref f)) ∨ ∃ c a C, kvs = [(.str c, .none)] ∧ v = .ref a ∧ xcNames.contains c = true ∧ mg c = some (.ref C) ∧ H a = some (.ext (excP a C))
noncomputable def Brs (H : Hp) : List PyData → List V → Prop
  | [], vs => vs = []
  | d :: ds, vs => ∃ v r, vs = v :: r ∧ Br H d v ∧ Brs H ds r
end
end

theorem sqt_same {K : PySem.W.Frag} {H H' : Hp} {a : Addr} {xs : List V} (e : Same H H') (h : SqT K H a xs) : SqT K H' a xs := by
  rcases h with (h | ⟨o, h⟩) | h
  · exact .inl (.inl (e _ _ h))
  · exact .inl (.inr ⟨o, e _ _ h⟩)
  · exact .inr h
theorem same_new {H : Hp} {p : Addr} (h : H p = none) (o : HO) : Same H (upd H p o) := fun b u q => by rw [upd_ne (ne_of_none q h)]; exact q

section
variable {K : PySem.W.Frag} {mg : Str → Option Value} {H H' : Hp}
mutual
theorem br_mono (e : Same H H') : ∀ (d : PyData) (v : V), Br K mg H d v → Br K mg H' d v
  | .none, v, h => by simp only [Br] at h ⊢; exact h
  | .bool b, v, h => by simp only [Br] at h ⊢; exact h
  | .int i, v, h => by simp only [Br] at h ⊢; exact h
  | .str x, v, h => by simp only [Br] at h ⊢; exact h
  | .list ds, v, h => by
    simp only [Br] at h ⊢
    obtain ⟨a, vs, e1, h1, h2⟩ := h
    exact ⟨a, vs, e1, e.seq h1, brs_mono e ds vs h2⟩
  | .tuple ds, v, h => by
    simp only [Br] at h ⊢
    obtain ⟨a, vs, e1, h1, h2⟩ := h
    exact ⟨a, vs, e1, sqt_same e h1, brs_mono e ds vs h2⟩
  | .dict kvs, v, h => by
    simp only [Br] at h ⊢
    rcases h with h | ⟨c, a, C, h1, h2, h0, h3, h4⟩
    · exact .inl h
    · exact .inr ⟨c, a, C, h1, h2, h0, h3, e _ _ h4⟩
theorem brs_mono (e : Same H H') : ∀ (ds : List PyData) (vs : List V), Brs K mg H ds vs → Brs K mg H' ds vs
  | [], vs, h => by simp only [Brs] at h ⊢; exact h
  | d :: ds, vs, h => by
    simp only [Brs] at h ⊢
    obtain ⟨v, r, e1, h1, h2⟩ := h
    exact ⟨v, r, e1, br_mono e d v h1, brs_mono e ds r h2⟩
end
theorem brs_length : ∀ (ds : List PyData) (vs : List V), Brs K mg H ds vs → ds.length = vs.length
  | [], vs, h => by simp only [Brs] at h; subst h; rfl
  | d :: ds, vs, h => by
    simp only [Brs] at h
    obtain ⟨v, r, rfl, h1, h2⟩ := h
    simp [brs_length ds r h2]
theorem brs_get : ∀ (ds : List PyData) (vs : List V) (i : Nat) (d : PyData), Brs K mg H ds vs → ds[i]? = some d → ∃ v, vs[i]? = some v ∧ Br K mg H d v
  | [], vs, i, d, h, e => by simp at e
  | d' :: ds, vs, 0, d, h, e => by
    simp only [Brs] at h
    obtain ⟨v, r, rfl, h1, h2⟩ := h
    simp at e; subst e
    exact ⟨v, rfl, h1⟩
  | d' :: ds, vs, i + 1, d, h, e => by
    simp only [Brs] at h
    obtain ⟨v, r, rfl, h1, h2⟩ := h
    obtain ⟨w, e1, h3⟩ := brs_get ds r i d h2 (by simpa using e)
    exact ⟨w, by simpa using e1, h3⟩
theorem brs_append : ∀ (ds es : List PyData) (vs ws : List V), Brs K mg H ds vs → Brs K mg H es ws → Brs K mg H (ds ++ es) (vs ++ ws)
  | [], es, vs, ws, h, q => by simp only [Brs] at h; subst h; exact q
  | d :: ds, es, vs, ws, h, q => by
    simp only [Brs] at h
    obtain ⟨v, r, rfl, h1, h2⟩ := h
    show Brs K mg H (d :: (ds ++ es)) (v :: (r ++ ws))
    simp only [Brs]
    exact ⟨v, _, rfl, h1, brs_append ds es r ws h2 q⟩
theorem brs_take : ∀ (n : Nat) (ds : List PyData) (vs : List V), Brs K mg H ds vs → Brs K mg H (ds.take n) (vs.take n)
  | 0, ds, vs, h => by simp only [List.take_zero, Brs]
  | n + 1, [], vs, h => by simp only [Brs] at h; subst h; simp only [List.take_nil, Brs]
  | n + 1, d :: ds, vs, h => by
    simp only [Brs] at h
    obtain ⟨v, r, rfl, h1, h2⟩ := h
    simp only [List.take_succ_cons, Brs]
    exact ⟨v, _, rfl, h1, brs_take n ds r h2⟩
theorem brs_drop : ∀ (n : Nat) (ds : List PyData) (vs : List V), Brs K mg H ds vs → Brs K mg H (ds.drop n) (vs.drop n)
  | 0, ds, vs, h => by simpa using h
  | n + 1, [], vs, h => by simp only [Brs] at h; subst h; simp only [List.drop_nil, Brs]
  | n + 1, d :: ds, vs, h => by
    simp only [Brs] at h
    obtain ⟨v, r, rfl, h1, h2⟩ := h
    simp only [List.drop_succ_cons]
    exact brs_drop n ds r h2
theorem brs_ints (ns : List Int) : Brs K mg H (ns.map PyData.int) (ns.map V.int) := by
  induction ns with
  | nil => simp only [List.map_nil, Brs]
  | cons n r ih => simp only [List.map_cons, Brs]; exact ⟨_, _, rfl, by simp only [Br], ih⟩
end

section
variable {X : Cx} {pins : List (Addr × Obj)} {σ : L2.St} {H : Hp} {s : Shared}
mutual
theorem reads_of (I : Inv X pins σ H s) : ∀ (d : PyData) (v : V) (u : Value), d.canLay0 = true → Br X.K X.mg H d v → RelV v u → ∃ as, Reads s.heap u d as
  | .none, v, u, c, h, r => by simp only [Br] at h; subst h; cases r; exact ⟨_, .none⟩
  | .bool b, v, u, c, h, r => by simp only [Br] at h; subst h; cases r; exact ⟨_, .bool b⟩
  | .int i, v, u, c, h, r => by simp only [Br] at h; subst h; obtain ⟨t, rfl⟩ := r; exact ⟨_, .int i t⟩
  | .str x, v, u, c, h, r => by simp only [Br] at h; subst h; obtain ⟨t, rfl⟩ := r; exact ⟨_, .str x t⟩
  | .list ds, v, u, c, h, r => by
    simp only [Br] at h
    obtain ⟨a, vs, rfl, h1, h2⟩ := h
    cases r
    obtain ⟨its, rv, ⟨o, n, e1, e2, e3, e4⟩, hz⟩ := I.list h1
    obtain ⟨as, q⟩ := readsAll_of I ds vs its c h2 rv
    exact ⟨_, .list e1 e2 e4 q⟩
  | .tuple ds, v, u, c, h, r => by
    simp only [Br] at h
    obtain ⟨a, vs, rfl, h1, h2⟩ := h
    cases r
    obtain ⟨its, rv, ⟨o, e1, e2, n, e4⟩, hz⟩ := I.tuple h1
    obtain ⟨as, q⟩ := readsAll_of I ds vs its c h2 rv
    exact ⟨_, .tuple e1 e2 e4 q⟩
  | .dict kvs, v, u, c, h, r => nomatch c
theorem readsAll_of (I : Inv X pins σ H s) : ∀ (ds : List PyData) (vs : List V) (us : List Value), PyData.canLayAll0 ds = true → Brs X.K X.mg H ds vs → Vals vs us → ∃ as, ReadsAll s.heap us ds as
  | [], vs, us, c, h, r => by simp only [Brs] at h; subst h; cases r; exact ⟨_, .nil⟩
  | d :: ds, vs, us, c, h, r => by
    simp only [Brs] at h
    obtain ⟨v, rr, rfl, h1, h2⟩ := h
    have c' : d.canLay0 = true ∧ PyData.canLayAll0 ds = true := by simpa [PyData.canLayAll0] using c
    cases r with
    | cons r1 r2 =>
      obtain ⟨as, q1⟩ := reads_of I d v _ c'.1 h1 r1
      obtain ⟨bs, q2⟩ := readsAll_of I ds rr _ c'.2 h2 r2
      exact ⟨_, .cons q1 q2⟩
end
end
end PL

set_option Elab.async false
set_option linter.all false
set_option maxRecDepth 100000
namespace PL
open PySem PySem.Spec PyProof.Rows L2

noncomputable abbrev Rho := List (Option PyData)
noncomputable def EnvOk (K : PySem.W.Frag) (mg : Str → Option Value) (H : Hp) (r : Rho) (σ : L2.St) : Prop :=
  r.length = σ.length ∧ ∀ (i : Nat) (d : PyData), r[i]? = some (some d) → ∃ v, σ[i]? = some (some v) ∧ Br K mg H d v
theorem envOk_mono {K : PySem.W.Frag} {mg : Str → Option Value} {H H' : Hp} {r : Rho} {σ : L2.St} (e : Same H H') (h : EnvOk K mg H r σ) : EnvOk K mg H' r σ :=
  ⟨h.1, fun i d q => let ⟨v, a, b⟩ := h.2 i d q; ⟨v, a, br_mono e d v b⟩⟩
theorem envOk_set {K : PySem.W.Frag} {mg : Str → Option Value} {H : Hp} {r : Rho} {σ : L2.St} {d : PyData} {v : V} (i : Nat) (h : EnvOk K mg H r σ) (b : Br K mg H d v) : EnvOk K mg H (r.set i (some d)) (σ.set i (some v)) := by
  refine ⟨by rw [List.length_set, List.length_set]; exact h.1, fun j d' q => ?_⟩
  rw [List.getElem?_set] at q
  by_cases e : i = j
  · subst e
    rw [if_pos rfl] at q
    by_cases l : i < r.length
    · rw [if_pos l] at q
      have q' : d = d' := by injection q with q1; injection q1
      subst q'
      refine ⟨v, ?_, b⟩
      rw [List.getElem?_set, if_pos rfl, if_pos (by rw [← h.1]; exact l)]
    · rw [if_neg l] at q; cases q
  · rw [if_neg e] at q
    obtain ⟨w, a, c⟩ := h.2 j d' q
    refine ⟨w, ?_, c⟩
    rw [List.getElem?_set, if_neg e]; exact a

inductive Fl where
  | nx (r : Rho) | rt (d : PyData) | bk (r : Rho) | ct (r : Rho)

section
variable (K : PySem.W.Frag) (mg : Str → Option Value)
noncomputable def tP (g : Rho → Option PyData) : TE := fun σ H Q => ∃ r d, EnvOk K mg H r σ ∧ g r = some d ∧ ∀ v H', Same H H' → Br K mg H' d v → Q v H'
noncomputable def tPT (g : Rho → Option PyData) : TT := fun σ H Q => ∃ r b, EnvOk K mg H r σ ∧ g r = some (.bool b) ∧ ∀ H', Same H H' → Q b H'
noncomputable def tPA (g : Rho → Option (List PyData)) : TA := fun σ H Q => ∃ r ds, EnvOk K mg H r σ ∧ g r = some ds ∧ ∀ vs H', Same H H' → Brs K mg H' ds vs → Q vs H'
noncomputable def FlOk (D : Ends) (H : Hp) : Fl → Prop
  | .nx r' => ∀ σ' H', Same H H' → EnvOk K mg H' r' σ' → D.nx σ' H'
  | .rt d => ∀ v H', Same H H' → Br K mg H' d v → D.rt v H'
  | .bk r' => ∀ σ' H', Same H H' → EnvOk K mg H' r' σ' → D.bk σ' H'
  | .ct r' => ∀ σ' H', Same H H' → EnvOk K mg H' r' σ' → D.ct σ' H'
noncomputable def tPS (g : Rho → Option Fl) : TS := fun D σ H => ∃ r fl, EnvOk K mg H r σ ∧ g r = some fl ∧ FlOk K mg D H fl
noncomputable def rD (f : PyData → PyData → Option PyData) : R2 := fun v u H Q => ∃ x y d, Br K mg H x v ∧ Br K mg H y u ∧ f x y = some d ∧ ∀ w H', Same H H' → Br K mg H' d w → Q w H'
noncomputable def rDU (f : PyData → Option PyData) : V → Hp → VK → Prop := fun v H Q => ∃ x d, Br K mg H x v ∧ f x = some d ∧ ∀ w H', Same H H' → Br K mg H' d w → Q w H'
noncomputable def rDC (f : List PyData → Option PyData) : List V → Hp → VK → Prop := fun vs H Q => ∃ xs d, Brs K mg H xs vs ∧ f xs = some d ∧ ∀ w H', Same H H' → Br K mg H' d w → Q w H'
end

section
variable {X : Cx}
theorem pe_imp {e : Expr} {t t' : TE} (h : PE X e t) (i : ∀ σ H Q, t' σ H Q → t σ H Q) : PE X e t' := fun pins s σ H Q I q => h pins s σ H Q I (i σ H Q q)
theorem pt_imp {e : Expr} {t t' : TT} (h : PT X e t) (i : ∀ σ H Q, t' σ H Q → t σ H Q) : PT X e t' := fun pins s σ H Q I q => h pins s σ H Q I (i σ H Q q)
theorem pa_imp {e : List Expr} {t t' : TA} (h : PA X e t) (i : ∀ σ H Q, t' σ H Q → t σ H Q) : PA X e t' := fun pos pins s σ H Q I q => h pos pins s σ H Q I (i σ H Q q)
theorem ps_imp {e : Stmt} {t t' : TS} (h : PS X e t) (i : ∀ σ H D, t' D σ H → t D σ H) : PS X e t' := fun pins s σ H D I q => h pins s σ H D I (i σ H D q)
theorem pss_imp {e : List Stmt} {t t' : TS} (h : PSs X e t) (i : ∀ σ H D, t' D σ H → t D σ H) : PSs X e t' := fun pins s σ H D I q => h pins s σ H D I (i σ H D q)

noncomputable abbrev E1 (X : Cx) (e : Expr) (g : Rho → Option PyData) : Prop := PE X e (tP X.K X.mg g)
noncomputable abbrev T1 (X : Cx) (e : Expr) (g : Rho → Option PyData) : Prop := PT X e (tPT X.K X.mg g)
noncomputable abbrev A1 (X : Cx) (es : List Expr) (g : Rho → Option (List PyData)) : Prop := PA X es (tPA X.K X.mg g)
noncomputable abbrev S1 (X : Cx) (st : Stmt) (g : Rho → Option Fl) : Prop := PS X st (tPS X.K X.mg g)
noncomputable abbrev SS1 (X : Cx) (st : List Stmt) (g : Rho → Option Fl) : Prop := PSs X st (tPS X.K X.mg g)

noncomputable def bin2 (f : PyData → PyData → Option PyData) (ga gb : Rho → Option PyData) (r : Rho) : Option PyData :=
  match ga r with
  | some x => match gb r with
    | some y => f x y
    | none => none
  | none => none
theorem bin2_some {f : PyData → PyData → Option PyData} {ga gb : Rho → Option PyData} {r : Rho} {d : PyData} (h : bin2 f ga gb r = some d) : ∃ x y, ga r = some x ∧ gb r = some y ∧ f x y = some d := by
  unfold bin2 at h
  cases ha : ga r with
  | none => rw [ha] at h; cases h
  | some x =>
    rw [ha] at h
    cases hb : gb r with
    | none => rw [hb] at h; cases h
    | some y => rw [hb] at h; exact ⟨x, y, rfl, rfl, h⟩
theorem tOp_of {K : PySem.W.Frag} {mg : Str → Option Value} {f : PyData → PyData → Option PyData} {ga gb : Rho → Option PyData} (σ : L2.St) (H : Hp) (Q : VK) (h : tP K mg (bin2 f ga gb) σ H Q) :
    tOp (rD K mg f) (tP K mg ga) (tP K mg gb) σ H Q := by
  obtain ⟨r, d, env, hg, q⟩ := h
  obtain ⟨x, y, ha, hb, hf⟩ := bin2_some hg
  refine ⟨r, x, env, ha, fun v H1 s1 b1 => ⟨r, y, envOk_mono s1 env, hb, fun u H2 s2 b2 => ?_⟩⟩
  exact ⟨x, y, d, br_mono s2 x v b1, b2, hf, fun w H' s3 b3 => q w H' (s1.trans (s2.trans s3)) b3⟩
theorem e_bin {op : Operator} {f : PyData → PyData → Option PyData} {a b : Expr} {pos : Pos} {ga gb : Rho → Option PyData} (ho : OpR X (binaryOp op) (rD X.K X.mg f)) (ha : E1 X a ga) (hb : E1 X b gb) :
    E1 X (.BinOp a op b pos) (bin2 f ga gb) := pe_imp (pe_op ho ha hb) tOp_of
theorem e_cmp {op : CmpOp} {f : PyData → PyData → Option PyData} {a b : Expr} {pos : Pos} {ga gb : Rho → Option PyData} (ho : OpR X (compareOp op) (rD X.K X.mg f)) (ha : E1 X a ga) (hb : E1 X b gb) (hm : behindInMarks op b = false) :
    E1 X (.Compare a [op] [b] pos) (bin2 f ga gb) := pe_imp (pe_cmpR ho ha hb hm) tOp_of
theorem tTest_of {K : PySem.W.Frag} {mg : Str → Option Value} {t : TE} {g : Rho → Option PyData} (i : ∀ σ H Q, tP K mg g σ H Q → t σ H Q) (σ : L2.St) (H : Hp) (Q : Bool → Hp → Prop) (h : tPT K mg g σ H Q) :
    tTest t σ H Q := by
  obtain ⟨r, b, env, hg, q⟩ := h
  refine i σ H _ ⟨r, _, env, hg, fun v H' s1 b1 => ?_⟩
  simp only [Br] at b1
  exact ⟨b, b1, q H' s1⟩
theorem t_cmp {op : CmpOp} {f : PyData → PyData → Option PyData} {a b : Expr} {pos : Pos} {ga gb : Rho → Option PyData} (ho : OpR X (compareOp op) (rD X.K X.mg f)) (ha : E1 X a ga) (hb : E1 X b gb) (hm : behindInMarks op b = false) :
    T1 X (.Compare a [op] [b] pos) (bin2 f ga gb) := pt_imp (pt_cmpR ho ha hb hm) (tTest_of tOp_of)
theorem t_val {e : Expr} {g : Rho → Option PyData} (h : E1 X e g) (he : ∀ whole, isTrue e X.env whole = (do let v ← whole; standAt e.pos; holding [v] (truthy v))) : T1 X e g :=
  pt_imp (pt_val h he) fun σ H Q ⟨r, b, env, hg, q⟩ => ⟨r, _, env, hg, fun v H' s1 b1 => by simp only [Br] at b1; exact ⟨b, b1, q H' s1⟩⟩

/-! names, constants -/
noncomputable def vr (i : Nat) (r : Rho) : Option PyData := match r[i]? with
  | some (some d) => some d
  | _ => none
theorem vr_some {i : Nat} {r : Rho} {d : PyData} (h : vr i r = some d) : r[i]? = some (some d) := by
  unfold vr at h
  split at h
  · rename_i e; rw [e, h]
  · cases h
theorem e_var {i : Nat} {x : Str} {pos : Pos} (hN : X.N[i]? = some x) (hv : Vis X.env.scope x) (hd : (x == ("__debug__" : Str)) = false) (hcd : (x == ("__classdict__" : Str)) = false) : E1 X (.Name x pos) (vr i) :=
  pe_imp (pe_var hN hv hd hcd) fun σ H Q ⟨r, d, env, hg, q⟩ => by
    obtain ⟨v, e1, b⟩ := env.2 i d (vr_some hg)
    exact ⟨v, e1, q v H (Same.refl H) b⟩
theorem tC_of {K : PySem.W.Frag} {mg : Str → Option Value} {d : PyData} {v : V} (b : ∀ H, Br K mg H d v) (σ : L2.St) (H : Hp) (Q : VK) (h : tP K mg (fun _ => some d) σ H Q) : tC v σ H Q := by
  obtain ⟨r, d', env, hg, q⟩ := h
  injection hg with e; subst e
  exact q v H (Same.refl H) (b H)
theorem e_int {i : Int} {j : Nat} {pos : Pos} : E1 X (.Constant (.int i) j pos) (fun _ => some (.int i)) := pe_imp pe_int (tC_of fun _ => by simp only [Br])
theorem e_bl {b : Bool} {j : Nat} {pos : Pos} : E1 X (.Constant (.bool b) j pos) (fun _ => some (.bool b)) := pe_imp pe_bl (tC_of fun _ => by simp only [Br])
theorem e_non {j : Nat} {pos : Pos} : E1 X (.Constant .none j pos) (fun _ => some .none) := pe_imp pe_non (tC_of fun _ => by simp only [Br])
theorem e_str {x : Str} {j : Nat} {pos : Pos} : E1 X (.Constant (.str x) j pos) (fun _ => some (.str x)) := pe_imp pe_str (tC_of fun _ => by simp only [Br])
/-! and, or, not, if-else -/
noncomputable def andD (ga gb : Rho → Option PyData) (r : Rho) : Option PyData := match ga r with
  | some (.bool true) => gb r
  | some (.bool false) => some (.bool false)
  | _ => none
noncomputable def orD (ga gb : Rho → Option PyData) (r : Rho) : Option PyData := match ga r with
  | some (.bool true) => some (.bool true)
  | some (.bool false) => gb r
  | _ => none
noncomputable def notD (ga : Rho → Option PyData) (r : Rho) : Option PyData := match ga r with
  | some (.bool b) => some (.bool (!b))
  | _ => none
noncomputable def ifD (gc ga gb : Rho → Option PyData) (r : Rho) : Option PyData := match gc r with
  | some (.bool true) => ga r
  | some (.bool false) => gb r
  | _ => none
theorem andD_some {ga gb : Rho → Option PyData} {r : Rho} {d : PyData} (h : andD ga gb r = some d) : ∃ b, ga r = some (.bool b) ∧ (if b = true then gb r else some (.bool false)) = some d := by
  unfold andD at h
  split at h
  · rename_i e; exact ⟨true, e, h⟩
  · rename_i e; exact ⟨false, e, h⟩
  · cases h
theorem orD_some {ga gb : Rho → Option PyData} {r : Rho} {d : PyData} (h : orD ga gb r = some d) : ∃ b, ga r = some (.bool b) ∧ (if b = true then some (.bool true) else gb r) = some d := by
  unfold orD at h
  split at h
  · rename_i e; exact ⟨true, e, h⟩
  · rename_i e; exact ⟨false, e, h⟩
  · cases h
theorem notD_some {ga : Rho → Option PyData} {r : Rho} {d : PyData} (h : notD ga r = some d) : ∃ b, ga r = some (.bool b) ∧ d = .bool (!b) := by
  unfold notD at h
  split at h
  · rename_i b e; exact ⟨b, e, by injection h with h; exact h.symm⟩
  · cases h
theorem ifD_some {gc ga gb : Rho → Option PyData} {r : Rho} {d : PyData} (h : ifD gc ga gb r = some d) : ∃ b, gc r = some (.bool b) ∧ (if b = true then ga r else gb r) = some d := by
  unfold ifD at h
  split at h
  · rename_i e; exact ⟨true, e, h⟩
  · rename_i e; exact ⟨false, e, h⟩
  · cases h
variable {a b c : Expr} {rest : List Expr} {pos : Pos} {ga gb gc : Rho → Option PyData}
theorem e_and (ha : E1 X a ga) (hb : E1 X (.BoolOp .And (b :: rest) pos) gb) : E1 X (.BoolOp .And (a :: b :: rest) pos) (andD ga gb) :=
  pe_imp (pe_and ha hb) fun σ H Q ⟨r, d, env, hg, q⟩ => by
    obtain ⟨k, h1, h2⟩ := andD_some hg
    refine ⟨r, _, env, h1, fun v H1 s1 b1 => ?_⟩
    simp only [Br] at b1
    refine ⟨k, b1, ?_⟩
    cases k with
    | true => exact ⟨r, d, envOk_mono s1 env, h2, fun w H' s2 b2 => q w H' (s1.trans s2) b2⟩
    | false =>
      have h3 : some (PyData.bool false) = some d := h2
      injection h3 with h3; subst h3
      exact q _ H1 s1 (by simp only [Br])
theorem e_or (ha : E1 X a ga) (hb : E1 X (.BoolOp .Or (b :: rest) pos) gb) : E1 X (.BoolOp .Or (a :: b :: rest) pos) (orD ga gb) :=
  pe_imp (pe_or ha hb) fun σ H Q ⟨r, d, env, hg, q⟩ => by
    obtain ⟨k, h1, h2⟩ := orD_some hg
    refine ⟨r, _, env, h1, fun v H1 s1 b1 => ?_⟩
    simp only [Br] at b1
    refine ⟨k, b1, ?_⟩
    cases k with
    | false => exact ⟨r, d, envOk_mono s1 env, h2, fun w H' s2 b2 => q w H' (s1.trans s2) b2⟩
    | true =>
      have h3 : some (PyData.bool true) = some d := h2
      injection h3 with h3; subst h3
      exact q _ H1 s1 (by simp only [Br])
theorem e_not (ha : E1 X a ga) : E1 X (.UnaryOp .Not a pos) (notD ga) :=
  pe_imp (pe_not ha) fun σ H Q ⟨r, d, env, hg, q⟩ => by
    obtain ⟨k, h1, h2⟩ := notD_some hg
    subst h2
    refine ⟨r, _, env, h1, fun v H1 s1 b1 => ?_⟩
    simp only [Br] at b1
    exact ⟨k, b1, q _ H1 s1 (by simp only [Br])⟩
noncomputable def PW1 (X : Cx) (e : Expr) (g : Rho → Option PyData) : Prop := PW X e (tPT X.K X.mg g)
theorem w_and1 (ha : T1 X a ga) : PW1 X (.BoolOp .And [a] pos) ga := pw_and1 ha
theorem w_or1 (ha : T1 X a ga) : PW1 X (.BoolOp .Or [a] pos) ga := pw_or1 ha
theorem w_and (ha : T1 X a ga) (hb : PW1 X (.BoolOp .And (b :: rest) pos) gb) : PW1 X (.BoolOp .And (a :: b :: rest) pos) (andD ga gb) := by
  intro wh pins s σ H Q I ⟨r, k, env, hg, q⟩
  refine pw_and ha hb wh pins s σ H Q I ?_
  obtain ⟨k', h1, h2⟩ := andD_some hg
  refine ⟨r, k', env, h1, fun H1 s1 => ?_⟩
  cases k' with
  | true => exact ⟨r, k, envOk_mono s1 env, h2, fun H2 s2 => q H2 (s1.trans s2)⟩
  | false =>
    have h3 : some (PyData.bool false) = some (PyData.bool k) := h2
    injection h3 with h3; injection h3 with h3; subst h3
    exact q H1 s1
theorem w_or (ha : T1 X a ga) (hb : PW1 X (.BoolOp .Or (b :: rest) pos) gb) : PW1 X (.BoolOp .Or (a :: b :: rest) pos) (orD ga gb) := by
  intro wh pins s σ H Q I ⟨r, k, env, hg, q⟩
  refine pw_or ha hb wh pins s σ H Q I ?_
  obtain ⟨k', h1, h2⟩ := orD_some hg
  refine ⟨r, k', env, h1, fun H1 s1 => ?_⟩
  cases k' with
  | false => exact ⟨r, k, envOk_mono s1 env, h2, fun H2 s2 => q H2 (s1.trans s2)⟩
  | true =>
    have h3 : some (PyData.bool true) = some (PyData.bool k) := h2
    injection h3 with h3; injection h3 with h3; subst h3
    exact q H1 s1
theorem t_not (ha : T1 X a ga) : T1 X (.UnaryOp .Not a pos) (notD ga) :=
  pt_imp (pt_not ha) fun σ H Q ⟨r, k, env, hg, q⟩ => by
    obtain ⟨k', h1, h2⟩ := notD_some hg
    injection h2 with h2; subst h2
    exact ⟨r, k', env, h1, fun H1 s1 => q H1 s1⟩
theorem e_if (hc : T1 X c gc) (ha : E1 X a ga) (hb : E1 X b gb) : E1 X (.IfExp c a b pos) (ifD gc ga gb) :=
  pe_imp (pe_ifExp hc ha hb) fun σ H Q ⟨r, d, env, hg, q⟩ => by
    obtain ⟨k, h1, h2⟩ := ifD_some hg
    refine ⟨r, k, env, h1, fun H1 s1 => ?_⟩
    cases k with
    | true => exact ⟨r, d, envOk_mono s1 env, h2, fun w H' s2 b2 => q w H' (s1.trans s2) b2⟩
    | false => exact ⟨r, d, envOk_mono s1 env, h2, fun w H' s2 b2 => q w H' (s1.trans s2) b2⟩

/-! argument lists, displays -/
noncomputable def nilD (_ : Rho) : Option (List PyData) := some []
noncomputable def consD (ga : Rho → Option PyData) (gr : Rho → Option (List PyData)) (r : Rho) : Option (List PyData) := match ga r with
  | some x => match gr r with
    | some xs => some (x :: xs)
    | none => none
  | none => none
theorem consD_some {ga : Rho → Option PyData} {gr : Rho → Option (List PyData)} {r : Rho} {ds : List PyData} (h : consD ga gr r = some ds) : ∃ x xs, ga r = some x ∧ gr r = some xs ∧ ds = x :: xs := by
  unfold consD at h
  cases ha : ga r with
  | none => rw [ha] at h; cases h
  | some x =>
    rw [ha] at h
    cases hb : gr r with
    | none => rw [hb] at h; cases h
    | some y => rw [hb] at h; injection h with h; exact ⟨x, y, rfl, rfl, h.symm⟩
theorem a_nil : A1 X [] nilD := pa_imp pa_nil fun σ H Q ⟨r, ds, env, hg, q⟩ => by
  injection hg with e; subst e
  exact q [] H (Same.refl H) (by simp only [Brs])
theorem a_cons {e : Expr} {es : List Expr} {g : Rho → Option (List PyData)} (ha : E1 X e ga) (hr : A1 X es g) (hs : starEach (e :: es) X.env = (false, eval e X.env) :: starEach es X.env) : A1 X (e :: es) (consD ga g) :=
  pa_imp (pa_cons ha hr hs) fun σ H Q ⟨r, ds, env, hg, q⟩ => by
    obtain ⟨x, xs, h1, h2, rfl⟩ := consD_some hg
    refine ⟨r, x, env, h1, fun v H1 s1 b1 => ⟨r, xs, envOk_mono s1 env, h2, fun vs H2 s2 b2 => ?_⟩⟩
    refine q _ H2 (s1.trans s2) ?_
    simp only [Brs]
    exact ⟨v, vs, rfl, br_mono s2 x v b1, b2⟩
noncomputable def okLen (n : Nat) : Bool := decide (n ≤ 1000000)
theorem okLen_size {n : Nat} (h : okLen n = true) : n ≤ sizeLine := Nat.le_trans (of_decide_eq_true h) (by rw [sizeLine_eq]; decide)
noncomputable def tupD (g : Rho → Option (List PyData)) (r : Rho) : Option PyData := match g r with
  | some xs => if okLen xs.length = true then some (.tuple xs) else none
  | none => none
noncomputable def lstD (g : Rho → Option (List PyData)) (r : Rho) : Option PyData := match g r with
  | some xs => if okLen xs.length = true then some (.list xs) else none
  | none => none
theorem tupD_some {g : Rho → Option (List PyData)} {r : Rho} {d : PyData} (h : tupD g r = some d) : ∃ xs, g r = some xs ∧ okLen xs.length = true ∧ d = .tuple xs := by
  unfold tupD at h
  cases ha : g r with
  | none => rw [ha] at h; cases h
  | some x =>
    rw [ha] at h
    simp only at h
    split at h
    · rename_i e; injection h with h; exact ⟨x, rfl, e, h.symm⟩
    · cases h
theorem lstD_some {g : Rho → Option (List PyData)} {r : Rho} {d : PyData} (h : lstD g r = some d) : ∃ xs, g r = some xs ∧ okLen xs.length = true ∧ d = .list xs := by
  unfold lstD at h
  cases ha : g r with
  | none => rw [ha] at h; cases h
  | some x =>
    rw [ha] at h
    simp only at h
    split at h
    · rename_i e; injection h with h; exact ⟨x, rfl, e, h.symm⟩
    · cases h
theorem e_tup {es : List Expr} {x1 : Nat} {g : Rho → Option (List PyData)} (h : A1 X es g) : E1 X (.Tuple es x1 pos) (tupD g) :=
  pe_imp (pe_tup h) fun σ H Q ⟨r, d, env, hg, q⟩ => by
    obtain ⟨xs, h1, h2, rfl⟩ := tupD_some hg
    refine ⟨r, xs, env, h1, fun vs H1 s1 b1 => ⟨?_, fun p hp => ?_⟩⟩
    · rw [← brs_length xs vs b1]; exact okLen_size h2
    · refine q _ _ (s1.trans (same_new hp _)) ?_
      simp only [Br]
      exact ⟨p, vs, rfl, SqT.of upd_same, brs_mono (same_new hp _) xs vs b1⟩
theorem e_lst {es : List Expr} {g : Rho → Option (List PyData)} (h : A1 X es g) : E1 X (.List es pos) (lstD g) :=
  pe_imp (pe_lst h) fun σ H Q ⟨r, d, env, hg, q⟩ => by
    obtain ⟨xs, h1, h2, rfl⟩ := lstD_some hg
    refine ⟨r, xs, env, h1, fun vs H1 s1 b1 => ⟨?_, fun p hp => ?_⟩⟩
    · rw [← brs_length xs vs b1]; exact okLen_size h2
    · refine q _ _ (s1.trans (same_new hp _)) ?_
      simp only [Br]
      exact ⟨p, vs, rfl, SqL.of upd_same, brs_mono (same_new hp _) xs vs b1⟩

/-! calls -/
noncomputable def appD (f : List PyData → Option PyData) (g : Rho → Option (List PyData)) (r : Rho) : Option PyData := match g r with
  | some xs => f xs
  | none => none
theorem appD_some {f : List PyData → Option PyData} {g : Rho → Option (List PyData)} {r : Rho} {d : PyData} (h : appD f g r = some d) : ∃ xs, g r = some xs ∧ f xs = some d := by
  unfold appD at h
  cases ha : g r with
  | none => rw [ha] at h; cases h
  | some x => rw [ha] at h; exact ⟨x, rfl, h⟩
theorem tCB_of {K : PySem.W.Frag} {mg : Str → Option Value} {f : List PyData → Option PyData} {g : Rho → Option (List PyData)} (σ : L2.St) (H : Hp) (Q : VK) (h : tP K mg (appD f g) σ H Q) : tCB (rDC K mg f) (tPA K mg g) σ H Q := by
  obtain ⟨r, d, env, hg, q⟩ := h
  obtain ⟨xs, h1, h2⟩ := appD_some hg
  exact ⟨r, xs, env, h1, fun vs H1 s1 b1 => ⟨xs, d, b1, h2, fun w H' s2 b2 => q w H' (s1.trans s2) b2⟩⟩
/-- what a def promises -/
noncomputable def spP (K : PySem.W.Frag) (mg : Str → Option Value) (n : Nat) (f : List PyData → Option PyData) : Sp := fun vs H Q _ => vs.length = n ∧ rDC K mg f vs H Q
theorem tCall_of {K : PySem.W.Frag} {mg : Str → Option Value} {n : Nat} {f : List PyData → Option PyData} {g : Rho → Option (List PyData)} (hl : ∀ ds d, f ds = some d → ds.length = n) (σ : L2.St) (H : Hp) (Q : VK) (h : tP K mg (appD f g) σ H Q) : tCall (spP K mg n f) [] E0 (tPA K mg g) σ H Q := by
  obtain ⟨r, d, env, hg, q⟩ := h
  obtain ⟨xs, h1, h2⟩ := appD_some hg
  refine ⟨r, xs, env, h1, fun vs H1 s1 b1 => ?_⟩
  show spP K mg n f (vs ++ []) H1 Q E0
  rw [List.append_nil]
  exact ⟨by rw [← brs_length xs vs b1]; exact hl xs d h2, xs, d, b1, h2, fun w H' s2 b2 => q w H' (s1.trans s2) b2⟩
end
end PL

set_option Elab.async false
set_option linter.all false
set_option maxRecDepth 100000
namespace PL
open PySem PySem.Spec PyProof.Rows L2

/-! ### tuples: the whole slice, the turned one -/
section
variable {prog : Program} {w : World} {A : Around} {E : Value → Shared → Prop} {s : Shared}
theorem getItem_tuple_whole {t sl : Addr} {items : Array Value} {vl vu : Value} {lo hi : Option Int} {Q : Value → Shared → Prop} (ht : IsTup s.heap t items) (hs : s.heap.IsSliceOf sl vl vu .none) (pl : IsPart vl lo) (pu : IsPart vu hi)
    (h1 : HT.sIx items.size 0 lo = 0) (h2 : HT.sIx items.size items.size hi = items.size)
    (h : Q (.ref t) s) : wpAny (model prog w) A (getItem (.ref t) (.ref sl)) Q E s := by
  obtain ⟨os, hos, hcs, hds⟩ := id hs
  have hTs : s.TypeIs (.ref sl) "slice" := ⟨os, hos, hcs⟩
  unfold getItem
  try with_reducible refine wpAny_holding ?_
  first | refine wpAny_bind (wpAny_pure ?_) | skip
  refine wpAny_bind (wpAny_sequenceKey ht.typeIs (by decide) ?_)
  refine wpAny_bind (wpAny_callSpecial?_slot (name := Str.ofString "__getitem__") ht.typeIs PyProof.Rows.slot_tuple_getitem
    (wpAny_call_entry PyProof.Rows.slot_tuple_getitem ht.typeIs entry_tuple_getitem ?_ (args_tuple_getitem _ _)))
  show wpAny _ _ (Builtin.Tuple.tupleItemsOf (.ref t) >>= _) _ _ s
  refine wpAny_bind (tupleItemsOf_ ht ?_)
  refine wpAny_bind (wpAny_typeOf hTs ?_)
  rw [if_pos (by decide)]
  refine wpAny_bind (HT.sliceApplied_gen hs pl pu ?_)
  show wpAny _ _ (if (((HT.sIx items.size 0 lo : Nat) : Int) == 0 && (1 : Int) == 1 && (HT.sIx items.size items.size hi - HT.sIx items.size 0 lo) == items.size) = true then _ else _) _ _ s
  rw [if_pos (by rw [h1, h2]; simp)]
  refine wpAny_bind (m := Builtin.Tuple.tupleIsExact (.ref t)) ?_
  refine wpAny_bind (wpAny_typeOf ht.typeIs (wpAny_pure ?_))
  rw [if_pos (by decide)]
  exact wpAny_bind (wpAny_rule (wpAny_pure ⟨_, rfl, wpAny_pure h⟩))

/-- () + t -/
theorem cat_tup0 {t b : Addr} {vs ws : List Value} {Q : Value → Shared → Prop} (ht : IsTup s.heap t vs.toArray) (hb : IsTup s.heap b ws.toArray) (hv : vs = [])
    (h1 : Q (.ref b) s) : wpAny (model prog w) A (binaryOp .Add (.ref t) (.ref b)) Q E s := by
  obtain ⟨⟨cls, dd, data, sl⟩, ho, hc, n, hd⟩ := id ht
  obtain ⟨⟨cls2, dd2, data2, sl2⟩, ho2, hc2, n2, hd2⟩ := id hb
  simp only at hc hd hc2 hd2
  subst hc hd hc2 hd2
  exact concat_meets ⟨_, ho, rfl⟩ ⟨_, ho2, rfl⟩ noFill_tuple_add seq_tuple_add PySem.F.slot_tuple_add PySem.F.entry_tuple_add (PySem.F.args_tuple_add_2 _ _)
      (tuple_addW0 t b vs.toArray ws.toArray n n2 dd dd2 sl sl2 (by simp [hv])) ⟨ho, ho2, h1⟩
end

/-! ### the operators on data -/
noncomputable def okMul (i j : Int) : Bool := decide ((-(2 ^ 64) < i ∧ i < 2 ^ 64) ∨ (-(2 ^ 64) < j ∧ j < 2 ^ 64) ∨ (i.natAbs.log2 < 3000 ∧ j.natAbs.log2 < 3000))
noncomputable def okDiv (j : Int) : Bool := decide (0 < j ∧ j < 1073741824)
noncomputable def b01 (k : Bool) : Int := if k = true then 1 else 0
noncomputable def addD : PyData → PyData → Option PyData
  | .int i, .int j => some (.int (i + j))
  | .bool k, .int j => some (.int (b01 k + j))
  | .str x, .str y => if okLen (x.length + y.length) = true then some (.str (x ++ y)) else none
  | .tuple xs, .tuple ys => if okLen (xs.length + ys.length) = true then some (.tuple (xs ++ ys)) else none
  | .list xs, .list ys => if okLen (xs.length + ys.length) = true then some (.list (xs ++ ys)) else none
  | _, _ => none
noncomputable def intOp (g : Int → Int → Option PyData) : PyData → PyData → Option PyData
  | .int i, .int j => g i j
  | _, _ => none
theorem intOp_some {g : Int → Int → Option PyData} {x y d : PyData} (h : intOp g x y = some d) : ∃ i j, x = .int i ∧ y = .int j ∧ g i j = some d := by
  unfold intOp at h
  split at h
  · exact ⟨_, _, rfl, rfl, h⟩
  · cases h
noncomputable def subD : PyData → PyData → Option PyData := intOp fun i j => some (.int (i - j))
noncomputable def strMul (x : Str) (n : Int) : Str := ⟨(List.replicate n.toNat x.cps).foldl (· ++ ·) #[]⟩
noncomputable def okRep (x : Str) (n : Int) : Bool := decide (1 < n) && decide (n ≤ 1000000) && !(x.length == 0) && okLen (x.length * n.toNat)
noncomputable def mulD : PyData → PyData → Option PyData
  | .int i, .int j => if okMul i j = true then some (.int (i * j)) else none
  | .str x, .int n => if okRep x n = true then some (.str (strMul x n)) else none
  | _, _ => none
noncomputable def divD : PyData → PyData → Option PyData := intOp fun i j => if okDiv j = true then some (.int (i / j)) else none
noncomputable def modD : PyData → PyData → Option PyData := intOp fun i j => if decide (0 < j) = true then some (.int (i % j)) else none
noncomputable def okPow (i j : Int) : Bool := decide (0 ≤ j ∧ j ≤ 1000000 ∧ i.natAbs < 2 ^ 64)
noncomputable def powD : PyData → PyData → Option PyData := intOp fun i j => if okPow i j = true then some (.int (i ^ j.toNat)) else none
noncomputable def binD : Operator → PyData → PyData → Option PyData
  | .Add => addD
  | .Sub => subD
  | .Mult => mulD
  | .FloorDiv => divD
  | .Mod => modD
  | .Pow => powD
  | _ => fun _ _ => none
noncomputable def okEq (a b : PyData) : Bool := a.canLay0 && b.canLay0 && decide (min a.depth b.depth ≤ 100)
noncomputable def eqD (a b : PyData) : Option PyData := if okEq a b = true then some (.bool (PyData.eqv a b)) else none
noncomputable def neD (a b : PyData) : Option PyData := if okEq a b = true then some (.bool (!PyData.eqv a b)) else none
noncomputable def ltD : PyData → PyData → Option PyData := intOp fun i j => some (.bool (decide (i < j)))
noncomputable def leD : PyData → PyData → Option PyData := intOp fun i j => some (.bool (decide (i ≤ j)))
noncomputable def gtD : PyData → PyData → Option PyData := intOp fun i j => some (.bool (decide (j < i)))
noncomputable def geD : PyData → PyData → Option PyData := intOp fun i j => some (.bool (decide (j ≤ i)))
noncomputable def inD (a : PyData) : PyData → Option PyData
  | .tuple ys => if (PyData.canLayAll0 ys && a.canLay0 && decide (a.depth ≤ 100)) = true then some (.bool (ys.any fun y => PyData.eqv y a)) else none
  | .list ys => if (PyData.canLayAll0 ys && a.canLay0 && decide (a.depth ≤ 100)) = true then some (.bool (ys.any fun y => PyData.eqv y a)) else none
  | _ => none
noncomputable def notInD (a b : PyData) : Option PyData := match inD a b with
  | some (.bool k) => some (.bool (!k))
  | _ => none
noncomputable def isD : PyData → PyData → Option PyData := fun _ _ => none
noncomputable def isNotD : PyData → PyData → Option PyData := fun _ _ => none
noncomputable def cmpD : CmpOp → PyData → PyData → Option PyData
  | .Eq => eqD
  | .NotEq => neD
  | .Lt => ltD
  | .LtE => leD
  | .Gt => gtD
  | .GtE => geD
  | .In => inD
  | .NotIn => notInD
  | .Is => isD
  | .IsNot => isNotD

section
variable {X : Cx}
theorem ite_some {α : Type} {c : Prop} [Decidable c] {a d : α} (h : (if c then some a else none) = some d) : c ∧ a = d := by
  split at h
  · rename_i hc; injection h with h; exact ⟨hc, h⟩
  · cases h
theorem i_add : OpR X (binaryOp .Add) (rD X.K X.mg addD) := by
  intro pins s σ H v u vv uu Q I rv ru h
  obtain ⟨x, y, d, bx, bY, hf, q⟩ := h
  cases x with
  | bool k =>
    cases y with
    | int j =>
      injection hf with e; subst e
      simp only [Br] at bx bY
      subst bx bY
      cases rv
      obtain ⟨t, rfl⟩ := ru
      exact IntBool.add_bool_int ⟨.int (b01 k + j), H, I.tok _, ⟨_, rfl⟩, q _ H (Same.refl H) (by simp only [Br])⟩
    | _ => cases hf
  | int i =>
    cases y with
    | int j =>
      injection hf with e; subst e
      simp only [Br] at bx bY
      exact op_add pins s σ H v u vv uu Q I rv ru ⟨i, j, bx, bY, q _ H (Same.refl H) (by simp only [Br])⟩
    | _ => cases hf
  | str i =>
    cases y with
    | str j =>
      · obtain ⟨hz, e⟩ := ite_some hf
        subst e
        simp only [Br] at bx bY
        exact op_add_str pins s σ H v u vv uu Q I rv ru ⟨i, j, bx, bY, okLen_size hz, q _ H (Same.refl H) (by simp only [Br])⟩
    | _ => cases hf
  | tuple xs =>
    cases y with
    | tuple ys =>
      · obtain ⟨hz, e⟩ := ite_some hf
        subst e
        simp only [Br] at bx bY
        obtain ⟨a, vs, rfl, ha, hvs⟩ := bx
        obtain ⟨b, ws, rfl, hb, hws⟩ := bY
        by_cases hxs : vs = []
        · cases rv; cases ru
          obtain ⟨its, r1, p1, _⟩ := I.tuple ha
          obtain ⟨its2, r2, p2, _⟩ := I.tuple hb
          refine cat_tup0 p1 p2 (r1.nil_iff.mpr hxs) ⟨.ref b, H, I, rfl, q _ H (Same.refl H) ?_⟩
          subst hxs
          have e0 : xs = [] := List.length_eq_zero_iff.mp (by rw [brs_length xs [] hvs]; rfl)
          subst e0
          simp only [List.nil_append, Br]
          exact ⟨b, ws, rfl, hb, hws⟩
        · refine op_catT pins s σ H _ _ vv uu Q I rv ru ⟨a, b, vs, ws, rfl, rfl, ha, hb, hxs, ?_, fun e => ?_, fun e p hp => ?_⟩
          · rw [← brs_length xs vs hvs, ← brs_length ys ws hws]; exact okLen_size hz
          · subst e
            have e0 : ys = [] := List.length_eq_zero_iff.mp (by rw [brs_length ys [] hws]; rfl)
            subst e0
            refine q _ H (Same.refl H) ?_
            simp only [List.append_nil, Br]
            exact ⟨a, vs, rfl, ha, hvs⟩
          · refine q _ _ (same_new hp _) ?_
            simp only [Br]
            exact ⟨p, vs ++ ws, rfl, SqT.of upd_same, brs_mono (same_new hp _) _ _ (brs_append xs ys vs ws hvs hws)⟩
    | _ => cases hf
  | list xs =>
    cases y with
    | list ys =>
      · obtain ⟨hz, e⟩ := ite_some hf
        subst e
        simp only [Br] at bx bY
        obtain ⟨a, vs, rfl, ha, hvs⟩ := bx
        obtain ⟨b, ws, rfl, hb, hws⟩ := bY
        cases rv; cases ru
        obtain ⟨its, r1, ⟨o1, n1, e1, c1, d1, s1⟩, _⟩ := I.list ha
        obtain ⟨its2, r2, ⟨o2, n2, e2, c2, d2, s2⟩, _⟩ := I.list hb
        have l1 := brs_length xs vs hvs
        have l2 := brs_length ys ws hws
        have l3 := r1.length
        have l4 := r2.length
        have hsz := okLen_size hz
        obtain ⟨cls, dd, data, sl⟩ := o1
        obtain ⟨cls2, dd2, data2, sl2⟩ := o2
        simp only at c1 d1 s1 c2 d2 s2
        subst c1 d1 s1 c2 d2 s2
        refine concat_meets ⟨_, e1, rfl⟩ ⟨_, e2, rfl⟩ noFill_list_add seq_list_add PySem.F.slot_list_add PySem.F.entry_list_add (PySem.F.args_list_add_2 _ _) (list_addW a b its.toArray its2.toArray n1 n2 none none sl sl2 (by rw [List.size_toArray, List.size_toArray]; omega)) ⟨e1, e2, ?_⟩
        have ea : its.toArray ++ its2.toArray = (its ++ its2).toArray := by simp
        rw [ea]
        refine ⟨.ref _, _, I.lnew (t' := s.toks) (r1.append r2) (by rw [List.length_append]; omega), rfl, q _ _ (same_new I.fresh _) ?_⟩
        simp only [Br]
        exact ⟨_, vs ++ ws, rfl, SqL.of upd_same, brs_mono (same_new I.fresh _) _ _ (brs_append xs ys vs ws hvs hws)⟩
    | _ => cases hf
  | _ => cases hf
theorem int_op {f : Value → Value → Sem Value} {C : Int → Int → Prop} {g : Int → Int → V} {F : PyData → PyData → Option PyData} (h : OpR X f (rI C g))
    (hF : ∀ x y d, F x y = some d → ∃ i j, x = .int i ∧ y = .int j ∧ C i j ∧ ∀ H, Br X.K X.mg H d (g i j)) : OpR X f (rD X.K X.mg F) := by
  intro pins s σ H v u vv uu Q I rv ru ⟨x, y, d, bx, bY, hf, q⟩
  obtain ⟨i, j, rfl, rfl, c, b⟩ := hF x y d hf
  simp only [Br] at bx bY
  exact h pins s σ H v u vv uu Q I rv ru ⟨i, j, bx, bY, c, q _ H (Same.refl H) (b H)⟩
theorem int_op0 {f : Value → Value → Sem Value} {g : Int → Int → V} {F : PyData → PyData → Option PyData} (h : OpR X f (rI0 g))
    (hF : ∀ x y d, F x y = some d → ∃ i j, x = .int i ∧ y = .int j ∧ ∀ H, Br X.K X.mg H d (g i j)) : OpR X f (rD X.K X.mg F) := by
  intro pins s σ H v u vv uu Q I rv ru ⟨x, y, d, bx, bY, hf, q⟩
  obtain ⟨i, j, rfl, rfl, b⟩ := hF x y d hf
  simp only [Br] at bx bY
  exact h pins s σ H v u vv uu Q I rv ru ⟨i, j, bx, bY, q _ H (Same.refl H) (b H)⟩
theorem i_sub : OpR X (binaryOp .Sub) (rD X.K X.mg subD) := int_op0 op_sub fun x y d h => by
  obtain ⟨i, j, rfl, rfl, e⟩ := intOp_some h
  injection e with e
  subst e
  exact ⟨_, _, rfl, rfl, fun H => by simp only [Br]⟩
theorem i_lt : OpR X (compareOp .Lt) (rD X.K X.mg ltD) := int_op0 op_lt fun x y d h => by
  obtain ⟨i, j, rfl, rfl, e⟩ := intOp_some h
  injection e with e
  subst e
  exact ⟨_, _, rfl, rfl, fun H => by simp only [Br]⟩
theorem i_le : OpR X (compareOp .LtE) (rD X.K X.mg leD) := int_op0 op_le fun x y d h => by
  obtain ⟨i, j, rfl, rfl, e⟩ := intOp_some h
  injection e with e
  subst e
  exact ⟨_, _, rfl, rfl, fun H => by simp only [Br]⟩
theorem i_gt : OpR X (compareOp .Gt) (rD X.K X.mg gtD) := int_op0 op_gt fun x y d h => by
  obtain ⟨i, j, rfl, rfl, e⟩ := intOp_some h
  injection e with e
  subst e
  exact ⟨_, _, rfl, rfl, fun H => by simp only [Br]⟩
theorem i_ge : OpR X (compareOp .GtE) (rD X.K X.mg geD) := int_op0 op_ge fun x y d h => by
  obtain ⟨i, j, rfl, rfl, e⟩ := intOp_some h
  injection e with e
  subst e
  exact ⟨_, _, rfl, rfl, fun H => by simp only [Br]⟩
theorem bits_le {i : Int} (h : i.natAbs.log2 < 3000) : Builtin.Int.intBits i ≤ 3000 := by
  unfold Builtin.Int.intBits
  split <;> omega
theorem okMul_c {i j : Int} (h : okMul i j = true) : IntMulOk i j := by
  unfold okMul at h
  rcases of_decide_eq_true h with h | h | h
  · exact CMul.ok (.inl h)
  · exact CMul.ok (.inr h)
  · have h1 := bits_le h.1
    have h2 := bits_le h.2
    have h3 : 6000 ≤ bitsLine := by decide
    have h4 : ¬ ((Builtin.Int.intBits i : Int) + (Builtin.Int.intBits j : Int) > (bitsLine : Int)) := by omega
    unfold IntMulOk Builtin.Int.intTooBig
    rw [decide_eq_false h4, Bool.and_false]
    exact Bool.false_ne_true
theorem op_mulB : OpR X (binaryOp .Mult) (rI IntMulOk fun i j => .int (i * j)) := opI fun _ _ _ _ _ _ _ hc q => mul_int q hc
theorem okDiv_c {i j : Int} (h : okDiv j = true) : CDiv i j := by unfold okDiv at h; have h' := of_decide_eq_true h; exact h'
theorem rep_size {α : Type} (a : Array α) : ∀ (k : Nat) (b : Array α), ((List.replicate k a).foldl (· ++ ·) b).size = b.size + k * a.size
  | 0, b => by simp
  | k + 1, b => by
    rw [List.replicate_succ, List.foldl_cons, rep_size a k]
    simp only [Array.size_append]
    rw [Nat.succ_mul]
    omega
theorem i_mul : OpR X (binaryOp .Mult) (rD X.K X.mg mulD) := by
  intro pins s σ H v u vv uu Q I rv ru ⟨x, y, d, bx, bY, hf, q⟩
  cases x with
  | int i =>
    cases y with
    | int j =>
      obtain ⟨hc, e⟩ := ite_some hf
      subst e
      simp only [Br] at bx bY
      exact op_mulB pins s σ H v u vv uu Q I rv ru ⟨i, j, bx, bY, okMul_c hc, q _ H (Same.refl H) (by simp only [Br])⟩
    | _ => cases hf
  | str z =>
    cases y with
    | int n =>
      obtain ⟨hc, e⟩ := ite_some hf
      subst e
      simp only [Br] at bx bY
      subst bx bY
      obtain ⟨t, rfl⟩ := rv
      obtain ⟨t', rfl⟩ := ru
      unfold okRep at hc
      simp only [Bool.and_eq_true, decide_eq_true_eq] at hc
      obtain ⟨⟨⟨h1, h2⟩, h3⟩, h4⟩ := hc
      have h4' := okLen_size h4
      have h5 : (n == 1 || z.length == 0) = false := by
        have : (n == 1) = false := by simp; omega
        rw [this]; simpa using h3
      refine PySem.P.mul_str (by
          have a1 : ¬ n < -(2 ^ 63 : Int) := by omega
          have a2 : ¬ n ≥ 2 ^ 63 := by omega
          rw [decide_eq_false a1, decide_eq_false a2]; rfl) (fun _ _ z1 => ?_) (fun _ _ => ?_) ?_
      · have hz : z.length * 1 ≤ z.length * n.toNat := Nat.mul_le_mul_left _ (by omega)
        have hs : sizeLine = 16777216 := sizeLine_eq
        have z2 : (z.length : Int) ≤ 16777216 := by omega
        have z3 : (16777217 : Int) ≤ (2 ^ 63 - 1) / n := Int.le_ediv_of_mul_le (by omega) (by omega)
        omega
      · unfold Builtin.Str.tooLong
        exact decide_eq_false (by omega)
      · rw [if_neg (by omega), if_neg (by rw [h5]; decide)]
        refine ⟨?_, .str _, H, I.tok _, ⟨_, rfl⟩, q _ H (Same.refl H) (by simp only [Br]; rfl)⟩
        show (List.foldl (· ++ ·) #[] (List.replicate n.toNat z.cps)).size ≤ sizeLine
        rw [rep_size]
        have e9 : z.cps.size = z.length := rfl
        rw [e9, Nat.mul_comm]
        simpa using h4'
    | _ => cases hf
  | _ => cases hf
theorem i_div : OpR X (binaryOp .FloorDiv) (rD X.K X.mg divD) := int_op op_fdiv fun x y d h => by
  obtain ⟨i, j, rfl, rfl, e⟩ := intOp_some h
  obtain ⟨hc, e⟩ := ite_some e
  subst e
  exact ⟨_, _, rfl, rfl, okDiv_c hc, fun H => by simp only [Br]⟩
theorem i_mod : OpR X (binaryOp .Mod) (rD X.K X.mg modD) := int_op op_mod fun x y d h => by
  obtain ⟨i, j, rfl, rfl, e⟩ := intOp_some h
  obtain ⟨hc, e⟩ := ite_some e
  subst e
  exact ⟨_, _, rfl, rfl, of_decide_eq_true hc, fun H => by simp only [Br]⟩
theorem okPow_c {i j : Int} (h : okPow i j = true) : CPow i j := by unfold okPow at h; have h' := of_decide_eq_true h; exact h'
theorem i_pow : OpR X (binaryOp .Pow) (rD X.K X.mg powD) := int_op op_pow fun x y d h => by
  obtain ⟨i, j, rfl, rfl, e⟩ := intOp_some h
  obtain ⟨hc, e⟩ := ite_some e
  subst e
  exact ⟨_, _, rfl, rfl, okPow_c hc, fun H => by simp only [Br]⟩
theorem none_op {f : Value → Value → Sem Value} : OpR X f (rD X.K X.mg fun _ _ => none) := by
  intro pins s σ H v u vv uu Q I rv ru ⟨x, y, d, bx, bY, hf, q⟩
  cases hf
theorem i_bin (op : Operator) : OpR X (binaryOp op) (rD X.K X.mg (binD op)) := by
  cases op with
  | Add => exact i_add
  | Sub => exact i_sub
  | Mult => exact i_mul
  | FloorDiv => exact i_div
  | Mod => exact i_mod
  | Pow => exact i_pow
  | _ => exact none_op
theorem okEq_parts {a b : PyData} (h : okEq a b = true) : a.canLay0 = true ∧ b.canLay0 = true ∧ min a.depth b.depth ≤ 100 := by
  unfold okEq at h
  rw [Bool.and_eq_true, Bool.and_eq_true] at h
  exact ⟨h.1.1, h.1.2, of_decide_eq_true h.2⟩
theorem i_eq (hu : X.A.units + 110 < cLine) : OpR X (compareOp .Eq) (rD X.K X.mg eqD) := by
  intro pins s σ H v u vv uu Q I rv ru ⟨x, y, d, bx, bY, hf, q⟩
  obtain ⟨hc, e⟩ := ite_some hf
  subst e
  obtain ⟨h1, h2, h3⟩ := okEq_parts hc
  obtain ⟨as, r1⟩ := reads_of I x v vv h1 bx rv
  obtain ⟨bs, r2⟩ := reads_of I y u uu h2 bY ru
  exact PySem.SeqAt.compareEq_reads r1 r2 h1 h2 (by omega) ⟨.bl _, H, I, rfl, q _ H (Same.refl H) (by simp only [Br])⟩
theorem i_ne (hu : X.A.units + 110 < cLine) : OpR X (compareOp .NotEq) (rD X.K X.mg neD) := by
  intro pins s σ H v u vv uu Q I rv ru ⟨x, y, d, bx, bY, hf, q⟩
  obtain ⟨hc, e⟩ := ite_some hf
  subst e
  obtain ⟨h1, h2, h3⟩ := okEq_parts hc
  obtain ⟨as, r1⟩ := reads_of I x v vv h1 bx rv
  obtain ⟨bs, r2⟩ := reads_of I y u uu h2 bY ru
  exact PySem.SeqAt.compareNe_reads r1 r2 h1 h2 (by omega) ⟨.bl _, H, I, rfl, q _ H (Same.refl H) (by simp only [Br])⟩
end
end PL

set_option Elab.async false
set_option linter.all false
set_option maxRecDepth 100000
namespace PL
open PySem PySem.Spec PyProof.Rows L2
section
variable {X : Cx}
open Classical in
theorem any_reads {h : Heap} {x : PyData} : ∀ (ys : List PyData) (us : List Value) (as : List Addr), PyData.canLayAll0 ys = true → ReadsAll h us ys as →
    us.any (fun u => decide (∃ d as, d.canLay0 = true ∧ Reads h u d as ∧ PyData.eqv d x = true)) = ys.any (fun y => PyData.eqv y x) ∧
    ∀ u ∈ us, ∃ d as, d.canLay0 = true ∧ Reads h u d as ∧ (decide (∃ d as, d.canLay0 = true ∧ Reads h u d as ∧ PyData.eqv d x = true)) = PyData.eqv d x
  | [], us, as, c, r => by cases r; simp
  | y :: ys, us, as, c, r => by
    have c' : y.canLay0 = true ∧ PyData.canLayAll0 ys = true := by simpa [PyData.canLayAll0] using c
    cases r with
    | @cons v vs _ _ as bs r1 r2 =>
      obtain ⟨ih1, ih2⟩ := any_reads ys vs bs c'.2 r2
      have key : (decide (∃ d as, d.canLay0 = true ∧ Reads h v d as ∧ PyData.eqv d x = true)) = PyData.eqv y x := by
        by_cases e : PyData.eqv y x = true
        · rw [e]; exact decide_eq_true ⟨y, as, c'.1, r1, e⟩
        · rw [Bool.eq_false_iff.mpr e]
          refine decide_eq_false fun ⟨d, as', cd, rd, ed⟩ => ?_
          have := PySem.SeqAt.Reads.unique d y v as' as cd rd r1
          rw [this] at ed
          exact e ed
      refine ⟨?_, fun u hu => ?_⟩
      · rw [List.any_cons, List.any_cons, key, ih1]
      · rcases List.mem_cons.mp hu with rfl | hu
        · exact ⟨y, as, c'.1, r1, key⟩
        · exact ih2 u hu
open Classical in
theorem in_core {neg : Bool} (hu : X.A.units + 110 < cLine) {op : CmpOp} (hop : op = if neg then .NotIn else .In) {F : PyData → PyData → Option PyData} (hF : ∀ a b d, F a b = some d → ∃ ys, (b = .tuple ys ∨ b = .list ys) ∧ PyData.canLayAll0 ys = true ∧ a.canLay0 = true ∧ a.depth ≤ 100 ∧ d = .bool (if neg then !(ys.any fun y => PyData.eqv y a) else ys.any fun y => PyData.eqv y a)) :
    OpR X (compareOp op) (rD X.K X.mg F) := by
  intro pins s σ H v u vv uu Q I rv ru ⟨x, y, d, bx, bY, hf, q⟩
  obtain ⟨ys, hb, c1, c2, c3, rfl⟩ := hF x y d hf
  obtain ⟨as, r1⟩ := reads_of I x v vv c2 bx rv
  have eqs : ∀ (us : List Value) (bs : List Addr), ReadsAll s.heap us ys bs → ∀ z, z ∈ us.toArray → PySem.SeqAt.EqAt X.A.in1 s z vv (decide (∃ d as, d.canLay0 = true ∧ Reads s.heap z d as ∧ PyData.eqv d x = true)) := fun us bs r z hz => by
    obtain ⟨_, h2⟩ := any_reads (x := x) ys us bs c1 r
    obtain ⟨d, as', cd, rd, ed⟩ := h2 z (by simpa using hz)
    rw [ed]
    refine PySem.SeqAt.eqAt_reads d x X.A.in1 s z vv as' as rd r1 cd c2 ?_
    show X.A.units + 1 + min d.depth x.depth < cLine
    have : min d.depth x.depth ≤ x.depth := Nat.min_le_right _ _
    omega
  rcases hb with rfl | rfl
  · simp only [Br] at bY
    obtain ⟨a, ws, rfl, ha, hws⟩ := bY
    cases ru
    obtain ⟨its, r2, p, _⟩ := I.tuple ha
    obtain ⟨bs, r3⟩ := readsAll_of I ys ws its c1 hws r2
    have k := (any_reads (x := x) ys its bs c1 r3).1
    have k' : its.toArray.any (fun u => decide (∃ d as, d.canLay0 = true ∧ Reads s.heap u d as ∧ PyData.eqv d x = true)) = ys.any (fun y => PyData.eqv y x) := by rw [← k]; simp
    cases neg with
    | true =>
      subst hop
      refine PySem.SeqAt.notIn_tupleAt _ p (eqs its bs r3) ?_
      rw [k']
      exact ⟨.bl _, H, I, rfl, q _ H (Same.refl H) (by simp [Br])⟩
    | false =>
      subst hop
      refine PySem.SeqAt.in_tupleAt _ p (eqs its bs r3) ?_
      rw [k']
      exact ⟨.bl _, H, I, rfl, q _ H (Same.refl H) (by simp [Br])⟩
  · simp only [Br] at bY
    obtain ⟨a, ws, rfl, ha, hws⟩ := bY
    cases ru
    obtain ⟨its, r2, p, _⟩ := I.list ha
    obtain ⟨bs, r3⟩ := readsAll_of I ys ws its c1 hws r2
    have k := (any_reads (x := x) ys its bs c1 r3).1
    have k' : its.toArray.any (fun u => decide (∃ d as, d.canLay0 = true ∧ Reads s.heap u d as ∧ PyData.eqv d x = true)) = ys.any (fun y => PyData.eqv y x) := by rw [← k]; simp
    cases neg with
    | true =>
      subst hop
      refine PySem.SeqAt.notIn_listAt _ p.isList (eqs its bs r3) ?_
      rw [k']
      exact ⟨.bl _, H, I, rfl, q _ H (Same.refl H) (by simp [Br])⟩
    | false =>
      subst hop
      refine PySem.SeqAt.in_listAt _ p.isList (eqs its bs r3) ?_
      rw [k']
      exact ⟨.bl _, H, I, rfl, q _ H (Same.refl H) (by simp [Br])⟩
theorem inD_some (a b d : PyData) (h : inD a b = some d) : ∃ ys, (b = .tuple ys ∨ b = .list ys) ∧ PyData.canLayAll0 ys = true ∧ a.canLay0 = true ∧ a.depth ≤ 100 ∧ d = .bool (ys.any fun y => PyData.eqv y a) := by
  have key : ∀ ys, (if (PyData.canLayAll0 ys && a.canLay0 && decide (a.depth ≤ 100)) = true then some (PyData.bool (ys.any fun y => PyData.eqv y a)) else none) = some d →
      PyData.canLayAll0 ys = true ∧ a.canLay0 = true ∧ a.depth ≤ 100 ∧ d = .bool (ys.any fun y => PyData.eqv y a) := fun ys h => by
    obtain ⟨c, e⟩ := ite_some h
    rw [Bool.and_eq_true, Bool.and_eq_true] at c
    exact ⟨c.1.1, c.1.2, of_decide_eq_true c.2, e.symm⟩
  cases b with
  | tuple ys => exact ⟨ys, .inl rfl, key ys h⟩
  | list ys => exact ⟨ys, .inr rfl, key ys h⟩
  | _ => cases h
theorem i_in (hu : X.A.units + 110 < cLine) : OpR X (compareOp .In) (rD X.K X.mg inD) := in_core (neg := false) hu rfl fun a b d h => inD_some a b d h
theorem i_notIn (hu : X.A.units + 110 < cLine) : OpR X (compareOp .NotIn) (rD X.K X.mg notInD) := in_core (neg := true) hu rfl fun a b d h => by
  unfold notInD at h
  split at h
  · rename_i k e
    obtain ⟨ys, h1, h2, h3, h4, h5⟩ := inD_some a b _ e
    injection h5 with h5
    injection h with h
    exact ⟨ys, h1, h2, h3, h4, by rw [← h, h5]; rfl⟩
  · cases h
theorem i_is : OpR X (compareOp .Is) (rD X.K X.mg isD) := none_op
theorem i_isNot : OpR X (compareOp .IsNot) (rD X.K X.mg isNotD) := none_op
theorem i_cmp (hu : X.A.units + 110 < cLine) (op : CmpOp) : OpR X (compareOp op) (rD X.K X.mg (cmpD op)) := by
  cases op with
  | Eq => exact i_eq hu
  | NotEq => exact i_ne hu
  | Lt => exact i_lt
  | LtE => exact i_le
  | Gt => exact i_gt
  | GtE => exact i_ge
  | In => exact i_in hu
  | NotIn => exact i_notIn hu
  | Is => exact i_is
  | IsNot => exact i_isNot

/-! ### -x -/
theorem gives_neg_bool (k : Bool) : Gives (Builtin.«int.__neg__» ⟨[.bool k], []⟩) (.int (-(b01 k))) := .of_eq rfl
noncomputable def negD : PyData → Option PyData
  | .int i => some (.int (-i))
  | .bool k => some (.int (-(b01 k)))
  | _ => none
theorem i_neg : UnR X (unaryOp .USub) (rDU X.K X.mg negD) := by
  intro pins s σ H v vv Q I rv ⟨x, d, bx, hf, q⟩
  cases x with
  | bool k =>
    injection hf with e; subst e
    simp only [Br] at bx
    subst bx
    cases rv
    exact unaryOp_gives (op := .USub) (T := "bool") rfl rfl F.slot_bool_neg F.entry_int_neg (F.args_int_neg_1 _) (gives_neg_bool k) ⟨.int (-(b01 k)), H, I.tok _, ⟨_, rfl⟩, q _ H (Same.refl H) (by simp only [Br])⟩
  | int i =>
    injection hf with e; subst e
    simp only [Br] at bx
    exact un_neg pins s σ H v vv Q I rv ⟨i, bx, q _ H (Same.refl H) (by simp only [Br])⟩
  | _ => cases hf
noncomputable def un1 (f : PyData → Option PyData) (ga : Rho → Option PyData) (r : Rho) : Option PyData := match ga r with
  | some x => f x
  | none => none
theorem un1_some {f : PyData → Option PyData} {ga : Rho → Option PyData} {r : Rho} {d : PyData} (h : un1 f ga r = some d) : ∃ x, ga r = some x ∧ f x = some d := by
  unfold un1 at h
  cases ha : ga r with
  | none => rw [ha] at h; cases h
  | some x => rw [ha] at h; exact ⟨x, rfl, h⟩
theorem e_neg {a : Expr} {pos : Pos} {ga : Rho → Option PyData} (ha : E1 X a ga) : E1 X (.UnaryOp .USub a pos) (un1 negD ga) :=
  pe_imp (pe_un i_neg ha) fun σ H Q ⟨r, d, env, hg, q⟩ => by
    obtain ⟨x, h1, h2⟩ := un1_some hg
    exact ⟨r, x, env, h1, fun v H1 s1 b1 => ⟨x, d, b1, h2, fun w H' s2 b2 => q w H' (s1.trans s2) b2⟩⟩

/-! ### built-in calls -/
noncomputable def lenD : List PyData → Option PyData
  | [.list xs] => some (.int xs.length)
  | [.tuple xs] => some (.int xs.length)
  | [.str x] => if okLen x.length = true then some (.int x.length) else none
  | _ => none
theorem brs1 {K : PySem.W.Frag} {mg : Str → Option Value} {H : Hp} {d : PyData} {vs : List V} (b : Brs K mg H [d] vs) : ∃ v, vs = [v] ∧ Br K mg H d v := by
  simp only [Brs] at b
  obtain ⟨v, r, rfl, b1, rfl⟩ := b
  exact ⟨v, rfl, b1⟩
theorem brs2 {K : PySem.W.Frag} {mg : Str → Option Value} {H : Hp} {d e : PyData} {vs : List V} (b : Brs K mg H [d, e] vs) : ∃ v w, vs = [v, w] ∧ Br K mg H d v ∧ Br K mg H e w := by
  simp only [Brs] at b
  obtain ⟨v, r, rfl, b1, w, r', rfl, b2, rfl⟩ := b
  exact ⟨v, w, rfl, b1, b2⟩
theorem c_len : CallR X (.builtin "len") (rDC X.K X.mg lenD) := by
  intro pins s σ H vs us Q I r ⟨xs, d, bs, hf, q⟩
  unfold lenD at hf
  split at hf
  · injection hf with e; subst e
    obtain ⟨v, rfl, b⟩ := brs1 bs
    simp only [Br] at b
    obtain ⟨a, ws, rfl, h1, h2⟩ := b
    refine call_len_seq pins s σ H _ us Q I r ⟨a, ws, rfl, .inl h1, ?_⟩
    rw [← brs_length _ ws h2]
    exact q _ H (Same.refl H) (by simp only [Br])
  · injection hf with e; subst e
    obtain ⟨v, rfl, b⟩ := brs1 bs
    simp only [Br] at b
    obtain ⟨a, ws, rfl, h1, h2⟩ := b
    refine call_len_seq pins s σ H _ us Q I r ⟨a, ws, rfl, .inr h1, ?_⟩
    rw [← brs_length _ ws h2]
    exact q _ H (Same.refl H) (by simp only [Br])
  · obtain ⟨hz, e⟩ := ite_some hf
    subst e
    obtain ⟨v, rfl, b⟩ := brs1 bs
    simp only [Br] at b
    subst b
    exact call_len_str pins s σ H _ us Q I r ⟨_, rfl, okLen_size hz, q _ H (Same.refl H) (by simp only [Br])⟩
  · cases hf
noncomputable def minD : List PyData → Option PyData
  | [.int i, .int j] => some (.int (if j < i then j else i))
  | _ => none
noncomputable def maxD : List PyData → Option PyData
  | [.int i, .int j] => some (.int (if j > i then j else i))
  | _ => none
theorem c_min (hc : X.calm = true) : CallR X (.builtin "min") (rDC X.K X.mg minD) := by
  intro pins s σ H vs us Q I r ⟨xs, d, bs, hf, q⟩
  unfold minD at hf
  split at hf
  · injection hf with e; subst e
    obtain ⟨v, w, rfl, b1, b2⟩ := brs2 bs
    simp only [Br] at b1 b2
    subst b1 b2
    exact call_min2 hc pins s σ H _ us Q I r ⟨_, _, rfl, q _ H (Same.refl H) (by simp only [Br])⟩
  · cases hf
theorem c_max (hc : X.calm = true) : CallR X (.builtin "max") (rDC X.K X.mg maxD) := by
  intro pins s σ H vs us Q I r ⟨xs, d, bs, hf, q⟩
  unfold maxD at hf
  split at hf
  · injection hf with e; subst e
    obtain ⟨v, w, rfl, b1, b2⟩ := brs2 bs
    simp only [Br] at b1 b2
    subst b1 b2
    exact call_max2 hc pins s σ H _ us Q I r ⟨_, _, rfl, q _ H (Same.refl H) (by simp only [Br])⟩
  · cases hf
theorem ite_some' {α : Type} {c : Prop} [Decidable c] {x : Option α} {d : α} (h : (if c then x else none) = some d) : c ∧ x = some d := by
  by_cases hc : c
  · rw [if_pos hc] at h; exact ⟨hc, h⟩
  · rw [if_neg hc] at h; cases h
noncomputable def intD : List PyData → Option PyData
  | [.int i] => some (.int i)
  | [.bool k] => some (.int (if k then 1 else 0))
  | [.str x] => if decide (x.length ≤ 640) = true then (match PySem.intText? x with
    | some n => some (.int n)
    | none => none) else none
  | _ => none
theorem c_int : CallR X (.type "int") (rDC X.K X.mg intD) := by
  intro pins s σ H vs us Q I r ⟨xs, d, bs, hf, q⟩
  unfold intD at hf
  split at hf
  · injection hf with e; subst e
    obtain ⟨v, rfl, b⟩ := brs1 bs
    simp only [Br] at b; subst b
    exact call_int1 pins s σ H _ us Q I r (.inl ⟨_, rfl, q _ H (Same.refl H) (by simp only [Br])⟩)
  · injection hf with e; subst e
    obtain ⟨v, rfl, b⟩ := brs1 bs
    simp only [Br] at b; subst b
    exact call_int1 pins s σ H _ us Q I r (.inr ⟨_, rfl, q _ H (Same.refl H) (by simp only [Br])⟩)
  · obtain ⟨hz, e⟩ := ite_some' hf
    split at e
    · rename_i n hn
      injection e with e; subst e
      obtain ⟨v, rfl, b⟩ := brs1 bs
      simp only [Br] at b; subst b
      obtain ⟨u, rfl, t, rfl⟩ := vals1 r
      exact PySem.W.KIN.call_text hn (of_decide_eq_true hz) ⟨.int _, H, I.tok _, ⟨_, rfl⟩, q _ H (Same.refl H) (by simp only [Br])⟩
    · cases e
  · cases hf
noncomputable def strD : List PyData → Option PyData
  | [.int i] => if decide (i.natAbs.log2 < 1920) = true then some (.str (toString i)) else none
  | [.bool k] => some (.str (if k then "True" else "False"))
  | [.str x] => some (.str x)
  | _ => none
theorem c_str : CallR X (.type "str") (rDC X.K X.mg strD) := by
  intro pins s σ H vs us Q I r ⟨xs, d, bs, hf, q⟩
  unfold strD at hf
  split at hf
  · obtain ⟨hz, e⟩ := ite_some hf
    subst e
    obtain ⟨v, rfl, b⟩ := brs1 bs
    simp only [Br] at b; subst b
    exact call_str_int pins s σ H _ us Q I r ⟨_, rfl, of_decide_eq_true hz, q _ H (Same.refl H) (by simp only [Br])⟩
  · injection hf with e; subst e
    obtain ⟨v, rfl, b⟩ := brs1 bs
    simp only [Br] at b; subst b
    obtain ⟨u, rfl, r1⟩ := vals1 r
    cases r1
    exact PySem.P.str_of_bool ⟨.str _, H, I.tok _, ⟨_, rfl⟩, q _ H (Same.refl H) (by simp only [Br])⟩
  · injection hf with e; subst e
    obtain ⟨v, rfl, b⟩ := brs1 bs
    simp only [Br] at b; subst b
    obtain ⟨u, rfl, t, rfl⟩ := vals1 r
    exact PySem.P.str_of_str ⟨.str _, H, I, ⟨_, rfl⟩, q _ H (Same.refl H) (by simp only [Br])⟩
  · cases hf
noncomputable def listD : List PyData → Option PyData
  | [.list xs] => some (.list xs)
  | [.tuple xs] => some (.list xs)
  | _ => none
theorem c_list : CallR X (.type "list") (rDC X.K X.mg listD) := by
  intro pins s σ H vs us Q I r ⟨xs, d, bs, hf, q⟩
  unfold listD at hf
  split at hf
  · injection hf with e; subst e
    obtain ⟨v, rfl, b⟩ := brs1 bs
    simp only [Br] at b
    obtain ⟨a, ws, rfl, h1, h2⟩ := b
    refine call_list_of pins s σ H _ us Q I r ⟨a, ws, rfl, .inl h1, fun l hl => q _ _ (same_new hl _) ?_⟩
    simp only [Br]
    exact ⟨l, ws, rfl, SqL.of upd_same, brs_mono (same_new hl _) _ _ h2⟩
  · injection hf with e; subst e
    obtain ⟨v, rfl, b⟩ := brs1 bs
    simp only [Br] at b
    obtain ⟨a, ws, rfl, h1, h2⟩ := b
    refine call_list_of pins s σ H _ us Q I r ⟨a, ws, rfl, .inr h1, fun l hl => q _ _ (same_new hl _) ?_⟩
    simp only [Br]
    exact ⟨l, ws, rfl, SqL.of upd_same, brs_mono (same_new hl _) _ _ h2⟩
  · cases hf
noncomputable def tupleD : List PyData → Option PyData
  | [.list xs] => some (.tuple xs)
  | [.tuple xs] => some (.tuple xs)
  | _ => none
theorem c_tuple : CallR X (.type "tuple") (rDC X.K X.mg tupleD) := by
  intro pins s σ H vs us Q I r ⟨xs, d, bs, hf, q⟩
  unfold tupleD at hf
  split at hf
  · injection hf with e; subst e
    obtain ⟨v, rfl, b⟩ := brs1 bs
    simp only [Br] at b
    obtain ⟨a, ws, rfl, h1, h2⟩ := b
    refine call_tuple_of pins s σ H _ us Q I r ⟨a, ws, rfl, .inl ⟨h1, fun l hl => q _ _ (same_new hl _) ?_⟩⟩
    simp only [Br]
    exact ⟨l, ws, rfl, SqT.of upd_same, brs_mono (same_new hl _) _ _ h2⟩
  · injection hf with e; subst e
    obtain ⟨v, rfl, b⟩ := brs1 bs
    have b' := b
    simp only [Br] at b
    obtain ⟨a, ws, rfl, h1, h2⟩ := b
    exact call_tuple_of pins s σ H _ us Q I r ⟨a, ws, rfl, .inr ⟨h1, q _ _ (Same.refl H) b'⟩⟩
  · cases hf
/-- ints and nothing else -/
noncomputable def intsOf : List PyData → Option (List Int)
  | [] => some []
  | .int i :: ds => match intsOf ds with
    | some ns => some (i :: ns)
    | none => none
  | _ :: _ => none
theorem intsOf_some : ∀ {ds : List PyData} {ns : List Int}, intsOf ds = some ns → ds = ns.map PyData.int
  | [], ns, h => by injection h with h; subst h; rfl
  | d :: ds, ns, h => by
    cases d with
    | int i =>
      simp only [intsOf] at h
      split at h
      · rename_i ms e
        injection h with h; subst h
        rw [intsOf_some e]; rfl
      · cases h
    | _ => cases h
theorem brs_intsV {K : PySem.W.Frag} {mg : Str → Option Value} {H : Hp} : ∀ (ns : List Int) (vs : List V), Brs K mg H (ns.map PyData.int) vs → vs = ns.map V.int
  | [], vs, b => by simpa [Brs] using b
  | n :: ns, vs, b => by
    simp only [List.map_cons, Brs, Br] at b
    obtain ⟨v, r, rfl, rfl, b⟩ := b
    rw [brs_intsV ns r b]; rfl
theorem vals_ints : ∀ (ns : List Int) (us : List Value), Vals (ns.map V.int) us → IntsAre us ns
  | [], us, r => by cases r; exact .nil
  | n :: ns, us, r => by
    cases r with
    | cons r rr =>
      obtain ⟨t, rfl⟩ := r
      exact .cons _ _ (vals_ints ns _ rr)
noncomputable def sumD : List PyData → Option PyData
  | [.list xs] => match intsOf xs with
    | some ns => some (.int ns.sum)
    | none => none
  | _ => none
theorem c_sum (hc : X.calm = true) : CallR X (.builtin "sum") (rDC X.K X.mg sumD) := by
  intro pins s σ H vs us Q I r ⟨xs, d, bs, hf, q⟩
  unfold sumD at hf
  split at hf
  · split at hf
    · rename_i ds ns e1
      injection hf with e; subst e
      have e2 := intsOf_some e1
      subst e2
      obtain ⟨v, rfl, b⟩ := brs1 bs
      simp only [Br] at b
      obtain ⟨a, ws, rfl, h1, h2⟩ := b
      have e3 := brs_intsV ns ws h2
      subst e3
      obtain ⟨u, rfl, rx⟩ := vals1 r
      cases rx
      obtain ⟨its, r', pl, hz⟩ := I.list h1
      have hi := vals_ints ns its r'
      have hl := pl.isList
      obtain ⟨ys, hx⟩ := hi.allInts.items
      have hn : numsOf its.toArray.toList = ns := by rw [show its.toArray.toList = its from rfl, hi.numsOf]
      rw [hx] at hl hn
      rw [nums_intItems] at hn
      refine sum_intListG (I.ok.hd hc) hl fun h' tk t' hk => ?_
      rw [preSum_eq, List.take_of_length_le (by simp), hn]
      exact ⟨.int _, H, I.kept hk, ⟨_, rfl⟩, q _ H (Same.refl H) (by simp only [Br])⟩
    · cases hf
  · cases hf
/-- the built-ins, by name: the function or the kind that is called -/
inductive Bl where
  | len | min | max | int | str | list | tuple | sum
  deriving DecidableEq
noncomputable def Bl.name : Bl → Str
  | .len => "len" | .min => "min" | .max => "max" | .int => "int" | .str => "str" | .list => "list" | .tuple => "tuple" | .sum => "sum"
noncomputable def Bl.fn : Bl → List PyData → Option PyData
  | .len => lenD | .min => minD | .max => maxD | .int => intD | .str => strD | .list => listD | .tuple => tupleD | .sum => sumD
theorem e_blt (b : Bl) (hc : X.calm = true) {p pos : Pos} {e : Expr} {es : List Expr} {g : Rho → Option (List PyData)} (hg : Gl X b.name) (hm : X.mg b.name = none) (ha : A1 X (e :: es) g)
    (he : starEach (e :: es) X.env = (false, eval e X.env) :: starEach es X.env) (hpl : (backTo pos (starEach es X.env)).any (·.1) = false) : E1 X (.Call (.Name b.name p) (e :: es) [] pos) (appD b.fn g) := by
  cases b with
  | len => exact pe_imp (pe_callB c_len hg hm PySem.boot_len ha (by decide) (by decide) he hpl) tCB_of
  | min => exact pe_imp (pe_callB (c_min hc) hg hm (by decide +kernel) ha (by decide) (by decide) he hpl) tCB_of
  | max => exact pe_imp (pe_callB (c_max hc) hg hm (by decide +kernel) ha (by decide) (by decide) he hpl) tCB_of
  | int => exact pe_imp (pe_callTy c_int hg hm (by decide +kernel) ha (by decide) (by decide) he hpl) tCB_of
  | str => exact pe_imp (pe_callTy c_str hg hm (by decide +kernel) ha (by decide) (by decide) he hpl) tCB_of
  | list => exact pe_imp (pe_callTy c_list hg hm (by decide +kernel) ha (by decide) (by decide) he hpl) tCB_of
  | sum => exact pe_imp (pe_callB (c_sum hc) hg hm (by decide +kernel) ha (by decide) (by decide) he hpl) tCB_of
  | tuple => exact pe_imp (pe_callTy c_tuple hg hm (by decide +kernel) ha (by decide) (by decide) he hpl) tCB_of
end
end PL

set_option Elab.async false
set_option linter.all false
set_option maxRecDepth 100000
namespace PL
open PySem PySem.Spec PyProof.Rows L2
/-! ### isinstance -/
inductive Ty where
  | tuple | int | bool | str | list
  deriving DecidableEq
noncomputable def Ty.s : Ty → String
  | .tuple => "tuple" | .int => "int" | .bool => "bool" | .str => "str" | .list => "list"
noncomputable def Ty.name : Ty → Str
  | .tuple => "tuple" | .int => "int" | .bool => "bool" | .str => "str" | .list => "list"
noncomputable def tyIs (T : Ty) : PyData → Option Bool
  | .none => some false
  | .bool _ => some (match T with | .bool => true | .int => true | _ => false)
  | .int _ => some (match T with | .int => true | _ => false)
  | .str _ => some (match T with | .str => true | _ => false)
  | .list _ => some (match T with | .list => true | _ => false)
  | .tuple _ => some (match T with | .tuple => true | _ => false)
  | .dict _ => none
noncomputable def isinD (T : Ty) (d : PyData) : Option PyData := match tyIs T d with
  | some k => some (.bool k)
  | none => none
section
variable {X : Cx}
theorem c_isin (T : Ty) {pins : List (Addr × Obj)} {s : Shared} {σ : L2.St} {H : Hp} {x : PyData} {v : V} {u : Value} {Q : VK} {d : PyData} (I : Inv X pins σ H s) (b : Br X.K X.mg H x v) (r : RelV v u) (hf : isinD T x = some d) (q : ∀ w, Br X.K X.mg H d w → Q w H) :
    wpAny (model X.prog X.w) X.A (call (.builtin "isinstance") [u, .type T.s]) (EP X pins σ Q) X.xe s := by
  have fin : ∀ (k : Bool), d = .bool k → ∀ tk, EP X pins σ Q (.bool k) { s with toks := tk } := fun k e tk => by
    subst e
    exact ⟨.bl k, H, I.tok tk, rfl, q _ (by simp only [Br])⟩
  unfold isinD at hf
  cases x with
  | none =>
    simp only [Br] at b; subst b; cases r
    injection hf with e
    cases T <;> exact PySem.W.kia_one PySem.W.kitx_none I.kIn True.intro (by rfl) (fun z => nomatch z) (fin _ e.symm)
  | bool k =>
    simp only [Br] at b; subst b; cases r
    injection hf with e
    cases T <;> exact PySem.W.kia_one PySem.W.kitx_bool I.kIn True.intro (by rfl) (fun z => nomatch z) (fin _ e.symm)
  | int i =>
    simp only [Br] at b; subst b; obtain ⟨t, rfl⟩ := r
    injection hf with e
    cases T <;> exact PySem.W.kia_one PySem.W.kitx_int I.kIn True.intro (by rfl) (fun z => nomatch z) (fin _ e.symm)
  | str i =>
    simp only [Br] at b; subst b; obtain ⟨t, rfl⟩ := r
    injection hf with e
    cases T <;> exact PySem.W.kia_one PySem.W.kitx_str I.kIn True.intro (by rfl) (fun z => nomatch z) (fin _ e.symm)
  | list xs =>
    simp only [Br] at b
    obtain ⟨a, vs, rfl, h1, h2⟩ := b
    cases r
    obtain ⟨its, rv, ⟨o, n, e1, e2, e3, e4⟩, hz⟩ := I.list h1
    injection hf with e
    cases T <;> exact PySem.W.kia_one PySem.W.kitx_list I.kIn ⟨o, e1, e2⟩ (by rfl) (fun z => nomatch z) (fin _ e.symm)
  | tuple xs =>
    simp only [Br] at b
    obtain ⟨a, vs, rfl, h1, h2⟩ := b
    cases r
    obtain ⟨its, rv, ⟨o, e1, e2, n, e4⟩, hz⟩ := I.tuple h1
    injection hf with e
    cases T <;> exact PySem.W.kia_one PySem.W.kitx_tuple I.kIn ⟨o, e1, e2⟩ (by rfl) (fun z => nomatch z) (fin _ e.symm)
  | dict kvs => cases hf
theorem boot_ty (T : Ty) : bootBuiltins T.name = some (.type T.s) := by cases T <;> decide +kernel
theorem ty_nm (T : Ty) : T.name ≠ "__name__" ∧ (T.name == ("__debug__" : Str)) = false := by cases T <;> decide +kernel
theorem e_isin (T : Ty) {p p2 pos : Pos} {a : Expr} {g : Rho → Option PyData} (hg : Gl X "isinstance") (hm : X.mg "isinstance" = none) (hg2 : Gl X T.name) (hm2 : X.mg T.name = none) (ha : E1 X a g)
    (he : starEach [a, .Name T.name p2] X.env = (false, eval a X.env) :: starEach [.Name T.name p2] X.env) : E1 X (.Call (.Name "isinstance" p) [a, .Name T.name p2] [] pos) (un1 (isinD T) g) := by
  have hT : PE X (.Name T.name p2) (tC (.ty T.s)) := pe_bltn hg2 hm2 (boot_ty T) rfl (ty_nm T).1 (ty_nm T).2
  have hA : PA X [a, .Name T.name p2] (tCons (tP X.K X.mg g) (tCons (tC (.ty T.s)) tNil)) := pa_cons ha (pa_cons hT pa_nil rfl) he
  have hC : CallR X (.builtin "isinstance") (fun vs H Q => ∃ x d v, Br X.K X.mg H x v ∧ vs = [v, .ty T.s] ∧ isinD T x = some d ∧ ∀ w, Br X.K X.mg H d w → Q w H) := by
    intro pins s σ H vs us Q I r ⟨x, d, v, b, e, hf, q⟩
    subst e
    obtain ⟨u, u2, rfl, r1, r2⟩ := vals2 r
    cases r2
    exact c_isin T I b r1 hf q
  refine pe_imp (pe_callB hC hg hm (by decide +kernel) hA (by decide) (by decide) he rfl) fun σ H Q ⟨r, d, env, hgr, q⟩ => ?_
  obtain ⟨x, h1, h2⟩ := un1_some hgr
  exact ⟨r, x, env, h1, fun v H1 s1 b1 => ⟨x, d, v, b1, rfl, h2, fun w bw => q w H1 s1 bw⟩⟩

/-! ### indexing -/
noncomputable def ixD : PyData → PyData → Option PyData
  | .list xs, .int i => atI xs i
  | .tuple xs, .int i => atI xs i
  | .str x, .int i => if okLen x.length = true then (match atI x.cps.toList i with | some c => some (.str ⟨#[c]⟩) | none => none) else none
  | _, _ => none
theorem atI_brs {K : PySem.W.Frag} {mg : Str → Option Value} {H : Hp} {xs : List PyData} {vs : List V} {i : Int} {d : PyData} (b : Brs K mg H xs vs) (h : atI xs i = some d) : ∃ v, atI vs i = some v ∧ Br K mg H d v := by
  unfold atI at h ⊢
  rw [← brs_length xs vs b]
  cases e : ixN xs.length i with
  | none => rw [e] at h; cases h
  | some j =>
    rw [e] at h
    exact brs_get xs vs j d b h
theorem i_ix : IxR X (rD X.K X.mg ixD) := by
  intro value slice pins s σ H v u vv uu Q I rv ru ⟨x, y, d, bx, bY, hf, q⟩ hs
  cases y with
  | int i =>
    simp only [Br] at bY; subst bY
    cases x with
    | list xs =>
      simp only [Br] at bx
      obtain ⟨a, vs, rfl, h1, h2⟩ := bx
      obtain ⟨w, e1, b1⟩ := atI_brs h2 hf
      exact ix_list value slice pins s σ H _ _ vv uu Q I rv ru ⟨a, vs, i, w, rfl, rfl, h1, e1, q w H (Same.refl H) b1⟩ hs
    | tuple xs =>
      simp only [Br] at bx
      obtain ⟨a, vs, rfl, h1, h2⟩ := bx
      obtain ⟨w, e1, b1⟩ := atI_brs h2 hf
      exact ix_tup value slice pins s σ H _ _ vv uu Q I rv ru ⟨a, vs, i, w, rfl, rfl, h1, e1, q w H (Same.refl H) b1⟩ hs
    | str z =>
      simp only [Br] at bx; subst bx
      simp only [ixD] at hf
      split at hf
      · rename_i hz
        split at hf
        · rename_i c ec
          injection hf with e; subst e
          exact ix_str value slice pins s σ H _ _ vv uu Q I rv ru ⟨z, i, c, rfl, rfl, okLen_size hz, ec, q _ H (Same.refl H) (by simp only [Br])⟩ hs
        · cases hf
      · cases hf
    | _ => cases hf
  | _ => cases x <;> cases hf
theorem e_ix {a b : Expr} {pos : Pos} {ga gb : Rho → Option PyData} (ha : E1 X a ga) (hb : E1 X b gb) (hs : PlainIx b) : E1 X (.Subscript a b pos) (bin2 ixD ga gb) := pe_imp (pe_ix i_ix ha hb hs) tOp_of

/-! ### slices -/
noncomputable def cutD {α : Type} (xs : List α) (lo hi : Option Int) : List α := (xs.drop (HT.sIx xs.length 0 lo)).take (HT.sIx xs.length xs.length hi - HT.sIx xs.length 0 lo)
noncomputable def slD (x : PyData) (lo hi : Option Int) : Option PyData := match x with
  | .tuple xs => some (.tuple (cutD xs lo hi))
  | .list xs => some (.list (cutD xs lo hi))
  | _ => none
theorem cut_brs {K : PySem.W.Frag} {mg : Str → Option Value} {H : Hp} {xs : List PyData} {vs : List V} (lo hi : Option Int) (b : Brs K mg H xs vs) : Brs K mg H (cutD xs lo hi) (cutV vs lo hi) := by
  unfold cutD cutV
  rw [brs_length xs vs b]
  exact brs_take _ _ _ (brs_drop _ _ _ b)
theorem i_sl : SlR X (fun v lo hi H Q => ∃ x d, Br X.K X.mg H x v ∧ slD x lo hi = some d ∧ ∀ w H', Same H H' → Br X.K X.mg H' d w → Q w H') := by
  intro pins s σ H v vv vl vu lo hi sl Q I rv hs pl pu ⟨x, d, bx, hf, q⟩
  cases x with
  | tuple xs =>
    injection hf with e; subst e
    have bx' := bx
    simp only [Br] at bx
    obtain ⟨a, vs, rfl, h1, h2⟩ := bx
    by_cases hw : HT.sIx vs.length 0 lo = 0 ∧ HT.sIx vs.length vs.length hi = vs.length
    · cases rv
      obtain ⟨its, r, ht, hz⟩ := I.tuple h1
      have hlen : its.toArray.size = vs.length := by rw [List.size_toArray]; exact r.length.symm
      refine ⟨"tuple", _, PyProof.Rows.slot_tuple_getitem.lookup, ht.typeIs, getItem_tuple_whole ht hs pl pu (by rw [hlen]; exact hw.1) (by rw [hlen]; exact hw.2) ⟨.ref a, H, I, rfl, q _ H (Same.refl H) ?_⟩⟩
      have e1 : cutD xs lo hi = xs := by
        unfold cutD
        rw [brs_length xs vs h2, hw.1, hw.2, List.drop_zero, Nat.sub_zero, ← brs_length xs vs h2, List.take_length]
      rw [e1]
      exact bx'
    · refine sl_tup pins s σ H _ vv vl vu lo hi sl Q I rv hs pl pu ⟨a, vs, rfl, h1, hw, fun p hp => q _ _ (same_new hp _) ?_⟩
      simp only [Br]
      exact ⟨p, _, rfl, SqT.of upd_same, brs_mono (same_new hp _) _ _ (cut_brs lo hi h2)⟩
  | list xs =>
    injection hf with e; subst e
    simp only [Br] at bx
    obtain ⟨a, vs, rfl, h1, h2⟩ := bx
    refine sl_list pins s σ H _ vv vl vu lo hi sl Q I rv hs pl pu ⟨a, vs, rfl, h1, fun p hp => q _ _ (same_new hp _) ?_⟩
    simp only [Br]
    exact ⟨p, _, rfl, SqL.of upd_same, brs_mono (same_new hp _) _ _ (cut_brs lo hi h2)⟩
  | _ => cases hf
noncomputable def partD : PyData → Option (Option Int)
  | .none => some none
  | .int i => some (some i)
  | _ => none
noncomputable def tPO (K : PySem.W.Frag) (mg : Str → Option Value) (g : Rho → Option PyData) : TO := fun σ H Q => ∃ r x o, EnvOk K mg H r σ ∧ g r = some x ∧ partD x = some o ∧ ∀ H', Same H H' → Q o H'
noncomputable abbrev O1 (X : Cx) (e : Option Expr) (g : Rho → Option PyData) : Prop := PO X e (tPO X.K X.mg g)
theorem o_none : O1 X none (fun _ => some .none) := fun pins s σ H Q I ⟨r, x, o, env, hg, hp, q⟩ => by
  injection hg with e; subst e
  injection hp with e; subst e
  exact po_none pins s σ H Q I (q H (Same.refl H))
noncomputable def intOnly (g : Rho → Option PyData) (r : Rho) : Option PyData := match g r with
  | some (.int i) => some (.int i)
  | _ => none
theorem o_some {e : Expr} {g : Rho → Option PyData} (h : E1 X e g) : O1 X (some e) (intOnly g) := fun pins s σ H Q I ⟨r, x, o, env, hg, hp, q⟩ => by
  unfold intOnly at hg
  split at hg
  · rename_i i e1
    injection hg with e; subst e
    injection hp with e; subst e
    refine po_some h pins s σ H Q I ⟨r, _, env, e1, fun v H1 s1 b1 => ?_⟩
    simp only [Br] at b1
    exact ⟨i, b1, q H1 s1⟩
  · cases hg
/-- t[::-1] -/
noncomputable def revD : PyData → Option PyData
  | .tuple xs => some (.tuple xs.reverse)
  | _ => none
end
end PL

set_option Elab.async false
set_option linter.all false
set_option maxRecDepth 100000
namespace PL
open PySem PySem.Spec PyProof.Rows L2
noncomputable abbrev Orc := Str → List PyData → Option PyData
structure Sg where
  N : List Str
  sc : List (Str × NameKind)
  fs : List Str
  xs : List Str

noncomputable def visB (sc : List (Str × NameKind)) (x : Str) : Bool := match sc.lookup x with
  | some .local => true
  | some .cell => true
  | some .free => true
  | _ => false
noncomputable def locB (sc : List (Str × NameKind)) (x : Str) : Bool := match sc.lookup x with
  | some .local => true
  | some .cell => true
  | _ => false
noncomputable def glB (sc : List (Str × NameKind)) (x : Str) : Bool := decide (sc.lookup x = some .globalImplicit)
noncomputable def nmB (x : Str) : Bool := !(x == ("__debug__" : Str)) && !(x == ("__classdict__" : Str))
noncomputable def all2 {α β : Type} (f : α → β → Bool) : List α → List β → Bool
  | [], [] => true
  | a :: as, b :: bs => f a b && all2 f as bs
  | _, _ => false
noncomputable def chkC : PyData → Const → Bool
  | .int i, .int j => decide (i = j)
  | .bool i, .bool j => decide (i = j)
  | .none, .none => true
  | .str x, .str y => decide (x = y)
  | _, _ => false

noncomputable def okHead : Expr → Bool
  | .Constant _ _ _ => true
  | .Name _ _ => true
  | .BinOp _ _ _ _ => true
  | .Compare _ _ _ _ => true
  | .BoolOp _ _ _ => true
  | .UnaryOp _ _ _ => true
  | .IfExp _ _ _ _ => true
  | .Tuple _ _ _ => true
  | .List _ _ => true
  | .Call _ _ _ _ => true
  | .Subscript _ _ _ => true
  | .ListComp _ _ _ _ => true
  | .JoinedStr _ _ => true
  | _ => false
noncomputable def notComp : Expr → Bool
  | .ListComp _ _ _ _ => false
  | _ => true
theorem star_ok {e : Expr} {es : List Expr} {env : Env} (h : okHead e = true) : starEach (e :: es) env = (false, eval e env) :: starEach es env := by
  cases e <;> first | rfl | (exact absurd h Bool.false_ne_true)
theorem marks_ok {op : CmpOp} {b : Expr} (h : okHead b = true) : behindInMarks op b = false := by
  cases b <;> first | rfl | (exact absurd h Bool.false_ne_true)
theorem plainIx_ok {b : Expr} (h : okHead b = true) : PlainIx b := by
  cases b <;> first | (intro o i; rfl) | (exact absurd h Bool.false_ne_true)
theorem stars_ok {pos : Pos} {env : Env} : ∀ {es : List Expr}, (∀ e ∈ es, okHead e = true) → (backTo pos (starEach es env)).any (·.1) = false
  | [], _ => rfl
  | e :: es, h => by
    rw [star_ok (h e List.mem_cons_self)]
    show (false || (backTo pos (starEach es env)).any (·.1)) = false
    rw [stars_ok fun e' he => h e' (List.mem_cons_of_mem _ he)]
    rfl
theorem swaps_ok {e : Expr} {t : Option Expr} {l : Nat} {env : Env} (h : okHead e = true) (h2 : notComp e = true) : swapsWith e t l env = pure false := by
  cases e <;> first | rfl | exact absurd (show false = true from h2) Bool.false_ne_true | exact absurd (show false = true from h) Bool.false_ne_true
theorem folded_ok {e : Expr} {env : Env} (h : okHead e = true) (x : Value) : foldedSetIterable e env x = pure x := by
  cases e <;> first | rfl | (exact absurd h Bool.false_ne_true)

/-- a def of the table, as it stands in this context -/
structure FOk (X : Cx) (k : Nat) (C : Orc) (f : Str) : Prop where
  ex : ∃ (fa : Addr) (fd : FuncData) (ps : List Str), X.mg f = some (.ref fa) ∧ PySem.W.keepIn X.K (.ref fa) = true ∧ Binds X.K fd ps [] ∧
    FnOk X.prog X.w X.K X.mg X.base CX0 k fa fd ps (spP X.K X.mg ps.length (C f)) ∧ ∀ ds d, C f ds = some d → ds.length = ps.length

noncomputable def bltNames : List Str := ["len", "min", "max", "int", "str", "list", "tuple", "isinstance", "bool", "range", "ValueError", "reversed", "enumerate", "sorted", "set", "sum", "abs", "ord"]

structure Hx (X : Cx) (S : Sg) (k : Nat) (C : Orc) : Prop where
  hN : X.N = S.N
  hsc : X.env.scope.names = S.sc
  fns : ∀ f, S.fs.contains f = true → FOk X k C f
  blt : ∀ x ∈ bltNames, X.mg x = none
  room : Room k X.A
  room1 : Room k X.A.in1
  calm : X.calm = true

section
variable {X : Cx} {S : Sg} {k : Nat} {C : Orc}
theorem Hx.vis (h : Hx X S k C) {x : Str} (e : visB S.sc x = true) : Vis X.env.scope x := by
  unfold Vis
  rw [h.hsc]
  unfold visB at e
  split at e
  · rename_i q; exact .inl q
  · rename_i q; exact .inr (.inl q)
  · rename_i q; exact .inr (.inr q)
  · cases e
theorem Hx.loc (h : Hx X S k C) {x : Str} (e : locB S.sc x = true) : L2.Loc X.env.scope x := by
  unfold L2.Loc
  rw [h.hsc]
  unfold locB at e
  split at e
  · rename_i q; exact .inl q
  · rename_i q; exact .inr q
  · cases e
theorem Hx.gl (h : Hx X S k C) {x : Str} (e : glB S.sc x = true) : Gl X x := by
  show X.env.scope.names.lookup x = _
  rw [h.hsc]
  exact of_decide_eq_true e
theorem Hx.units (h : Hx X S k C) : X.A.units + 110 < cLine := by have := h.room.un; omega
theorem nm1 {x : Str} (h : nmB x = true) : (x == ("__debug__" : Str)) = false := by
  unfold nmB at h; rw [Bool.and_eq_true] at h
  cases e : (x == ("__debug__" : Str)) with
  | false => rfl
  | true => rw [e] at h; exact absurd h.1 (by decide)
theorem nm2 {x : Str} (h : nmB x = true) : (x == ("__classdict__" : Str)) = false := by
  unfold nmB at h; rw [Bool.and_eq_true] at h
  cases e : (x == ("__classdict__" : Str)) with
  | false => rfl
  | true => rw [e] at h; exact absurd h.2 (by decide)
theorem blt_mem (b : Bl) : b.name ∈ bltNames := by cases b <;> decide +kernel
theorem ty_mem (T : Ty) : T.name ∈ bltNames := by cases T <;> decide +kernel

theorem e_call0 (h : Hx X S k C) {x : Str} {p pos : Pos} (hg : glB S.sc x = true) (hf : S.fs.contains x = true) (hn : nmB x = true) : E1 X (.Call (.Name x p) [] [] pos) (appD (C x) nilD) := by
  obtain ⟨fa, fd, ps, h1, h2, h3, h4, h5⟩ := (h.fns x hf).ex
  refine pe_imp (pe_call0 (p := p) (pos := pos) (sp := spP X.K X.mg ps.length (C x)) (E := E0) h4 h.room (h.gl hg) h1 h2 h3 .nil pass0 (nm1 hn)) fun σ H Q ⟨r, d, env, hgr, q⟩ => ?_
  obtain ⟨xs, e1, e2⟩ := appD_some hgr
  injection e1 with e1
  subst e1
  show spP X.K X.mg ps.length (C x) ([] ++ []) H Q E0
  exact ⟨by rw [← h5 [] d e2]; rfl, [], d, by simp only [List.append_nil, Brs], e2, fun w H' s2 b2 => q w H' s2 b2⟩
theorem e_call (h : Hx X S k C) {x : Str} {p pos : Pos} {e : Expr} {es : List Expr} {g : Rho → Option (List PyData)} (hg : glB S.sc x = true) (hf : S.fs.contains x = true) (hn : nmB x = true) (ha : A1 X (e :: es) g) (hh : ∀ e' ∈ e :: es, okHead e' = true) :
    E1 X (.Call (.Name x p) (e :: es) [] pos) (appD (C x) g) := by
  obtain ⟨fa, fd, ps, h1, h2, h3, h4, h5⟩ := (h.fns x hf).ex
  exact pe_imp (pe_call h4 h.room (h.gl hg) h1 h2 h3 .nil pass0 ha (nm1 hn) (star_ok (hh e List.mem_cons_self)) (stars_ok fun e' he => hh e' (List.mem_cons_of_mem _ he))) (tCall_of h5)
theorem t_if {a b c : Expr} {pos : Pos} {ga gb gc : Rho → Option PyData} (hc : T1 X c gc) (ha : T1 X a ga) (hb : T1 X b gb) : T1 X (.IfExp c a b pos) (ifD gc ga gb) := by
  intro pins s σ H Q I ⟨r, kk, env, hg, q⟩
  obtain ⟨k', h1, h2⟩ := ifD_some hg
  show wpAny _ _ (do if ← isTrue c X.env (eval c X.env) then isTrue a X.env (eval a X.env) else isTrue b X.env (eval b X.env)) _ _ s
  refine wpAny_bind (thn (hc pins s σ H (fun k2 H1 => k2 = k' ∧ Same H H1) I ⟨r, k', env, h1, fun H1 s1 => ⟨rfl, s1⟩⟩) fun k2 s1 ⟨H1, I1, e1, sm⟩ => ?_)
  subst e1
  cases k2 with
  | true => exact ha pins s1 σ H1 Q I1 ⟨r, kk, envOk_mono sm env, h2, fun H2 s2 => q H2 (sm.trans s2)⟩
  | false => exact hb pins s1 σ H1 Q I1 ⟨r, kk, envOk_mono sm env, h2, fun H2 s2 => q H2 (sm.trans s2)⟩

noncomputable def Good (X : Cx) (e : Expr) (g : Rho → Option PyData) : Prop := E1 X e g ∧ T1 X e g ∧ ∀ op xs pos, e = .BoolOp op xs pos → PW1 X e g
theorem good_val {e : Expr} {g : Rho → Option PyData} (h : E1 X e g) (he : ∀ whole, isTrue e X.env whole = (do let v ← whole; standAt e.pos; holding [v] (truthy v))) (hb : ∀ op xs pos, e ≠ .BoolOp op xs pos) : Good X e g :=
  ⟨h, t_val h he, fun op xs pos z => absurd z (hb op xs pos)⟩
theorem const_ok {d : PyData} {c : Const} {j : Nat} {pos : Pos} (h : chkC d c = true) : E1 X (.Constant c j pos) (fun _ => some d) := by
  unfold chkC at h
  split at h
  · rw [of_decide_eq_true h]; exact e_int
  · rw [of_decide_eq_true h]; exact e_bl
  · exact e_non
  · rw [of_decide_eq_true h]; exact e_str
  · cases h
end
end PL

set_option Elab.async false
set_option linter.all false
set_option maxRecDepth 100000
namespace PL
open PySem PySem.Spec PyProof.Rows L2
inductive Tg where
  | one (i : Nat)
  | many (is : List Nat)
noncomputable def setMany : List Nat → List PyData → Rho → Option Rho
  | [], [], r => some r
  | i :: is, d :: ds, r => setMany is ds (r.set i (some d))
  | _, _, _ => none
noncomputable def setTg : Tg → PyData → Rho → Option Rho
  | .one i, d, r => some (r.set i (some d))
  | .many is, .tuple ds, r => setMany is ds r
  | _, _, _ => none
noncomputable def asgD (t : Tg) (g : Rho → Option PyData) (r : Rho) : Option Fl := match g r with
  | some d => match setTg t d r with
    | some r' => some (.nx r')
    | none => none
  | none => none
noncomputable def retD (g : Rho → Option PyData) (r : Rho) : Option Fl := match g r with
  | some d => some (.rt d)
  | none => none
noncomputable def ifS (gc : Rho → Option PyData) (ga gb : Rho → Option Fl) (r : Rho) : Option Fl := match gc r with
  | some (.bool true) => ga r
  | some (.bool false) => gb r
  | _ => none
noncomputable def forD (t : Tg) (step : Rho → Option Fl) : List PyData → Rho → Option Fl
  | [], r => some (.nx r)
  | d :: ds, r => match setTg t d r with
    | some r1 => match step r1 with
      | some (.nx r2) => forD t step ds r2
      | some (.ct r2) => forD t step ds r2
      | some (.bk r2) => some (.nx r2)
      | some (.rt v) => some (.rt v)
      | none => none
    | none => none
noncomputable def rngD (lo hi : Int) : List PyData := (List.range (hi - lo).toNat).map fun (k : Nat) => PyData.int (lo + (k : Int))
noncomputable def okR (i : Int) : Bool := decide (-(2 ^ 62) ≤ i ∧ i < 2 ^ 62)
noncomputable def rngIt1 (g : Rho → Option PyData) (r : Rho) : Option (List PyData) := match g r with
  | some (.int j) => if okR j = true then some (rngD 0 j) else none
  | _ => none
noncomputable def rngIt2 (g g2 : Rho → Option PyData) (r : Rho) : Option (List PyData) := match g r, g2 r with
  | some (.int i), some (.int j) => if (okR i && okR j) = true then some (rngD i j) else none
  | _, _ => none
noncomputable def forS (it : Rho → Option (List PyData)) (t : Tg) (step : Rho → Option Fl) (r : Rho) : Option Fl := match it r with
  | some ds => forD t step ds r
  | none => none
/-! ### the checker -/
noncomputable def chkT (S : Sg) : Tg → Expr → Bool
  | .one i, .Name x _ => decide (S.N[i]? = some x) && locB S.sc x
  | .many is, .Tuple es _ _ => all2 (fun i e => match e with
    | .Name x _ => decide (S.N[i]? = some x) && locB S.sc x
    | _ => false) is es
  | _, _ => false
noncomputable def notTup : Expr → Bool
  | .Tuple _ _ _ => false
  | _ => true
noncomputable def tgOk (t : Tg) (e : Expr) : Bool := match t with
  | .one _ => true
  | .many _ => notTup e
structure Hs (X : Cx) (S : Sg) (k : Nat) (C : Orc) : Prop extends Hx X S k C where
  nd : X.N.Nodup
  fnAll : ∀ x, X.fn x = true
  own : PassesOwn (model X.prog X.w) X.A X.env X.xe

section
variable {X : Cx} {S : Sg} {k : Nat} {C : Orc}
/-! ### statements -/
theorem s_ret {e : Expr} {pos : Pos} {g : Rho → Option PyData} (h : E1 X e g) : S1 X (.Return (some e) pos) (retD g) :=
  ps_imp (ps_ret h) fun σ H D ⟨r, fl, env, hg, q⟩ => by
    unfold retD at hg
    cases e1 : g r with
    | none => rw [e1] at hg; cases hg
    | some d => rw [e1] at hg; injection hg with hg; subst hg; exact ⟨r, d, env, e1, q⟩
theorem flOk_mono {K : PySem.W.Frag} {mg : Str → Option Value} {D : Ends} {H H1 : Hp} {fl : Fl} (e : Same H H1) (h : FlOk K mg D H fl) : FlOk K mg D H1 fl := by
  cases fl with
  | nx r => exact fun σ' H' s' env => h σ' H' (e.trans s') env
  | rt d => exact fun v H' s' b => h v H' (e.trans s') b
  | bk r => exact fun σ' H' s' env => h σ' H' (e.trans s') env
  | ct r => exact fun σ' H' s' env => h σ' H' (e.trans s') env
theorem s_if {c : Expr} {a b : List Stmt} {pos : Pos} {gc : Rho → Option PyData} {ga gb : Rho → Option Fl} (hc : T1 X c gc) (ha : SS1 X a ga) (hb : SS1 X b gb) : S1 X (.If c a b pos) (ifS gc ga gb) :=
  ps_imp (ps_if hc ha hb) fun σ H D ⟨r, fl, env, hg, q⟩ => by
    unfold ifS at hg
    split at hg
    · rename_i e1
      exact ⟨r, true, env, e1, fun H1 s1 => ⟨r, fl, envOk_mono s1 env, hg, flOk_mono s1 q⟩⟩
    · rename_i e1
      exact ⟨r, false, env, e1, fun H1 s1 => ⟨r, fl, envOk_mono s1 env, hg, flOk_mono s1 q⟩⟩
    · cases hg
theorem ss_nil : SS1 X [] (fun r => some (.nx r)) :=
  pss_imp pss_nil fun σ H D ⟨r, fl, env, hg, q⟩ => by
    injection hg with hg; subst hg
    exact q σ H (Same.refl H) env
theorem ss_cons {st : Stmt} {rest : List Stmt} {g : Rho → Option Fl} {u : Rho → Option Fl} (h1 : S1 X st g) (h2 : SS1 X rest u) : SS1 X (st :: rest) (fun r => match g r with | some (.nx r') => u r' | o => o) :=
  pss_imp (pss_cons h1 h2) fun σ H D ⟨r, fl, env, hg, q⟩ => by
    have hg' : (match g r with | some (.nx r') => u r' | o => o) = some fl := hg
    cases e1 : g r with
    | none => rw [e1] at hg'; cases hg'
    | some f1 =>
      rw [e1] at hg'
      refine ⟨r, f1, env, e1, ?_⟩
      cases f1 with
      | nx r' => exact fun σ' H' s' env' => ⟨r', fl, env', hg', flOk_mono s' q⟩
      | rt d => injection hg' with hg'; subst hg'; exact q
      | bk r' => injection hg' with hg'; subst hg'; exact q
      | ct r' => injection hg' with hg'; subst hg'; exact q

/-! ### targets -/
noncomputable def gIs : List Nat → TGs
  | [] => gNil
  | i :: is => gCons (gName i) (gIs is)
noncomputable def gT (K : PySem.W.Frag) : Tg → TG
  | .one i => gName i
  | .many is => gTup K is.length (gIs is)
theorem many_of {K : PySem.W.Frag} {mg : Str → Option Value} {H : Hp} : ∀ (is : List Nat) (ds : List PyData) (vs : List V) (r r' : Rho) (σ : L2.St) (Q : L2.St → Hp → Prop), setMany is ds r = some r' → Brs K mg H ds vs → EnvOk K mg H r σ → (∀ σ', EnvOk K mg H r' σ' → Q σ' H) → gIs is vs σ H Q
  | [], [], vs, r, r', σ, Q, e, b, env, q => by
    injection e with e; subst e
    simp only [Brs] at b
    exact ⟨b, q σ env⟩
  | i :: is, d :: ds, vs, r, r', σ, Q, e, b, env, q => by
    simp only [Brs] at b
    obtain ⟨v, vr, rfl, b1, b2⟩ := b
    exact ⟨v, vr, rfl, many_of is ds vr _ r' _ Q e b2 (envOk_set i env b1) q⟩
  | [], _ :: _, _, _, _, _, _, e, _, _, _ => by cases e
  | _ :: _, [], _, _, _, _, _, e, _, _, _ => by cases e
theorem many_len : ∀ (is : List Nat) (ds : List PyData) (r r' : Rho), setMany is ds r = some r' → ds.length = is.length
  | [], [], _, _, _ => rfl
  | i :: is, d :: ds, r, r', e => by simp [many_len is ds _ r' e]
  | [], _ :: _, _, _, e => by cases e
  | _ :: _, [], _, _, e => by cases e
theorem tg_of {K : PySem.W.Frag} {mg : Str → Option Value} {H : Hp} {t : Tg} {d : PyData} {v : V} {r r' : Rho} {σ : L2.St} {Q : L2.St → Hp → Prop} (e : setTg t d r = some r') (b : Br K mg H d v) (env : EnvOk K mg H r σ) (q : ∀ σ', EnvOk K mg H r' σ' → Q σ' H) : gT K t v σ H Q := by
  cases t with
  | one i =>
    injection e with e; subst e
    exact q _ (envOk_set i env b)
  | many is =>
    cases d with
    | tuple ds =>
      simp only [Br] at b
      obtain ⟨a, vs, rfl, h1, h2⟩ := b
      exact ⟨a, vs, rfl, h1, by rw [← brs_length ds vs h2]; exact many_len is ds r r' e, many_of is ds vs r r' σ Q e h2 env q⟩
    | _ => cases e
theorem names_ok (hx : Hs X S k C) : ∀ (is : List Nat) (es : List Expr), all2 (fun i e => match e with
    | .Name x _ => decide (S.N[i]? = some x) && locB S.sc x
    | _ => false) is es = true → PGs X es (gIs is) ∧ (assignEach es X.env).length = is.length ∧ (assignEach es X.env).findIdx? (·.1) = none
  | [], [], _ => ⟨pgs_nil, rfl, rfl⟩
  | i :: is, e :: es, h => by
    simp only [all2, Bool.and_eq_true] at h
    obtain ⟨h1, h2, h3⟩ := names_ok hx is es h.2
    have h0 := h.1
    split at h0
    · rename_i x pos
      simp only [Bool.and_eq_true] at h0
      have hg : PG X (.Name x pos) (gName i) := pg_name hx.nd (by rw [hx.hN]; exact of_decide_eq_true h0.1) (hx.loc h0.2) (.inl (hx.fnAll x))
      refine ⟨pgs_cons hg h1 rfl, ?_, ?_⟩
      · show (assignEach es X.env).length + 1 = is.length + 1
        rw [h2]
      · show ((false, assign (.Name x pos) X.env) :: assignEach es X.env).findIdx? (·.1) = none
        rw [List.findIdx?_cons]
        simp only [h3, Option.map_none]
        rfl
    · cases h0
  | [], _ :: _, h => by simp [all2] at h
  | _ :: _, [], h => by simp [all2] at h
theorem target_ok (hx : Hs X S k C) {t : Tg} {tg : Expr} (h : chkT S t tg = true) : PG X tg (gT X.K t) := by
  unfold chkT at h
  split at h
  · simp only [Bool.and_eq_true] at h
    exact pg_name hx.nd (by rw [hx.hN]; exact of_decide_eq_true h.1) (hx.loc h.2) (.inl (hx.fnAll _))
  · obtain ⟨h1, h2, h3⟩ := names_ok hx _ _ h
    exact pg_tup hx.calm h1 h2 h3
  · cases h
theorem s_asg {t : Tg} {tg e : Expr} {pos : Pos} {g : Rho → Option PyData} (he : E1 X e g) (hg : PG X tg (gT X.K t)) (hs : swapsWithSole [tg] e pos.line X.env = pure false) (hw : swappedStores [tg] e X.env = pure none)
    (h1 : (assignEach [tg] X.env).map (·.2) = [assign tg X.env]) : S1 X (.Assign [tg] e pos) (asgD t g) :=
  ps_imp (ps_asg he hg hs hw h1) fun σ H D ⟨r, fl, env, hgr, q⟩ => by
    unfold asgD at hgr
    cases e1 : g r with
    | none => rw [e1] at hgr; cases hgr
    | some d =>
      rw [e1] at hgr
      simp only at hgr
      cases e2 : setTg t d r with
      | none => rw [e2] at hgr; cases hgr
      | some r' =>
        rw [e2] at hgr
        injection hgr with hgr; subst hgr
        exact ⟨r, d, env, e1, fun v H1 s1 b1 => tg_of e2 b1 (envOk_mono s1 env) fun σ' env' => q σ' H1 s1 env'⟩

/-! ### for -/
/-- what holds between two turns -/
noncomputable def Pv (K : PySem.W.Frag) (mg : Str → Option Value) (t : Tg) (step : Rho → Option Fl) (ds : List PyData) (fl : Fl) (H0 : Hp) (i : Nat) (σ : L2.St) (H : Hp) : Prop :=
  ∃ r, EnvOk K mg H r σ ∧ Same H0 H ∧ forD t step (ds.drop i) r = some fl
theorem turn_of {K : PySem.W.Frag} {mg : Str → Option Value} {t : Tg} {step : Rho → Option Fl} {ds : List PyData} {fl : Fl} {H0 H : Hp} {i : Nat} {σ : L2.St} {D : Ends} {d : PyData} {v : V} (p : Pv K mg t step ds fl H0 i σ H) (hd : ds[i]? = some d) (b : Br K mg H d v) (q : FlOk K mg D H0 fl) :
    gT K t v σ H fun σ2 H2 => tPS K mg step { D with nx := Pv K mg t step ds fl H0 (i + 1), ct := Pv K mg t step ds fl H0 (i + 1), bk := D.nx } σ2 H2 := by
  obtain ⟨r, env, sm, hf⟩ := p
  have hi : i < ds.length := (List.getElem?_eq_some_iff.mp hd).1
  have e0 : ds.drop i = d :: ds.drop (i + 1) := by
    rw [List.drop_eq_getElem_cons hi]
    congr 1
    exact (List.getElem?_eq_some_iff.mp hd).2
  rw [e0] at hf
  unfold forD at hf
  cases e1 : setTg t d r with
  | none => rw [e1] at hf; cases hf
  | some r1 =>
    rw [e1] at hf
    simp only at hf
    refine tg_of e1 b env fun σ' env' => ?_
    cases e2 : step r1 with
    | none => rw [e2] at hf; cases hf
    | some f1 =>
      rw [e2] at hf
      refine ⟨r1, f1, env', e2, ?_⟩
      cases f1 with
      | nx r2 => exact fun σ2 H2 s2 env2 => ⟨r2, env2, sm.trans s2, hf⟩
      | ct r2 => exact fun σ2 H2 s2 env2 => ⟨r2, env2, sm.trans s2, hf⟩
      | bk r2 =>
        injection hf with hf; subst hf
        exact fun σ2 H2 s2 env2 => q σ2 H2 (sm.trans s2) env2
      | rt w =>
        injection hf with hf; subst hf
        exact fun v2 H2 s2 b2 => q v2 H2 (sm.trans s2) b2
theorem end_of {K : PySem.W.Frag} {mg : Str → Option Value} {t : Tg} {step : Rho → Option Fl} {ds : List PyData} {fl : Fl} {H0 H : Hp} {σ : L2.St} {D : Ends} (p : Pv K mg t step ds fl H0 ds.length σ H) (q : FlOk K mg D H0 fl) : D.nx σ H := by
  obtain ⟨r, env, sm, hf⟩ := p
  rw [List.drop_length] at hf
  injection hf with hf; subst hf
  exact q σ H sm env
end
end PL

set_option Elab.async false
set_option linter.all false
set_option maxRecDepth 100000
namespace PL
open PySem PySem.Spec PyProof.Rows L2

/-! ### a comprehension's block -/
theorem clos_aux {env : Env} : ∀ (l : List (Str × NameKind)) (acc : List (Str × Addr)), (∀ x ∈ l, x.2 = .free → ∃ c, env.cells.lookup x.1 = some c) → (∀ x c, acc.lookup x = some c → env.cells.lookup x = some c) →
    ∃ cl, (forIn l acc (fun x cs => if (x.2 == NameKind.free) = true then (do let c ← cellOf env x.1; pure (ForInStep.yield ((x.1, c) :: cs))) else pure (ForInStep.yield cs)) : Sem (List (Str × Addr))) = pure cl ∧
      (∀ x c, cl.lookup x = some c → env.cells.lookup x = some c) ∧ (∀ x ∈ l, x.2 = .free → ∃ c, cl.lookup x.1 = some c) ∧ ∀ x c, acc.lookup x = some c → ∃ c', cl.lookup x = some c'
  | [], acc, _, ha => ⟨acc, rfl, ha, fun x hx => absurd hx (by simp), fun x c e => ⟨c, e⟩⟩
  | (n, k) :: l, acc, hl, ha => by
    rw [List.forIn_cons]
    by_cases hk : k = .free
    · obtain ⟨c, hc⟩ := hl (n, k) List.mem_cons_self hk
      have e1 : cellOf env n = pure c := by
        have hc' : env.cells.lookup n = some c := hc
        unfold cellOf; rw [hc']
      have ha' : ∀ x c', List.lookup x ((n, c) :: acc) = some c' → env.cells.lookup x = some c' := fun x c' e => by
        rw [List.lookup_cons] at e
        split at e
        · rename_i z
          injection e with e
          rw [eq_of_beq z, ← e]; exact hc
        · exact ha x c' e
      obtain ⟨cl, h1, h2, h3, h4⟩ := clos_aux l ((n, c) :: acc) (fun x hx => hl x (List.mem_cons_of_mem _ hx)) ha'
      refine ⟨cl, ?_, h2, fun x hx hf => ?_, fun x c' e => ?_⟩
      · rw [← h1]
        subst hk
        simp only [beq_self_eq_true, if_true, e1, pure_bind]
      · rcases List.mem_cons.mp hx with rfl | hx
        · exact h4 n c (by rw [List.lookup_cons]; simp)
        · exact h3 x hx hf
      · have : ∃ c', List.lookup x ((n, c) :: acc) = some c' := by
          rw [List.lookup_cons]
          split
          · exact ⟨_, rfl⟩
          · exact ⟨c', e⟩
        obtain ⟨c'', e''⟩ := this
        exact h4 x c'' e''
    · obtain ⟨cl, h1, h2, h3, h4⟩ := clos_aux l acc (fun x hx => hl x (List.mem_cons_of_mem _ hx)) ha
      refine ⟨cl, ?_, h2, fun x hx hf => ?_, h4⟩
      · rw [← h1]
        have : (k == NameKind.free) = false := by simpa using hk
        simp only [this, Bool.false_eq_true, if_false, pure_bind]
      · rcases List.mem_cons.mp hx with rfl | hx
        · exact absurd hf hk
        · exact h3 x hx hf
theorem clos_ok {scope : Scope} {env : Env} (h : ∀ x ∈ scope.names, x.2 = .free → ∃ c, env.cells.lookup x.1 = some c) :
    ∃ cl, closureFor scope env = pure cl ∧ (∀ x c, cl.lookup x = some c → env.cells.lookup x = some c) ∧ ∀ x ∈ scope.names, x.2 = .free → ∃ c, cl.lookup x.1 = some c := by
  obtain ⟨cl, h1, h2, h3, _⟩ := clos_aux scope.names [] h (fun x c e => by simp at e)
  refine ⟨cl, ?_, h2, h3⟩
  simp only [closureFor]
  rw [h1]
  rfl

section
variable {prog : Program} {w : World} {A : Around} {R : Result → Shared → Prop} {s : Shared}
theorem comp_turns {elt target iter : Expr} {ifs : List Expr} {scope : Scope} {pos : Pos} {it acc : Value} {env : Env} (I : Nat → Shared → Prop)
    (turn : ∀ n s, I n s → wpAny (model prog w) A (pyNext it) (fun r s₁ => match r with
      | none => R (.ok .next) s₁
      | some v => wpAny (model prog w) A (letOwnedTupleGo target it v) (fun _ s₁' => wpAny (model prog w) A (assign target env v) (fun _ s₂ =>
          wpAny (model prog w) A (forIn ifs true fun c r => if r = true then do let ok ← isTrue c env (eval c env); pure (ForInStep.yield ok) else pure (ForInStep.yield r)) (fun ok s₃ =>
            if ok = true then wpAny (model prog w) A (eval elt env) (fun x s₄ =>
              wpAny (model prog w) A (call (.builtin "list.append") [acc, x]) (fun _ s₅ => ∃ m, m < n ∧ I m s₅) (notedBy (model prog w) A env fun e s' => R (.error e) s') s₄) (notedBy (model prog w) A env fun e s' => R (.error e) s') s₃
            else ∃ m, m < n ∧ I m s₃) (notedBy (model prog w) A env fun e s' => R (.error e) s') s₂) (notedBy (model prog w) A env fun e s' => R (.error e) s') s₁') (notedBy (model prog w) A env fun e s' => R (.error e) s') s₁) (notedBy (model prog w) A env fun e s' => R (.error e) s') s)
    (n : Nat) (h : I n s) :
    codeAny (model prog w) A (.compLoop (.ListComp elt [⟨target, iter, ifs, 0⟩] scope pos) 0 it acc env) R s := by
  refine codeAny_loop rfl I (fun n s hI => ?_) n h
  show wpAny _ A ((compTurn (.ListComp elt [⟨target, iter, ifs, 0⟩] scope pos) 0 it acc env).onRaise (fun x => do noteFrame x env; theTreesLotGoes x)) _ _ s
  refine wpAny_noted ?_
  rw [compTurn_list]
  refine wpAny_bind (wpAny_standAt (wpAny_bind (wpAny_mono (turn n s hI) (fun r s₁ h₁ => ?_) fun _ _ h' => h')))
  cases r with
  | none => exact wpAny_pure h₁
  | some v =>
    refine wpAny_bind (wpAny_mono h₁ (fun _ s₁' h₁' => ?_) fun _ _ h' => h')
    refine wpAny_bind (wpAny_mono h₁' (fun _ s₂ h₂ => wpAny_bind (wpAny_mono h₂ (fun ok s₃ h₃ => ?_) fun _ _ h' => h')) fun _ _ h' => h')
    cases ok with
    | false => exact wpAny_pure ⟨rfl, h₃⟩
    | true =>
      exact wpAny_bind (wpAny_bind (wpAny_mono h₃ (fun x s₄ h₄ => wpAny_bind (wpAny_mono h₄ (fun _ s₅ h₅ => wpAny_pure (wpAny_pure ⟨rfl, h₅⟩)) fun _ _ h' => h')) fun _ _ h' => h'))
end

/-- an untracked object of ours is tracked from here on -/
theorem inv_track {X : Cx} {pins : List (Addr × Obj)} {σ : L2.St} {H : Hp} {s : Shared} {D : Addr} {o : HO} (I : Inv X pins σ H s) (hD : H D = none) (hs : X.ex.contains D = true ∨ X.s₀.heap.objs.size ≤ D) (hL : D ≠ X.env.locals)
    (hc : ∀ x c, X.env.cells.lookup x = some c → c ≠ D) (hp : ∀ p ∈ X.pn ++ pins, p.1 ≠ D) (new : ObjOk X.prog X.w (upd H D o) s.heap D o) : Inv X pins σ (upd H D o) s := by
  have key := I.step (g' := s.gens) (d' := s.drawn) (t' := s.toks) (h' := s.heap) (H' := upd H D o) (ch := [D]) (fun b hb => by
      have e : b = D := by simpa using hb
      subst e
      exact ⟨hs.imp (fun z => by simpa using z) id, hL, hc, hp⟩) (fun b u _ _ _ e _ => e) (fun b u _ _ _ e _ => ⟨u.slots, e⟩) (fun b u hb e n => by rw [upd_ne (by simpa using hb)]; exact n)
    (fun b u _ e => ⟨u, e⟩) (fun b xs e => by rw [upd_ne (ne_of_none e hD)]; exact e) (fun b u v e => by rw [upd_ne (ne_of_none e hD)]; exact e) (fun b ps e => ⟨#[], by rw [upd_ne (ne_of_none e hD), e]; simp⟩) (fun m hm => hm) (fun b u q => ?_) I.bare
  · exact key
  · by_cases hb : b = D
    · subst hb; rw [upd_same] at q; cases q; exact new
    · rw [upd_ne hb] at q
      exact (I.hok b u q).stay (fun c v _ z => z) (fun c z => by rw [upd_ne (ne_of_none z hD)]; exact z) fun c xs z => by rw [upd_ne (ne_of_none z hD)]; exact z

/-- the context of a comprehension's block -/
noncomputable def cxComp (X : Cx) (NC : List Str) (scope : Scope) (cl : List (Str × Addr)) (C : Addr) (s : Shared) (H : Hp) (ex : List Addr) : Cx where
  prog := X.prog
  w := X.w
  K := X.K
  mg := X.mg
  base := X.base
  A := X.A
  N := NC
  s₀ := s
  H₀ := H
  env := compEnvC scope cl C X.env
  outer := X.stack
  stack := X.stack
  ex := ex
  fn := fun x => (cl.lookup x).isNone
  calm := X.calm
  pn := []
  xe := fun _ _ => False

/-- values of the block's names at its entry: the captured ones -/
noncomputable def capt {α : Type} (mp : List (Option Nat)) (r : List (Option α)) : List (Option α) := mp.map fun o => match o with
  | some j => (r[j]?).join
  | none => none
structure CompSc (X : Cx) (NC : List Str) (mp : List (Option Nat)) (scope : Scope) : Prop where
  kind : scope.kind = .function
  nocell : ∀ x ∈ scope.names, x.2 ≠ .cell
  names : ∀ x ∈ scope.names, x.2 = .local → scope.names.lookup x.1 = some .local
  capd : ∀ x ∈ scope.names, x.2 = .free → X.env.kindOf x.1 = some .cell ∨ X.env.kindOf x.1 = some .free
  len : mp.length = NC.length
  cap : ∀ (i j : Nat), mp[i]? = some (some j) → ∃ x, NC[i]? = some x ∧ X.N[j]? = some x ∧ (x, NameKind.free) ∈ scope.names ∧ scope.names.lookup x = some .free

theorem lookup_relabel_free {scope : Scope} {env : Env} {x : Str} (h : scope.names.lookup x = some .free) : (relabel scope env).names.lookup x = some .free ∨ (relabel scope env).names.lookup x = some .cell := by
  have key : ∀ (l : List (Str × NameKind)), l.lookup x = some .free →
      (l.map fun (n, k) => if (k == NameKind.free && env.scope.kind == .function && env.kindOf n == some .cell) then (n, NameKind.cell) else (n, k)).lookup x = some .free ∨
      (l.map fun (n, k) => if (k == NameKind.free && env.scope.kind == .function && env.kindOf n == some .cell) then (n, NameKind.cell) else (n, k)).lookup x = some .cell := by
    intro l
    induction l with
    | nil => intro h; simp at h
    | cons p r ih =>
      obtain ⟨n, k⟩ := p
      intro h
      rw [List.lookup_cons] at h
      rw [List.map_cons]
      by_cases hx : (x == n) = true
      · rw [hx] at h
        simp only at h
        injection h with h; subst h
        by_cases hc : (NameKind.free == NameKind.free && env.scope.kind == .function && env.kindOf n == some .cell) = true
        · right
          simp only [hc, if_true, List.lookup_cons, hx]
        · left
          simp only [hc, List.lookup_cons, hx]
          simp [List.lookup_cons, hx]
      · have hx' : (x == n) = false := by simpa using hx
        rw [hx'] at h
        simp only at h
        rcases ih h with q | q
        · left
          by_cases hc : (k == NameKind.free && env.scope.kind == .function && env.kindOf n == some .cell) = true
          · simp only [hc, if_true, List.lookup_cons, hx']; exact q
          · simp only [hc, List.lookup_cons, hx']; simpa [List.lookup_cons, hx'] using q
        · right
          by_cases hc : (k == NameKind.free && env.scope.kind == .function && env.kindOf n == some .cell) = true
          · simp only [hc, if_true, List.lookup_cons, hx']; exact q
          · simp only [hc, List.lookup_cons, hx']; simpa [List.lookup_cons, hx'] using q
  exact key scope.names h

/-- the block's entry -/
theorem inv_comp {X : Cx} {pins : List (Addr × Obj)} {σ : L2.St} {H : Hp} {s : Shared} {NC : List Str} {mp : List (Option Nat)} {scope : Scope} {cl : List (Str × Addr)} {h' : Heap} {ex : List Addr} {tk : Nat} (I : Inv X pins σ H s) (sc : CompSc X NC mp scope)
    (hc1 : ∀ x c, cl.lookup x = some c → X.env.cells.lookup x = some c) (hc2 : ∀ x ∈ scope.names, x.2 = .free → ∃ c, cl.lookup x.1 = some c) (hcalm : X.calm = true)
    (hex : ∀ b ∈ ex, b < s.heap.objs.size ∧ b ≠ X.env.locals ∧ b ∉ X.fs ∧ (b ∈ X.ex ∨ X.s₀.heap.objs.size ≤ b) ∧ (∀ x c, X.env.cells.lookup x = some c → c ≠ b))
    (hns : h'.Ns s.heap.objs.size (fun _ => none)) (hk : ∀ b o, s.heap.get? b = some o → h'.get? b = some o) (hsz : s.heap.objs.size < h'.objs.size) :
    Inv (cxComp X NC scope cl s.heap.objs.size s H ex) [] (capt mp σ) H { s with heap := h', toks := tk } := by
  have stk : ∀ b ∈ frs X.stack, b ∈ X.env.locals :: X.fs := I.stkSub
  refine ⟨⟨I.ok.mod, sc.kind, I.ok.glob, I.ok.blt, Nat.le_refl _, fun x y c e1 e2 => I.ok.inj x y c (hc1 x c e1) (hc1 y c e2), fun x hx => ?_, fun x c hf e => ?_, fun _ => I.ok.hd hcalm, I.ok.frames, .inl rfl, fun b hb => ?_, I.bs, Nat.le_trans I.ok.bsz I.sz, fun b o e hb => ?_, fun b hb hf => ?_, I.stack, fun b hb => I.stkFree b hb⟩,
    rfl, I.bare, Un.kept hk, ⟨_, hns, fun i x v e1 e2 e3 => ?_⟩, fun x c e => ?_, I.hok.fresh (Nat.le_refl _), fun x c e => I.freeC x c (hc1 x c e), fun p hp => absurd (show p ∈ ([] : List (Addr × Obj)) from hp) (by simp), I.hok.kept hk, ?_⟩
  · -- every cell name has a cell
    have key : ∀ (l : List (Str × NameKind)), (∀ y ∈ l, y ∈ scope.names) → ((l.map fun (n, k) => if (k == NameKind.free && X.env.scope.kind == .function && X.env.kindOf n == some .cell) then (n, NameKind.cell) else (n, k)).lookup x = some .cell ∨
        (l.map fun (n, k) => if (k == NameKind.free && X.env.scope.kind == .function && X.env.kindOf n == some .cell) then (n, NameKind.cell) else (n, k)).lookup x = some .free) → (x, NameKind.free) ∈ l := by
      intro l
      induction l with
      | nil => intro _ h; simp at h
      | cons p r ih =>
        obtain ⟨n, k⟩ := p
        intro hm h
        by_cases hx : (x == n) = true
        · have exn : x = n := eq_of_beq hx
          subst exn
          rw [List.map_cons] at h
          by_cases hkf : k = .free
          · subst hkf; exact List.mem_cons_self
          · have hb : (k == NameKind.free) = false := by simpa using hkf
            simp only [hb, Bool.false_and, Bool.false_eq_true, if_false, List.lookup_cons, beq_self_eq_true] at h
            rcases h with h | h
            · injection h with h
              exact absurd h (sc.nocell (x, k) (hm _ List.mem_cons_self))
            · injection h with h; exact absurd h hkf
        · have hx' : (x == n) = false := by simpa using hx
          refine List.mem_cons_of_mem _ (ih (fun y hy => hm y (List.mem_cons_of_mem _ hy)) ?_)
          rw [List.map_cons] at h
          by_cases hc : (k == NameKind.free && X.env.scope.kind == .function && X.env.kindOf n == some .cell) = true
          · simpa only [hc, if_true, List.lookup_cons, hx'] using h
          · simpa [hc, List.lookup_cons, hx'] using h
    have hm : (x, NameKind.free) ∈ scope.names := key scope.names (fun y hy => hy) hx
    exact hc2 _ hm rfl
  · have hf' : (cl.lookup x).isNone = true := hf
    have e' : cl.lookup x = some c := e
    rw [e'] at hf'
    cases hf'
  · obtain ⟨q1, q2, q3, q4, q5⟩ := hex b hb
    exact ⟨Nat.ne_of_lt q1, fun x c e => q5 x c (hc1 x c e)⟩
  · obtain ⟨q1, q2, q3, q4, q5⟩ := hex b hb
    rcases q4 with z | z
    · exact I.ok.noex b o e z
    · exact absurd (Nat.lt_of_lt_of_le (Heap.lt_size e) (Nat.le_trans I.ok.bsz z)) (Nat.lt_irrefl _)
  · obtain ⟨q1, q2, q3, q4, q5⟩ := hex b hb
    rcases List.mem_cons.mp (stk b hf) with z | z
    · exact q2 z
    · exact q3 z
  · -- the captured names
    have e2' : (capt mp σ)[i]? = some (some v) := e2
    unfold capt at e2'
    rw [List.getElem?_map] at e2'
    cases em : mp[i]? with
    | none => rw [em] at e2'; cases e2'
    | some o =>
      rw [em] at e2'
      cases o with
      | none => cases e2'
      | some j =>
        obtain ⟨y, g1, g2, g3, g4⟩ := sc.cap i j em
        have e1' : NC[i]? = some x := e1
        rw [g1] at e1'
        injection e1' with e1'
        subst e1'
        have e4 : σ[j]? = some (some v) := by
          have e5 : some ((σ[j]?).join) = some (some v) := e2'
          injection e5 with e5
          cases e6 : σ[j]? with
          | none => rw [e6] at e5; cases e5
          | some z => rw [e6] at e5; exact congrArg some e5
        obtain ⟨m, hn, hl⟩ := I.loc
        have hk2 := sc.capd (y, .free) g3 rfl
        have hv : Vis X.env.scope y := by
          rcases hk2 with z | z
          · exact .inr (.inl z)
          · exact .inr (.inr z)
        obtain ⟨u, r, l⟩ := hl j y v g2 e4 hv
        refine ⟨u, r, .inr ⟨?_, ?_⟩⟩
        · rcases lookup_relabel_free (env := X.env) g4 with z | z
          · exact .inr z
          · exact .inl z
        · rcases l with ⟨z, _⟩ | ⟨_, c, ec, z⟩
          · rcases hk2 with z2 | z2
            · have z2' : X.env.kindOf y = some .cell := z2
              rw [z2'] at z; cases z
            · have z2' : X.env.kindOf y = some .free := z2
              rw [z2'] at z; cases z
          · obtain ⟨c', ec'⟩ := hc2 (y, .free) g3 rfl
            have := hc1 y c' ec'
            rw [ec] at this
            injection this with this
            subst this
            obtain ⟨o, ho, hd⟩ := z
            exact ⟨c, ec', o, hk c o ho, hd⟩
  · obtain ⟨v, o, ho, hd⟩ := I.cell x c (hc1 x c e)
    exact ⟨v, o, hk c o ho, hd⟩
  · show (capt mp σ).length = NC.length
    unfold capt
    rw [List.length_map]
    exact sc.len
end PL

set_option Elab.async false
set_option linter.all false
set_option maxRecDepth 100000
namespace PL
open PySem PySem.Spec PyProof.Rows L2

/-- what an iterator yields -/
noncomputable def Jok (K : PySem.W.Frag) (mg : Str → Option Value) (J : It) (ds : List PyData) (H1 : Hp) : Prop :=
  (∀ (i : Nat) (d : PyData) (H : Hp), ds[i]? = some d → Same H1 H → J.go i H ∧ ∀ x H', J.yld i H x H' → Same H H' ∧ Br K mg H' d x) ∧ ∀ H, Same H1 H → J.stop ds.length H
noncomputable def I1 (X : Cx) (tg iter : Expr) (g : Rho → Option (List PyData)) : Prop :=
  ∃ wi, PI X tg iter wi ∧ ∀ σ H r ds R, EnvOk X.K X.mg H r σ → g r = some ds → (∀ J H1, Same H H1 → Jok X.K X.mg J ds H1 → R J H1) → wi σ H R
section
variable {X : Cx}
theorem jok_tup {K : PySem.W.Frag} {mg : Str → Option Value} {H1 : Hp} {a : Addr} {vs : List V} {ds : List PyData} (h : SqT K H1 a vs) (b : Brs K mg H1 ds vs) : Jok K mg (Itt K a) ds H1 := by
  have hl := brs_length ds vs b
  refine ⟨fun i d H hd sm => ⟨?_, fun x H' y => ?_⟩, fun H sm => ⟨vs, sqt_same sm h, by omega⟩⟩
  · obtain ⟨v, e, _⟩ := brs_get ds vs i d b hd
    exact ⟨vs, v, sqt_same sm h, e⟩
  · obtain ⟨e, y⟩ := y
    subst e
    obtain ⟨v, e, bv⟩ := brs_get ds vs i d b hd
    have := y vs (sqt_same sm h)
    rw [e] at this
    injection this with this
    subst this
    exact ⟨Same.refl _, br_mono sm _ _ bv⟩
/-! ### the comprehension -/
noncomputable def compL (t : Tg) (gc ge : Rho → Option PyData) : List PyData → Rho → Option (List PyData)
  | [], _ => some []
  | d :: ds, r => match setTg t d r with
    | some r1 => match gc r1 with
      | some (.bool true) => match ge r1 with
        | some y => match compL t gc ge ds r1 with
          | some ys => some (y :: ys)
          | none => none
        | none => none
      | some (.bool false) => compL t gc ge ds r1
      | _ => none
    | none => none
noncomputable def compD (t : Tg) (gi : Rho → Option (List PyData)) (mp : List (Option Nat)) (gc ge : Rho → Option PyData) (r : Rho) : Option PyData := match gi r with
  | some ds => if okLen ds.length = true then (match compL t gc ge ds (capt mp r) with
    | some ys => some (.list ys)
    | none => none) else none
  | none => none
theorem capt_ok {K : PySem.W.Frag} {mg : Str → Option Value} {H : Hp} {r : Rho} {σ : L2.St} (mp : List (Option Nat)) (h : EnvOk K mg H r σ) : EnvOk K mg H (capt mp r) (capt mp σ) := by
  refine ⟨by unfold capt; simp, fun i d e => ?_⟩
  unfold capt at e ⊢
  rw [List.getElem?_map] at e ⊢
  cases em : mp[i]? with
  | none => rw [em] at e; cases e
  | some o =>
    rw [em] at e
    cases o with
    | none => cases e
    | some j =>
      have e' : some ((r[j]?).join) = some (some d) := e
      injection e' with e'
      have e2 : r[j]? = some (some d) := by
        cases e6 : r[j]? with
        | none => rw [e6] at e'; cases e'
        | some z => rw [e6] at e'; exact congrArg some e'
      obtain ⟨v, ev, bv⟩ := h.2 j d e2
      refine ⟨v, ?_, bv⟩
      show some ((σ[j]?).join) = _
      rw [ev]
      rfl
/-- a condition or none -/
noncomputable def CondOk (X : Cx) (ifs : List Expr) (gc : Rho → Option PyData) : Prop := (ifs = [] ∧ gc = fun _ => some (.bool true)) ∨ ∃ c, ifs = [c] ∧ T1 X c gc
theorem conds {X : Cx} {ifs : List Expr} {gc : Rho → Option PyData} (h : CondOk X ifs gc) {pins : List (Addr × Obj)} {s : Shared} {σ : L2.St} {H : Hp} {r : Rho} {b : Bool} {E : Value → Shared → Prop} {Q : Bool → Shared → Prop} (hE : ∀ e s, X.xe e s → E e s) (I : Inv X pins σ H s)
    (env : EnvOk X.K X.mg H r σ) (hg : gc r = some (.bool b)) (q : ∀ s' H', Inv X pins σ H' s' → Same H H' → Q b s') :
    wpAny (model X.prog X.w) X.A (forIn ifs true fun c r => if r = true then do let ok ← isTrue c X.env (eval c X.env); pure (ForInStep.yield ok) else pure (ForInStep.yield r)) Q E s := by
  rcases h with ⟨rfl, rfl⟩ | ⟨c, rfl, hT⟩
  · rw [List.forIn_nil]
    injection hg with hg
    injection hg with hg
    subst hg
    exact wpAny_pure (q s H I (Same.refl H))
  · rw [List.forIn_cons]
    simp only [if_true, bind_assoc, pure_bind, List.forIn_nil]
    refine wpAny_bind (wpAny_mono (hT pins s σ H (fun k H' => k = b ∧ Same H H') I ⟨r, b, env, hg, fun H' s' => ⟨rfl, s'⟩⟩) (fun k s' ⟨H', I', e, sm⟩ => ?_) hE)
    subst e
    exact wpAny_pure (q s' H' I' sm)

theorem cg_le {us vs ys i n z : Nat} (h1 : vs = us) (h2 : ys = vs) (h3 : ys ≤ i) (h4 : i ≤ n) (h5 : n ≤ z) : us ≤ z := by subst h1 h2; exact Nat.le_trans h3 (Nat.le_trans h4 h5)
theorem comp_gen {elt tg iter : Expr} {ifs : List Expr} {scope : Scope} {pos : Pos} {NC : List Str} {mp : List (Option Nat)} {t : Tg} {gi : Rho → Option (List PyData)} {gc ge : Rho → Option PyData} (hcalm : X.calm = true) (sc : CompSc X NC mp scope) (hi : I1 X tg iter gi)
    (hs : ∀ x, foldedSetIterable iter X.env x = pure x)
    (hb : ∀ (cl : List (Str × Addr)) (Ca : Addr) (s : Shared) (H : Hp) (ex : List Addr), X.env.scope.kind = .function → E1 (cxComp X NC scope cl Ca s H ex) elt ge ∧ CondOk (cxComp X NC scope cl Ca s H ex) ifs gc ∧ PG (cxComp X NC scope cl Ca s H ex) tg (gT X.K t)) 
    {use : Option (Value → Sem Unit)} {QQ : Value → Shared → Prop} {pins : List (Addr × Obj)} {s : Shared} {σ : L2.St} {H : Hp} {r : Rho} {ds fin : List PyData} (I : Inv X pins σ H s) (env : EnvOk X.K X.mg H r σ) (eg : gi r = some ds) (hz : okLen ds.length = true) (ec : compL t gc ge ds (capt mp r) = some fin)
    (hfin : ∀ (D C : Addr) (mC : Str → Option Value) (H8 : Hp) (s6 : Shared) (fl : Flow), s6.heap.Ns C mC → FpOk X pins H8 C → (∀ h7, Heap.SameBut C s6.heap h7 → Inv X pins σ H8 { s6 with heap := h7 }) → Same H H8 → Br X.K X.mg H8 (.list fin) (.ref D) → compPost (model X.prog X.w) X.A X.xe use QQ (.ref D) C (.ok fl) s6) :
    wpAny (model X.prog X.w) X.A (comprehension (.ListComp elt [⟨tg, iter, ifs, 0⟩] scope pos) scope X.env (firstIterPos [⟨tg, iter, ifs, 0⟩] pos) (newList []) (firstAsync [⟨tg, iter, ifs, 0⟩]) (firstIter [⟨tg, iter, ifs, 0⟩] X.env) use) QQ X.xe s := by
  obtain ⟨cl, hcl, hc1, hc2⟩ := clos_ok (scope := scope) (env := X.env) (fun x hx hf => I.ok.has x.1 (sc.capd x hx hf))
  obtain ⟨wi, hpi, hwi⟩ := hi
  refine wpAny_comprehension_free (use := use) rfl hs hcl sc.kind sc.names ?_
  refine wpAny_mono (hpi pins s σ H (fun J H1 => Same H H1 ∧ Jok X.K X.mg J ds H1) I (hwi σ H r ds _ env eg fun J H1 s1 j1 => ⟨s1, j1⟩)) (fun x s1 h1 => wpAny_mono h1 (fun itv s2 h2 => ?_) fun _ _ e => e) fun _ _ e => e
  obtain ⟨it, fp, tn, J, H2, e, I2, T, st2, f2, sm2, jk⟩ := h2
  subst e
  -- the new list, not tracked for now
  refine wpAny_newObj_type ?_
  have hDn : ∀ a, s2.heap.objs.size ≤ a → s2.heap.get? a = none := fun a ha => by
    cases e : s2.heap.get? a with
    | none => rfl
    | some o' => exact absurd (Heap.lt_size e) (Nat.not_lt.mpr ha)
  have I3 : Inv X pins σ H2 { s2 with heap := s2.heap.push { cls := .type "list", dict := none, data := .seq ([] : List Value).toArray } } := I2.kept (t' := s2.toks) fun b o e => Heap.get?_push_of_some _ e
  have hDg : (s2.heap.push { cls := .type "list", dict := none, data := .seq ([] : List Value).toArray }).get? s2.heap.objs.size = some { cls := .type "list", dict := none, data := .seq ([] : List Value).toArray } := Heap.get?_push_size _ rfl
  have hsz3 : (s2.heap.push { cls := .type "list", dict := none, data := .seq ([] : List Value).toArray }).objs.size = s2.heap.objs.size + 1 := Heap.size_push ..
  have old3 : ∀ b o, s2.heap.get? b = some o → (s2.heap.push { cls := .type "list", dict := none, data := .seq ([] : List Value).toArray }).get? b = some o := fun b o e => Heap.get?_push_of_some _ e
  generalize hh3 : s2.heap.push { cls := .type "list", dict := none, data := .seq ([] : List Value).toArray } = h3 at *
  generalize hD : s2.heap.objs.size = D at *
  refine wpAny_newFunctionEnv sc.nocell (by intro y hy; simp at hy) (fun h4 hns4 hsb4 => ?_) sc.kind
  have hns4' : h4.Ns h3.objs.size (fun _ => none) := hns4
  have old4 : ∀ b o, h3.get? b = some o → h4.get? b = some o := fun b o e => hsb4.extBut b o (Nat.ne_of_lt (Heap.lt_size e)) (Heap.get?_push_of_some _ e)
  have hsz4 : h3.objs.size < h4.objs.size := by rw [hsb4.1, Heap.size_push]; exact Nat.lt_succ_self _
  have hDlt : D < h3.objs.size := by rw [hsz3]; exact Nat.lt_succ_self _
  have fpLt : ∀ b ∈ fp, b < D := fun b hb => by
    obtain ⟨o, e, _⟩ := T.obj _ _ st2 b hb
    rw [← hD]; exact Heap.lt_size e
  have hFp : ∀ b ∈ D :: fp, b < h3.objs.size ∧ b ≠ X.env.locals ∧ b ∉ X.fs ∧ (b ∈ X.ex ∨ X.s₀.heap.objs.size ≤ b) ∧ (∀ x c, X.env.cells.lookup x = some c → c ≠ b) := fun b hb => by
    rcases List.mem_cons.mp hb with rfl | hb
    · have f := I2.fpOk (b := b) (H' := H2) (by rw [hD]; exact Nat.le_refl _) (I2.hok.fresh (by rw [hD]; exact Nat.le_refl _))
      exact ⟨hDlt, f.2.1, f.2.2.1, f.2.2.2.1, f.2.2.2.2.1⟩
    · obtain ⟨f0, f1, f2', f3, f4, f5⟩ := f2 b hb
      exact ⟨Nat.lt_trans (fpLt b hb) hDlt, f1, f2', f3, f4⟩
  have hD2 : H2 D = none := I2.hok.fresh (by rw [hD]; exact Nat.le_refl _)
  have IC := inv_comp (NC := NC) (mp := mp) (tk := s2.toks + ([] : List (Str × Value)).length) (ex := D :: fp) I3 sc hc1 hc2 hcalm hFp hns4' old4 hsz4
  obtain ⟨hE, hC, hG⟩ := hb cl h3.objs.size { s2 with heap := h3 } H2 (D :: fp) I.ok.kind
  generalize hXC : cxComp X NC scope cl h3.objs.size { s2 with heap := h3 } H2 (D :: fp) = XC at *
  have xP : XC.prog = X.prog := by rw [← hXC]; rfl
  have xw : XC.w = X.w := by rw [← hXC]; rfl
  have xK : XC.K = X.K := by rw [← hXC]; rfl
  have xm : XC.mg = X.mg := by rw [← hXC]; rfl
  have xA : XC.A = X.A := by rw [← hXC]; rfl
  have xc : XC.calm = true := by rw [← hXC]; exact hcalm
  have xL : XC.env.locals = h3.objs.size := by rw [← hXC]; rfl
  have xe : ∀ (e : Value) (s : Shared) (P : Prop), XC.xe e s → P := fun e s P z => by rw [← hXC] at z; exact False.elim z
  have xfs : XC.fs = frs X.stack := by rw [← hXC]; rfl
  have xex : XC.ex = D :: fp := by rw [← hXC]; rfl
  have xpn : XC.pn = [] := by rw [← hXC]; rfl
  have xcl : XC.env.cells = cl := by rw [← hXC]; rfl
  have xs0 : XC.s₀ = { s2 with heap := h3 } := by rw [← hXC]; rfl
  have xH0 : XC.H₀ = H2 := by rw [← hXC]; rfl
  have xenv : compEnvC scope cl h3.objs.size X.env = XC.env := by rw [← hXC]; rfl
  have hDfs : D ∉ XC.fs := fun z => by
    rw [xfs] at z
    rcases List.mem_cons.mp (I.stkSub D z) with y | y
    · exact (hFp D List.mem_cons_self).2.1 y
    · exact (hFp D List.mem_cons_self).2.2.1 y
  have hDL : D ≠ XC.env.locals := by rw [xL]; exact Nat.ne_of_lt hDlt
  have hDcl : ∀ x c, XC.env.cells.lookup x = some c → c ≠ D := fun x c e => by rw [xcl] at e; exact (hFp D List.mem_cons_self).2.2.2.2 x c (hc1 x c e)
  have hfok : ∀ (H5 : Hp) (pins' : List (Addr × Obj)), (∀ p ∈ pins', p.1 = D) → (∀ b ∈ fp, H5 b = none) → ∀ b ∈ fp, FpOk XC pins' H5 b := fun H5 pins' hp hn b hb => by
    obtain ⟨f1, f2', f3, f4, f5⟩ := hFp b (List.mem_cons_of_mem _ hb)
    refine ⟨hn b hb, by rw [xL]; exact Nat.ne_of_lt f1, fun z => ?_, .inl (by rw [xex]; exact List.mem_cons_of_mem _ hb), fun x c e => ?_, fun p hp' => ?_⟩
    · rw [xfs] at z
      rcases List.mem_cons.mp (I.stkSub b z) with y | y
      · exact f2' y
      · exact f3 y
    · rw [xcl] at e; exact f5 x c (hc1 x c e)
    · rw [xpn, List.nil_append] at hp'
      rw [hp p hp']
      exact Ne.symm (Nat.ne_of_lt (fpLt b hb))
  -- the turns
  let St := fun (n : Nat) (s' : Shared) => ∃ (i : Nat) (σ' : L2.St) (H5 : Hp) (us : List Value) (m : Nat) (vs : List V) (ys : List PyData) (r' : Rho) (zs : List PyData),
    Inv XC [] σ' H5 s' ∧ tn i s'.heap ∧ (∀ b ∈ fp, H5 b = none) ∧ s'.heap.get? D = some { cls := .type "list", dict := none, data := .seq us.toArray m } ∧ H5 D = none ∧ Vals vs us ∧ Brs X.K X.mg H5 ys vs ∧
    EnvOk X.K X.mg H5 r' σ' ∧ Same H2 H5 ∧ compL t gc ge (ds.drop i) r' = some zs ∧ fin = ys ++ zs ∧ i ≤ ds.length ∧ n = ds.length - i ∧ ys.length ≤ i
  have start : St ds.length { s2 with heap := h4, toks := s2.toks + ([] : List (Str × Value)).length } :=
    ⟨0, capt mp σ, H2, [], 0, [], [], capt mp r, fin, IC, T.keep _ _ _ st2 (fun b _ o e => old4 b o (old3 b o e)), fun b hb => (f2 b hb).1, old4 _ _ hDg, hD2, .nil, by simp only [Brs], envOk_mono sm2 (capt_ok mp env), Same.refl _, by simpa using ec, rfl, Nat.zero_le _, rfl, Nat.le_refl _⟩
  have loop : ∀ s5 : Shared, s5 = { s2 with heap := h4, toks := s2.toks + ([] : List (Str × Value)).length } →
      codeAny (model X.prog X.w) X.A (.compLoop (.ListComp elt [⟨tg, iter, ifs, 0⟩] scope pos) 0 (.ref it) (.ref D) XC.env) (compPost (model X.prog X.w) X.A X.xe use QQ (.ref D) h3.objs.size) s5 := by
    rintro s5 rfl
    refine comp_turns St (fun n s' hSt => ?_) ds.length start
    obtain ⟨i, σ5, H5, us, m, vs, ys, r5, zs, I5, st5, fr5, hDo, hDH, hv, hbr, env5, sm5, hcomp, hfin', hile, hn, hyl⟩ := hSt
    have I5p : Inv XC [(D, { cls := .type "list", dict := none, data := .seq us.toArray m })] σ5 H5 s' := I5.pins_of fun p hp => by
      have e : p = (D, { cls := .type "list", dict := none, data := .seq us.toArray m }) := by simpa using hp
      subst e
      exact ⟨hDo, hDH, hDL, hDfs, fun v z => nomatch z⟩
    have only : ∀ p ∈ [(D, ({ cls := .type "list", dict := none, data := .seq us.toArray m } : Obj))], p.1 = D := fun p hp => by
      have e : p = (D, { cls := .type "list", dict := none, data := .seq us.toArray m }) := by simpa using hp
      rw [e]
    by_cases hlt : i < ds.length
    · -- one more
      obtain ⟨go, yl⟩ := jk.1 i ds[i] H5 (by simp [hlt]) sm5
      have e0 : ds.drop i = ds[i] :: ds.drop (i + 1) := List.drop_eq_getElem_cons hlt
      rw [e0] at hcomp
      unfold compL at hcomp
      have ti := T.item XC xP xw xK xc i _ s' σ5 H5 (notedBy (model X.prog X.w) X.A XC.env fun e s' => compPost (model X.prog X.w) X.A X.xe use QQ (.ref D) h3.objs.size (.error e) s') I5p (hfok H5 _ only fr5) st5 go
      rw [xA] at ti
      refine wpAny_mono ti (fun ro s6 ⟨u, hr, h6⟩ => ?_) fun _ _ e => e
      subst hr
      refine wpAny_mono h6 (fun _ s7 ⟨x, H7, I7, r7, y7, st7, fr7⟩ => ?_) fun _ _ e => e
      obtain ⟨sm7, b7⟩ := yl x H7 y7
      have env7 := envOk_mono sm7 env5
      have I7' := I7.pinned (hfok H7 _ only fr7) (T.obj _ _ st7)
      cases e1 : setTg t ds[i] r5 with
      | none => rw [e1] at hcomp; cases hcomp
      | some r1 =>
        rw [e1] at hcomp
        simp only at hcomp
        have hasg := hG _ s7 σ5 H7 x u (fun σ8 H8 => H8 = H7 ∧ EnvOk X.K X.mg H7 r1 σ8) I7' r7 (tg_of e1 b7 env7 fun σ' env' => ⟨rfl, env'⟩)
        rw [xP, xw, xA] at hasg
        refine wpAny_mono hasg (fun _ s8 ⟨σ8, H8, I8, e8, env8⟩ => ?_) fun e s z => xe e s _ z
        subst e8
        -- what the turn leaves, behind the test and the element
        have keepTn : ∀ (s9 : Shared) (H9 : Hp) (σ9 : L2.St), Inv XC ([(D, { cls := .type "list", dict := none, data := .seq us.toArray m })] ++ pinsAt fp s7.heap) σ9 H9 s9 → tn (i + 1) s9.heap ∧ (∀ b ∈ fp, H9 b = none) ∧ s9.heap.get? D = some { cls := .type "list", dict := none, data := .seq us.toArray m } ∧ H9 D = none := fun s9 H9 σ9 I9 => by
          refine ⟨T.keep _ _ _ st7 fun b hb o e => (I9.pin (b, o) (List.mem_append_right _ (List.mem_append_right _ (mem_pinsAt hb e)))).1, fun b hb => ?_, ?_, ?_⟩
          · obtain ⟨o, e, _⟩ := T.obj _ _ st7 b hb
            exact (I9.pin (b, o) (List.mem_append_right _ (List.mem_append_right _ (mem_pinsAt hb e)))).2.1
          · exact (I9.pin _ (List.mem_append_right _ (List.mem_append_left _ (List.mem_singleton.mpr rfl)))).1
          · exact (I9.pin _ (List.mem_append_right _ (List.mem_append_left _ (List.mem_singleton.mpr rfl)))).2.1
        have nopins : ∀ {s9 : Shared} {H9 : Hp} {σ9 : L2.St} {ps : List (Addr × Obj)}, Inv XC ps σ9 H9 s9 → Inv XC [] σ9 H9 s9 := fun I9 => I9.pins_of fun p hp => absurd hp (by simp)
        cases e2 : gc r1 with
        | none => rw [e2] at hcomp; cases hcomp
        | some cv =>
          rw [e2] at hcomp
          cases cv with
          | bool kb =>
            have hcd := conds (E := notedBy (model X.prog X.w) X.A XC.env fun e s' => compPost (model X.prog X.w) X.A X.xe use QQ (.ref D) h3.objs.size (.error e) s')
              (Q := fun ok s₃ => if ok = true then wpAny (model X.prog X.w) X.A (eval elt XC.env) (fun x s₄ =>
                  wpAny (model X.prog X.w) X.A (call (.builtin "list.append") [.ref D, x]) (fun _ s₅ => ∃ m, m < n ∧ St m s₅) (notedBy (model X.prog X.w) X.A XC.env fun e s' => compPost (model X.prog X.w) X.A X.xe use QQ (.ref D) h3.objs.size (.error e) s') s₄) (notedBy (model X.prog X.w) X.A XC.env fun e s' => compPost (model X.prog X.w) X.A X.xe use QQ (.ref D) h3.objs.size (.error e) s') s₃
                else ∃ m, m < n ∧ St m s₃) hC (fun e s z => xe e s _ z) I8 (by rw [xK, xm]; exact env8) e2 (fun s9 H9 I9 sm9 => ?_)
            · rw [xP, xw, xA] at hcd
              exact hcd
            · cases kb with
              | false =>
                simp only [Bool.false_eq_true, if_false]
                obtain ⟨k1, k2, k3, k4⟩ := keepTn s9 H9 σ8 I9
                have smA : Same H5 H9 := sm7.trans sm9
                exact ⟨ds.length - (i + 1), by rw [hn]; exact Nat.sub_succ_lt_self _ _ hlt, i + 1, σ8, H9, us, m, vs, ys, r1, zs, nopins I9, k1, k2, k3, k4, hv, brs_mono smA _ _ hbr, envOk_mono sm9 env8, sm5.trans smA, hcomp, hfin', hlt, rfl, Nat.le_succ_of_le hyl⟩
              | true =>
                simp only [if_true]
                cases e3 : ge r1 with
                | none => rw [e3] at hcomp; cases hcomp
                | some y =>
                  rw [e3] at hcomp
                  simp only at hcomp
                  cases e4 : compL t gc ge (ds.drop (i + 1)) r1 with
                  | none => rw [e4] at hcomp; cases hcomp
                  | some zs' =>
                    rw [e4] at hcomp
                    injection hcomp with hcomp
                    have hel := hE _ s9 σ8 H9 (fun v H10 => Same H9 H10 ∧ Br X.K X.mg H10 y v) I9 ⟨r1, y, by rw [xK, xm]; exact envOk_mono sm9 env8, e3, fun v H10 s10 b10 => ⟨s10, by rw [xK, xm] at b10; exact b10⟩⟩
                    rw [xP, xw, xA] at hel
                    refine wpAny_mono hel (fun yv s10 ⟨v, H10, I10, r10, sm10, b10⟩ => ?_) fun e s z => xe e s _ z
                    obtain ⟨k1, k2, k3, k4⟩ := keepTn s10 H10 σ8 I10
                    have lus := hv.length
                    have lys := brs_length ys vs hbr
                    have hzz := okLen_size hz
                    refine call_meets F.slot_list_append ⟨_, k3, rfl⟩ F.entry_list_append (F.args_list_append_2 _ _) (PySem.list_append D us.toArray m yv (by rw [List.size_toArray]; exact cg_le lus lys hyl (Nat.le_of_lt hlt) hzz)) ⟨k3, ?_⟩
                    have smA : Same H5 H10 := sm7.trans (sm9.trans sm10)
                    obtain ⟨m', eobj⟩ : ∃ m', Obj.mapSeq (·.push yv) { cls := .type "list", dict := none, data := .seq us.toArray m } = { cls := .type "list", dict := none, data := .seq (us ++ [yv]).toArray m' } := ⟨_, by simp only [Obj.mapSeq, List.push_toArray]; rfl⟩
                    have eD : (s10.heap.update D (Obj.mapSeq (·.push yv))).get? D = some { cls := .type "list", dict := none, data := .seq (us ++ [yv]).toArray m' } := by
                      rw [Heap.get?_update_self _ k3 (by rw [eobj]; rfl), eobj]
                    have eO : ∀ b o, b ≠ D → s10.heap.get? b = some o → (s10.heap.update D (Obj.mapSeq (·.push yv))).get? b = some o := fun b o hb e => (Heap.get?_update_other _ _ (Ne.symm hb)).trans e
                    have I11 : Inv XC [] σ8 H10 { s10 with heap := s10.heap.update D (Obj.mapSeq (·.push yv)) } := (nopins I10).turned (t' := s10.toks) eO k4 hDL (.inl (by rw [xex]; exact List.mem_cons_self)) hDcl (fun p hp => by rw [xpn] at hp; simp at hp)
                    refine ⟨ds.length - (i + 1), by rw [hn]; exact Nat.sub_succ_lt_self _ _ hlt, i + 1, σ8, H10, us ++ [yv], m', vs ++ [v], ys ++ [y], r1, zs', I11, T.keep _ _ _ k1 (fun b hb o e => eO b o (Nat.ne_of_lt (fpLt b hb)) e), k2, eD, k4, hv.append (.cons r10 .nil), ?_, envOk_mono (sm9.trans sm10) env8, sm5.trans smA, e4, ?_, hlt, rfl, ?_⟩
                    · refine brs_append _ _ _ _ (brs_mono smA _ _ hbr) ?_
                      simp only [Brs]
                      exact ⟨v, [], rfl, b10, rfl⟩
                    · rw [hfin', ← hcomp]; simp
                    · rw [List.length_append, List.length_singleton]; exact Nat.succ_le_succ hyl
          | _ => cases hcomp
    · -- the end
      have hie : i = ds.length := Nat.le_antisymm hile (Nat.le_of_not_lt hlt)
      subst hie
      rw [List.drop_length] at hcomp
      injection hcomp with hcomp
      have td := T.done XC xP xw xK xc ds.length _ s' σ5 H5 (notedBy (model X.prog X.w) X.A XC.env fun e s' => compPost (model X.prog X.w) X.A X.xe use QQ (.ref D) h3.objs.size (.error e) s') I5p (hfok H5 _ only fr5) st5 (jk.2 H5 sm5)
      rw [xA] at td
      refine wpAny_mono td (fun ro s6 ⟨hr, I6⟩ => ?_) fun _ _ e => e
      subst hr
      have hD6 := (I6.pin _ (List.mem_append_right _ (List.mem_singleton.mpr rfl)))
      obtain ⟨mC, hnC, _⟩ := I6.loc
      rw [xL] at hnC
      have hLn0 : H5 h3.objs.size = none := by have := I6.free; rw [xL] at this; exact this
      have hCD : h3.objs.size ≠ D := Nat.ne_of_gt hDlt
      have frC : FpOk X pins (upd H5 D (.lst vs)) h3.objs.size := I3.fpOk (Nat.le_refl _) (by rw [upd_ne hCD]; exact hLn0)
      refine hfin D h3.objs.size mC (upd H5 D (.lst vs)) s6 _ hnC frC (fun h7 hs7 => ?_) (sm2.trans (sm5.trans (same_new hDH _))) ?_
      rotate_left
      · simp only [Br]
        refine ⟨D, vs, rfl, SqL.of upd_same, brs_mono (same_new hDH _) _ _ ?_⟩
        rw [hfin', ← hcomp, List.append_nil]
        exact hbr
      have hLn : H5 h3.objs.size = none := by have := I6.free; rw [xL] at this; exact this
      have get7 : ∀ b o, b ≠ h3.objs.size → s6.heap.get? b = some o → h7.get? b = some o := fun b o hb e => hs7.extBut b o hb e
      have hu := I6.base
      rw [xfs, xex, xH0, xs0] at hu
      have ne0 : ∀ b o, h3.get? b = some o → b ≠ h3.objs.size := fun b o e => Nat.ne_of_lt (Heap.lt_size e)
      have hu7 : Un (frs X.stack) (D :: fp) H2 H5 h3 h7 :=
        ⟨fun b o e n hb hx => get7 b o (ne0 b o e) (hu.keep b o e n hb hx), fun b o e n hb hx => by
          obtain ⟨sl, q⟩ := hu.slot b o e n hb hx
          exact ⟨sl, get7 b _ (ne0 b o e) q⟩, hu.free, fun b o e hx => by
          obtain ⟨o', q⟩ := hu.there b o e hx
          exact ⟨o', get7 b o' (ne0 b o e) q⟩, hu.tups, hu.frzs, hu.tbls⟩
      have hok7 : HOk X.prog X.w H5 h7 := fun a o e => by
        have := I6.hok a o e
        rw [xP, xw] at this
        refine this.stay (fun b u hb z => get7 b u ?_ z) (fun _ z => z) fun _ _ z => z
        rcases hb with rfl | hb
        · exact fun z => by rw [z, hLn] at e; cases e
        · exact fun z => by rw [z, hLn] at hb; cases hb
      have I7 : Inv X pins σ H5 { s6 with heap := h7 } := I3.call' (s' := { s6 with heap := h7 }) (ch := D :: fp) (by have := I6.os; rw [xs0] at this; exact this) hu7 hok7 I6.bare (fun b hb => by
        rcases List.mem_cons.mp hb with rfl | hb
        · have f := I2.fpOk (b := b) (H' := H2) (by rw [hD]; exact Nat.le_refl _) hD2
          exact ⟨f.2.2.2.1, f.2.1, f.2.2.2.2.1, f.2.2.2.2.2⟩
        · obtain ⟨_, f1, f2', f3, f4, f5⟩ := f2 b hb
          exact ⟨f3, f1, f4, f5⟩)
      have hDg7 : h7.get? D = some { cls := .type "list", dict := none, data := .seq us.toArray m } := get7 D _ (Nat.ne_of_lt hDlt) hD6.1
      have fD := I2.fpOk (b := D) (H' := H2) (by rw [hD]; exact Nat.le_refl _) hD2
      have lys := brs_length ys vs hbr
      have hzz := okLen_size hz
      have I8 := inv_track (o := .lst vs) I7 hDH (fD.2.2.2.1.imp (fun z => by simpa using z) id) fD.2.1 fD.2.2.2.2.1 fD.2.2.2.2.2 ⟨cg_le rfl lys hyl (Nat.le_refl _) hzz, us, m, hv, hDg7⟩
      exact I8
  have goal := codeAny_compStart_list (loop _ rfl) (T.self _ 0 _ _ _ (T.keep _ _ _ st2 (fun b _ o e => old4 b o (old3 b o e))) (loop _ rfl))
  rw [← xenv] at goal
  exact goal
theorem e_comp {elt tg iter : Expr} {ifs : List Expr} {scope : Scope} {pos : Pos} {NC : List Str} {mp : List (Option Nat)} {t : Tg} {gi : Rho → Option (List PyData)} {gc ge : Rho → Option PyData} (hcalm : X.calm = true) (sc : CompSc X NC mp scope) (hi : I1 X tg iter gi)
    (hs : ∀ x, foldedSetIterable iter X.env x = pure x)
    (hb : ∀ (cl : List (Str × Addr)) (Ca : Addr) (s : Shared) (H : Hp) (ex : List Addr), X.env.scope.kind = .function → E1 (cxComp X NC scope cl Ca s H ex) elt ge ∧ CondOk (cxComp X NC scope cl Ca s H ex) ifs gc ∧ PG (cxComp X NC scope cl Ca s H ex) tg (gT X.K t)) :
    E1 X (.ListComp elt [⟨tg, iter, ifs, 0⟩] scope pos) (compD t gi mp gc ge) := by
  intro pins s σ H Q I ⟨r, d, env, hg, q⟩
  unfold compD at hg
  cases eg : gi r with
  | none => rw [eg] at hg; cases hg
  | some ds =>
    rw [eg] at hg
    simp only at hg
    split at hg
    · rename_i hz
      cases ec : compL t gc ge ds (capt mp r) with
      | none => rw [ec] at hg; cases hg
      | some fin =>
        rw [ec] at hg
        injection hg with hg
        subst hg
        rw [eval_ListComp]
        refine comp_gen (use := none) hcalm sc hi hs hb I env eg hz ec fun D C mC H8 s6 fl hnC frC inv sm b => ?_
        exact ⟨mC, hnC, fun h7 hs7 => ⟨.ref D, H8, inv h7 hs7, rfl, q _ _ sm b⟩⟩
    · cases hg
end
end PL

set_option Elab.async false
set_option linter.all false
set_option maxRecDepth 100000
namespace PL
open PySem PySem.Spec PyProof.Rows L2
section
variable {X : Cx}
/-! ### a text, walked -/
noncomputable def signs (x : Str) : List PyData := x.cps.toList.map fun c => PyData.str ⟨#[c]⟩
noncomputable def Its (x : Str) : It := ⟨fun i _ => i < x.cps.size, fun i H v H' => H' = H ∧ ∃ c, x.cps[i]? = some c ∧ v = .str ⟨#[c]⟩, fun i _ => x.cps.size ≤ i⟩
theorem jok_str {K : PySem.W.Frag} {mg : Str → Option Value} {H1 : Hp} (x : Str) : Jok K mg (Its x) (signs x) H1 := by
  have hl : (signs x).length = x.cps.size := by simp [signs]
  refine ⟨fun i d H hd sm => ⟨?_, fun v H' y => ?_⟩, fun H sm => Nat.le_of_eq hl.symm⟩
  · have : i < (signs x).length := (List.getElem?_eq_some_iff.mp hd).1
    show i < x.cps.size
    omega
  · obtain ⟨e, c, ec, rfl⟩ := y
    subst e
    have e2 : (signs x)[i]? = some (.str ⟨#[c]⟩) := by
      unfold signs
      rw [List.getElem?_map]
      have : x.cps.toList[i]? = some c := by simpa using ec
      rw [this]; rfl
    rw [e2] at hd
    injection hd with hd
    subst hd
    exact ⟨Same.refl _, by simp only [Br]⟩
theorem turn_str {P : Program} {w : World} {K : PySem.W.Frag} {tg : Expr} (it : Addr) (x : Str) (t : Tok) (ty : String) (hty : ty = "str_ascii_iterator" ∨ ty = "str_iterator") : Turn P w K tg (Its x) [it] it (fun i h => h.IsStrIter it ty x t i) where
  mem := by simp
  obj := fun i h st b hb => by
    have e : b = it := by simpa using hb
    subst e
    obtain ⟨o, e, c, d⟩ := st
    exact ⟨o, e, fun v z => by rw [d] at z; cases z⟩
  keep := fun i h h' st k => by
    obtain ⟨o, e, c, d⟩ := st
    exact ⟨o, k it (by simp) o e, c, d⟩
  item := by
    intro X hP hw hK hc i pins s σ H E I hf st hg
    subst hP hw hK
    have hg' : i < x.cps.size := hg
    obtain ⟨f0, f1, f2, f3, f4, f5⟩ := hf it (by simp)
    have fin : ∀ h', h'.IsStrIter it ty x t (i + 1) → Heap.SameBut it s.heap h' → ∃ u, some (Value.str ⟨#[x.cps[i]]⟩ s.toks) = some u ∧ wpAny (model X.prog X.w) X.A (letOwnedTupleGo tg (.ref it) u) (fun _ s2 => ∃ v H', Inv X pins σ H' s2 ∧ RelV v u ∧ (Its x).yld i H v H' ∧ s2.heap.IsStrIter it ty x t (i + 1) ∧ ∀ b ∈ [it], H' b = none) E { s with heap := h', toks := s.toks + 1 } := fun h' st' sb => by
      have I1 : Inv X pins σ H { s with heap := h', toks := s.toks + 1 } := I.turned (fun b o hb e => (sb.2 b hb).trans e) f0 f1 f3 f4 f5
      obtain ⟨o, e, c, d⟩ := id st'
      refine ⟨_, rfl, go_of (s := { s with heap := h', toks := s.toks + 1 }) e c d (by rcases hty with rfl | rfl <;> decide) ⟨.str ⟨#[x.cps[i]]⟩, H, I1, ⟨_, rfl⟩, ⟨rfl, _, by simp [hg'], rfl⟩, st', fun b hb => (hf b hb).1⟩⟩
    rcases hty with rfl | rfl
    · exact wpAny_pyNext_ascii_item st (c := x.cps[i]) (by simp [hg']) fin
    · exact wpAny_pyNext_wide_item st (c := x.cps[i]) (by simp [hg']) fin
  done := by
    intro X hP hw hK hc i pins s σ H E I hf st hg
    subst hP hw hK
    have hg' : x.cps.size ≤ i := hg
    obtain ⟨f0, f1, f2, f3, f4, f5⟩ := hf it (by simp)
    have fin : ∀ h', Heap.ExtBut it s.heap h' → (none : Option Value) = none ∧ Inv X pins σ H { s with heap := h' } := fun h' eb => ⟨rfl, I.turned (t' := s.toks) (fun b o hb e => eb b o hb e) f0 f1 f3 f4 f5⟩
    rcases hty with rfl | rfl
    · exact wpAny_pyNext_ascii_end (I.ok.hd hc) st (by simp [hg']) fin
    · exact wpAny_pyNext_wide_end (I.ok.hd hc) st (by simp [hg']) fin
  self := fun _ _ _ _ _ st h => by
    rcases hty with rfl | rfl
    · exact wpAny_pyIter_striter_ascii st h
    · exact wpAny_pyIter_striter_wide st h
/-- a list, a tuple or a text, as it comes -/
noncomputable def anyIt (g : Rho → Option PyData) (r : Rho) : Option (List PyData) := match g r with
  | some (.list xs) => some xs
  | some (.tuple xs) => some xs
  | some (.str x) => some (signs x)
  | _ => none
theorem i_any {tg l : Expr} {g : Rho → Option PyData} (hl : E1 X l g) : I1 X tg l (anyIt g) := by
  refine ⟨fun σ H R => tP X.K X.mg g σ H fun v H1 => (∃ a, v = .ref a ∧ (((∃ xs, SqL X.K H1 a xs) ∧ R (Itl X.K a) H1) ∨ ((∃ xs, SqT X.K H1 a xs) ∧ R (Itt X.K a) H1))) ∨ ∃ x, v = .str x ∧ R (Its x) H1, ?_, fun σ H r ds R env hg hR => ?_⟩
  · intro pins s σ H R I h
    refine thn (hl pins s σ H _ I h) fun v s1 ⟨x, H1, I1, r1, q1⟩ => ?_
    rcases q1 with ⟨a, e, q1⟩ | ⟨z, e, q⟩
    · subst e
      cases r1
      rcases q1 with ⟨⟨xs, hq⟩, q⟩ | ⟨⟨xs, hq⟩, q⟩
      · obtain ⟨its, rv, p, hz⟩ := I1.list hq
        refine wpAny_pyIter_list p.isList ?_
        refine ⟨s1.heap.objs.size, [s1.heap.objs.size], _, _, H1, rfl, I1.kept (t' := s1.toks) fun b o e => Heap.get?_push_of_some _ e, turn_list a _, ⟨_, Heap.get?_push_size _ rfl, rfl, rfl⟩, fun b hb => ?_, q⟩
        have e : b = s1.heap.objs.size := by simpa using hb
        subst e
        exact I1.fpOk (Nat.le_refl _) (I1.hok.fresh (Nat.le_refl _))
      · obtain ⟨its, rv, p, hz⟩ := I1.tuple hq
        refine wpAny_pyIter_tuple (show s1.heap.IsTuple a its.toArray from p) ?_
        refine ⟨s1.heap.objs.size, [s1.heap.objs.size], _, _, H1, rfl, I1.kept (t' := s1.toks) fun b o e => Heap.get?_push_of_some _ e, turn_tuple a _, ⟨_, Heap.get?_push_size _ rfl, rfl, rfl⟩, fun b hb => ?_, q⟩
        have e : b = s1.heap.objs.size := by simpa using hb
        subst e
        exact I1.fpOk (Nat.le_refl _) (I1.hok.fresh (Nat.le_refl _))
    · subst e
      obtain ⟨t, rfl⟩ := r1
      have fp : ∀ b ∈ [s1.heap.objs.size], FpOk X pins H1 b := fun b hb => by
        have e : b = s1.heap.objs.size := by simpa using hb
        subst e
        exact I1.fpOk (Nat.le_refl _) (I1.hok.fresh (Nat.le_refl _))
      cases ha : z.cps.all (· < 128) with
      | true =>
        exact wpAny_pyIter_ascii ha ⟨s1.heap.objs.size, [s1.heap.objs.size], _, _, H1, rfl, I1.kept (t' := s1.toks) fun b o e => Heap.get?_push_of_some _ e, turn_str _ z t _ (.inl rfl), ⟨_, Heap.get?_push_size _ rfl, rfl, rfl⟩, fp, q⟩
      | false =>
        exact wpAny_pyIter_wide ha ⟨s1.heap.objs.size, [s1.heap.objs.size], _, _, H1, rfl, I1.kept (t' := s1.toks) fun b o e => Heap.get?_push_of_some _ e, turn_str _ z t _ (.inr rfl), ⟨_, Heap.get?_push_size _ rfl, rfl, rfl⟩, fp, q⟩
  · unfold anyIt at hg
    split at hg
    · rename_i xs e2
      injection hg with hg; subst hg
      refine ⟨r, _, env, e2, fun v H1 s1 b1 => .inl ?_⟩
      simp only [Br] at b1
      obtain ⟨a, vs, rfl, h1, h2⟩ := b1
      have hlen := brs_length xs vs h2
      refine ⟨a, rfl, .inl ⟨⟨vs, h1⟩, hR _ H1 s1 ⟨fun i d H' hd sm => ⟨?_, fun x H'' y => ?_⟩, fun H' sm => ⟨vs, sm.seq h1, by omega⟩⟩⟩⟩
      · obtain ⟨v, e, _⟩ := brs_get xs vs i d h2 hd
        exact ⟨vs, v, sm.seq h1, e⟩
      · obtain ⟨e, y⟩ := y
        subst e
        obtain ⟨v, e, bv⟩ := brs_get xs vs i d h2 hd
        have := y vs (sm.seq h1)
        rw [e] at this
        injection this with this
        subst this
        exact ⟨Same.refl _, br_mono sm _ _ bv⟩
    · rename_i xs e2
      injection hg with hg; subst hg
      refine ⟨r, _, env, e2, fun v H1 s1 b1 => .inl ?_⟩
      simp only [Br] at b1
      obtain ⟨a, vs, rfl, h1, h2⟩ := b1
      exact ⟨a, rfl, .inr ⟨⟨vs, h1⟩, hR _ H1 s1 (jok_tup h1 h2)⟩⟩
    · rename_i x e2
      injection hg with hg; subst hg
      refine ⟨r, _, env, e2, fun v H1 s1 b1 => .inr ?_⟩
      simp only [Br] at b1
      exact ⟨x, b1, hR _ H1 s1 (jok_str x)⟩
    · cases hg
theorem i_rng1 {tg a : Expr} {p pos : Pos} {g : Rho → Option PyData} (hgl : Gl X "range") (hm : X.mg "range" = none) (ha : E1 X a g) (hh : okHead a = true) : I1 X tg (.Call (.Name "range" p) [a] [] pos) (rngIt1 g) := by
  refine ⟨_, pi_range1 hgl hm (a_cons ha a_nil (star_ok hh)) (star_ok hh), fun σ H r ds R env hg hR => ?_⟩
  unfold rngIt1 at hg
  split at hg
  · rename_i j e2
    obtain ⟨hj, e1⟩ := ite_some hg
    subst e1
    have hj' := of_decide_eq_true hj
    refine ⟨r, [.int j], env, by simp [consD, e2, nilD], fun vs H1 s1 b1 => ?_⟩
    obtain ⟨v, rfl, b⟩ := brs1 b1
    simp only [Br] at b; subst b
    refine ⟨j, rfl, hj'.1, hj'.2, hR _ H1 s1 ?_⟩
    have hl : (rngD 0 j).length = j.toNat := by simp [rngD]
    refine ⟨fun i d H hd sm => ⟨?_, fun x H' y => ?_⟩, fun H sm => Nat.le_of_eq hl.symm⟩
    · have : i < (rngD 0 j).length := (List.getElem?_eq_some_iff.mp hd).1
      show i < j.toNat
      omega
    · obtain ⟨e, rfl⟩ := y
      subst e
      have hi : i < j.toNat := by have := (List.getElem?_eq_some_iff.mp hd).1; omega
      have e3 : (rngD 0 j)[i]? = some (.int (0 + (i : Int))) := by simp [rngD, hi]
      rw [e3] at hd
      injection hd with hd; subst hd
      exact ⟨Same.refl _, by simp only [Br]⟩
  · cases hg
/-- for, over whatever yields -/
theorem s_for {S : Sg} {k : Nat} {C : Orc} (hs : Hs X S k C) {t : Tg} {tg l : Expr} {body : List Stmt} {pos : Pos} {gi : Rho → Option (List PyData)} {step : Rho → Option Fl} (hi : I1 X tg l gi) (hg : PG X tg (gT X.K t)) (hb : SS1 X body step) (hf : ∀ x, foldedSetIterable l X.env x = pure x) :
    S1 X (.For tg l body [] pos) (forS gi t step) := by
  obtain ⟨wi, hpi, hwi⟩ := hi
  refine ps_imp (ps_for hs.own hs.calm hpi hg hb hf) fun σ H D ⟨r, fl, env, hgr, q⟩ => ?_
  unfold forS at hgr
  split at hgr
  · rename_i ds e1
    refine hwi σ H r ds _ env e1 fun J H1 s1 jk => ?_
    have q1 := flOk_mono s1 q
    refine ⟨fun i m σ' H' => m = ds.length - i ∧ i ≤ ds.length ∧ Pv X.K X.mg t step ds fl H1 i σ' H', ⟨ds.length, by simp, Nat.zero_le _, r, envOk_mono s1 env, Same.refl _, by simpa using hgr⟩, ?_⟩
    rintro i m σ' H' ⟨rfl, hile, p⟩
    have p' := p
    obtain ⟨r', env', sm', hf'⟩ := p'
    by_cases hlt : i < ds.length
    · obtain ⟨go, yl⟩ := jk.1 i ds[i] H' (by simp [hlt]) sm'
      refine .inr ⟨go, Pv X.K X.mg t step ds fl H1 (i + 1), fun σ2 H2 p2 => ⟨ds.length - (i + 1), by omega, rfl, hlt, p2⟩, fun x H2 y => ?_⟩
      obtain ⟨sm2, b2⟩ := yl x H2 y
      exact turn_of ⟨r', envOk_mono sm2 env', sm'.trans sm2, hf'⟩ (by simp [hlt]) b2 q1
    · have e : i = ds.length := by omega
      subst e
      exact .inl ⟨jk.2 H' sm', end_of p q1⟩
  · cases hgr

/-! ### a text, cut -/
noncomputable def cutS (x : Str) (lo hi : Option Int) : Str := Txt.slice x lo hi
noncomputable def slD2 (x : PyData) (lo hi : Option Int) : Option PyData := match x with
  | .str z => if okLen z.length = true then some (.str (cutS z lo hi)) else none
  | _ => slD x lo hi
theorem part_tok {v : Value} {o : Option Int} (p : IsPart v o) : ∃ q : Option (Int × Tok), v = partValue q ∧ q.map (·.1) = o := by
  cases p with
  | none => exact ⟨none, rfl, rfl⟩
  | int i t => exact ⟨some (i, t), rfl, rfl⟩
theorem i_sl2 : SlR X (fun v lo hi H Q => ∃ x d, Br X.K X.mg H x v ∧ slD2 x lo hi = some d ∧ ∀ w H', Same H H' → Br X.K X.mg H' d w → Q w H') := by
  intro pins s σ H v vv vl vu lo hi sl Q I rv hs pl pu ⟨x, d, bx, hf, q⟩
  cases x with
  | str z =>
    obtain ⟨hz, e⟩ := ite_some hf
    subst e
    simp only [Br] at bx
    subst bx
    obtain ⟨t, rfl⟩ := rv
    obtain ⟨ql, rfl, el⟩ := part_tok pl
    obtain ⟨qu, rfl, eu⟩ := part_tok pu
    have hsz := okLen_size hz
    refine ⟨"str", _, F.slot_str_getitem.lookup, typeIs_str _ _ _, wpAny_getItem_str_slice (l := ql) (u := qu) (st := none) hs rfl ?_⟩
    have hle := Txt.slice_le z (ql.map (·.1)) (qu.map (·.1))
    unfold cutS at q
    rw [← el, ← eu] at q
    unfold Txt.slice at q hle
    unfold sliceMade slicePicked
    simp only [Option.map_none, Option.getD_none]
    split
    · rename_i hc
      rw [if_pos hc] at q
      exact ⟨.str z, H, I, ⟨_, rfl⟩, q _ H (Same.refl H) (by simp only [Br])⟩
    · rename_i hc
      rw [if_neg hc] at q hle
      exact ⟨Nat.le_trans hle hsz, .str _, H, I.tok _, ⟨_, rfl⟩, q _ H (Same.refl H) (by simp only [Br])⟩
  | tuple xs => exact i_sl pins s σ H v vv vl vu lo hi sl Q I rv hs pl pu ⟨_, d, bx, hf, q⟩
  | list xs => exact i_sl pins s σ H v vv vl vu lo hi sl Q I rv hs pl pu ⟨_, d, bx, hf, q⟩
  | _ => cases hf
noncomputable def sl4 (ga gl gh : Rho → Option PyData) (r : Rho) : Option PyData := match ga r, gl r, gh r with
  | some x, some l, some h => match partD l, partD h with
    | some lo, some hi => slD2 x lo hi
    | _, _ => none
  | _, _, _ => none
theorem e_sl2 {a : Expr} {lo hi : Option Expr} {p2 pos : Pos} {ga gl gh : Rho → Option PyData} (ha : E1 X a ga) (hl : O1 X lo gl) (hh : O1 X hi gh) : E1 X (.Subscript a (.Slice lo hi none p2) pos) (sl4 ga gl gh) :=
  pe_imp (pe_slice i_sl2 ha hl hh) fun σ H Q ⟨r, d, env, hg, q⟩ => by
    unfold sl4 at hg
    split at hg
    · rename_i x l h e1 e2 e3
      split at hg
      · rename_i lo' hi' e4 e5
        refine ⟨r, x, env, e1, fun v H1 s1 b1 => ⟨r, l, lo', envOk_mono s1 env, e2, e4, fun H2 s2 => ⟨r, h, hi', envOk_mono s2 (envOk_mono s1 env), e3, e5, fun H3 s3 => ?_⟩⟩⟩
        exact ⟨x, d, br_mono (s2.trans s3) x v b1, hg, fun w H' s4 b4 => q w H' (s1.trans (s2.trans (s3.trans s4))) b4⟩
      · cases hg
    · cases hg

/-! ### a call of a def that is a value -/
noncomputable def callvD (C : Orc) (gf : Rho → Option PyData) (g : Rho → Option (List PyData)) (r : Rho) : Option PyData := match gf r with
  | some (.dict [(.none, .str x)]) => match g r with
    | some ds => C x ds
    | none => none
  | _ => none
end
end PL

set_option Elab.async false
set_option linter.all false
set_option maxRecDepth 100000
namespace PL
open PySem PySem.Spec PyProof.Rows L2
section
variable {X : Cx} {pins : List (Addr × Obj)} {σ : L2.St} {H : Hp} {s : Shared} {h' : Heap}
/-- iterators have gone on -/
theorem turnedAll {t' : Nat} {ch : List Addr} (I : Inv X pins σ H s) (k : ∀ b o, b ∉ ch → s.heap.get? b = some o → h'.get? b = some o) (hc : ∀ b ∈ ch, FpOk X pins H b) : Inv X pins σ H { s with heap := h', toks := t' } := by
  have nit : ∀ b u, H b = some u → b ∉ ch := fun b u e z => by rw [(hc b z).1] at e; cases e
  refine I.step (g' := s.gens) (d' := s.drawn) (ch := ch) (fun b hb => ?_) (fun b o _ _ hc e _ => k b o hc e) (fun b o _ _ hc e _ => ⟨o.slots, k b o hc e⟩) (fun _ _ _ _ n => n)
    (fun b o hc e => ⟨o, k b o hc e⟩) (fun _ _ e => e) (fun _ _ _ e => e) (fun b ps e => ⟨#[], by rw [e]; simp⟩) (fun m hm => ?_) (fun b u e => ?_) I.bare
  · obtain ⟨f0, f1, f2, f3, f4, f5⟩ := hc b hb
    exact ⟨f3, f1, f4, f5⟩
  · obtain ⟨o, es, ep, ho, r⟩ := hm
    exact ⟨o, es, ep, k _ o (fun z => (hc _ z).2.1 rfl) ho, r⟩
  · refine (I.hok b u e).stay (fun c v hc q => k c v ?_ q) (fun _ q => q) fun _ _ q => q
    rcases hc with z | z
    · rw [z]; exact nit b u e
    · exact nit c _ z
theorem push_get {h : Heap} {o : Obj} {b : Addr} (lt : b < h.objs.size) : (h.push o).get? b = h.get? b := by
  simp only [Heap.get?, Heap.push, Array.getElem?_push]
  rw [if_neg (Nat.ne_of_lt lt)]
/-- the pairs of enumerate over the list at a -/
noncomputable def Ite (K : PySem.W.Frag) (a : Addr) : It :=
  ⟨fun i H => ∃ xs x, SqL K H a xs ∧ xs[i]? = some x, fun i H x H' => ∃ l y, H l = none ∧ x = .ref l ∧ (∀ xs, SqL K H a xs → xs[i]? = some y) ∧ H' = upd H l (.tup [.int (i : Int), y]), fun i H => ∃ xs, SqL K H a xs ∧ xs.length ≤ i⟩
theorem turn_enum {P : Program} {w : World} {K : PySem.W.Frag} {elts : List Expr} {x1 : Nat} {pos : Pos} (a e it : Addr) (hei : e ≠ it) :
    Turn P w K (.Tuple elts x1 pos) (Ite K a) [e, it] e (fun i h => (∃ old, IsEnum h e it i old) ∧ h.IsListIter it a i) where
  mem := by simp
  obj := fun i h st b hb => by
    obtain ⟨⟨old, he⟩, o, e2, c, d⟩ := st
    rcases List.mem_cons.mp hb with rfl | hb
    · exact ⟨_, he, fun v z => by cases z⟩
    · have e : b = it := by simpa using hb
      subst e
      exact ⟨o, e2, fun v z => by rw [d] at z; cases z⟩
  keep := fun i h h' st k => by
    obtain ⟨⟨old, he⟩, hit⟩ := st
    exact ⟨⟨old, k e (by simp) _ he⟩, hit.at fun o e => k it (by simp) o e⟩
  item := by
    intro X hP hw hK hc i pins s σ H E I hf st hg
    subst hP hw hK
    obtain ⟨xs, x, hq, hx⟩ := hg
    obtain ⟨its, rv, p, hz⟩ := I.list hq
    obtain ⟨u, hu, ru⟩ := rv.get hx
    obtain ⟨⟨old, he⟩, hit⟩ := st
    refine wpAny_pyNext_enum_item he hit p.isList (x := u) (by simpa using hu) hei fun h1 ho hit1 hT hsz hk => ?_
    refine ⟨_, rfl, wpAny_letOwnedTupleGo_enum (s := { s with heap := h1, toks := s.toks + 1 }) ho fun h2 he2 hs2 => ?_⟩
    have el : e < s.heap.objs.size := Heap.lt_size he
    have hs2' : Heap.SameBut e h1 h2 := hs2
    have I0 : Inv X pins σ (upd H s.heap.objs.size (.tup [.int (i : Int), x])) { s with heap := s.heap.push { cls := .type "tuple", data := .seq [.int (i : Int) s.toks, u].toArray } } :=
      I.laid (t' := s.toks) (fun b o e => Heap.get?_push_of_some _ e) (Nat.le_refl _) (show ObjOk X.prog X.w _ _ _ (.tup [.int (i : Int), x]) from ⟨by rw [sizeLine_eq]; simp, [.int (i : Int) s.toks, u], .cons ⟨_, rfl⟩ (.cons ru .nil), IsTup.new _ _⟩)
    have nf : ∀ b ∈ [e, it], b ≠ s.heap.objs.size := fun b hb => by
      rcases List.mem_cons.mp hb with rfl | hb
      · exact Nat.ne_of_lt el
      · have e3 : b = it := by simpa using hb
        subst e3
        obtain ⟨o, e2, _⟩ := hit
        exact Nat.ne_of_lt (Heap.lt_size e2)
    have I1 : Inv X pins σ (upd H s.heap.objs.size (.tup [.int (i : Int), x])) { s with heap := h2, toks := s.toks + 1 } := by
      refine turnedAll (s := { s with heap := s.heap.push { cls := .type "tuple", data := .seq [.int (i : Int) s.toks, u].toArray } }) (ch := [e, it]) I0 (fun b o hb e1 => ?_) fun b hb => ?_
      · have be : b ≠ e := fun z => hb (by simp [z])
        have bi : b ≠ it := fun z => hb (by simp [z])
        refine (hs2'.2 b be).trans ?_
        by_cases hb2 : b = s.heap.objs.size
        · subst hb2
          have e4 : (s.heap.push { cls := .type "tuple", data := .seq [.int (i : Int) s.toks, u].toArray }).get? s.heap.objs.size = _ := Heap.get?_push_size _ rfl
          rw [e4] at e1
          rw [← e1]
          exact hT
        · refine hk b o be bi ?_
          have lt : b < (s.heap.push { cls := .type "tuple", data := .seq [.int (i : Int) s.toks, u].toArray }).objs.size := Heap.lt_size e1
          rw [Heap.size_push] at lt
          have lt' : b < s.heap.objs.size := Nat.lt_of_le_of_ne (Nat.lt_succ_iff.mp lt) hb2
          rw [← push_get lt']; exact e1
      · obtain ⟨f0, f1, f2, f3, f4, f5⟩ := hf b hb
        exact ⟨by rw [upd_ne (nf b hb)]; exact f0, f1, f2, f3, f4, f5⟩
    refine ⟨.ref s.heap.objs.size, _, I1, rfl, ⟨_, x, I.hok.fresh (Nat.le_refl _), rfl, fun ys hy => by rw [I.list_inj hy hq]; exact hx, rfl⟩, ⟨⟨u, ?_⟩, hit1.at fun o y => (hs2'.2 it hei.symm).trans y⟩, fun b hb => ?_⟩
    · have e5 : ((i : Int) + 1) = ((i + 1 : Nat) : Int) := by omega
      rw [e5] at he2
      exact he2
    · rw [upd_ne (nf b hb)]
      exact (hf b hb).1
  done := by
    intro X hP hw hK hc i pins s σ H E I hf st hg
    subst hP hw hK
    obtain ⟨xs, hq, hx⟩ := hg
    obtain ⟨its, rv, p, hz⟩ := I.list hq
    obtain ⟨⟨old, he⟩, hit⟩ := st
    obtain ⟨f0, f1, f2, f3, f4, f5⟩ := hf it (by simp)
    have hl := rv.length
    exact wpAny_pyNext_enum_end (I.ok.hd hc) he hit p.isList (by simp; omega) fun h' eb => ⟨rfl, I.turned (t' := s.toks) (fun b o hb e => eb b o hb e) f0 f1 f3 f4 f5⟩
  self := fun _ _ _ _ _ st h => by
    obtain ⟨⟨old, he⟩, hit⟩ := st
    exact wpAny_pyIter_enum he h
noncomputable def enumD : List PyData → Nat → List PyData
  | [], _ => []
  | d :: ds, i => .tuple [.int (i : Int), d] :: enumD ds (i + 1)
theorem enumD_len : ∀ (ds : List PyData) (i : Nat), (enumD ds i).length = ds.length
  | [], _ => rfl
  | d :: ds, i => by rw [enumD, List.length_cons, enumD_len, List.length_cons]
theorem enumD_get : ∀ (ds : List PyData) (j i : Nat) (d : PyData), (enumD ds j)[i]? = some d → ∃ x, ds[i]? = some x ∧ d = .tuple [.int ((j + i : Nat) : Int), x]
  | [], _, i, d, h => by simp [enumD] at h
  | x :: ds, j, 0, d, h => by
    simp only [enumD, List.getElem?_cons_zero] at h
    injection h with h
    exact ⟨x, rfl, h.symm⟩
  | x :: ds, j, i + 1, d, h => by
    simp only [enumD, List.getElem?_cons_succ] at h
    obtain ⟨y, h1, h2⟩ := enumD_get ds (j + 1) i d h
    exact ⟨y, by simpa using h1, by rw [h2, show j + 1 + i = j + (i + 1) by omega]⟩
noncomputable def enumIt (g : Rho → Option PyData) (r : Rho) : Option (List PyData) := match g r with
  | some (.list xs) => some (enumD xs 0)
  | _ => none
theorem jok_enum {K : PySem.W.Frag} {mg : Str → Option Value} {H1 : Hp} {a : Addr} {vs : List V} {ds : List PyData} (h : SqL K H1 a vs) (b : Brs K mg H1 ds vs) : Jok K mg (Ite K a) (enumD ds 0) H1 := by
  have hl := brs_length ds vs b
  refine ⟨fun i d H hd sm => ?_, fun H sm => ⟨vs, sm.seq h, by rw [enumD_len]; omega⟩⟩
  obtain ⟨x, hx, rfl⟩ := enumD_get ds 0 i d hd
  obtain ⟨v, e, bv⟩ := brs_get ds vs i x b hx
  refine ⟨⟨vs, v, sm.seq h, e⟩, fun y H' q => ?_⟩
  obtain ⟨l, z, hn, rfl, hq, rfl⟩ := q
  have hz := hq vs (sm.seq h)
  rw [e] at hz
  injection hz with hz
  subst hz
  have sm2 := same_new hn (.tup [.int (i : Int), v])
  refine ⟨sm2, ?_⟩
  simp only [Br]
  refine ⟨l, [.int (i : Int), v], rfl, SqT.of upd_same, ?_⟩
  simp only [Brs, Br]
  exact ⟨_, _, rfl, by rw [show 0 + i = i by omega], _, _, rfl, br_mono (sm.trans sm2) _ _ bv, rfl⟩
theorem i_enum {elts : List Expr} {x1 : Nat} {l : Expr} {p p2 pos : Pos} {g : Rho → Option PyData} (hgl : Gl X "enumerate") (hm : X.mg "enumerate" = none) (hl : E1 X l g) (hh : okHead l = true) : I1 X (.Tuple elts x1 p2) (.Call (.Name "enumerate" p) [l] [] pos) (enumIt g) := by
  refine ⟨fun σ H R => tPA X.K X.mg (consD g nilD) σ H fun vs H1 => ∃ a xs, vs = [.ref a] ∧ SqL X.K H1 a xs ∧ R (Ite X.K a) H1, ?_, fun σ H r ds R env hg hR => ?_⟩
  · intro pins s σ H R I h
    refine Call_ (ld_blt I hgl hm boot_enumerate (PyProof.Rows.callWith_type1 (thn (a_cons hl a_nil (star_ok hh) pos pins s σ H _ I h) fun us s1 ⟨vs, H1, I1, r1, q1⟩ => ?_) (star_ok hh) rfl))
    obtain ⟨a, xs, rfl, hq, q⟩ := q1
    cases r1 with
    | cons r rr =>
      cases rr
      cases r
      obtain ⟨its, rv, pl, hz⟩ := I1.list hq
      refine call_enumerate_list pl.isList fun h' he hit hsz kp => ?_
      have I2 : Inv X pins σ H1 { s1 with heap := h' } := I1.kept (t' := s1.toks) kp
      refine wpAny_pyIter_enum he ?_
      refine ⟨s1.heap.objs.size + 1, [s1.heap.objs.size + 1, s1.heap.objs.size], _, _, H1, rfl, I2, turn_enum a _ _ (Nat.succ_ne_self _), ⟨⟨_, he⟩, hit⟩, fun b hb => ?_, q⟩
      rcases List.mem_cons.mp hb with rfl | hb
      · exact I1.fpOk (by omega) (I1.hok.fresh (by omega))
      · have e : b = s1.heap.objs.size := by simpa using hb
        subst e
        exact I1.fpOk (Nat.le_refl _) (I1.hok.fresh (Nat.le_refl _))
  · unfold enumIt at hg
    split at hg
    · rename_i xs e2
      injection hg with hg; subst hg
      refine ⟨r, [.list xs], env, by simp [consD, e2, nilD], fun vs H1 s1 b1 => ?_⟩
      obtain ⟨v, rfl, b⟩ := brs1 b1
      simp only [Br] at b
      obtain ⟨a, ws, rfl, h1, h2⟩ := b
      exact ⟨a, ws, rfl, h1, hR _ H1 s1 (jok_enum h1 h2)⟩
    · cases hg
end
end PL

set_option Elab.async false
set_option linter.all false
set_option maxRecDepth 100000
namespace PL
open PySem PySem.Spec PyProof.Rows L2
theorem etu (elt : Expr) (gens : List Comprehension) (scope : Scope) (pos : Pos) (env : Env) (use : Value → Sem Unit) : evalThenUse (.ListComp elt gens scope pos) env use = (do
    let _ ← comprehension (.ListComp elt gens scope pos) scope env (firstIterPos gens pos) (newList []) (firstAsync gens) (firstIter gens env) (some use)
    pure ()) := rfl
section
variable {X : Cx}
/-- name = [.. for ..]: the list is stored ahead of the comprehension's own end -/
theorem s_comp {elt tg iter : Expr} {ifs : List Expr} {scope : Scope} {cpos pos : Pos} {NC : List Str} {mp : List (Option Nat)} {t : Tg} {gi : Rho → Option (List PyData)} {gc ge : Rho → Option PyData} {tg0 : Expr} {t0 : Tg} (hcalm : X.calm = true) (sc : CompSc X NC mp scope) (hi : I1 X tg iter gi)
    (hs : ∀ x, foldedSetIterable iter X.env x = pure x)
    (hb : ∀ (cl : List (Str × Addr)) (Ca : Addr) (s : Shared) (H : Hp) (ex : List Addr), X.env.scope.kind = .function → E1 (cxComp X NC scope cl Ca s H ex) elt ge ∧ CondOk (cxComp X NC scope cl Ca s H ex) ifs gc ∧ PG (cxComp X NC scope cl Ca s H ex) tg (gT X.K t))
    (hg0 : PG X tg0 (gT X.K t0)) (hsw : X.env.scope.kind = .function → swapsWithSole [tg0] (.ListComp elt [⟨tg, iter, ifs, 0⟩] scope cpos) pos.line X.env = pure true) (h1 : (assignEach [tg0] X.env).map (·.2) = [assign tg0 X.env]) :
    S1 X (.Assign [tg0] (.ListComp elt [⟨tg, iter, ifs, 0⟩] scope cpos) pos) (asgD t0 (compD t gi mp gc ge)) := by
  intro pins s σ H D I ⟨r, fl, env, hgr, q⟩
  unfold asgD at hgr
  cases e1 : compD t gi mp gc ge r with
  | none => rw [e1] at hgr; cases hgr
  | some d =>
    rw [e1] at hgr
    simp only at hgr
    cases e2 : setTg t0 d r with
    | none => rw [e2] at hgr; cases hgr
    | some r' =>
      rw [e2] at hgr
      injection hgr with hgr; subst hgr
      unfold compD at e1
      cases eg : gi r with
      | none => rw [eg] at e1; cases e1
      | some ds =>
        rw [eg] at e1
        simp only at e1
        split at e1
        · rename_i hz
          cases ec : compL t gc ge ds (capt mp r) with
          | none => rw [ec] at e1; cases e1
          | some fin =>
            rw [ec] at e1
            injection e1 with e1
            subst e1
            rw [arm_exec_Assign]
            refine wpAny_bind (wpAny_standAt ?_)
            rw [hsw I.ok.kind]
            refine wpAny_bind (wpAny_pure ?_)
            rw [if_pos rfl]
            refine wpAny_bind ?_
            rw [etu]
            refine wpAny_bind (comp_gen hcalm sc hi hs hb I env eg hz ec fun Dl C mC H8 s6 _ hnC frC inv sm b => ?_)
            have I6 : Inv X pins σ H8 s6 := inv s6.heap ⟨rfl, fun _ _ => rfl⟩
            obtain ⟨oC, es, ep, hoC, rC⟩ := id hnC
            have nocell : ∀ v, oC.data ≠ .cell v := fun v z => by
              have := rC.1
              rw [z] at this
              cases this
            have I6p : Inv X (pins ++ [(C, oC)]) σ H8 s6 := I6.pins_of fun p hp => by
              rcases List.mem_append.mp hp with z | z
              · exact I6.pin p (List.mem_append_right _ z)
              · have e : p = (C, oC) := by simpa using z
                subst e
                exact ⟨hoC, frC.1, frC.2.1, frC.2.2.1, nocell⟩
            show wpAny _ _ (assignAll (.ref Dl) ((assignEach [tg0] X.env).map (·.2))) _ _ s6
            rw [h1]
            have ha := hg0 _ s6 σ H8 (.ref Dl) (.ref Dl) (fun σ' H' => H' = H8 ∧ EnvOk X.K X.mg H8 r' σ') I6p rfl (tg_of e2 b (envOk_mono sm env) fun σ' env' => ⟨rfl, env'⟩)
            refine wpAny_mono ha (fun _ s7 ⟨σ7, H7, I7, eH, env7⟩ => ?_) fun _ _ z => z
            subst eH
            have pC := I7.pin (C, oC) (List.mem_append_right _ (List.mem_append_right _ List.mem_cons_self))
            refine ⟨mC, ⟨oC, es, ep, pC.1, rC⟩, fun h8 hs8 => ?_⟩
            have I8 : Inv X pins σ7 H7 { s7 with heap := h8 } := turnedAll (t' := s7.toks) (ch := [C]) I7.unpinned (fun b o hb e => (hs8.2 b (by simpa using hb)).trans e) (fun b hb => by
              have e : b = C := by simpa using hb
              subst e
              exact ⟨pC.2.1, frC.2⟩)
            exact wpAny_pure (wpAny_pure ⟨σ7, H7, I8, q σ7 H7 sm env7⟩)
        · cases e1
end
end PL

set_option Elab.async false
set_option linter.all false
set_option maxRecDepth 100000
namespace PL
open PySem PySem.Spec PyProof.Rows L2
/-! ### min of a list of two by a key -/
theorem min_again {prog : Program} {w : World} {A : Around} {E : Value → Shared → Prop} {s : Shared} {l q : Addr} {v1 v2 : Value} {Q : Value → Shared → Prop} (hl : s.heap.IsList l #[v1, v2])
    (h : codeAny (model prog w) A (.builtin "min.loop" { pos := [.ref s.heap.objs.size, .ref q, .ref (s.heap.objs.size + 1)] })
      (fun r s' => match r with | .ok (.ret v) => Q v s' | .ok _ => False | .error e => E e s')
      { s with heap := (s.heap.push { cls := .type "list_iterator", data := .fields #[.ref l, .int 0 0] }).push { cls := .type "list", data := .seq #[] } }) :
    wpAny (model prog w) A (call (.builtin "min") [.ref l] [(Str.ofString "key", .ref q)]) Q E s := by
  have hname : (toString "min" ++ toString ".loop") = "min.loop" := by decide
  have hS := size_push' s.heap { cls := .type "list_iterator", data := .fields #[.ref l, .int 0 0] }
  refine kmk_tree PySem.F.kind_min PySem.F.plain_min PySem.F.entry_min (kmk_min_key (.ref l) (.ref q)) ?_
  refine wpAny_bind (wpAny_of_eq (by rfl) ?_)
  refine wpAny_bind (wpAny_pure ?_)
  refine wpAny_bind (wpAny_pyIter_list hl ?_)
  refine wpAny_bind (wpAny_newList ?_)
  have e1 : List.lookup (Str.ofString "key") [(Str.ofString "key", Value.ref q)] = some (.ref q) := by simp [List.lookup]
  have e0 : (Str.ofString "default" == Str.ofString "key") = false := by decide +kernel
  have e2 : List.lookup (Str.ofString "default") [(Str.ofString "key", Value.ref q)] = none := by simp [List.lookup, e0]
  rw [hname]
  simp only [e1, e2, hS, Option.getD_some, Option.toList_none, List.map_nil]
  exact wpAny_pure ⟨plainId_quiet PySem.F.plain_min_loop _, h⟩
theorem min_first {prog : Program} {w : World} {A : Around} {R : Result → Shared → Prop} {s : Shared} {l q I S : Addr} {v1 v2 : Value} {oS : Obj} {n : Nat} (hh : A.handled = none) (hlI : l ≠ I) (hSI : S ≠ I)
    (hS : s.heap.get? S = some oS) (hd : oS.data = .seq #[] n) (hit : s.heap.IsListIter I l 0) (hl : s.heap.IsList l #[v1, v2])
    (key : ∀ h' tk, (∀ b o, b ≠ I → s.heap.get? b = some o → h'.get? b = some o) → h'.IsListIter I l 1 → wpAny (model prog w) A.in1 (call (.ref q) [v1]) (fun u s' => s'.heap.get? S = some oS ∧
      codeAny (model prog w) A (.builtin "min.loop" { pos := [.ref I, .ref q, .ref S] }) R { s' with heap := s'.heap.update S (Obj.mapSeq fun _ => #[v1, u]) }) (fun _ _ => False) { s with heap := h', toks := tk }) :
    codeAny (model prog w) A (.builtin "min.loop" { pos := [.ref I, .ref q, .ref S] }) R s := by
  have hname : (toString "min" ++ toString ".loop") = "min.loop" := by decide
  have W := Walks.list (prog := prog) (w := w) (A := A.in1) hh I l hlI #[v1, v2]
  refine codeAny_builtin PySem.F.entry_min_loop ?_
  rw [Around.under_plainId PySem.F.plain_min_loop]
  refine wpAny_bind (wpAny_seqItems hS hd ?_)
  refine wpAny_bind (wpAny_tryCatch (W.item 0 s _ _ (by simp) ⟨hit, hl⟩ fun v h' tk hv st hk => ?_))
  have ev : v = v1 := by simpa using hv.symm
  subst ev
  refine wpAny_bind (wpAny_tryCatch (wpAny_holding (wpAny_mono (key h' tk (fun b o hb e => hk b o (by simpa using hb) e) st.1) (fun u s' ⟨g, hc⟩ => ?_) fun _ _ z => z.elim)))
  refine wpAny_bind (wpAny_updateSeq g hd ?_ (by simp) (by simp [sizeLine_eq]))
  rw [hname]
  exact wpAny_pure ⟨plainId_quiet PySem.F.plain_min_loop _, hc⟩
theorem min_second {prog : Program} {w : World} {A : Around} {R : Result → Shared → Prop} {s : Shared} {l q I S : Addr} {v1 w1 v2 : Value} {k1 k2 : Int} {t1 : Tok} {oS : Obj} {n : Nat} (hh : A.handled = none) (hlI : l ≠ I) (hSI : S ≠ I)
    (hS : s.heap.get? S = some oS) (hd : oS.data = .seq #[v1, .int k1 t1] n) (hit : s.heap.IsListIter I l 1) (hl : s.heap.IsList l #[w1, v2])
    (key : ∀ h' tk, (∀ b o, b ≠ I → s.heap.get? b = some o → h'.get? b = some o) → h'.IsListIter I l 2 → wpAny (model prog w) A.in1 (call (.ref q) [v2]) (fun u s' => ∃ t2, u = .int k2 t2 ∧ s'.heap.get? S = some oS ∧
      codeAny (model prog w) A (.builtin "min.loop" { pos := [.ref I, .ref q, .ref S] }) R (if k2 < k1 then { s' with heap := s'.heap.update S (Obj.mapSeq fun _ => #[v2, .int k2 t2]) } else s')) (fun _ _ => False) { s with heap := h', toks := tk }) :
    codeAny (model prog w) A (.builtin "min.loop" { pos := [.ref I, .ref q, .ref S] }) R s := by
  have hname : (toString "min" ++ toString ".loop") = "min.loop" := by decide
  have W := Walks.list (prog := prog) (w := w) (A := A.in1) hh I l hlI #[w1, v2]
  refine codeAny_builtin PySem.F.entry_min_loop ?_
  rw [Around.under_plainId PySem.F.plain_min_loop]
  refine wpAny_bind (wpAny_seqItems hS hd ?_)
  refine wpAny_bind (wpAny_tryCatch (W.item 1 s _ _ (by simp) ⟨hit, hl⟩ fun v h' tk hv st hk => ?_))
  have ev : v = v2 := by simpa using hv.symm
  subst ev
  refine wpAny_bind (wpAny_tryCatch (wpAny_holding (wpAny_mono (key h' tk (fun b o hb e => hk b o (by simpa using hb) e) st.1) (fun u s' ⟨t2, eu, g, hc⟩ => ?_) fun _ _ z => z.elim)))
  subst eu
  refine wpAny_bind (wpAny_tryCatch (wpAny_holding (wpAny_bind (HT.rcLt_int _ _ _ _ _ _ _ _ _ _ ?_))))
  refine wpAny_bind (wpAny_holding (wpAny_truthy_bool ?_))
  refine wpAny_bind (wpAny_letGo (wpAny_pure ?_))
  by_cases hk2 : k2 < k1
  · rw [if_pos hk2] at hc
    rw [if_pos (by simpa using hk2)]
    refine wpAny_bind (wpAny_updateSeq g hd ?_ (by simp [sizeLine_eq]) (by simp [sizeLine_eq]))
    refine wpAny_bind (wpAny_letGo ?_)
    rw [hname]
    exact wpAny_pure ⟨plainId_quiet PySem.F.plain_min_loop _, hc⟩
  · rw [if_neg hk2] at hc
    rw [if_neg (by simpa using hk2)]
    refine wpAny_bind (wpAny_letGo ?_)
    rw [hname]
    exact wpAny_pure ⟨plainId_quiet PySem.F.plain_min_loop _, hc⟩
theorem min_last {prog : Program} {w : World} {A : Around} {R : Result → Shared → Prop} {s : Shared} {l q I S : Addr} {v1 v2 v : Value} {k : Int} {t : Tok} {oS : Obj} {n : Nat} (hh : A.handled = none) (hlI : l ≠ I) (hSI : S ≠ I)
    (hS : s.heap.get? S = some oS) (hd : oS.data = .seq #[v, .int k t] n) (hit : s.heap.IsListIter I l 2) (hl : s.heap.IsList l #[v1, v2])
    (fin : ∀ h' tk, (∀ b o, b ≠ I → b ≠ S → s.heap.get? b = some o → h'.get? b = some o) → R (.ok (.ret v)) { s with heap := h', toks := tk }) :
    codeAny (model prog w) A (.builtin "min.loop" { pos := [.ref I, .ref q, .ref S] }) R s := by
  have W := Walks.list (prog := prog) (w := w) (A := A.in1) hh I l hlI #[v1, v2]
  refine codeAny_builtin PySem.F.entry_min_loop ?_
  rw [Around.under_plainId PySem.F.plain_min_loop]
  refine wpAny_bind (wpAny_seqItems hS hd ?_)
  refine wpAny_bind (wpAny_tryCatch (W.done s _ _ ⟨hit, hl⟩ fun h' tk hk => ?_))
  have s1 := Heap.SameBut.update h' S (Obj.mapSeq fun _ => #[])
  refine wpAny_bind (wpAny_updateSeq (hk S oS (by simpa using hSI) hS) hd ?_ (by simp [sizeLine_eq]) (by simp [sizeLine_eq]))
  refine wpAny_bind (wpAny_letGo (wpAny_pure ?_))
  refine fin _ _ fun b o hb hb2 e => ?_
  exact (s1.2 b hb2).trans (hk b o (by simpa using hb) e)
noncomputable def minkD (C : Orc) (f : Str) (x y : PyData) : Option PyData := match C f [x], C f [y] with
  | some (.int i), some (.int j) => some (if j < i then y else x)
  | _, _ => none
section
variable {X : Cx}
/-- the key is asked, two objects of min's own pinned meanwhile -/
theorem key_run {k : Nat} {fa : Addr} {fd : FuncData} {ps : List Str} {g : List PyData → Option PyData} (hr1 : Room k X.A.in1) (F : FnOk X.prog X.w X.K X.mg X.base CX0 k fa fd ps (spP X.K X.mg ps.length g)) (hb : Binds X.K fd ps []) (hl : ps.length = 1)
    {pins : List (Addr × Obj)} {s : Shared} {σ : L2.St} {H : Hp} (I : Inv X pins σ H s) {x : V} {u : Value} {d : PyData} {i : Int} (b : Br X.K X.mg H d x) (r : RelV x u) (e : g [d] = some (.int i))
    {P : Value → Shared → Prop} (hP : ∀ t s' H', Inv X pins σ H' s' → Same H H' → P (.int i t) s') : wpAny (model X.prog X.w) X.A.in1 (call (.ref fa) [u]) P (fun _ _ => False) s := by
  have hsp : spP X.K X.mg ps.length g [x] H (fun v H' => v = .int i ∧ Same H H') E0 := by
    refine ⟨by rw [hl]; rfl, [d], .int i, ?_, e, fun w H' s2 b2 => ?_⟩
    · simp only [Brs]
      exact ⟨x, [], rfl, b, rfl⟩
    · simp only [Br] at b2
      exact ⟨b2, s2⟩
  refine wpAny_call (codeAny_mono (F.run X.A.in1 X.stack s H ⟨[u], []⟩ [u] [x] (fun v H' => v = .int i ∧ Same H H') E0 hr1 I.env0.in1 (by have := hb s [u] I.kIn (by rw [hl]; rfl); simpa using this) (.cons r .nil) hsp) fun rr s' hq => ?_)
  cases rr with
  | error e => exact False.elim hq
  | ok fl =>
    cases fl with
    | ret v =>
      obtain ⟨y, H', I', ry, ey, sm⟩ := I.after hq
      subst ey
      obtain ⟨t, rfl⟩ := ry
      exact hP t s' H' I' sm
    | next => exact False.elim hq
    | brk => exact False.elim hq
    | cont => exact False.elim hq
theorem min2_ok (hc : X.calm = true) {k : Nat} {fa : Addr} {fd : FuncData} {ps : List Str} {g : List PyData → Option PyData} (hr1 : Room k X.A.in1) (F : FnOk X.prog X.w X.K X.mg X.base CX0 k fa fd ps (spP X.K X.mg ps.length g)) (hb : Binds X.K fd ps []) (hpl : ps.length = 1)
    {pins : List (Addr × Obj)} {s : Shared} {σ : L2.St} {H : Hp} (I : Inv X pins σ H s) {l : Addr} {x1 x2 : V} (hl : SqL X.K H l [x1, x2]) {d1 d2 : PyData} (b1 : Br X.K X.mg H d1 x1) (b2 : Br X.K X.mg H d2 x2) {i j : Int} (e1 : g [d1] = some (.int i)) (e2 : g [d2] = some (.int j))
    {Q : VK} (q : ∀ v H', Same H H' → Br X.K X.mg H' (if j < i then d2 else d1) v → Q v H') : wpAny (model X.prog X.w) X.A (call (.builtin "min") [.ref l] [(Str.ofString "key", .ref fa)]) (EP X pins σ Q) X.xe s := by
  have hd : X.A.handled = none := I.ok.hd hc
  have list2 : ∀ {pins : List (Addr × Obj)} {s : Shared} {H : Hp}, Inv X pins σ H s → SqL X.K H l [x1, x2] → ∃ u1 u2, s.heap.IsList l #[u1, u2] ∧ RelV x1 u1 ∧ RelV x2 u2 := fun I hl => by
    obtain ⟨its, rv, p, _⟩ := I.list hl
    cases rv with
    | cons r1 rr =>
      cases rr with
      | cons r2 rr2 =>
        cases rr2
        exact ⟨_, _, p.isList, r1, r2⟩
  obtain ⟨u1, u2, hl0, r1, r2⟩ := list2 I hl
  refine min_again hl0 ?_
  have hll : l < s.heap.objs.size := by obtain ⟨o, h, _⟩ := hl0; exact Heap.lt_size h
  have fI : FpOk X pins H s.heap.objs.size := I.fpOk (Nat.le_refl _) (I.hok.fresh (Nat.le_refl _))
  have fS : FpOk X pins H (s.heap.objs.size + 1) := I.fpOk (Nat.le_succ _) (I.hok.fresh (Nat.le_succ _))
  have hS := size_push' s.heap { cls := .type "list_iterator", data := .fields #[.ref l, .int 0 0] }
  generalize hI0 : s.heap.objs.size = I0 at *
  generalize hh2 : (s.heap.push { cls := .type "list_iterator", data := .fields #[.ref l, .int 0 0] }).push { cls := .type "list", data := .seq #[] } = h2
  have kp : ∀ b o, s.heap.get? b = some o → h2.get? b = some o := fun b o e => by rw [← hh2]; exact Heap.get?_push_of_some _ (Heap.get?_push_of_some _ e)
  have gS : h2.get? (I0 + 1) = some { cls := .type "list", data := .seq #[] } := by rw [← hh2, ← hS]; exact Heap.get?_push_size _ rfl
  have gI : h2.get? I0 = some { cls := .type "list_iterator", data := .fields #[.ref l, .int 0 0] } := by rw [← hh2, ← hI0]; exact Heap.get?_push_of_some _ (Heap.get?_push_size _ rfl)
  have hSI : I0 + 1 ≠ I0 := Nat.succ_ne_self _
  have hlI : l ≠ I0 := Nat.ne_of_lt hll
  have IA : Inv X pins σ H { s with heap := h2 } := I.kept (t' := s.toks) kp
  have free : ∀ {H' : Hp} {b : Addr}, FpOk X pins H b → H' b = none → FpOk X pins H' b := fun f h => ⟨h, f.2⟩
  have pinned : ∀ {s' : Shared} {H' : Hp} {oS oI : Obj}, Inv X pins σ H' s' → H' (I0 + 1) = none → H' I0 = none → s'.heap.get? (I0 + 1) = some oS → s'.heap.get? I0 = some oI → (∀ v, oS.data ≠ .cell v) → (∀ v, oI.data ≠ .cell v) → Inv X (pins ++ [(I0 + 1, oS), (I0, oI)]) σ H' s' := fun {s' H' oS oI} I' n1 n2 g1 g2 c1 c2 =>
    I'.pins_of fun p hp => by
      rcases List.mem_append.mp hp with z | z
      · exact I'.pin p (List.mem_append_right _ z)
      · simp only [List.mem_cons, List.not_mem_nil, or_false] at z
        rcases z with rfl | rfl
        · exact ⟨g1, n1, fS.2.1, fS.2.2.1, c1⟩
        · exact ⟨g2, n2, fI.2.1, fI.2.2.1, c2⟩
  obtain ⟨w1, w2, hlA, _, _⟩ := list2 IA hl
  have ew1 : w1 = u1 ∧ w2 = u2 := by
    obtain ⟨o, g1, _, n, d1⟩ := hl0
    obtain ⟨o', g2, _, n', d2⟩ := hlA
    have := kp l o g1
    rw [g2] at this
    injection this with this
    subst this
    rw [d1] at d2
    injection d2 with d2 _
    simp at d2
    exact ⟨d2.1.symm, d2.2.symm⟩
  obtain ⟨rfl, rfl⟩ := ew1
  refine min_first (s := { s with heap := h2 }) hd hlI hSI gS rfl ⟨_, gI, rfl, rfl⟩ hlA fun h3 tk3 hk3 hit3 => ?_
  have IB : Inv X pins σ H { s with heap := h3, toks := tk3 } := turnedAll (s := { s with heap := h2 }) (ch := [I0]) IA (fun b o hb e => hk3 b o (by simpa using hb) e) (by simpa using fI)
  have gS3 := hk3 _ _ hSI gS
  obtain ⟨oI, gI3, cI, dI⟩ := id hit3
  have IB' := pinned IB fS.1 fI.1 gS3 gI3 (fun v z => by cases z) (fun v z => by rw [dI] at z; cases z)
  refine key_run hr1 F hb hpl IB' b1 r1 e1 fun t1 s4 H4 I4 sm4 => ?_
  have pS4 := I4.pin (I0 + 1, _) (List.mem_append_right _ (List.mem_append_right _ List.mem_cons_self))
  have pI4 := I4.pin (I0, _) (List.mem_append_right _ (List.mem_append_right _ (List.mem_cons_of_mem _ List.mem_cons_self)))
  refine ⟨pS4.1, ?_⟩
  have I4' := I4.unpinned
  have s4b := Heap.SameBut.update s4.heap (I0 + 1) (Obj.mapSeq fun _ => #[w1, .int i t1])
  have gS5 := Heap.get?_update_self (h := s4.heap) (Obj.mapSeq fun _ => #[w1, .int i t1]) pS4.1 rfl
  have IC : Inv X pins σ H4 { s4 with heap := s4.heap.update (I0 + 1) (Obj.mapSeq fun _ => #[w1, .int i t1]) } := turnedAll (t' := s4.toks) (ch := [I0 + 1]) I4' (fun b o hb e => (s4b.2 b (by simpa using hb)).trans e) (by simpa using free fS pS4.2.1)
  obtain ⟨a1, a2, hlC, ra1, ra2⟩ := list2 IC (sm4.seq hl)
  refine min_second (s := { s4 with heap := s4.heap.update (I0 + 1) (Obj.mapSeq fun _ => #[w1, .int i t1]) }) (k1 := i) (k2 := j) hd hlI hSI gS5 rfl ⟨oI, (s4b.2 I0 hSI.symm).trans pI4.1, cI, dI⟩ hlC fun h5 tk5 hk5 hit5 => ?_
  have ID : Inv X pins σ H4 { s4 with heap := h5, toks := tk5 } := turnedAll (s := { s4 with heap := s4.heap.update (I0 + 1) (Obj.mapSeq fun _ => #[w1, .int i t1]) }) (ch := [I0]) IC (fun b o hb e => hk5 b o (by simpa using hb) e) (by simpa using free fI pI4.2.1)
  have gS6 := hk5 _ _ hSI gS5
  obtain ⟨oI5, gI5, cI5, dI5⟩ := id hit5
  have ID' := pinned ID pS4.2.1 pI4.2.1 gS6 gI5 (fun v z => by cases z) (fun v z => by rw [dI5] at z; cases z)
  refine key_run hr1 F hb hpl ID' (br_mono sm4 _ _ b2) ra2 e2 fun t2 s6 H6 I6 sm6 => ?_
  have pS6 := I6.pin (I0 + 1, _) (List.mem_append_right _ (List.mem_append_right _ List.mem_cons_self))
  have pI6 := I6.pin (I0, _) (List.mem_append_right _ (List.mem_append_right _ (List.mem_cons_of_mem _ List.mem_cons_self)))
  refine ⟨t2, rfl, pS6.1, ?_⟩
  have I6' := I6.unpinned
  have sm := sm4.trans sm6
  by_cases hji : j < i
  · rw [if_pos hji]
    rw [if_pos hji] at q
    have s6b := Heap.SameBut.update s6.heap (I0 + 1) (Obj.mapSeq fun _ => #[a2, .int j t2])
    have gS7 := Heap.get?_update_self (h := s6.heap) (Obj.mapSeq fun _ => #[a2, .int j t2]) pS6.1 rfl
    have IE : Inv X pins σ H6 { s6 with heap := s6.heap.update (I0 + 1) (Obj.mapSeq fun _ => #[a2, .int j t2]) } := turnedAll (t' := s6.toks) (ch := [I0 + 1]) I6' (fun b o hb e => (s6b.2 b (by simpa using hb)).trans e) (by simpa using free fS pS6.2.1)
    obtain ⟨c1, c2, hlE, _, _⟩ := list2 IE (sm.seq hl)
    refine min_last (s := { s6 with heap := s6.heap.update (I0 + 1) (Obj.mapSeq fun _ => #[a2, .int j t2]) }) hd hlI hSI gS7 rfl ⟨oI5, (s6b.2 I0 hSI.symm).trans pI6.1, cI5, dI5⟩ hlE fun h8 tk8 hk8 => ?_
    have IF : Inv X pins σ H6 { s6 with heap := h8, toks := tk8 } := turnedAll (s := { s6 with heap := s6.heap.update (I0 + 1) (Obj.mapSeq fun _ => #[a2, .int j t2]) }) (ch := [I0, I0 + 1]) IE (fun b o hb e => hk8 b o (fun z => hb (by simp [z])) (fun z => hb (by simp [z])) e) (fun b hb => by
      rcases List.mem_cons.mp hb with rfl | hb
      · exact free fI pI6.2.1
      · have e : b = I0 + 1 := by simpa using hb
        subst e
        exact free fS pS6.2.1)
    exact ⟨x2, H6, IF, ra2, q x2 H6 sm (br_mono sm _ _ b2)⟩
  · rw [if_neg hji]
    rw [if_neg hji] at q
    obtain ⟨c1, c2, hlE, _, _⟩ := list2 I6' (sm.seq hl)
    refine min_last (s := s6) hd hlI hSI pS6.1 rfl ⟨oI5, pI6.1, cI5, dI5⟩ hlE fun h8 tk8 hk8 => ?_
    have IF : Inv X pins σ H6 { s6 with heap := h8, toks := tk8 } := turnedAll (s := s6) (ch := [I0, I0 + 1]) I6' (fun b o hb e => hk8 b o (fun z => hb (by simp [z])) (fun z => hb (by simp [z])) e) (fun b hb => by
      rcases List.mem_cons.mp hb with rfl | hb
      · exact free fI pI6.2.1
      · have e : b = I0 + 1 := by simpa using hb
        subst e
        exact free fS pS6.2.1)
    exact ⟨x1, H6, IF, r1, q x1 H6 sm (br_mono sm _ _ b1)⟩
noncomputable def mink2 (C : Orc) (f : Str) (ga gb : Rho → Option PyData) (r : Rho) : Option PyData := match ga r with
  | some x => match gb r with
    | some y => minkD C f x y
    | none => none
  | none => none
theorem minkD_some {C : Orc} {f : Str} {x y d : PyData} (h : minkD C f x y = some d) : ∃ i j, C f [x] = some (.int i) ∧ C f [y] = some (.int j) ∧ d = if j < i then y else x := by
  unfold minkD at h
  split at h
  · rename_i i j h1 h2
    injection h with h
    exact ⟨i, j, h1, h2, h.symm⟩
  · cases h
theorem mink2_some {C : Orc} {f : Str} {ga gb : Rho → Option PyData} {r : Rho} {d : PyData} (h : mink2 C f ga gb r = some d) : ∃ x y, ga r = some x ∧ gb r = some y ∧ minkD C f x y = some d := by
  unfold mink2 at h
  cases e1 : ga r with
  | none => rw [e1] at h; cases h
  | some x =>
    rw [e1] at h
    simp only at h
    cases e2 : gb r with
    | none => rw [e2] at h; cases h
    | some y => rw [e2] at h; exact ⟨x, y, rfl, rfl, h⟩
theorem e_mink {S : Sg} {k : Nat} {C : Orc} (h : Hx X S k C) {f : Str} {a b : Expr} {p lp p3 kp pos : Pos} {ga gb : Rho → Option PyData} (hg : Gl X "min") (hgf : glB S.sc f = true) (hf : S.fs.contains f = true) (hn : nmB f = true) (ha : E1 X a ga) (hb : E1 X b gb) (hha : okHead a = true) (hhb : okHead b = true) :
    E1 X (.Call (.Name "min" p) [.List [a, b] lp] [⟨some "key", .Name f p3, kp⟩] pos) (mink2 C f ga gb) := by
  intro pins s σ H Q I ⟨r, d, env, hgr, q⟩
  obtain ⟨x, y, h1, h2, h3⟩ := mink2_some hgr
  obtain ⟨i, j, e1, e2, rfl⟩ := minkD_some h3
  obtain ⟨fa, fd, ps, k1, k2, k3, k4, k5⟩ := (h.fns f hf).ex
  have hpl : ps.length = 1 := (k5 [x] _ e1).symm
  have hl : E1 X (.List [a, b] lp) (lstD (consD ga (consD gb nilD))) := e_lst (a_cons ha (a_cons hb a_nil (star_ok hhb)) (star_ok hha))
  have hA : A1 X [.List [a, b] lp] (consD (lstD (consD ga (consD gb nilD))) nilD) := a_cons hl a_nil (star_ok rfl)
  have hev : consD (lstD (consD ga (consD gb nilD))) nilD r = some [.list [x, y]] := by
    have ol : okLen 2 = true := by decide
    simp [consD, lstD, nilD, h1, h2, ol]
  refine wpAny_Call_Name_kw (ld_blt I hg (h.blt _ (by simp [bltNames])) (by decide +kernel : bootBuiltins "min" = some (.builtin "min")) (PyProof.Rows.callWith_kw (thn (hA pos pins s σ H (fun vs H1 => Same H H1 ∧ Brs X.K X.mg H1 [.list [x, y]] vs) I ⟨r, _, env, hev, fun vs H1 s1 b1 => ⟨s1, b1⟩⟩) fun us s1 ⟨vs, H1, I1, r1, sm1, b1⟩ => ?_) rfl rfl rfl rfl) (by decide) (by decide))
  obtain ⟨v, rfl, bl⟩ := brs1 b1
  simp only [Br] at bl
  obtain ⟨l, ws, rfl, hsq, bws⟩ := bl
  obtain ⟨x1, x2, rfl, bx, bY⟩ := brs2 bws
  obtain ⟨u, rfl, rx⟩ := vals1 r1
  cases rx
  refine thn ((pk_cons (nm := some "key") (kpos := kp) (pe_glob (v := .ref fa) (h.gl hgf) k1 rfl (nm1 hn)) pk_nil) pos pins s1 σ H1 (fun vs H2 => H2 = H1 ∧ vs = [.ref fa]) I1 ?_) fun us2 s2 ⟨vs2, H2, I2, r2, eH, ev⟩ => ?_
  · exact ⟨rfl, rfl⟩
  · subst eH ev
    obtain ⟨u2, rfl, rx2⟩ := vals1 r2
    cases rx2
    exact min2_ok h.calm h.room1 k4 k3 hpl I2 hsq bx bY e1 e2 fun v H' sm b => q v H' (sm1.trans sm) b
end
end PL

set_option Elab.async false
set_option linter.all false
set_option maxRecDepth 100000
namespace PL
open PySem PySem.Spec PyProof.Rows L2

/-! ### an exception in flight -/
theorem objOk_there {P : Program} {w : World} {H : Hp} {h : Heap} {a : Addr} {o : HO} (x : ObjOk P w H h a o) : ∃ ob, h.get? a = some ob := by
  cases o with
  | lst xs => obtain ⟨_, _, _, _, e⟩ := x; exact ⟨_, e⟩
  | tup xs => obtain ⟨_, _, _, ob, e, _⟩ := x; exact ⟨_, e⟩
  | dK kvs => obtain ⟨_, _, _, _, o, _, _, e, _⟩ := x; exact ⟨_, e⟩
  | dT kvs => obtain ⟨_, _, _, _, o, _, _, e, _⟩ := x; exact ⟨_, e⟩
  | set S n => obtain ⟨o, _, _, _, e, _⟩ := x; exact ⟨_, e⟩
  | ins C dx fs => obtain ⟨_, _, _, e, _⟩ := x; exact ⟨_, e⟩
  | own y => obtain ⟨_, e⟩ := x; exact ⟨_, e⟩
  | xd fs => obtain ⟨_, ⟨_, _, _, e, _⟩, _⟩ := x; exact ⟨_, e⟩
  | rng lo hi => obtain ⟨_, _, _, e⟩ := x; exact ⟨_, e⟩
  | frz ob u => obtain ⟨e, _⟩ := x; exact ⟨_, e⟩
  | tbl ps => exact ⟨_, show h.get? a = some _ from x⟩
  | met f y => exact ⟨_, show h.get? a = some _ from x⟩
  | ext φ => obtain ⟨_, ⟨_, e⟩, _⟩ := x; exact ⟨_, e⟩

/-- an address that the code's own state doesn't lean on -/
structure Ap (X : Cx) (pins : List (Addr × Obj)) (H : Hp) (b : Addr) : Prop where
  top : X.s₀.heap.get? b = none
  loc : b ≠ X.env.locals
  cel : ∀ x c, X.env.cells.lookup x = some c → c ≠ b
  pin : ∀ p ∈ X.pn ++ pins, p.1 ≠ b
  fre : H b = none

section
variable {X : Cx} {pins : List (Addr × Obj)} {σ : L2.St} {H H' : Hp} {s : Shared} {h' : Heap}
theorem ap_of_new (hex : X.ex = []) (I : Inv X pins σ H s) {b : Addr} (e : s.heap.get? b = none) (n : H' b = none) : Ap X pins H' b where
  top := by
    cases q : X.s₀.heap.get? b with
    | none => rfl
    | some o =>
      obtain ⟨o', e'⟩ := I.base.there b o q (by rw [hex]; simp)
      rw [e] at e'; cases e'
  loc := fun z => by
    obtain ⟨m, ⟨o, _, _, ho, _⟩, _⟩ := I.loc
    rw [← z, e] at ho; cases ho
  cel := fun x c hc z => by
    obtain ⟨v, o, ho, _⟩ := I.cell x c hc
    rw [z, e] at ho; cases ho
  pin := fun p hp z => by
    obtain ⟨q, _⟩ := I.pin p hp
    rw [z, e] at q; cases q
  fre := n
/-- records of our own have changed, the running frames' slots too -/
theorem inv_turn (I : Inv X pins σ H s) (ch : List Addr) (hch : ∀ b ∈ ch, Ap X pins H b) (k : ∀ b o, b ∉ ch → b ∉ frs X.stack → s.heap.get? b = some o → h'.get? b = some o)
    (kf : ∀ b o, b ∈ frs X.stack → s.heap.get? b = some o → ∃ sl, h'.get? b = some { o with slots := sl }) : Inv X pins σ H { s with heap := h' } := by
  have any : ∀ b o, b ∉ ch → s.heap.get? b = some o → ∃ sl, h'.get? b = some { o with slots := sl } := fun b o hc e => by
    by_cases hb : b ∈ frs X.stack
    · exact kf b o hb e
    · exact ⟨o.slots, k b o hc hb e⟩
  have neL : ∀ b o, X.s₀.heap.get? b = some o → b ≠ X.env.locals := fun b o e => Nat.ne_of_lt (Nat.lt_of_lt_of_le (Heap.lt_size e) I.ok.above)
  have neC : ∀ b o, X.s₀.heap.get? b = some o → b ∉ ch := fun b o e hb => by
    have := (hch b hb).top
    rw [e] at this; cases this
  have trC : ∀ b u, H b = some u → b ∉ ch := fun b u e hb => by
    have := (hch b hb).fre
    rw [e] at this; cases this
  have trF : ∀ b u, H b = some u → b ∉ frs X.stack := fun b u e hb => by
    have := I.stkFree b hb
    rw [e] at this; cases this
  have cellK : ∀ x c, X.env.cells.lookup x = some c → ∀ v, s.heap.IsCell c v → h'.IsCell c v := fun x c e v ⟨o, ho, hd⟩ => by
    obtain ⟨sl, q⟩ := any c o (fun z => (hch c z).cel x c e rfl) ho
    exact ⟨_, q, hd⟩
  refine ⟨I.ok, I.os, I.bare, ⟨fun b o e n hb hx => ?_, fun b o e n hb hx => ?_, I.base.free, fun b o e hx => ?_, I.base.tups, I.base.frzs, I.base.tbls⟩, ?_, fun x c e => ?_, I.free, I.freeC, fun p hp => ?_, fun b u e => ?_, I.len⟩
  · refine k b o (neC b o e) (fun z => ?_) (I.base.keep b o e n hb hx)
    rcases List.mem_cons.mp (I.stkSub b z) with y | y
    · exact neL b o e y
    · exact hb y
  · obtain ⟨sl, e1⟩ := I.base.slot b o e n hb hx
    obtain ⟨sl', e2⟩ := any b _ (neC b o e) e1
    exact ⟨sl', e2⟩
  · obtain ⟨o', e1⟩ := I.base.there b o e hx
    obtain ⟨sl', e2⟩ := any b _ (neC b o e) e1
    exact ⟨_, e2⟩
  · obtain ⟨m, ⟨o, es, ep, ho, r⟩, hl⟩ := I.loc
    obtain ⟨sl, e2⟩ := any _ o (fun z => (hch _ z).loc rfl) ho
    refine ⟨m, ⟨_, es, ep, e2, r⟩, fun i x v e1 e2 e3 => ?_⟩
    obtain ⟨u, r, l⟩ := hl i x v e1 e2 e3
    refine ⟨u, r, ?_⟩
    rcases l with l | ⟨k, c, e, z⟩
    · exact .inl l
    · exact .inr ⟨k, c, e, cellK x c e _ z⟩
  · obtain ⟨v, z⟩ := I.cell x c e
    exact ⟨v, cellK x c e v z⟩
  · obtain ⟨e, n, ne, nf, d⟩ := I.pin p hp
    refine ⟨k p.1 p.2 (fun z => (hch p.1 z).pin p hp rfl) (fun z => ?_) e, n, ne, nf, d⟩
    rcases List.mem_cons.mp (I.stkSub p.1 z) with y | y
    · exact ne y
    · exact nf y
  · refine (I.hok b u e).stay (fun c v hc q => ?_) (fun _ q => q) fun _ _ q => q
    rcases hc with z | z
    · exact k c v (by rw [z]; exact trC b u e) (by rw [z]; exact trF b u e) q
    · exact k c v (trC c _ z) (trF c _ z) q
end

/-- the record of an exception of the class at C, with its traceback -/
noncomputable def Rec (h : Heap) (a C T : Addr) : Prop := ∃ oe vs a0 oT ts, h.get? a = some oe ∧ oe.cls = .ref C ∧ oe.data = .fields vs ∧ vs[0]? = some a0 ∧ vs[1]? = some (.ref T) ∧ T ≠ a ∧ h.get? T = some oT ∧ oT.data = .fields ts ∧ ts[3]? = some .none
/-- .. just made -/
noncomputable def Mad (h : Heap) (a C : Addr) : Prop := ∃ oe vs a0, h.get? a = some oe ∧ oe.cls = .ref C ∧ oe.data = .fields vs ∧ vs[0]? = some a0 ∧ vs[1]? = some .none
noncomputable def Trc (X : Cx) (pins : List (Addr × Obj)) (H : Hp) (a C : Addr) (h : Heap) : Prop := Ap X pins H a ∧ ∃ T, Rec h a C T ∧ Ap X pins H T
noncomputable def Thr (X : Cx) (pins : List (Addr × Obj)) (H : Hp) (a C : Addr) (h : Heap) : Prop := Trc X pins H a C h ∨ (Ap X pins H a ∧ Mad h a C)
/-- how an exception lies behind a call -/
noncomputable def CX1 (P : Program) (w : World) : CXT := fun outer H s E e s' => ∃ a C H' T, e = .ref a ∧ s'.os = s.os ∧ AllBare s'.gens ∧ Un (frs outer) [] H H' s.heap s'.heap ∧ HOk P w H' s'.heap ∧
  Rec s'.heap a C T ∧ s.heap.get? a = none ∧ s.heap.get? T = none ∧ H' a = none ∧ H' T = none ∧ E (.ref C) none H'

section
variable {X : Cx} {pins : List (Addr × Obj)} {σ : L2.St} {H : Hp} {s : Shared} {a C : Addr}
/-- what a station of the exception leaves as it was -/
theorem left_ok (hex : X.ex = []) (I : Inv X pins σ H s) {hid : List Addr} {h' : Heap} {a0 : Value} (hh : ∀ b ∈ hid, Ap X pins H b) (ha : a ∈ hid) (x1 : (PySem.W.hideAll s.heap (frs X.stack ++ hid)).StaysIn h')
    (x2 : h'.FunFrames (PySem.W.hideAll s.heap (frs X.stack ++ hid)) X.stack ∨ True) (x3 : h'.TracedW (PySem.W.hideAll s.heap (frs X.stack ++ hid)) a (.ref C) a0) (x4 : ∀ b o, s.heap.get? b = some o → (∀ vs, o.data ≠ .fields vs) → ∃ sl, h'.get? b = some { o with slots := sl }) :
    Inv X pins σ H { s with heap := h' } ∧ Trc X pins H a C h' := by
  have kf : ∀ b o, b ∈ frs X.stack → s.heap.get? b = some o → ∃ sl, h'.get? b = some { o with slots := sl } := fun b o hb e => by
    obtain ⟨_, o', e', hd⟩ := I.stack.mem hb
    rw [e] at e'; cases e'
    exact x4 b o e hd
  refine ⟨inv_turn I hid hh (fun b o h1 h2 e => x1 b o (PySem.W.hideAll_get _ e fun z => ?_)) kf, hh a ha, ?_⟩
  · rcases List.mem_append.mp z with y | y
    · exact h2 y
    · exact h1 y
  · obtain ⟨oe, vs, T, oT, ts, y1, ⟨y2, y3⟩, y4, y5, y6, y7, y8, y9, y10⟩ := x3
    refine ⟨T, ⟨oe, vs, a0, oT, ts, y1, y2, y4, y3, y5, y7, y8, y9, y10⟩, ?_⟩
    cases e : s.heap.get? T with
    | none =>
      refine ap_of_new hex I e ?_
      cases q : H T with
      | none => rfl
      | some u =>
        obtain ⟨ob, e'⟩ := objOk_there (I.hok T u q)
        rw [e] at e'; cases e'
    | some o =>
      by_cases hm : T ∈ frs X.stack ++ hid
      · rcases List.mem_append.mp hm with y | y
        · obtain ⟨_, o', e', hd⟩ := I.stack.mem y
          rw [e] at e'; cases e'
          obtain ⟨sl, e2⟩ := x4 T o e hd
          rw [y8] at e2; cases e2
          exact absurd y9 (hd ts)
        · exact hh T y
      · rw [PySem.W.hideAll_get _ e hm] at y6; cases y6
theorem fun_hide (I : Inv X pins σ H s) (hid : List Addr) : s.heap.FunFrames (PySem.W.hideAll s.heap (frs X.stack ++ hid)) X.stack :=
  PySem.W.funFrames_hide I.stack fun env he a hf => List.mem_append_left _ (List.mem_filterMap.mpr ⟨env, he, hf⟩)
theorem stays_hide (hid : List Addr) : (PySem.W.hideAll s.heap (frs X.stack ++ hid)).StaysIn s.heap := fun b o e => PySem.W.of_hideAll _ e
/-- the frame is left by the exception -/
theorem leave_ok (hex : X.ex = []) (I : Inv X pins σ H s) (t : Thr X pins H a C s.heap) (hst : X.stack = X.env :: X.outer) (hfr : X.env.frame = some X.env.locals) {Q : Unit → Shared → Prop} {E : Value → Shared → Prop}
    (h : ∀ h', Inv X pins σ H { s with heap := h' } → Trc X pins H a C h' → Q () { s with heap := h' }) : wpAny (model X.prog X.w) X.A (leaving X.env (.ref a)) Q E s := by
  have hf : X.A.frames = some (X.env :: X.outer) := by rw [← hst]; exact I.ok.frames
  rcases t with ⟨pa, T, ⟨oe, vs, a0, oT, ts, y1, y2, y3, y4, y5, y6, y7, y8, y9⟩, pT⟩ | ⟨pa, oe, vs, a0, y1, y2, y3, y4, y5⟩
  · have hh : ∀ b ∈ [a, T], Ap X pins H b := fun b hb => by
      simp only [List.mem_cons, List.not_mem_nil, or_false] at hb
      rcases hb with rfl | rfl
      · exact pa
      · exact pT
    have ff := fun_hide I [a, T]
    rw [hst] at ff
    refine wpAny_leaving_nextW (base := PySem.W.hideAll s.heap (frs X.stack ++ [a, T])) (cls := .ref C) (a0 := a0) hf (by rw [hst]; exact ff) hfr ⟨oe, vs, T, oT, ts, y1, ⟨y2, y4⟩, y3, y5, PySem.W.hideAll_none _ (by simp), y6, y7, y8, y9⟩ (stays_hide _) (PySem.W.hideAll_none _ (by simp)) fun h' ⟨x1, x2, x3, x4⟩ => ?_
    obtain ⟨i, t⟩ := left_ok hex I hh (by simp) x1 (.inr trivial) x3 x4
    exact h h' i t
  · have hh : ∀ b ∈ [a], Ap X pins H b := fun b hb => by
      simp only [List.mem_cons, List.not_mem_nil, or_false] at hb
      rw [hb]; exact pa
    have ff := fun_hide I [a]
    rw [hst] at ff
    refine wpAny_leaving_firstW (base := PySem.W.hideAll s.heap (frs X.stack ++ [a])) (a0 := a0) hf (by rw [hst]; exact ff) hfr y1 (stays_hide _) (PySem.W.hideAll_none _ (by simp)) y3 y5 y4 fun h' ⟨x1, x2, x3, x4⟩ => ?_
    rw [y2] at x3
    obtain ⟨i, t⟩ := left_ok hex I hh (by simp) x1 (.inr trivial) x3 x4
    exact h h' i t
/-- .. and the callee is behind: how it lies -/
theorem left_cx (hex : X.ex = []) (I : Inv X pins σ H s) (t : Trc X pins H a C s.heap) {E : XK} (os : s.os = X.s₀.os) (hE : E (.ref C) none H) : CX1 X.prog X.w X.outer X.H₀ X.s₀ E (.ref a) s := by
  obtain ⟨pa, T, r, pT⟩ := t
  have u := I.base
  rw [hex] at u
  exact ⟨a, C, H, T, rfl, os, I.bare, u, I.hok, r, pa.top, pT.top, pa.fre, pT.fre, hE⟩
end
end PL

set_option Elab.async false
set_option linter.all false
set_option maxRecDepth 100000
namespace PL
open PySem PySem.Spec PyProof.Rows L2

/-! ### own error classes -/
noncomputable abbrev veMro : List Value := [.type "ValueError", .type "Exception", .type "BaseException", .type "object"]
noncomputable abbrev OrcX := Str → List PyData → Option Str
/-- what is wanted of an exception: its class c, the state at the raise -/
noncomputable def Xf (X : Cx) (pins : List (Addr × Obj)) (H : Hp) (c : Str) (ok : L2.St → Hp → Prop) (ev : Value) (s' : Shared) : Prop :=
  ∃ a C H' σ', ev = .ref a ∧ (xcNames.contains c = true ∧ X.mg c = some (.ref C)) ∧ Inv X pins σ' H' s' ∧ Same H H' ∧ Thr X pins H' a C s'.heap ∧ ok σ' H'
noncomputable def XSS1 (X : Cx) (st : List Stmt) (g : Rho → Option (Str × Rho)) : Prop := ∀ (pins : List (Addr × Obj)) (s : Shared) (σ : L2.St) (H : Hp) (r : Rho) (c : Str) (r' : Rho), Inv X pins σ H s → EnvOk X.K X.mg H r σ → g r = some (c, r') →
  wpAny (model X.prog X.w) X.A (execs st X.env) (fun _ _ => False) (Xf X pins H c fun σ' H' => EnvOk X.K X.mg H' r' σ') s
section
variable {X : Cx} {pins : List (Addr × Obj)} {s : Shared} {σ : L2.St} {H : Hp} {r : Rho}
end

/-! ### expressions that raise -/
section
variable {X : Cx} {a b c : Expr} {es : List Expr} {pos : Pos} {ga gb : Rho → Option PyData} {xa xb xc : Rho → Option Str}
/-- the first raises, or the first is told and the second raises -/
noncomputable def two (xa : Rho → Option Str) (ga : Rho → Option PyData) (xb : Rho → Option Str) (r : Rho) : Option Str := match xa r with
  | some c => some c
  | none => match ga r with
    | some _ => xb r
    | none => none
/-! calls -/
/-- what a def promises, exceptions with it -/
noncomputable def spX (K : PySem.W.Frag) (mg : Str → Option Value) (n : Nat) (f : List PyData → Option PyData) (fx : List PyData → Option Str) : Sp := fun vs H Q E => vs.length = n ∧
  (rDC K mg f vs H Q ∨ ∃ xs c C, Brs K mg H xs vs ∧ fx xs = some c ∧ mg c = some (.ref C) ∧ ∀ H', Same H H' → E (.ref C) none H')
structure FXOk (X : Cx) (k : Nat) (C : Orc) (D : OrcX) (f : Str) : Prop where
  ex : ∃ (fa : Addr) (fd : FuncData) (ps : List Str), X.mg f = some (.ref fa) ∧ PySem.W.keepIn X.K (.ref fa) = true ∧ Binds X.K fd ps [] ∧
    FnOk X.prog X.w X.K X.mg X.base (CX1 X.prog X.w) k fa fd ps (spX X.K X.mg ps.length (C f) (D f)) ∧ (∀ ds d, C f ds = some d → ds.length = ps.length) ∧ (∀ ds c, D f ds = some c → ds.length = ps.length ∧ xcNames.contains c = true ∧ ∃ A, X.mg c = some (.ref A))
/-- the normal part of the promise -/
theorem fn_norm {P : Program} {w : World} {K : PySem.W.Frag} {mg : Str → Option Value} {base : Heap} {k n : Nat} {fa : Addr} {fd : FuncData} {ps : List Str} {f : List PyData → Option PyData} {fx : List PyData → Option Str}
    (F : FnOk P w K mg base (CX1 P w) k fa fd ps (spX K mg n f fx)) : FnOk P w K mg base CX0 k fa fd ps (spP K mg n f) :=
  ⟨fun vs H Q E h => F.len vs H Q E ⟨h.1, .inl h.2⟩, fun A outer s H args us vs Q E hr he hb hv hs =>
    codeAny_mono (F.run A outer s H args us vs Q (fun _ _ _ => False) hr he hb hv ⟨hs.1, .inl hs.2⟩) fun rr s' hq => by
      cases rr with
      | ok fl => cases fl <;> exact hq
      | error e =>
        obtain ⟨_, _, _, _, _, _, _, _, _, _, _, _, _, _, z⟩ := hq
        exact z⟩
noncomputable def callX (xa : Rho → Option Str) (g : Rho → Option (List PyData)) (fx : List PyData → Option Str) (r : Rho) : Option Str := match xa r with
  | some c => some c
  | none => match g r with
    | some ds => fx ds
    | none => none
end
end PL

set_option Elab.async false
set_option linter.all false
set_option maxRecDepth 100000
namespace PL
open PySem PySem.Spec PyProof.Rows L2

/-- what the module's text says of an own error class -/
structure ClsOk (K : PySem.W.Frag) (C : Addr) : Prop where
  exc : PySem.W.excIn K C veMro "ValueError.__new__" = true
  ga : PySem.W.findIn K (.ref C) "__getattribute__" = some (some (.builtin "BaseException.__getattribute__"))
  nh : PySem.W.findIn K (.ref C) "__getattr__" = some none
  cl : PySem.W.findIn K (.ref C) "__class__" = some (some (.builtin "object.__class__"))
  mo : PySem.W.mroIn K C (.type "object") = some true
  mb : PySem.W.mroIn K C (.type "BaseException") = some true
  gs : PySem.W.specialIn K (.builtin "object.__class__") "__get__" = some (some (.builtin "getset_descriptor.__get__"))
  tk : PySem.W.takesIn K (.builtin "object.__class__") = some true

section
variable {prog : Program} {w : World} {A : Around} {E : Value → Shared → Prop} {s : Shared} {K : PySem.W.Frag} {a C : Addr} {oe : Obj} {vs : Array Value}
end
end PL
namespace PL
open PySem PySem.Spec PyProof.Rows L2 PySem.W Builtin Builtin.ObjectAttr Builtin.Getset_descriptor
section
variable {prog : Program} {w : World} {A : Around} {E : Value → Shared → Prop} {s : Shared} {K : PySem.W.Frag} {a C : Addr} {oe : Obj}
end
end PL
namespace PL
open PySem PySem.Spec PyProof.Rows L2 PySem.W Builtin Builtin.ObjectAttr Builtin.Getset_descriptor
section
variable {prog : Program} {w : World} {A : Around} {E : Value → Shared → Prop} {s : Shared} {K : PySem.W.Frag} {a C : Addr} {oe : Obj}
end
end PL

set_option Elab.async false
set_option linter.all false
set_option maxRecDepth 100000
namespace PL
open PySem PySem.Spec PyProof.Rows L2

/-! ### methods of texts -/
noncomputable def strsOf : List PyData → Option (List Str)
  | [] => some []
  | .str x :: r => match strsOf r with
    | some xs => some (x :: xs)
    | none => none
  | _ => none
inductive Sm where
  | join | find | rfind | count | startswith | endswith | isdigit | isspace | isalpha | isalnum | zfill | strip | lstrip | rstrip
  deriving DecidableEq
noncomputable def Sm.name : Sm → Str
  | .join => "join" | .find => "find" | .rfind => "rfind" | .count => "count" | .startswith => "startswith" | .endswith => "endswith" | .isdigit => "isdigit" | .isspace => "isspace" | .isalpha => "isalpha" | .isalnum => "isalnum"
  | .zfill => "zfill" | .strip => "strip" | .lstrip => "lstrip" | .rstrip => "rstrip"
noncomputable def Sm.id : Sm → String
  | .join => "str.join" | .find => "str.find" | .rfind => "str.rfind" | .count => "str.count" | .startswith => "str.startswith" | .endswith => "str.endswith" | .isdigit => "str.isdigit" | .isspace => "str.isspace" | .isalpha => "str.isalpha" | .isalnum => "str.isalnum"
  | .zfill => "str.zfill" | .strip => "str.strip" | .lstrip => "str.lstrip" | .rstrip => "str.rstrip"
noncomputable def Sm.fn : Sm → PyData → List PyData → Option PyData
  | .join, .str x, [.list ds] => match strsOf ds with
    | some ts => if JoinOk x ts = true then some (.str (Txt.join x ts)) else none
    | none => none
  | .find, .str x, [.str y] => some (.int (Txt.find x y))
  | .rfind, .str x, [.str y] => some (.int (Txt.rfind x y))
  | .count, .str x, [.str y] => some (.int (Txt.count x y))
  | .startswith, .str x, [.str y] => some (.bool (Txt.startswith x y))
  | .endswith, .str x, [.str y] => some (.bool (Txt.endswith x y))
  | .isdigit, .str x, [] => some (.bool (Txt.isdigit x))
  | .isspace, .str x, [] => some (.bool (Txt.isspace x))
  | .isalpha, .str x, [] => some (.bool (Txt.isalpha x))
  | .isalnum, .str x, [] => some (.bool (Txt.isalnum x))
  | .zfill, .str x, [.int i] => if PadOk i = true then some (.str (Txt.zfill x i)) else none
  | .strip, .str x, [] => if okLen x.length = true then some (.str (Txt.strip x)) else none
  | .lstrip, .str x, [] => if okLen x.length = true then some (.str (Txt.lstrip x)) else none
  | .rstrip, .str x, [] => if okLen x.length = true then some (.str (Txt.rstrip x)) else none
  | _, _, _ => none
theorem Sm.slot (m : Sm) : Slot "str" m.name m.id := by
  cases m
  · exact F.slot_str_join
  · exact F.slot_str_find
  · exact F.slot_str_rfind
  · exact F.slot_str_count
  · exact F.slot_str_startswith
  · exact F.slot_str_endswith
  · exact F.slot_str_isdigit
  · exact F.slot_str_isspace
  · exact F.slot_str_isalpha
  · exact F.slot_str_isalnum
  · exact F.slot_str_zfill
  · exact F.slot_str_strip
  · exact F.slot_str_lstrip
  · exact F.slot_str_rstrip
theorem Sm.ty (m : Sm) : typeOf (.builtin m.id) = pure (.type "method_descriptor") := by
  cases m
  · exact F.type_str_join
  · exact F.type_str_find
  · exact F.type_str_rfind
  · exact F.type_str_count
  · exact F.type_str_startswith
  · exact F.type_str_endswith
  · exact F.type_str_isdigit
  · exact F.type_str_isspace
  · exact F.type_str_isalpha
  · exact F.type_str_isalnum
  · exact F.type_str_zfill
  · exact F.type_str_strip
  · exact F.type_str_lstrip
  · exact F.type_str_rstrip
section
variable {X : Cx}
/-! ### f-strings of texts -/
noncomputable def fstrD (g : Rho → Option (List PyData)) (r : Rho) : Option PyData := match g r with
  | some ds => match strsOf ds with
    | some ts => if okLen (ts.foldl (fun a x => a ++ x) Str.empty).length = true then some (.str (ts.foldl (fun a x => a ++ x) Str.empty)) else none
    | none => none
  | none => none
noncomputable def fmtD (ga : Rho → Option PyData) (r : Rho) : Option PyData := match ga r with
  | some (.str x) => if okLen x.length = true then some (.str x) else none
  | _ => none
/-- the parts of an f-string: each is told as a text -/
inductive Parts (X : Cx) : List Expr → (Rho → Option (List PyData)) → Prop
  | nil : Parts X [] nilD
  | cons {e : Expr} {es : List Expr} {ga : Rho → Option PyData} {g : Rho → Option (List PyData)} : E1 X e (fmtD ga) → Parts X es g → Parts X (e :: es) (consD ga g)
end
end PL

set_option Elab.async false
set_option linter.all false
set_option maxRecDepth 100000
namespace PL
open PySem PySem.Spec PyProof.Rows
/-! ### tables of sets: places that rise -/
noncomputable def Rise (xs : Array Nat) : Prop := xs.toList.Pairwise (· < ·)
theorem rise_lt {xs : Array Nat} (h : Rise xs) {i j : Nat} {a b : Nat} (hij : i < j) (ha : xs[i]? = some a) (hb : xs[j]? = some b) : a < b := by
  have ha' : xs.toList[i]? = some a := by simpa using ha
  have hb' : xs.toList[j]? = some b := by simpa using hb
  obtain ⟨h1, e1⟩ := List.getElem?_eq_some_iff.mp ha'
  obtain ⟨h2, e2⟩ := List.getElem?_eq_some_iff.mp hb'
  have := List.pairwise_iff_getElem.mp h i j h1 h2 hij
  rw [e1, e2] at this
  exact this
/-- what the search of a place answers -/
theorem below_go (xs : Array Nat) (hr : Rise xs) (j : Nat) : ∀ (fuel lo hi : Nat), hi ≤ xs.size → lo ≤ hi → hi - lo ≤ fuel →
    (∀ i a, i < lo → xs[i]? = some a → a < j) → (∀ i a, hi ≤ i → xs[i]? = some a → j ≤ a) →
    ∃ p, SetTable.below.go xs j fuel lo hi = p ∧ p ≤ xs.size ∧ (∀ i a, i < p → xs[i]? = some a → a < j) ∧ ∀ i a, p ≤ i → xs[i]? = some a → j ≤ a := by
  intro fuel
  induction fuel with
  | zero =>
    intro lo hi h1 h2 h3 h4 h5
    have : lo = hi := by omega
    subst this
    exact ⟨lo, rfl, h1, h4, h5⟩
  | succ fuel ih =>
    intro lo hi h1 h2 h3 h4 h5
    unfold SetTable.below.go
    by_cases hlt : lo < hi
    · rw [if_pos hlt]
      have hm1 : lo ≤ (lo + hi) / 2 := by omega
      have hm2 : (lo + hi) / 2 < hi := by omega
      have hm : (lo + hi) / 2 < xs.size := by omega
      have eg : xs[(lo + hi) / 2]? = some xs[(lo + hi) / 2] := by simp [hm]
      have ed : xs.getD ((lo + hi) / 2) j = xs[(lo + hi) / 2] := by simp [Array.getD, hm]
      simp only [ed]
      by_cases hc : xs[(lo + hi) / 2] < j
      · rw [if_pos hc]
        refine ih _ _ h1 (by omega) (by omega) (fun i a hi' ha => ?_) h5
        by_cases q : i = (lo + hi) / 2
        · subst q; rw [eg] at ha; injection ha with ha; omega
        · have := rise_lt hr (show i < (lo + hi) / 2 by omega) ha eg
          omega
      · rw [if_neg hc]
        refine ih _ _ (by omega) hm1 (by omega) h4 (fun i a hi' ha => ?_)
        by_cases q : i = (lo + hi) / 2
        · subst q; rw [eg] at ha; injection ha with ha; omega
        · have := rise_lt hr (show (lo + hi) / 2 < i by omega) eg ha
          omega
    · rw [if_neg hlt]
      have : lo = hi := by omega
      subst this
      exact ⟨lo, rfl, h1, h4, h5⟩
theorem below_spec (xs : Array Nat) (hr : Rise xs) (j : Nat) : SetTable.below xs j ≤ xs.size ∧ (∀ i a, i < SetTable.below xs j → xs[i]? = some a → a < j) ∧ ∀ i a, SetTable.below xs j ≤ i → xs[i]? = some a → j ≤ a := by
  obtain ⟨p, e, h1, h2, h3⟩ := below_go xs hr j xs.size 0 xs.size (Nat.le_refl _) (Nat.zero_le _) (by omega) (fun i a h => absurd h (Nat.not_lt_zero _)) (fun i a h ha => by
    have := (Array.getElem?_eq_some_iff.mp ha).1; omega)
  have e' : SetTable.below xs j = p := e
  rw [e']
  exact ⟨h1, h2, h3⟩
/-- the places of a walk: from 0 on, then past each place -/
theorem below_zero (xs : Array Nat) (hr : Rise xs) : SetTable.below xs 0 = 0 := by
  obtain ⟨h1, h2, _⟩ := below_spec xs hr 0
  cases e : SetTable.below xs 0 with
  | zero => rfl
  | succ p =>
    rw [e] at h1 h2
    have hm : 0 < xs.size := by omega
    have := h2 0 xs[0] (by omega) (by simp [hm])
    omega
theorem below_next (xs : Array Nat) (hr : Rise xs) {i a : Nat} (ha : xs[i]? = some a) : SetTable.below xs (a + 1) = i + 1 := by
  obtain ⟨h1, h2, h3⟩ := below_spec xs hr (a + 1)
  have hi : i < xs.size := (Array.getElem?_eq_some_iff.mp ha).1
  have g1 : i < SetTable.below xs (a + 1) := by
    rcases Nat.lt_or_ge i (SetTable.below xs (a + 1)) with h | h
    · exact h
    · have := h3 i a h ha; omega
  rcases Nat.lt_or_ge (i + 1) (SetTable.below xs (a + 1)) with h | h
  · have hm : i + 1 < xs.size := by omega
    have := h2 (i + 1) xs[i + 1] h (by simp [hm])
    have := rise_lt hr (Nat.lt_succ_self i) ha (show xs[i + 1]? = some xs[i + 1] by simp [hm])
    omega
  · omega
theorem insert_rise (xs : Array Nat) (hr : Rise xs) (j : Nat) (hj : xs[SetTable.below xs j]? ≠ some j) : Rise (SetTable.insertAt xs (SetTable.below xs j) j) := by
  obtain ⟨h1, h2, h3⟩ := below_spec xs hr j
  generalize SetTable.below xs j = p at *
  unfold Rise SetTable.insertAt
  have e : (((xs.extract 0 p).push j) ++ xs.extract p xs.size).toList = xs.toList.take p ++ j :: xs.toList.drop p := by
    simp
    exact List.take_of_length_le (by simp)
  rw [e]
  have hr' : xs.toList.Pairwise (· < ·) := hr
  have hs : xs.toList = xs.toList.take p ++ xs.toList.drop p := (List.take_append_drop p xs.toList).symm
  rw [hs] at hr'
  obtain ⟨q1, q2, q3⟩ := List.pairwise_append.mp hr'
  refine List.pairwise_append.mpr ⟨q1, List.pairwise_cons.mpr ⟨fun b hb => ?_, q2⟩, fun a ha b hb => ?_⟩
  · obtain ⟨i, hi, e2⟩ := List.getElem_of_mem hb
    have hi' : p + i < xs.toList.length := by simp at hi ⊢; omega
    have e3 : xs[p + i]? = some b := by
      rw [List.getElem_drop] at e2
      rw [← e2]
      simp at hi'
      simp [hi']
    have := h3 (p + i) b (Nat.le_add_right _ _) e3
    rcases Nat.lt_or_ge j b with h | h
    · exact h
    · have e4 : b = j := by omega
      subst e4
      rcases Nat.eq_zero_or_pos i with rfl | hi0
      · exact absurd e3 hj
      · have hp : p < xs.size := by simp at hi'; omega
        have := rise_lt hr (show p < p + i by omega) (show xs[p]? = some xs[p] by simp [hp]) e3
        have := h3 p xs[p] (Nat.le_refl _) (by simp [hp])
        omega
  · rcases List.mem_cons.mp hb with rfl | hb
    · obtain ⟨i, hi, e2⟩ := List.getElem_of_mem ha
      simp at hi
      rw [List.getElem_take] at e2
      have hi1 : i < p := by omega
      have hi2 : i < xs.size := by omega
      exact h2 i a hi1 (by rw [← e2]; simp [hi2])
    · exact q3 a ha b hb
end PL

set_option Elab.async false
set_option linter.all false
set_option maxRecDepth 100000
namespace PL
open PySem PySem.Spec PyProof.Rows
/-- a table as a set of this program has it -/
noncomputable def TOk (led : Bool) (t : SetTable) : Prop := t.led = led ∧ (t.plain = true → Rise t.place)
theorem tok_fresh (led : Bool) : TOk led (.fresh 0 0 led) := ⟨rfl, fun _ => List.Pairwise.nil⟩
noncomputable def NotLive (t : SetTable) (j : Nat) : Prop := t.place[SetTable.below t.place j]? ≠ some j
theorem notLive_of {t : SetTable} {j : Nat} (h : ∀ i, t.slot j ≠ .live i) : NotLive t j := fun e => by
  refine h (SetTable.below t.place j) ?_
  unfold SetTable.slot
  simp only [e]
  rw [if_pos (by simp)]
theorem probe_free (t : SetTable) (f : Nat → Int) (h : Int) : ∀ (fuel : Nat) (p : SetTable.Probe) (j : Nat) (d : Option Nat), (∀ x, p.dummy = some x → NotLive t x) → SetTable.probe.go t f h fuel p = some (.empty j d) → NotLive t (d.getD j) := by
  intro fuel
  induction fuel with
  | zero => intro p j d _ e; cases e
  | succ fuel ih =>
    intro p j d hd e
    unfold SetTable.probe.go at e
    have adv : ∀ q : SetTable.Probe, (t.advance q).dummy = q.dummy := fun q => by unfold SetTable.advance; split <;> rfl
    split at e
    · rename_i hs
      injection e with e
      injection e with e1 e2
      subst e1 e2
      cases hdm : p.dummy with
      | none => exact notLive_of fun i z => by rw [show (none : Option Nat).getD p.j = p.j from rfl, hs] at z; cases z
      | some x => exact hd x hdm
    · rename_i hs
      refine ih _ j d (fun x hx => ?_) e
      rw [adv] at hx
      injection hx with hx
      subst hx
      exact notLive_of fun i z => by rw [hs] at z; cases z
    · split at e
      · cases e
      · exact ih _ j d (fun x hx => hd x (by rw [adv] at hx; exact hx)) e
theorem freeSlot_not {t : SetTable} {h : Int} {j : Nat} {b : Bool} (e : t.freeSlot h = some (j, b)) : NotLive t j := by
  unfold SetTable.freeSlot at e
  split at e
  · rename_i j' d hp
    injection e with e
    injection e with e1 e2
    subst e1
    exact probe_free t _ _ _ _ j' d (fun x hx => by cases hx) hp
  · cases e
theorem tok_orStandIn {led : Bool} {t : SetTable} (h : TOk led t) (n : Nat) : TOk led (t.orStandIn n) := by
  unfold SetTable.orStandIn
  split
  · exact h
  · exact ⟨h.1, fun hp => by cases hp⟩
theorem tok_put {led : Bool} {t : SetTable} (h : TOk led t) {j : Nat} (hj : NotLive t j) : TOk led (t.put j).1 := ⟨h.1, fun hp => insert_rise t.place (h.2 hp) j hj⟩
theorem tok_layNew {led : Bool} {t : SetTable} (h : TOk led t) (es : Array (Int × Value)) (hh : Int) (x : Value) : TOk led (layNew t es hh x).2.1 := by
  unfold layNew
  split
  · rename_i j wd e
    exact tok_orStandIn (tok_put h (freeSlot_not e)) _
  · exact ⟨h.1, fun hp => by cases hp⟩
theorem range_rise (f : Nat → Option (Nat × Nat)) (hf : ∀ j a, f j = some a → a.1 = j) (n : Nat) : Rise ((((List.range n).filterMap f).map (·.1)).toArray) := by
  unfold Rise
  simp only [List.toList_toArray]
  rw [List.pairwise_map]
  rw [List.pairwise_filterMap]
  refine List.Pairwise.imp ?_ List.pairwise_lt_range
  intro a b hab x hx y hy
  rw [hf a x hx, hf b y hy]
  exact hab
theorem tok_relayAll {led : Bool} {t : SetTable} (h : TOk led t) (es : Array (Int × Value)) (wanted : Nat) : TOk led (relayAll t es wanted).2.1 := by
  unfold relayAll
  split
  · rename_i t' order e
    simp only
    split
    · unfold SetTable.relaid SetTable.laid at e
      simp only [Option.bind_eq_bind, Option.bind_eq_some_iff, Option.pure_def, Option.some.injEq, Prod.mk.injEq] at e
      obtain ⟨owner, _, e1, _⟩ := e
      subst e1
      exact ⟨h.1, fun _ => range_rise _ (fun j a ha => by
        rw [Option.map_eq_some_iff] at ha
        obtain ⟨k, _, rfl⟩ := ha
        rfl) _⟩
    · exact ⟨h.1, fun hp => by cases hp⟩
  · exact ⟨h.1, fun hp => by cases hp⟩
end PL

set_option Elab.async false
set_option linter.all false
set_option maxRecDepth 100000
namespace PL
open PySem PySem.Spec PyProof.Rows
/-! ### a set of ints, with its table -/
noncomputable def ival : Value → Int
  | .int n _ => n
  | _ => 0
noncomputable def keysOf (l : List (Int × Value)) : List Int := l.map fun e => ival e.2
section
variable {prog : Program} {w : World}
theorem key_int {l : List (Int × Value)} (h : ElemsOf (intKind prog w) l) {e : Int × Value} (he : e ∈ l) : ∃ t, e.2 = .int (ival e.2) t := by
  obtain ⟨⟨k, hk, _⟩, _⟩ := h e he
  obtain ⟨t, q⟩ := Value.isInt_shape (k := k) (v := e.2) hk
  exact ⟨t, by rw [q]; rfl⟩
theorem is_ival {l : List (Int × Value)} (h : ElemsOf (intKind prog w) l) {e : Int × Value} (he : e ∈ l) (n : Int) : (intKind prog w).is n e.2 = decide (n = ival e.2) := by
  obtain ⟨t, q⟩ := key_int h he
  rw [q]
  exact KeyKind.is_eq_decide (intKind_is _ _ _ _) n
/-- the set at a: these ints, each once -/
noncomputable def SetJ (prog : Program) (w : World) (led : Bool) (h : Heap) (a : Addr) (ms : List Int) : Prop :=
  ∃ o es ep t, h.get? a = some o ∧ o.ExactSet ∧ o.data = .set es ep t ∧ ElemsOf (intKind prog w) es.toList ∧ (keysOf es.toList).Perm ms ∧ es.size < scanBound ∧ t.fits es.size = true ∧ TOk led t
theorem SetJ.at {led : Bool} {h h' : Heap} {a : Addr} {ms : List Int} (j : SetJ prog w led h a ms) (k : ∀ o, h.get? a = some o → h'.get? a = some o) : SetJ prog w led h' a ms := by
  obtain ⟨o, es, ep, t, ho, r⟩ := j
  exact ⟨o, es, ep, t, k o ho, r⟩
theorem stored {led : Bool} {h : Heap} {a : Addr} {o : Obj} {es es' : Array (Int × Value)} {ep : Nat} {t t' : SetTable} {ms : List Int} (ho : h.get? a = some o) (hx : o.ExactSet) (hd : o.data = .set es ep t)
    (el : ElemsOf (intKind prog w) es'.toList) (pm : (keysOf es'.toList).Perm ms) (sz : es'.size < scanBound) (ft : t'.fits es'.size = true) (tk : TOk led t') :
    (h.update a (Obj.putSet es' t')).get? a = some { o with data := .set es' (ep + 1) t' } ∧ SetJ prog w led (h.update a (Obj.putSet es' t')) a ms := by
  have g : (h.update a (Obj.putSet es' t')).get? a = some { o with data := .set es' (ep + 1) t' } := by
    have q := Heap.get?_update_self (Obj.putSet es' t') ho (by rw [putSet_of es' t' hd]; rfl)
    rwa [putSet_of es' t' hd] at q
  exact ⟨g, _, es', ep + 1, t', g, hx, rfl, el, pm, sz, ft, tk⟩
variable {A : Around} {E : Value → Shared → Prop} {s : Shared}
theorem add_int {led : Bool} {a : Addr} {n : Int} {tk : Tok} {ms : List Int} {Q : Bool → Shared → Prop} (J : SetJ prog w led s.heap a ms) (room : ms.length + 1 < scanBound)
    (h : ∀ b h', Heap.SameBut a s.heap h' → SetJ prog w led h' a (if n ∈ ms then ms else ms ++ [n]) → Q b { s with heap := h' }) :
    wpAny (model prog w) A (setAddHashed a (.int n tk) ((intKind prog w).hash n)) Q E s := by
  obtain ⟨o, es, ep, t, ho, hx, hd, el, pm, sz, ft, tok⟩ := J
  have hkey : (intKind prog w).is n (.int n tk) = true := intKind_is _ _ _ _
  have lenE : es.size = ms.length := by have := pm.length_eq; simp [keysOf] at this; exact this
  unfold setAddHashed setAddHashedIn
  refine wpAny_holding (wpAny_bind (wpAny_setState_of ho hd ft ?_))
  simp only
  rw [byScan_of (knd := intKind prog w) rfl sz el, if_pos rfl]
  unfold setAddByScan
  refine wpAny_bind (wpAny_bind (wpAny_rule (wpAny_bind (wpAny_setScan_of hkey ho hd ft el ?_))))
  cases hr : List.findIdx? (fun e => (intKind prog w).is n e.2) es.toList with
  | some j =>
    obtain ⟨hj, hp, _⟩ := List.findIdx?_eq_some_iff_getElem.mp hr
    have hm : n ∈ ms := by
      refine pm.mem_iff.mp ?_
      rw [is_ival el (List.getElem_mem hj)] at hp
      exact List.mem_map.mpr ⟨es.toList[j], List.getElem_mem hj, (of_decide_eq_true hp).symm⟩
    refine wpAny_pure (wpAny_pure ?_)
    have q := h false s.heap (Heap.SameBut.refl a s.heap) ⟨o, es, ep, t, ho, hx, hd, el, by rw [if_pos hm]; exact pm, sz, ft, tok⟩
    exact q
  | none =>
    have hm : n ∉ ms := fun z => by
      obtain ⟨e, he, q⟩ := List.mem_map.mp (pm.mem_iff.mpr z)
      have q2 := List.findIdx?_eq_none_iff.mp hr e he
      rw [is_ival el he, decide_eq_true q.symm] at q2
      cases q2
    have pr := layNew_perm t es ((intKind prog w).hash n) (.int n tk)
    have fi := layNew_fits t es ((intKind prog w).hash n) (.int n tk)
    have to := tok_layNew tok es ((intKind prog w).hash n) (.int n tk)
    simp only
    generalize layNew t es ((intKind prog w).hash n) (.int n tk) = Y at pr fi to ⊢
    obtain ⟨es1, t1, wd, gv⟩ := Y
    simp only at pr fi to ⊢
    rw [Array.toList_push] at pr
    have el1 : ElemsOf (intKind prog w) es1.toList := (el.push hkey rfl).perm pr
    have pm1 : (keysOf es1.toList).Perm (if n ∈ ms then ms else ms ++ [n]) := by
      rw [if_neg hm]
      refine (pr.map _).trans ?_
      rw [List.map_append]
      exact pm.append_right _
    have sz1 : es1.size < scanBound := by
      have q := pr.length_eq
      simp at q
      omega
    have gw : ∀ (b : Bool) (s1 : Shared) (Q' : Unit → Shared → Prop), Q' () s1 → wpAny (model prog w) A (match b with | true => rule "set.scan.the-table-gave-way" | false => pure ()) Q' E s1 := fun b s1 Q' q => by
      cases b
      · exact wpAny_pure q
      · exact wpAny_rule q
    refine wpAny_bind (gw _ _ _ ?_)
    -- the store, and the table laid anew where it is full
    have tail : ∀ t2 : SetTable, t2.fits es1.size = true → TOk led t2 → wpAny (model prog w) A (do
        storeSet a es1 t2
        if (!wd && t2.tooFull) = true then do
            (match (relayAll t2 es1 (SetTable.grown es1.size)).2.2 with | true => rule "set.scan.the-table-gave-way" | false => pure ())
            storeSet a (relayAll t2 es1 (SetTable.grown es1.size)).1 (relayAll t2 es1 (SetTable.grown es1.size)).2.1
            pure (some true)
          else pure (some true)) (fun r s' => wpAny (model prog w) A (match r with | some added => pure added | none => setAddHashedIn a (.int n tk) ((intKind prog w).hash n) 99999) Q E s') E s := fun t2 ft2 to2 => by
      obtain ⟨g1, j1⟩ := stored (led := led) ho hx hd el1 pm1 sz1 ft2 to2
      refine wpAny_bind (wpAny_storeSet_of ho hd ?_ (fits_of_scanBound sz1))
      have sb1 := Heap.SameBut.update s.heap a (Obj.putSet es1 t2)
      split
      · have pr2 := relayAll_perm t2 es1 (SetTable.grown es1.size)
        have fi2 := relayAll_fits t2 es1 (SetTable.grown es1.size)
        have to3 := tok_relayAll to2 es1 (SetTable.grown es1.size)
        generalize relayAll t2 es1 (SetTable.grown es1.size) = Z at pr2 fi2 to3 ⊢
        obtain ⟨es2, t3, gv2⟩ := Z
        simp only at pr2 fi2 to3 ⊢
        have sz2 : es2.size < scanBound := by
          have q := pr2.length_eq
          simp at q
          omega
        obtain ⟨g2, j2⟩ := stored (led := led) (ms := if n ∈ ms then ms else ms ++ [n]) g1 hx rfl (el1.perm pr2) ((pr2.map _).trans pm1) sz2 fi2 to3
        refine wpAny_bind (gw _ _ _ (wpAny_bind (wpAny_storeSet_of g1 rfl ?_ (fits_of_scanBound sz2))))
        exact wpAny_pure (wpAny_pure (h _ _ (sb1.trans (Heap.SameBut.update _ a _)) j2))
      · exact wpAny_pure (wpAny_pure (h _ _ sb1 j1))
    split
    · refine wpAny_bind ?_
      rw [hashByValue_scannable 8 (x := .int n tk) rfl]
      refine wpAny_pure ?_
      simp only [plainKind, if_true]
      exact tail t1 fi to
    · refine wpAny_bind (wpAny_pure ?_)
      simp only [if_true]
      exact tail t1 fi to
end
end PL

set_option Elab.async false
set_option linter.all false
set_option maxRecDepth 100000
namespace PL
open PySem PySem.Spec PyProof.Rows
/-- the first n of them, each once -/
noncomputable def onceOf (val : Nat → Int) : Nat → List Int
  | 0 => []
  | i + 1 => if val i ∈ onceOf val i then onceOf val i else onceOf val i ++ [val i]
theorem once_len (val : Nat → Int) : ∀ i, (onceOf val i).length ≤ i
  | 0 => Nat.le_refl _
  | i + 1 => by
    have := once_len val i
    unfold onceOf
    split
    · omega
    · rw [List.length_append]; simp; omega
theorem once_nodup (val : Nat → Int) : ∀ i, (onceOf val i).Nodup
  | 0 => List.Pairwise.nil
  | i + 1 => by
    have := once_nodup val i
    unfold onceOf
    split
    · exact this
    · rename_i h
      refine List.nodup_append.mpr ⟨this, by simp, fun a ha b hb => ?_⟩
      simp at hb
      subst hb
      exact fun z => h (z ▸ ha)
theorem once_mem (val : Nat → Int) (x : Int) : ∀ i, x ∈ onceOf val i ↔ ∃ j, j < i ∧ val j = x
  | 0 => by simp [onceOf]
  | i + 1 => by
    have ih := once_mem val x i
    have key : x ∈ onceOf val (i + 1) ↔ x ∈ onceOf val i ∨ x = val i := by
      show x ∈ (if val i ∈ onceOf val i then onceOf val i else onceOf val i ++ [val i]) ↔ _
      split
      · rename_i h
        exact ⟨.inl, fun z => z.elim id fun z => z ▸ h⟩
      · simp
    rw [key, ih]
    constructor
    · rintro (⟨j, h1, h2⟩ | h)
      · exact ⟨j, by omega, h2⟩
      · exact ⟨i, by omega, h.symm⟩
    · rintro ⟨j, h1, h2⟩
      by_cases q : j = i
      · subst q; exact .inr h2.symm
      · exact .inl ⟨j, by omega, h2⟩
section
variable {prog : Program} {w : World} {A : Around} {R : Result → Shared → Prop} {I : Addr} {fp wr : List Addr} {G : Array GenState → Array GenState → Prop} {n : Nat} {P : Nat → Value → Prop} {St : Nat → Shared → Prop}
theorem upd_loop (W : WalksS prog w A.in1 I fp wr G n P St) (S : Addr) (hSf : S ∉ fp) (led : Bool)
    (val : Nat → Int) (hval : ∀ i v, P i v → ∃ t, v = .int (val i) t) (hb : n + 1 < scanBound) :
    ∀ (k i : Nat) (s : Shared), n - i = k → i ≤ n → St i s → SetJ prog w led s.heap S (onceOf val i) →
      (∀ s', Moved (S :: wr) G s s' → SetJ prog w led s'.heap S (onceOf val n) → R (.ok (.ret .none)) s') →
      codeAny (model prog w) A (.builtin "set.update.loop" ⟨[.ref S, .ref I], []⟩) R s := by
  have sw : S ∉ wr := fun z => hSf (W.sub _ z)
  have wider : ∀ c ∈ wr, c ∈ S :: wr := fun c z => List.mem_cons_of_mem _ z
  intro k
  induction k with
  | zero =>
    intro i s hk hi st J out
    have e : i = n := by omega
    subst e
    refine codeAny_builtin F.entry_set_update_loop ?_
    rw [Around.under_plainId F.plain_set_update_loop _]
    refine wpAny_bind (W.done s _ _ st fun s1 mv => ?_)
    exact wpAny_pure (out s1 (mv.mono wider) (J.at fun o q => mv.heap S o sw q))
  | succ k ih =>
    intro i s hk hi st J out
    refine codeAny_builtin F.entry_set_update_loop ?_
    rw [Around.under_plainId F.plain_set_update_loop _]
    refine wpAny_bind (W.item i s _ _ (by omega) st fun v s1 hp st1 mv => ?_)
    obtain ⟨t, rfl⟩ := hval i v hp
    have J1 : SetJ prog w led s1.heap S (onceOf val i) := J.at fun o q => mv.heap S o sw q
    show wpAny _ A.in1 (holding [Value.int (val i) t] (setAdd S (.int (val i) t)) >>= _) _ _ s1
    refine wpAny_bind (wpAny_holding ?_)
    unfold setAdd
    refine wpAny_holding (wpAny_bind ((intKind prog w).pyHash (k := val i) (intKind_is _ _ _ _) ?_))
    have room : (onceOf val i).length + 1 < scanBound := by have := once_len val i; omega
    refine add_int (s := { s1 with toks := s1.toks + 1 }) J1 room fun b h' sb J2 => ?_
    refine wpAny_pure ⟨plainId_quiet F.plain_set_update_loop _, ih (i + 1) _ (by omega) (by omega) (W.frame _ s1 _ _ st1 (Nat.le_succ _) fun c hc o q => ?_) J2 fun s2 mv2 J3 => ?_⟩
    · rw [sb.2 c (fun z : c = S => hSf (z ▸ hc))]; exact q
    · refine out s2 (Moved.trans W.gtrans ((mv.mono wider).then_heap (Nat.le_succ _) fun c o hc q => ?_) mv2) J3
      rw [sb.2 c (fun z : c = S => hc (by rw [z]; exact List.mem_cons_self))]; exact q
end
end PL

set_option Elab.async false
set_option linter.all false
set_option maxRecDepth 100000
namespace PL
open PySem PySem.Spec PyProof.Rows
/-- are sets walked as the text of the world says? -/
noncomputable def byT (w : World) : Bool := w.params.followText "set-order"
noncomputable def freshSet (b : Bool) : Obj := { cls := .type "set", dict := none, data := .set #[] 0 (.fresh 0 0 b) }
theorem tuple_not_set : isSubtype (.type "tuple") (.type "set") = pure false := by rw [isSubtype_type]; kernel_rfl
theorem tuple_not_frozen : isSubtype (.type "tuple") (.type "frozenset") = pure false := by rw [isSubtype_type]; kernel_rfl
section
variable {prog : Program} {w : World} {A : Around} {E : Value → Shared → Prop} {s : Shared}
theorem made_set (v : Value) {Z : Value → Shared → Prop} (h : Z (.ref s.heap.objs.size) { s with heap := s.heap.push (freshSet (!byT w)) }) :
    codeAny (model prog w) A (.call (.builtin "set.__new__") ⟨[.type "set", v], []⟩) (wants Z E) s := by
  refine codeAny_of_tree (show wpAny _ A.in1 (do checkBuiltinCall "set.__new__" ⟨[.type "set", v], []⟩; again (.builtin "set.__new__" ⟨[.type "set", v], []⟩)) _ _ s from ?_)
  refine wpAny_bind (wpAny_of_eq (F.newCall_set_1 v) (wpAny_pure ⟨plainId_quiet F.plain_set_new _, codeAny_builtin F.entry_set_new ?_⟩))
  rw [Around.under_plainId F.plain_set_new _]
  unfold Builtin.«set.__new__» Builtin.Frozenset.newClass
  have sb := sub_set_self
  obtain ⟨hp, g, d, tk, os⟩ := s
  simp only
  wp_walk
  refine wpAny_askSetting (wpAny_pure ?_)
  simp only [newObj]
  exact wpAny_bind (wpAny_alloc (wpAny_pure (wpAny_pure h)))
end
section
variable {prog : Program} {w : World} {A : Around} {E : Value → Shared → Prop} {s : Shared}
set_option maxHeartbeats 3200000 in
theorem call_set_tup {l : Addr} {its : Array Value} {ns : List Int} {Q : Value → Shared → Prop} (hh : A.handled = none) (hl : IsTup s.heap l its) (hi : IntsAre its.toList ns) (hb : its.size + 1 < scanBound)
    (h : ∀ (h' : Heap) (tk : Nat), SetJ prog w (!byT w) h' s.heap.objs.size (onceOf (fun i => ns.getD i 0) its.size) → (∀ b o, s.heap.get? b = some o → h'.get? b = some o) → Q (.ref s.heap.objs.size) { s with heap := h', toks := tk }) :
    wpAny (model prog w) A (call (.type "set") [.ref l]) Q E s := by
  obtain ⟨cc, tl, hmro⟩ := F.called_set.mro
  have mde := F.called_set.made
  have sbt := F.called_set.sub
  refine wpAny_call (codeAny_of_tree (show wpAny _ _ (callAny (.type "set") _) _ _ _ from ?_))
  refine wpAny_pure ⟨Code.quiet_builtin _ (by decide +kernel), codeAny_builtin F.entry_type_call ?_⟩
  rw [Around.under_plain (weight_type_call_type "set" [.ref l] []) rfl]
  have nt := F.called_set.notType
  have ccr := F.called_set.canCreate
  have tcl := F.typeCall_set_1 (.ref l)
  repeat (any_goals first | assumption | wp_step)
  refine codeAny_mono (made_set (.ref l) (E := E) (Z := fun obj s1 => obj = .ref s.heap.objs.size ∧ s1 = { s with heap := s.heap.push (freshSet (!byT w)) }) ⟨rfl, rfl⟩) fun r s1 hr => ?_
  cases r with
  | error e => exact hr
  | ok fl =>
    cases fl with
    | ret obj =>
      obtain ⟨rfl, rfl⟩ := hr
      have gS : (s.heap.push (freshSet (!byT w))).get? s.heap.objs.size = some (freshSet (!byT w)) := Heap.get?_push_size _ rfl
      have tS : Shared.TypeIs { s with heap := s.heap.push (freshSet (!byT w)) } (.ref s.heap.objs.size) "set" := ⟨_, gS, rfl⟩
      have li := F.called_set.init.lookup
      have bi := F.called_set.init.bind (.ref s.heap.objs.size)
      repeat (any_goals first | assumption | wp_step)
      refine codeAny_mono (codeAny_call_builtin (R := wants (fun r s2 => r = .none ∧ ∃ h' tk, s2 = { s with heap := h', toks := tk } ∧
          SetJ prog w (!byT w) h' s.heap.objs.size (onceOf (fun i => ns.getD i 0) its.size) ∧ ∀ b o, s.heap.get? b = some o → h'.get? b = some o) E) F.called_set.init.plain F.entry_set_init (check_set_init_1 tS ?_)) fun r2 s2 hr2 => ?_
      · obtain ⟨ol, hol, hcl, nl, hdl⟩ := id hl
        obtain ⟨ocls, odict, odata, oslots⟩ := ol
        simp only at hcl hdl
        subst hcl; subst hdl
        have hol' : (s.heap.push (freshSet (!byT w))).get? l = some { cls := .type "tuple", dict := odict, data := .seq its nl, slots := oslots } := Heap.get?_push_of_some _ hol
        have n1 := tuple_not_set
        have n2 := tuple_not_frozen
        have n3 : (Value.type "tuple" == Value.type "dict") = false := by decide
        have hl1 : (s.heap.push (freshSet (!byT w))).IsTuple l its := ⟨_, hol', rfl, nl, rfl⟩
        unfold Builtin.«set.__init__» noKeywords Builtin.Frozenset.updateFrom
        generalize hPI : pyIter = PI
        wp_walk
        subst hPI
        refine wpAny_pyIter_tuple hl1 (wpAny_bind (wpAny_runValue ?_))
        have lS : l < s.heap.objs.size := Heap.lt_size hol
        have hh3 : A.in1.in1.in1.handled = none := by simp [hh]
        have neI : l ≠ (s.heap.push (freshSet (!byT w))).objs.size := by rw [Heap.size_push]; exact Nat.ne_of_lt (Nat.lt_succ_of_lt lS)
        have nSf : s.heap.objs.size ∉ [(s.heap.push (freshSet (!byT w))).objs.size, l] := by
          rw [Heap.size_push]
          simp only [List.mem_cons, List.not_mem_nil, or_false, not_or]
          exact ⟨Nat.ne_of_lt (Nat.lt_succ_self _), Nat.ne_of_gt lS⟩
        have vl : ∀ (i : Nat) (v : Value), its[i]? = some v → ∃ t, v = .int ((fun i => ns.getD i 0) i) t := fun i v hv => IntsAre.int_at hi i v (by simpa using hv)
        refine upd_loop ((Walks.tuple hh3 _ l neI its).toS) s.heap.objs.size nSf (!byT w) (fun i => ns.getD i 0) vl hb (its.size - 0) 0 _ (by omega) (Nat.zero_le _) ⟨⟨_, Heap.get?_push_size _ rfl, rfl, rfl⟩, hl1.at fun o q => Heap.get?_push_of_some _ q⟩ ?j0 ?out
        case j0 =>
          exact ⟨_, #[], 0, _, Heap.get?_push_of_some _ gS, ⟨rfl, rfl, rfl⟩, rfl, fun e he => by simp at he, List.Perm.refl _, by decide, by rfl, tok_fresh _⟩
        case out =>
          intro s3 mv J3
          obtain ⟨h', g', d', tk', os'⟩ := s3
          have eg : g' = s.gens := mv.gens
          have ed : d' = s.drawn := mv.drawn
          have eo : os' = s.os := mv.os
          subst eg; subst ed; subst eo
          refine wpAny_pure (show wpAny _ _ (ret Value.none) _ _ _ from wpAny_pure ⟨rfl, h', tk', rfl, J3, fun b o q => ?_⟩)
          have lt : b < s.heap.objs.size := Heap.lt_size q
          refine mv.heap b o ?_ (Heap.get?_push_of_some _ (Heap.get?_push_of_some _ q))
          rw [Heap.size_push]
          simp only [List.mem_cons, List.not_mem_nil, or_false, not_or]
          exact ⟨Nat.ne_of_lt lt, Nat.ne_of_lt (Nat.lt_succ_of_lt lt)⟩
      · cases r2 with
        | error e => exact hr2
        | ok fl2 =>
          cases fl2 with
          | ret r =>
            obtain ⟨rfl, h', tk, rfl, J', k'⟩ := hr2
            repeat (any_goals first | assumption | wp_step)
            exact h _ _ J' k'
          | _ => exact hr2.elim
    | _ => exact hr.elim
end
end PL

set_option Elab.async false
set_option linter.all false
set_option maxRecDepth 100000
namespace PL
open PySem PySem.Spec PyProof.Rows
theorem slot_set_iter : Slot "set" "__iter__" "set.__iter__" :=
  .of (owner := "set") (n := "__iter__") (by rw [typeLookup_type, builtinLookup_eq_fast]; kernel_rfl) (by decide +kernel) (by decide +kernel) (by decide +kernel) (by first | exact .inl (by decide +kernel) | exact .inr (by decide +kernel)) (by rw [isSubtype_type]; kernel_rfl)
theorem entry_set_iter : entryFor table "set.__iter__" = some Builtin.«frozenset.__iter__» := entryFor_alias (id' := "frozenset.__iter__") (by kernel_rfl) rfl (by decide +kernel) (by kernel_rfl)
theorem args_set_iter (a : Value) : argsOk "set.__iter__" ⟨[a], []⟩ := by unfold argsOk; kernel_rfl
theorem slot_setit_next : Slot "set_iterator" "__next__" "set_iterator.__next__" :=
  .of (owner := "set_iterator") (n := "__next__") (by rw [typeLookup_type, builtinLookup_eq_fast]; kernel_rfl) (by decide +kernel) (by decide +kernel) (by decide +kernel) (by first | exact .inl (by decide +kernel) | exact .inr (by decide +kernel)) (by rw [isSubtype_type]; kernel_rfl)
theorem entry_setit_next : entryFor table "set_iterator.__next__" = some Builtin.«set_iterator.__next__» := entryFor_of_fast (by kernel_rfl)
theorem args_setit_next (a : Value) : argsOk "set_iterator.__next__" ⟨[a], []⟩ := by unfold argsOk; kernel_rfl
theorem slot_setit_iter : Slot "set_iterator" "__iter__" "set_iterator.__iter__" :=
  .of (owner := "set_iterator") (n := "__iter__") (by rw [typeLookup_type, builtinLookup_eq_fast]; kernel_rfl) (by decide +kernel) (by decide +kernel) (by decide +kernel) (by first | exact .inl (by decide +kernel) | exact .inr (by decide +kernel)) (by rw [isSubtype_type]; kernel_rfl)
theorem entry_setit_iter : entryFor table "set_iterator.__iter__" = some Builtin.«dict_keyiterator.__iter__» := entryFor_alias (id' := "dict_keyiterator.__iter__") (by kernel_rfl) rfl (by decide +kernel) (by kernel_rfl)
theorem args_setit_iter (a : Value) : argsOk "set_iterator.__iter__" ⟨[a], []⟩ := by unfold argsOk; kernel_rfl
end PL

set_option Elab.async false
set_option linter.all false
set_option maxRecDepth 100000
namespace PL
open PySem PySem.Spec PyProof.Rows
noncomputable abbrev IsSetIt (h : Heap) (it a : Addr) (first : Value) (i n ep : Nat) : Prop :=
  h.get? it = some { cls := .type "set_iterator", dict := none, data := .fields #[first, rawInt i, .ref a, rawInt n, rawInt ep], slots := #[] }
section
variable {prog : Program} {w : World} {A : Around} {E : Value → Shared → Prop} {s : Shared}
theorem next_slot {it a : Addr} {o : Obj} {es : Array (Int × Value)} {ep : Nat} {t : SetTable} {slot i nx : Nat} {x : Value} {Q : Option Value → Shared → Prop} (hI : IsSetIt s.heap it a (rawInt slot) i es.size ep)
    (ho : s.heap.get? a = some o) (hd : o.data = .set es ep t) (ft : t.fits es.size = true)
    (hN : ∀ (A : Around) (Z : Option (Value × Nat) → Shared → Prop) (E : Value → Shared → Prop), Z (some (x, nx)) s → wpAny (model prog w) A (setNext a slot i ep) Z E s)
    (hQ : ∀ h', IsSetIt h' it a (rawInt nx) (i + 1) es.size ep → Heap.SameBut it s.heap h' → Q (some x) { s with heap := h' }) :
    wpAny (model prog w) A (pyNext (.ref it)) Q E s := by
  have ty : s.TypeIs (.ref it) "set_iterator" := ⟨_, hI, rfl⟩
  unfold pyNext
  refine wpAny_bind (wpAny_attempt (wpAny_callSpecial?_slot (name := Str.ofString "__next__") ty slot_setit_next (wpAny_call_entry slot_setit_next ty entry_setit_next ?_ (args_setit_next _))))
  show wpAny _ _ (fieldsOf (.ref it) >>= _) _ _ s
  refine wpAny_bind (wpAny_fieldsOf hI rfl ?_)
  show wpAny _ _ (setEntries a >>= _) _ _ s
  refine wpAny_bind (wpAny_setEntries_of ho hd ft ?_)
  show wpAny _ _ (if ((es.size : Int) != (es.size : Int)) = true then _ else _) _ _ s
  rw [if_neg (by simp)]
  show wpAny _ _ (setNext a slot i ep >>= _) _ _ s
  refine wpAny_bind (hN _ _ _ ?_)
  show wpAny _ _ (setField (.ref it) 0 (rawInt nx) >>= _) _ _ s
  refine wpAny_bind (wpAny_setField_rec hI (by simp) fun h1 g1 b1 => ?_)
  show wpAny _ _ (setField (.ref it) 1 (rawInt ((i : Int) + 1)) >>= _) _ _ { s with heap := h1 }
  refine wpAny_bind (wpAny_setField_rec (s := { s with heap := h1 }) g1 (by simp) fun h2 g2 b2 => ?_)
  have b2' : Heap.SameBut it h1 h2 := b2
  exact wpAny_pure ⟨x, rfl, wpAny_pure (hQ h2 g2 (b1.trans b2'))⟩
theorem next_end {it a : Addr} {o : Obj} {es : Array (Int × Value)} {ep : Nat} {t : SetTable} {slot i : Nat} {Q : Option Value → Shared → Prop} (hh : A.handled = none) (hI : IsSetIt s.heap it a (rawInt slot) i es.size ep)
    (ho : s.heap.get? a = some o) (hd : o.data = .set es ep t) (ft : t.fits es.size = true)
    (hN : ∀ (A : Around) (Z : Option (Value × Nat) → Shared → Prop) (E : Value → Shared → Prop), Z none s → wpAny (model prog w) A (setNext a slot i ep) Z E s)
    (hQ : ∀ h', Heap.ExtBut it s.heap h' → Q none { s with heap := h' }) : wpAny (model prog w) A (pyNext (.ref it)) Q E s := by
  have ty : s.TypeIs (.ref it) "set_iterator" := ⟨_, hI, rfl⟩
  unfold pyNext
  refine wpAny_bind (wpAny_attempt (wpAny_callSpecial?_slot (name := Str.ofString "__next__") ty slot_setit_next (wpAny_call_entry slot_setit_next ty entry_setit_next ?_ (args_setit_next _))))
  show wpAny _ _ (fieldsOf (.ref it) >>= _) _ _ s
  refine wpAny_bind (wpAny_fieldsOf hI rfl ?_)
  show wpAny _ _ (setEntries a >>= _) _ _ s
  refine wpAny_bind (wpAny_setEntries_of ho hd ft ?_)
  show wpAny _ _ (if ((es.size : Int) != (es.size : Int)) = true then _ else _) _ _ s
  rw [if_neg (by simp)]
  show wpAny _ _ (setNext a slot i ep >>= _) _ _ s
  refine wpAny_bind (hN _ _ _ ?_)
  show wpAny _ _ (setField (.ref it) 2 .none >>= _) _ _ s
  refine wpAny_bind (wpAny_setField hI rfl (by simp) ?_)
  show wpAny _ _ (newExc (.type "StopIteration") [] >>= _) _ _ _
  refine wpAny_bind ?_
  simp only [newExc, newTuple]
  refine (wpAny_bind (wpAny_newObj_type ?_ (by size_fits)))
  refine (wpAny_bind (m := firstArgMember _ _) (wpAny_of_eq (a := Value.none) (by first | rfl | (simp only [firstArgMember]; rfl)) ?_))
  refine (wpAny_newObj_type ?_ (by size_fits))
  simp only [raiseNew]
  refine (wpAny_bind (wpAny_handled ?_))
  rw [show Around.handled (Around.in1 A) = none from hh]
  refine (wpAny_bind (wpAny_pure (wpAny_throw ?_)))
  refine (wpAny_bind (wpAny_isInstance (T := "StopIteration") (b := true) ⟨_, Heap.get?_push_size _ rfl, rfl⟩ isSubtype_stop ?_))
  refine wpAny_pure (hQ _ ?_)
  exact ((Heap.SameBut.update ..).extBut.push _).push _
/-- a drawn order: the places are kept in a tuple -/
theorem next_drawn {it a T : Addr} {o : Obj} {es : Array (Int × Value)} {ep : Nat} {t : SetTable} {i p : Nat} {ps : Array Value} {x : Value} {Q : Option Value → Shared → Prop} (hI : IsSetIt s.heap it a (.ref T) i es.size ep)
    (hT : s.heap.get? T = some { cls := .type "tuple", data := .seq ps }) (ho : s.heap.get? a = some o) (hd : o.data = .set es ep t) (ft : t.fits es.size = true) (hp : ps[i]? = some (rawInt p)) (hx : (es[p]?).map (·.2) = some x)
    (hQ : ∀ h', IsSetIt h' it a (.ref T) (i + 1) es.size ep → Heap.SameBut it s.heap h' → Q (some x) { s with heap := h' }) :
    wpAny (model prog w) A (pyNext (.ref it)) Q E s := by
  have ty : s.TypeIs (.ref it) "set_iterator" := ⟨_, hI, rfl⟩
  unfold pyNext
  refine wpAny_bind (wpAny_attempt (wpAny_callSpecial?_slot (name := Str.ofString "__next__") ty slot_setit_next (wpAny_call_entry slot_setit_next ty entry_setit_next ?_ (args_setit_next _))))
  show wpAny _ _ (fieldsOf (.ref it) >>= _) _ _ s
  refine wpAny_bind (wpAny_fieldsOf hI rfl ?_)
  show wpAny _ _ (setEntries a >>= _) _ _ s
  refine wpAny_bind (wpAny_setEntries_of ho hd ft ?_)
  show wpAny _ _ (if ((es.size : Int) != (es.size : Int)) = true then _ else _) _ _ s
  rw [if_neg (by simp)]
  show wpAny _ _ (seqItems? (.ref T) >>= _) _ _ s
  refine wpAny_bind (wpAny_seqItems hT rfl ?_)
  simp only [Int.toNat_natCast, hp, rawInt]
  unfold setNextDrawn
  cases he : es[p]? with
  | none => rw [he] at hx; cases hx
  | some e =>
    obtain ⟨hh1, v⟩ := e
    rw [he] at hx
    injection hx with hx
    subst hx
    refine wpAny_bind (wpAny_bind (wpAny_setState_of ho hd ft ?_))
    simp only [Int.toNat_natCast, bne_self_eq_false, Bool.false_eq_true, if_false, he]
    refine wpAny_pure ?_
    show wpAny _ _ (setField (.ref it) 1 (rawInt ((i : Int) + 1)) >>= _) _ _ s
    refine wpAny_bind (wpAny_setField_rec hI (by simp) fun h2 g2 b2 => ?_)
    exact wpAny_pure ⟨v, rfl, wpAny_pure (hQ h2 g2 b2)⟩
theorem drawn_end {it a T : Addr} {o : Obj} {es : Array (Int × Value)} {ep : Nat} {t : SetTable} {i : Nat} {ps : Array Value} {Q : Option Value → Shared → Prop} (hh : A.handled = none) (hI : IsSetIt s.heap it a (.ref T) i es.size ep)
    (hT : s.heap.get? T = some { cls := .type "tuple", data := .seq ps }) (ho : s.heap.get? a = some o) (hd : o.data = .set es ep t) (ft : t.fits es.size = true) (hp : ps[i]? = none)
    (hQ : ∀ h', Heap.ExtBut it s.heap h' → Q none { s with heap := h' }) : wpAny (model prog w) A (pyNext (.ref it)) Q E s := by
  have ty : s.TypeIs (.ref it) "set_iterator" := ⟨_, hI, rfl⟩
  unfold pyNext
  refine wpAny_bind (wpAny_attempt (wpAny_callSpecial?_slot (name := Str.ofString "__next__") ty slot_setit_next (wpAny_call_entry slot_setit_next ty entry_setit_next ?_ (args_setit_next _))))
  show wpAny _ _ (fieldsOf (.ref it) >>= _) _ _ s
  refine wpAny_bind (wpAny_fieldsOf hI rfl ?_)
  show wpAny _ _ (setEntries a >>= _) _ _ s
  refine wpAny_bind (wpAny_setEntries_of ho hd ft ?_)
  show wpAny _ _ (if ((es.size : Int) != (es.size : Int)) = true then _ else _) _ _ s
  rw [if_neg (by simp)]
  show wpAny _ _ (seqItems? (.ref T) >>= _) _ _ s
  refine wpAny_bind (wpAny_seqItems hT rfl ?_)
  simp only [Int.toNat_natCast, hp, rawInt]
  refine wpAny_bind (wpAny_setField_rec hI (by simp) fun h1 g1 b1 => ?_)
  refine wpAny_bind (wpAny_setField (s := { s with heap := h1 }) g1 rfl (by simp) ?_)
  show wpAny _ _ (newExc (.type "StopIteration") [] >>= _) _ _ _
  refine wpAny_bind ?_
  simp only [newExc, newTuple]
  refine (wpAny_bind (wpAny_newObj_type ?_ (by size_fits)))
  refine (wpAny_bind (m := firstArgMember _ _) (wpAny_of_eq (a := Value.none) (by first | rfl | (simp only [firstArgMember]; rfl)) ?_))
  refine (wpAny_newObj_type ?_ (by size_fits))
  simp only [raiseNew]
  refine (wpAny_bind (wpAny_handled ?_))
  rw [show Around.handled (Around.in1 A) = none from hh]
  refine (wpAny_bind (wpAny_pure (wpAny_throw ?_)))
  refine (wpAny_bind (wpAny_isInstance (T := "StopIteration") (b := true) ⟨_, Heap.get?_push_size _ rfl, rfl⟩ isSubtype_stop ?_))
  refine wpAny_pure (hQ _ ?_)
  exact Heap.ExtBut.push (Heap.ExtBut.push (h' := h1.update it _) (fun b o hb q => (Heap.SameBut.update h1 it _).extBut b o hb (b1.extBut b o hb q)) _) _
end
end PL

set_option Elab.async false
set_option linter.all false
set_option maxRecDepth 100000
namespace PL
open PySem PySem.Spec PyProof.Rows
/-! ### orders in which a set is walked -/
theorem erase_perm {α : Type} : ∀ (l : List α) (i : Nat) (x : α), l[i]? = some x → (x :: l.eraseIdx i).Perm l
  | [], i, x, h => by simp at h
  | y :: l, 0, x, h => by simp at h; subst h; exact List.Perm.refl _
  | y :: l, i + 1, x, h => by
    simp only [List.getElem?_cons_succ] at h
    exact (List.Perm.swap _ _ _).trans ((erase_perm l i x h).cons _)
theorem pick_go {α : Type} (nx : Nat → Nat) : ∀ (fuel k : Nat) (left : List α) (out : Array α), left.length = fuel → (pickOrder.go nx fuel k left out).toList.Perm (out.toList ++ left)
  | 0, k, left, out, h => by
    have : left = [] := List.length_eq_zero_iff.mp h
    subst this
    simp [pickOrder.go]
  | fuel + 1, k, left, out, h => by
    have lt : nx k % left.length < left.length := Nat.mod_lt _ (by omega)
    unfold pickOrder.go
    cases e : left[nx k % left.length]? with
    | none => simp at e; omega
    | some x =>
      simp only
      have len : (left.eraseIdx (nx k % left.length)).length = fuel := by rw [List.length_eraseIdx, if_pos lt]; omega
      refine (pick_go nx fuel (k + 1) _ _ len).trans ?_
      rw [Array.toList_push, List.append_assoc]
      exact (erase_perm left _ x e).append_left _
theorem pick_perm {α : Type} (nx : Nat → Nat) (xs : Array α) : (pickOrder nx xs).toList.Perm xs.toList := by
  have := pick_go nx xs.size 0 xs.toList #[] (by simp)
  simpa [pickOrder] using this
section
variable {prog : Program} {w : World} {A : Around} {E : Value → Shared → Prop} {s : Shared}
theorem choose_any {src : Source} {n : Nat} {Q : Nat → Shared → Prop} (hn : n ≠ 0) (h : ∀ i d', i < n → Q i { s with drawn := d' }) : wpAny (model prog w) A (choose src n) Q E s :=
  fun _ _ _ => ⟨hn, h _ _ (Nat.mod_lt _ (Nat.pos_of_ne_zero hn))⟩
theorem draw_any {α : Type} : ∀ (n : Nat) (xs : List α) (s : Shared) (Q : List α → Shared → Prop), xs.length = n → (∀ L d', L.Perm xs → Q L { s with drawn := d' }) → wpAny (model prog w) A (drawOrder n xs) Q E s
  | 0, xs, s, Q, hl, h => by
    have e : xs = [] := List.length_eq_zero_iff.mp hl
    subst e
    exact wpAny_pure (h [] s.drawn (List.Perm.refl _))
  | n + 1, [], s, Q, hl, h => by simp at hl
  | n + 1, x :: xs, s, Q, hl, h => by
    unfold drawOrder
    refine wpAny_bind (choose_any (by simp) fun i d' hi => ?_)
    cases e : (x :: xs)[i]? with
    | none => simp at e hi; omega
    | some y =>
      simp only
      have len : ((x :: xs).eraseIdx i).length = n := by rw [List.length_eraseIdx, if_pos hi]; simp at hl ⊢; omega
      refine wpAny_bind (draw_any n _ _ _ len fun L d2 pm => wpAny_pure ?_)
      exact h (y :: L) d2 ((pm.cons _).trans (erase_perm _ _ _ e))
theorem text_is {Q : Bool → Shared → Prop} (h : Q (byT w) s) : wpAny (model prog w) A setsByText Q E s := by
  unfold setsByText
  exact wpAny_bind (wpAny_askSetting (wpAny_pure h))
theorem next_text {a : Addr} {o : Obj} {es : Array (Int × Value)} {ep : Nat} {t : SetTable} {slot i : Nat} {Z : Option (Value × Nat) → Shared → Prop} (hb : byT w = true) (ho : s.heap.get? a = some o) (hd : o.data = .set es ep t) (ft : t.fits es.size = true)
    (h : Z (((pickOrder (w.params.setOrder a ep) es)[i]?).map fun e => (e.2, slot)) s) : wpAny (model prog w) A (setNext a slot i ep) Z E s := by
  unfold setNext
  refine wpAny_bind (wpAny_setState_of ho hd ft ?_)
  simp only
  refine wpAny_bind (text_is ?_)
  rw [hb]
  simp only [if_true, bne_self_eq_false, Bool.false_eq_true, if_false]
  unfold setWalk
  refine wpAny_bind (wpAny_bind (wpAny_setState_of ho hd ft ?_))
  simp only
  refine wpAny_bind (text_is ?_)
  rw [hb]
  simp only [if_true]
  exact wpAny_bind (wpAny_askSetting (wpAny_pure (wpAny_pure h)))
theorem next_place {a : Addr} {o : Obj} {es : Array (Int × Value)} {ep : Nat} {t : SetTable} {slot i : Nat} {Z : Option (Value × Nat) → Shared → Prop} (hb : byT w = false) (ho : s.heap.get? a = some o) (hd : o.data = .set es ep t) (ft : t.fits es.size = true)
    (hp : (!t.plain && decide (es.size > 1)) = false) (hl : t.led = true)
    (h : Z (match es[SetTable.below t.place slot]?, t.place[SetTable.below t.place slot]? with | some (_, x), some j => some (x, j + 1) | _, _ => none) s) : wpAny (model prog w) A (setNext a slot i ep) Z E s := by
  unfold setNext
  refine wpAny_bind (wpAny_setState_of ho hd ft ?_)
  simp only
  refine wpAny_bind (text_is ?_)
  rw [hb]
  simp only [Bool.false_eq_true, if_false]
  show wpAny _ _ (if (!t.plain && decide (es.size > 1)) = true then _ else _) _ _ _
  rw [hp]
  simp only [Bool.false_eq_true, if_false]
  show wpAny _ _ ((if (!t.led && !es.isEmpty) = true then unsupported "set:maker-not-led" else pure ()) >>= _) _ _ _
  rw [hl]
  simp only [Bool.not_true, Bool.false_and, Bool.false_eq_true, if_false]
  exact wpAny_bind (wpAny_pure (wpAny_pure h))
/-- an iterator that keeps a slot -/
theorem walk_slot {it a : Addr} {o : Obj} {es : Array (Int × Value)} {ep : Nat} {t : SetTable} (hh : A.handled = none) (hne : a ≠ it) (hd : o.data = .set es ep t) (ft : t.fits es.size = true) (vals : List Value) (hv : vals.length = es.size) (Fs : Nat → Nat)
    (nx : ∀ (A : Around) (E : Value → Shared → Prop) (s : Shared) (Z : Option (Value × Nat) → Shared → Prop) (i : Nat), i ≤ vals.length → s.heap.get? a = some o → Z ((vals[i]?).map fun v => (v, Fs (i + 1))) s → wpAny (model prog w) A (setNext a (Fs i) i ep) Z E s) :
    Walks prog w A it [it, a] [it] vals.length (fun i v => vals[i]? = some v) (fun i h => IsSetIt h it a (rawInt (Fs i)) i es.size ep ∧ h.get? a = some o) where
  sub := fun b hb => by simp at hb; simp [hb]
  frame := fun i h h' st k => ⟨k it (by simp) _ st.1, k a (by simp) _ st.2⟩
  item := fun i s Q E hi st hQ => by
    refine next_slot (x := vals[i]) (nx := Fs (i + 1)) st.1 st.2 hd ft (fun A Z E z => nx A E s Z i (Nat.le_of_lt hi) st.2 (by simpa [hi] using z)) fun h' g b => ?_
    exact hQ vals[i] h' s.toks (by simp [hi]) ⟨g, (b.2 a hne).trans st.2⟩ fun c o' hc q => (b.2 c (fun z => hc (by simp [z]))).trans q
  done := fun s Q E st hQ => by
    refine next_end hh st.1 st.2 hd ft (fun A Z E z => nx A E s Z vals.length (Nat.le_refl _) st.2 (by simpa using z)) fun h' g => ?_
    exact hQ h' s.toks fun c o' hc q => g c o' (fun z => hc (by simp [z])) q
  self := fun i s Q E st hQ => by
    have ty : s.TypeIs (.ref it) "set_iterator" := ⟨_, st.1, rfl⟩
    refine wpAny_pyIter_slot ty slot_setit_iter (wpAny_call_entry slot_setit_iter ty entry_setit_iter ?_ (args_setit_iter _))
    exact wpAny_pure ⟨_, rfl, "set_iterator", _, ty, slot_setit_next.lookup, hQ⟩
/-- an iterator that keeps a drawn order -/
theorem walk_drawn {it a T : Addr} {o : Obj} {es : Array (Int × Value)} {ep : Nat} {t : SetTable} (hh : A.handled = none) (hne : a ≠ it) (hnT : T ≠ it) (hd : o.data = .set es ep t) (ft : t.fits es.size = true) (ps : List Nat) (vals : List Value) (hv : vals.length = ps.length)
    (hx : ∀ (i p : Nat), ps[i]? = some p → ∃ v, vals[i]? = some v ∧ (es[p]?).map (fun e => e.2) = some v) :
    Walks prog w A it [it, a, T] [it] vals.length (fun i v => vals[i]? = some v) (fun i h => IsSetIt h it a (.ref T) i es.size ep ∧ h.get? a = some o ∧ h.get? T = some { cls := .type "tuple", data := .seq (ps.map fun (p : Nat) => rawInt p).toArray }) where
  sub := fun b hb => by simp at hb; simp [hb]
  frame := fun i h h' st k => ⟨k it (by simp) _ st.1, k a (by simp) _ st.2.1, k T (by simp) _ st.2.2⟩
  item := fun i s Q E hi st hQ => by
    have hi' : i < ps.length := by omega
    obtain ⟨v, e1, e2⟩ := hx i ps[i] (by simp [hi'])
    refine next_drawn st.1 st.2.2 st.2.1 hd ft (p := ps[i]) (by simp [hi']) e2 fun h' g b => ?_
    exact hQ v h' s.toks e1 ⟨g, (b.2 a hne).trans st.2.1, (b.2 T hnT).trans st.2.2⟩ fun c o' hc q => (b.2 c (fun z => hc (by simp [z]))).trans q
  done := fun s Q E st hQ => by
    refine drawn_end hh st.1 st.2.2 st.2.1 hd ft (by simp [hv]) fun h' g => ?_
    exact hQ h' s.toks fun c o' hc q => g c o' (fun z => hc (by simp [z])) q
  self := fun i s Q E st hQ => by
    have ty : s.TypeIs (.ref it) "set_iterator" := ⟨_, st.1, rfl⟩
    refine wpAny_pyIter_slot ty slot_setit_iter (wpAny_call_entry slot_setit_iter ty entry_setit_iter ?_ (args_setit_iter _))
    exact wpAny_pure ⟨_, rfl, "set_iterator", _, ty, slot_setit_next.lookup, hQ⟩
end
end PL

set_option Elab.async false
set_option linter.all false
set_option maxRecDepth 100000
namespace PL
open PySem PySem.Spec PyProof.Rows
section
variable {prog : Program} {w : World}
theorem ints_of : ∀ (l : List (Int × Value)), ElemsOf (intKind prog w) l → IntsAre (l.map fun e => e.2) (keysOf l)
  | [], _ => .nil
  | e :: l, h => by
    obtain ⟨t, q⟩ := key_int h (List.mem_cons_self ..)
    have r := ints_of l h.tail
    show IntsAre (e.2 :: l.map fun e => e.2) (ival e.2 :: keysOf l)
    rw [q]
    exact .cons _ _ r
theorem small_rise {xs : Array Nat} (h : xs.size ≤ 1) : Rise xs := by
  unfold Rise
  have h' : xs.toList.length ≤ 1 := by simpa using h
  match hx : xs.toList, h' with
  | [], _ => exact List.Pairwise.nil
  | [a], _ => exact List.pairwise_singleton _ _
variable {A : Around} {E : Value → Shared → Prop} {s : Shared}
theorem iter_set {a : Addr} {ms : List Int} {Q : Value → Shared → Prop} (J : SetJ prog w (!byT w) s.heap a ms)
    (h : ∀ (it : Addr) (fp : List Addr) (St : Nat → Heap → Prop) (vals : List Value) (ns : List Int) (h' : Heap) (d' : Drawn), (∀ b o, s.heap.get? b = some o → h'.get? b = some o) →
      (∀ A' : Around, A'.handled = none → Walks prog w A' it fp [it] vals.length (fun i v => vals[i]? = some v) St) → St 0 h' → IntsAre vals ns → ns.Perm ms → (∀ b ∈ fp, b < h'.objs.size) → (∀ b ∈ fp, b = a ∨ s.heap.objs.size ≤ b) → it ∈ fp → s.heap.objs.size ≤ it → Q (.ref it) { s with heap := h', drawn := d' }) :
    wpAny (model prog w) A (pyIter (.ref a)) Q E s := by
  obtain ⟨o, es, ep, t, ho, hx, hd, el, pm, sz, ft, tok⟩ := J
  have ty : s.TypeIs (.ref a) "set" := ⟨o, ho, hx.1⟩
  have al : a < s.heap.objs.size := Heap.lt_size ho
  have hps : t.place.size = es.size := by
    simp only [SetTable.fits, Bool.and_eq_true, beq_iff_eq] at ft
    exact ft.1
  refine wpAny_pyIter_slot ty slot_set_iter (wpAny_call_entry slot_set_iter ty entry_set_iter ?_ (args_set_iter _))
  show wpAny _ _ (Builtin.Frozenset.sizeOf a >>= _) _ _ s
  refine wpAny_bind (wpAny_bind (wpAny_setEntries_of ho hd ft (wpAny_pure ?_)))
  refine wpAny_bind (wpAny_bind (wpAny_setState_of ho hd ft ?_))
  simp only
  refine wpAny_bind (text_is (wpAny_pure ?_))
  show wpAny _ _ (if (!byT w && (!t.plain && decide (es.size > 1))) = true then _ else _) _ _ s
  -- an iterator with a slot
  have slotted : ∀ (vals : List Value) (ns : List Int) (Fs : Nat → Nat), vals.length = es.size → Fs 0 = 0 → IntsAre vals ns → ns.Perm ms →
      (∀ (A : Around) (E : Value → Shared → Prop) (s : Shared) (Z : Option (Value × Nat) → Shared → Prop) (i : Nat), i ≤ vals.length → s.heap.get? a = some o → Z ((vals[i]?).map fun v => (v, Fs (i + 1))) s → wpAny (model prog w) A (setNext a (Fs i) i ep) Z E s) →
      wpAny (model prog w) A.in1 (do ret (← newFields "set_iterator" [rawInt 0, rawInt 0, .ref a, rawInt es.size, rawInt ep])) (fun fin s' => ∃ v, fin = .done (.ret v) ∧ ∃ T' r, s'.TypeIs v T' ∧ typeLookup (.type T') "__next__" = pure (some r) ∧ Q v s') E s := fun vals ns Fs hv hf hi hn nx => by
    refine wpAny_bind (wpAny_newObj_type (wpAny_pure ⟨_, rfl, "set_iterator", _, ⟨_, Heap.get?_push_size _ rfl, rfl⟩, slot_setit_next.lookup, ?_⟩))
    refine h s.heap.objs.size [s.heap.objs.size, a] _ vals ns _ s.drawn (fun b o q => Heap.get?_push_of_some _ q) (fun A' hA' => walk_slot hA' (Nat.ne_of_lt al) hd ft vals hv Fs nx) ⟨?_, Heap.get?_push_of_some _ ho⟩ hi hn (fun b hb => ?_) (fun b hb => ?_) (by simp) (Nat.le_refl _)
    · rw [hf]; exact Heap.get?_push_size _ rfl
    · rw [Heap.size_push]
      simp only [List.mem_cons, List.not_mem_nil, or_false] at hb
      rcases hb with rfl | rfl
      · exact Nat.lt_succ_self _
      · exact Nat.lt_succ_of_lt al
    · simp only [List.mem_cons, List.not_mem_nil, or_false] at hb
      rcases hb with rfl | rfl
      · exact .inr (Nat.le_refl _)
      · exact .inl rfl
  cases hb : byT w with
  | true =>
    simp only [Bool.not_true, Bool.false_and, Bool.false_eq_true, if_false]
    refine wpAny_bind (wpAny_pure ?_)
    refine wpAny_bind (wpAny_setEpoch_of ho hd ft ?_)
    have pp := pick_perm (w.params.setOrder a ep) es
    refine slotted ((pickOrder (w.params.setOrder a ep) es).toList.map fun e => e.2) (keysOf (pickOrder (w.params.setOrder a ep) es).toList) (fun _ => 0) (by simpa using pp.length_eq) rfl (ints_of _ (el.perm pp)) ((pp.map _).trans pm) fun A E s Z i _ hg z => ?_
    refine next_text hb hg hd ft ?_
    simpa [Option.map_map, Function.comp_def] using z
  | false =>
    cases hdr : (!t.plain && decide (es.size > 1)) with
    | false =>
      simp only [Bool.not_false, Bool.true_and, Bool.false_eq_true, if_false]
      refine wpAny_bind (wpAny_pure ?_)
      refine wpAny_bind (wpAny_setEpoch_of ho hd ft ?_)
      have rise : Rise t.place := by
        cases hpl : t.plain with
        | true => exact tok.2 hpl
        | false =>
          rw [hpl] at hdr
          refine small_rise ?_
          rw [hps]
          simpa using hdr
      have led : t.led = true := by rw [tok.1, hb]; rfl
      have at_i : ∀ i, i ≤ es.size → SetTable.below t.place (match i with | 0 => 0 | k + 1 => t.place.getD k 0 + 1) = i := fun i hi => by
        cases i with
        | zero => exact below_zero _ rise
        | succ k =>
          have hk : k < t.place.size := by omega
          refine below_next _ rise (i := k) (a := t.place.getD k 0) ?_
          simp [Array.getD, hk]
      refine slotted (es.toList.map fun e => e.2) (keysOf es.toList) (fun i => match i with | 0 => 0 | k + 1 => t.place.getD k 0 + 1) (by simp) rfl (ints_of _ el) pm fun A E s Z i hi hg z => ?_
      have hi' : i ≤ es.size := by simpa using hi
      refine next_place hb hg hd ft hdr led ?_
      rw [at_i i hi']
      cases he : es[i]? with
      | none =>
        have : (es.toList.map fun e => e.2)[i]? = none := by simp at he ⊢; exact he
        rw [this] at z
        exact z
      | some e =>
        have lt : i < es.size := (Array.getElem?_eq_some_iff.mp he).1
        have e1 : (es.toList.map fun e => e.2)[i]? = some e.2 := by
          rw [List.getElem?_map]
          have : es.toList[i]? = some e := by simpa using he
          rw [this]; rfl
        have lt2 : i < t.place.size := by omega
        have e2 : t.place[i]? = some (t.place.getD i 0) := by simp [Array.getD, lt2]
        rw [e1] at z
        rw [e2]
        exact z
    | true =>
      simp only [Bool.not_false, Bool.true_and, if_true]
      refine wpAny_bind (draw_any es.size (List.range es.size) s _ (by simp) fun ps d' pp => ?_)
      have pl : ps.length = es.size := by simpa using pp.length_eq
      refine wpAny_bind (wpAny_newTuple ?_ (by simp [pl]; exact fits_of_scanBound sz))
      have ho1 : (s.heap.push { cls := .type "tuple", data := .seq (ps.map fun (p : Nat) => rawInt p).toArray }).get? a = some o := Heap.get?_push_of_some _ ho
      refine wpAny_bind (wpAny_setEpoch_of (s := { s with heap := s.heap.push { cls := .type "tuple", data := .seq (ps.map fun (p : Nat) => rawInt p).toArray }, drawn := d' }) ho1 hd ft ?_)
      have z1 : (s.heap.push { cls := .type "tuple", data := .seq (ps.map fun (p : Nat) => rawInt p).toArray }).objs.size = s.heap.objs.size + 1 := Heap.size_push ..
      refine wpAny_bind (wpAny_newObj_type (wpAny_pure ⟨_, rfl, "set_iterator", _, ⟨_, Heap.get?_push_size _ rfl, rfl⟩, slot_setit_next.lookup, ?_⟩))
      have mem : ∀ p ∈ ps, p < es.size := fun p hp => by simpa using pp.mem_iff.mp hp
      have vp : (ps.map fun p => (es.toList.getD p (0, .none)).2).Perm (es.toList.map fun e => e.2) := by
        refine (pp.map _).trans (List.Perm.of_eq ?_)
        refine List.ext_getElem (by simp) fun i h1 h2 => ?_
        simp at h1 h2
        simp [h1]
      have eo : ElemsOf (intKind prog w) (ps.map fun p => es.toList.getD p (0, .none)) := fun e he => by
        obtain ⟨p, hp, rfl⟩ := List.mem_map.mp he
        have lt := mem p hp
        refine el _ ?_
        have : es.toList.getD p (0, .none) = es.toList[p]'(by simpa using lt) := by simp [lt]
        rw [this]
        exact List.getElem_mem _
      have kp : (keysOf (ps.map fun p => es.toList.getD p (0, .none))).Perm ms := by
        refine List.Perm.trans ?_ pm
        have := vp.map ival
        simpa [keysOf, List.map_map, Function.comp_def] using this
      show Q (.ref (s.heap.push { cls := .type "tuple", data := .seq (ps.map fun (p : Nat) => rawInt p).toArray }).objs.size) _
      rw [z1]
      refine h (s.heap.objs.size + 1) [s.heap.objs.size + 1, a, s.heap.objs.size] _ (ps.map fun p => (es.toList.getD p (0, .none)).2) _ _ d' (fun b o q => Heap.get?_push_of_some _ (Heap.get?_push_of_some _ q))
        (fun A' hA' => walk_drawn hA' (Nat.ne_of_lt (Nat.lt_succ_of_lt al)) (Nat.ne_of_lt (Nat.lt_succ_self _)) hd ft ps _ (by simp) fun i p hp => ⟨_, by rw [List.getElem?_map, hp]; rfl, ?_⟩) ⟨?_, Heap.get?_push_of_some _ ho1, Heap.get?_push_of_some _ (Heap.get?_push_size _ rfl)⟩
        (by have q := ints_of _ eo; simpa [List.map_map, Function.comp_def] using q) kp (fun b hb => ?_) (fun b hb => ?_) (by simp) (Nat.le_succ _)
      · have lt := mem p (List.mem_of_getElem? hp)
        simp [lt]
      · have q := Heap.get?_push_size (s.heap.push { cls := .type "tuple", data := .seq (ps.map fun (p : Nat) => rawInt p).toArray }) (o := { cls := .type "set_iterator", data := .fields #[.ref s.heap.objs.size, rawInt 0, .ref a, rawInt es.size, rawInt ep] }) rfl
        rw [z1] at q
        exact q
      · rw [Heap.size_push, z1]
        simp only [List.mem_cons, List.not_mem_nil, or_false] at hb
        rcases hb with rfl | rfl | rfl
        · exact Nat.lt_succ_self _
        · exact Nat.lt_succ_of_lt (Nat.lt_succ_of_lt al)
        · exact Nat.lt_succ_of_lt (Nat.lt_succ_self _)
      · simp only [List.mem_cons, List.not_mem_nil, or_false] at hb
        rcases hb with rfl | rfl | rfl
        · exact .inr (Nat.le_succ _)
        · exact .inl rfl
        · exact .inr (Nat.le_refl _)
end
end PL

set_option Elab.async false
set_option linter.all false
set_option maxRecDepth 100000
namespace PL
open PySem PySem.Spec PyProof.Rows
theorem set_len : typeLookup (.type "set") "__len__" = pure (some (.builtin "set.__len__")) := by rw [typeLookup_type, builtinLookup_eq_fast]; kernel_rfl
section
variable {prog : Program} {w : World} {A : Around} {E : Value → Shared → Prop} {s : Shared}
theorem collect_set {a : Addr} {ms : List Int} {Q : List Value → Shared → Prop} (hh : A.handled = none) (J : SetJ prog w (!byT w) s.heap a ms) (hm : ms.length ≤ 1000)
    (h : ∀ (vals : List Value) (ns : List Int) (h' : Heap) (d' : Drawn) (tk : Nat), IntsAre vals ns → ns.Perm ms → s.heap.objs.size ≤ h'.objs.size → (∀ b o, s.heap.get? b = some o → h'.get? b = some o) → Q vals { s with heap := h', drawn := d', toks := tk }) :
    wpAny (model prog w) A (collect (.ref a)) Q E s := by
  have J0 := J
  obtain ⟨o, es, ep, t, ho, hx, hd, el, pm, sz, ft, tok⟩ := J0
  have al : a < s.heap.objs.size := Heap.lt_size ho
  have ne : s.heap.objs.size ≠ a := Nat.ne_of_gt al
  unfold collect
  refine wpAny_bind (wpAny_runValue (codeAny_builtin F.entry_proto_collect ?_))
  rw [Around.under_plainId F.plain_proto_collect _]
  refine (show wpAny _ A.in1 (newList [] >>= fun l => again (.builtin "list.__iadd__" ⟨[l, .ref a], []⟩)) _ _ s from wpAny_bind (wpAny_newObj_type (wpAny_pure ⟨plainId_quiet F.plain_list_iadd _, codeAny_builtin F.entry_list_iadd ?_⟩)))
  rw [Around.under_plainId F.plain_list_iadd _]
  have g1 : (s.heap.push (seqObj "list" #[] 0)).get? s.heap.objs.size = some (seqObj "list" #[] 0) := Heap.get?_push_size _ rfl
  have J1 : SetJ prog w (!byT w) (s.heap.push (seqObj "list" #[] 0)) a ms := J.at fun o q => Heap.get?_push_of_some _ q
  have ty1 : Shared.TypeIs { s with heap := s.heap.push (seqObj "list" #[] 0) } (.ref a) "set" := ⟨o, Heap.get?_push_of_some _ ho, hx.1⟩
  have sr : Builtin.List.listSameRef (.ref s.heap.objs.size) (.ref a) = false := by simp [Builtin.List.listSameRef, ne]
  show wpAny _ A.in1 (Builtin.List.listExtendWith (.ref s.heap.objs.size) (.ref a) (.ref s.heap.objs.size)) _ _ { s with heap := s.heap.push (seqObj "list" #[] 0) }
  unfold Builtin.List.listExtendWith
  refine wpAny_bind (wpAny_typeOf ty1 ?_)
  rw [if_neg (by rw [sr]; decide)]
  refine wpAny_bind (iter_set J1 fun it fp St vals ns h2 d2 kp W st0 hi hn hfp hsep hit hge => ?_)
  have g2 : h2.get? s.heap.objs.size = some (seqObj "list" #[] 0) := kp _ _ g1
  have ty2 : Shared.TypeIs { s with heap := h2, drawn := d2 } (.ref a) "set" := ⟨o, kp _ _ (Heap.get?_push_of_some _ ho), hx.1⟩
  refine wpAny_bind (wpAny_holding ?_)
  unfold Builtin.List.listLengthHint
  refine wpAny_bind (wpAny_specialOf (s := { s with heap := h2, drawn := d2 }) ty2 set_len ?_)
  generalize hid : ("set.__len__" : String) = id0
  wp_delta
  rw [show splitId id0 = some ("set", "__len__") from by subst hid; decide +kernel]
  subst hid
  refine wpAny_bind (wpAny_isInstance (b := true) ty2 sub_set_self ?_)
  refine (show wpAny _ _ (typeOf (.ref a) >>= _) _ _ _ from wpAny_bind (wpAny_typeOf ty2 (wpAny_pure ?_)))
  rw [if_pos (by decide)]
  have g3 := get?_update_seq g2 (fun xs => xs.push .none)
  have g4 := get?_update_seq g3 (fun xs => xs.pop)
  refine wpAny_bind (wpAny_rule (wpAny_bind ?_))
  unfold Builtin.List.listTouch
  refine wpAny_bind (listUpdate_at (s := { s with heap := h2, drawn := d2 }) g2 rfl ?_)
  refine listUpdate_at (s := { s with heap := h2.update s.heap.objs.size (Obj.mapSeq fun xs => xs.push .none), drawn := d2 }) g3 rfl ?_
  have nfp : s.heap.objs.size ∉ fp := fun z => by
    rcases hsep _ z with q | q
    · exact ne q
    · rw [Heap.size_push] at q
      exact absurd q (Nat.not_succ_le_self _)
  have lenV : vals.length ≤ 1000 := by
    have q := hn.length_eq
    have q2 := hi.length
    omega
  have st4 : St 0 ((h2.update s.heap.objs.size (Obj.mapSeq fun xs => xs.push .none)).update s.heap.objs.size (Obj.mapSeq fun xs => xs.pop)) := (W A hh).frame 0 _ _ st0 fun b hb o q => by
    have nb : s.heap.objs.size ≠ b := fun z => nfp (z ▸ hb)
    rw [Heap.get?_update_other _ _ nb, Heap.get?_update_other _ _ nb]
    exact q
  refine wpAny_pure ⟨plainId_quiet F.plain_extend_loop _, codeAny_extend_loopS ((W A.in1 (by simp [hh])).toS) (by rw [sizeLine_eq]; omega) s.heap.objs.size nfp _ vals.length 0 _ _ _ rfl (Nat.zero_le _) st4 g4 (ItemsOf.nil _) fun s5 acc c5 mv g5 it5 => ?_⟩
  refine (show wpAny _ A (load s.heap.objs.size >>= _) _ _ s5 from wpAny_bind (wpAny_load g5 (wpAny_pure ?_)))
  have ea : acc.toList = vals := by
    refine List.ext_getElem (by simpa using it5.1) fun i h1 h2 => ?_
    have q : vals[i]? = some acc.toList[i] := it5.2 i acc.toList[i] (by simp)
    rw [List.getElem?_eq_getElem h2] at q
    injection q with q
    exact q.symm
  obtain ⟨h5, g', d5, tk5, os5⟩ := s5
  have eg : g' = s.gens := mv.gens
  have ed : d5 = d2 := mv.drawn
  have eo : os5 = s.os := mv.os
  subst eg; subst ed; subst eo
  rw [ea]
  refine h vals ns h5 d5 tk5 hi hn (Nat.le_of_lt (Heap.lt_size g5)) fun b o q => ?_
  have lb : b < s.heap.objs.size := Heap.lt_size q
  have nb : s.heap.objs.size ≠ b := Nat.ne_of_gt lb
  have ni : b ≠ it := fun z => by
    rw [Heap.size_push] at hge
    exact absurd (Nat.lt_of_lt_of_le (Nat.lt_succ_of_lt lb) hge) (by rw [z]; exact Nat.lt_irrefl _)
  refine mv.heap b o (by simp [Ne.symm nb, ni]) ?_
  rw [Heap.get?_update_other _ _ nb, Heap.get?_update_other _ _ nb]
  exact kp _ _ (Heap.get?_push_of_some _ q)
/-- sorted(a set of ints) -/
theorem sorted_set {a : Addr} {ms : List Int} {Q : Value → Shared → Prop} (hh : A.handled = none) (J : SetJ prog w (!byT w) s.heap a ms) (hm : ms.length < 64)
    (h : ∀ (l : Addr) (out : List Value) (ns : List Int) (h' : Heap) (d' : Drawn) (tk c : Nat), IntsAre out ns → ns.Perm ms → ns.Pairwise (· ≤ ·) → s.heap.objs.size ≤ l → h'.get? l = some (seqObj "list" out.toArray c) →
      (∀ b o, s.heap.get? b = some o → h'.get? b = some o) → Q (.ref l) { s with heap := h', drawn := d', toks := tk }) :
    wpAny (model prog w) A (call (.builtin "sorted") [.ref a]) Q E s := by
  refine Calls.call_function_entry kind_sorted plain_sorted entry_sorted (args_sorted1 _) ?_
  unfold Builtin.«sorted»
  refine wpAny_bind (m := checkCount "sorted" 1 1 _) (wpAny_pure (wpAny_bind (collect_set (by simp [hh]) J (by omega) fun vals ns h1 d1 tk hi hn le1 kp => ?_)))
  have lv : vals.length < 64 := by
    have q := hn.length_eq
    have q2 := hi.length
    omega
  refine wpAny_bind (wpAny_newList (show wpAny _ _ _ _ _ _ from ?_) (by rw [sizeLine_eq]; omega))
  have gL : (h1.push (seqObj "list" vals.toArray 0)).get? h1.objs.size = some (seqObj "list" vals.toArray 0) := Heap.get?_push_size _ rfl
  refine wpAny_bind (wpAny_holding (wpAny_call_entry slot_list_sort ⟨_, gL, rfl⟩ entry_list_sort (list_sort_tree gL hi lv fun out ns' a1 a2 a3 => ⟨_, rfl, wpAny_pure ⟨_, rfl, ?_⟩⟩) (args_list_sort _)))
  obtain ⟨e, ge⟩ := sortedHeap_at (out := out) gL
  refine h h1.objs.size out.toList ns' _ d1 tk e a1 (a2.trans hn) a3 le1 (by simpa using ge) fun b o q => ?_
  have q1 := kp b o q
  have lb : b < h1.objs.size := Heap.lt_size q1
  rw [sortedHeap_old (Nat.ne_of_lt lb) (by rw [Heap.size_push]; exact Nat.lt_succ_of_lt lb)]
  exact Heap.get?_push_of_some _ q1
end
end PL

set_option Elab.async false
set_option linter.all false
set_option maxRecDepth 100000
namespace PL
open PySem PySem.Spec PyProof.Rows L2
/-! ### sorted(set(..)) as an expression -/
noncomputable def sortI (ns : List Int) : List Int := (onceOf (fun i => ns.getD i 0) ns.length).mergeSort fun a b => decide (a ≤ b)
theorem sortI_perm (ns : List Int) : (sortI ns).Perm (onceOf (fun i => ns.getD i 0) ns.length) := List.mergeSort_perm _ _
theorem sortI_rise (ns : List Int) : (sortI ns).Pairwise (· ≤ ·) := by
  have q := List.pairwise_mergeSort (le := fun (a b : Int) => decide (a ≤ b)) (by simp; omega) (by simp; omega) (onceOf (fun i => ns.getD i 0) ns.length)
  exact q.imp fun h => by simpa using h
theorem sortI_uniq {ns l : List Int} (p : l.Perm (onceOf (fun i => ns.getD i 0) ns.length)) (r : l.Pairwise (· ≤ ·)) : l = sortI ns :=
  PySem.W.lks_uniq (p.trans (sortI_perm ns).symm) r (sortI_rise ns)
theorem sortI_mem {ns : List Int} {x : Int} : x ∈ sortI ns ↔ x ∈ ns := by
  rw [(sortI_perm ns).mem_iff, once_mem]
  constructor
  · rintro ⟨j, hj, e⟩
    have q : ns.getD j 0 = ns[j] := by simp [hj]
    rw [← e]
    show ns.getD j 0 ∈ ns
    rw [q]
    exact List.getElem_mem hj
  · intro h
    obtain ⟨j, hj, e⟩ := List.getElem_of_mem h
    exact ⟨j, hj, by show ns.getD j 0 = x; rw [← e]; simp [hj]⟩
theorem sortI_len (ns : List Int) : (sortI ns).length ≤ ns.length := by
  rw [(sortI_perm ns).length_eq]
  exact once_len _ _
noncomputable def ssetD : PyData → Option PyData
  | .tuple xs => match intsOf xs with
    | some ns => if decide (ns.length < 60) = true then some (.list ((sortI ns).map PyData.int)) else none
    | none => none
  | _ => none
section
variable {X : Cx} {pins : List (Addr × Obj)} {σ : L2.St} {H : Hp} {s : Shared}
theorem inv_drawn (I : Inv X pins σ H s) (d : Drawn) : Inv X pins σ H { s with drawn := d } :=
  I.step (h' := s.heap) (t' := s.toks) (g' := s.gens) (d' := d) (ch := []) (fun b hb => by cases hb) (fun b o _ _ _ e _ => e) (fun b o _ _ _ e _ => ⟨o.slots, e⟩) (fun _ _ _ _ n => n) (fun b o _ e => ⟨o, e⟩) (fun _ _ e => e) (fun _ _ _ e => e) (fun b ps e => ⟨#[], by rw [e]; simp⟩) (fun m hm => hm) I.hok I.bare
theorem ints_vals : ∀ (ns : List Int) (us : List Value), IntsAre us ns → Vals (ns.map V.int) us
  | [], us, r => by cases r; exact .nil
  | n :: ns, us, r => by
    cases r with
    | cons _ t r => exact .cons ⟨t, rfl⟩ (ints_vals ns _ r)
theorem e_sset {e : Expr} {p p2 pos pos2 : Pos} {g : Rho → Option PyData} (hc : X.calm = true) (hg1 : Gl X "sorted") (hm1 : X.mg "sorted" = none) (hg2 : Gl X "set") (hm2 : X.mg "set" = none) (he : E1 X e g) (hh : okHead e = true) :
    E1 X (.Call (.Name "sorted" p) [.Call (.Name "set" p2) [e] [] pos2] [] pos) (un1 ssetD g) := by
  intro pins s σ H Q I ⟨r, d, env, hgr, q⟩
  obtain ⟨x, h1, h2⟩ := un1_some hgr
  cases x with
  | tuple xs =>
    simp only [ssetD] at h2
    split at h2
    · rename_i ns e1
      obtain ⟨hz, e2⟩ := ite_some h2
      subst e2
      have hz' := of_decide_eq_true hz
      have e3 := intsOf_some e1
      subst e3
      have hd : X.A.handled = none := I.ok.hd hc
      refine wpAny_Call_Name_kw (ld_blt I hg1 hm1 boot_sorted (PyProof.Rows.callWith_builtin1 ?_ rfl rfl) (by decide) (by decide))
      show wpAny _ _ (spliced ((false, eval (.Call (.Name "set" p2) [e] [] pos2) X.env) :: backTo pos (starEach [] X.env))) _ _ s
      refine Calls.spliced_cons (wpAny_Call_Name_kw (ld_blt I hg2 hm2 boot_set (PyProof.Rows.callWith_type1 (thn (a_cons he a_nil (star_ok hh) pos2 pins s σ H (fun vs H1 => Same H H1 ∧ Brs X.K X.mg H1 [.tuple (ns.map PyData.int)] vs) I ⟨r, [.tuple (ns.map PyData.int)], env, by simp [consD, h1, nilD], fun vs H1 sm b => ⟨sm, b⟩⟩) fun us s1 ⟨vs, H1, I1, r1, sm, b1⟩ => ?_) (star_ok hh) rfl) (by decide) (by decide)))
      obtain ⟨v, rfl, b⟩ := brs1 b1
      simp only [Br] at b
      obtain ⟨a, ws, rfl, ha, hw⟩ := b
      have e4 := brs_intsV ns ws hw
      subst e4
      obtain ⟨u, rfl, rx⟩ := vals1 r1
      cases rx
      obtain ⟨its, rv, pl, _⟩ := I1.tuple ha
      have hi := vals_ints ns its rv
      have hlen : its.length = ns.length := hi.length
      refine call_set_tup (ns := ns) hd pl (by simpa using hi) (by simp only [List.size_toArray]; unfold scanBound; omega) fun h2 tk J kp => ?_
      have I2 : Inv X pins σ H1 { s1 with heap := h2, toks := tk } := I1.kept kp
      refine Calls.spliced_nil (show wpAny _ _ (call (.builtin "sorted") [.ref s1.heap.objs.size]) _ _ _ from ?_)
      have sz : its.toArray.size = ns.length := by simp [hlen]
      rw [sz] at J
      refine sorted_set (s := { s1 with heap := h2, toks := tk }) hd J (Nat.lt_of_le_of_lt (once_len _ _) (by omega)) fun l out ns' h3 d3 tk3 c io pm up hl gl kp3 => ?_
      have e5 := sortI_uniq pm up
      subst e5
      have I3 := inv_drawn I2 d3
      have zl : ((sortI ns).map V.int).length ≤ sizeLine := by
        have := sortI_len ns
        rw [List.length_map, sizeLine_eq]; omega
      have I4 : Inv X pins σ (upd H1 l (.lst ((sortI ns).map V.int))) { s1 with heap := h3, drawn := d3, toks := tk3 } :=
        I3.laid (t' := tk3) kp3 hl (show ObjOk X.prog X.w _ h3 _ (.lst ((sortI ns).map V.int)) from ⟨zl, out, c, ints_vals _ _ io, gl⟩)
      have hn : H1 l = none := I2.hok.fresh hl
      refine ⟨.ref l, _, I4, rfl, q _ _ (sm.trans (same_new hn _)) ?_⟩
      simp only [Br]
      exact ⟨l, _, rfl, SqL.of upd_same, brs_ints _⟩
    · cases h2
  | _ => cases h2
end
end PL

set_option Elab.async false
set_option linter.all false
set_option maxRecDepth 100000
namespace PL
open PySem PySem.Spec PyProof.Rows L2

mutual
inductive PX where
  | k (d : PyData)
  | v (i : Nat)
  | g (f : Str)
  | bin (op : Operator) (a b : PX)
  | cmp (op : CmpOp) (a b : PX)
  | and (a b : PX)
  | or (a b : PX)
  | not (a : PX)
  | neg (a : PX)
  | ife (c a b : PX)
  | tup (xs : List PX)
  | lst (xs : List PX)
  | call (f : Str) (xs : List PX)
  | callv (f : PX) (xs : List PX)
  | blt (b : Bl) (xs : List PX)
  | isin (T : Ty) (a : PX)
  | isx (c : Str) (a : PX)
  | fstr (xs : List PX)
  | ix (a b : PX)
  | sl (a lo hi : PX)
  | rev (a : PX)
  | sset (a : PX)
  | mink (f : Str) (a b : PX)
  | comp (t : Tg) (it : PIt) (NC : List Str) (mp : List (Option Nat)) (conds : List PX) (elt : PX)
inductive PIt where
  | seq (e : PX)
  | rng1 (a : PX)
  | rng2 (a b : PX)
  | enum (e : PX)
end

noncomputable def part (p : PX) (g : Rho → Option PyData) : Rho → Option PyData := match p with
  | .k .none => fun _ => some .none
  | _ => intOnly g
noncomputable def condD (gs : List (Rho → Option PyData)) : Rho → Option PyData := match gs with
  | [g] => g
  | _ => fun _ => some (.bool true)

/-- which of the program's own errors stands under which -/
noncomputable def subX (c d : Str) : Bool := d == c || d == "ClockError"
noncomputable def isxD (c : Str) : PyData → Option PyData
  | .dict [(.str c0, .none)] => some (.bool (c == "ValueError" || subX c0 c))
  | _ => none
mutual
noncomputable def ev (C : Orc) : PX → Rho → Option PyData
  | .k d => fun _ => some d
  | .v i => vr i
  | .g f => fun _ => some (fnD f)
  | .bin op a b => bin2 (binD op) (ev C a) (ev C b)
  | .cmp op a b => bin2 (cmpD op) (ev C a) (ev C b)
  | .and a b => andD (ev C a) (ev C b)
  | .or a b => orD (ev C a) (ev C b)
  | .not a => notD (ev C a)
  | .neg a => un1 negD (ev C a)
  | .ife c a b => ifD (ev C c) (ev C a) (ev C b)
  | .tup xs => tupD (evs C xs)
  | .lst xs => lstD (evs C xs)
  | .call f xs => appD (C f) (evs C xs)
  | .callv f xs => callvD C (ev C f) (evs C xs)
  | .blt b xs => appD b.fn (evs C xs)
  | .isin T a => un1 (isinD T) (ev C a)
  | .isx c a => un1 (isxD c) (ev C a)
  | .fstr xs => fstrD (evs C xs)
  | .ix a b => bin2 ixD (ev C a) (ev C b)
  | .sl a lo hi => sl4 (ev C a) (part lo (ev C lo)) (part hi (ev C hi))
  | .rev a => un1 revD (ev C a)
  | .sset a => un1 ssetD (ev C a)
  | .mink f a b => mink2 C f (ev C a) (ev C b)
  | .comp t it _ mp cs e => compD t (itD C it) mp (condD (evl C cs)) (ev C e)
noncomputable def evs (C : Orc) : List PX → Rho → Option (List PyData)
  | [] => nilD
  | x :: xs => consD (ev C x) (evs C xs)
noncomputable def evl (C : Orc) : List PX → List (Rho → Option PyData)
  | [] => []
  | x :: xs => ev C x :: evl C xs
noncomputable def itD (C : Orc) : PIt → Rho → Option (List PyData)
  | .seq e => anyIt (ev C e)
  | .rng1 a => rngIt1 (ev C a)
  | .rng2 a b => rngIt2 (ev C a) (ev C b)
  | .enum e => enumIt (ev C e)
end

mutual
noncomputable def evX (C : Orc) (D : OrcX) : PX → Rho → Option Str
  | .call f xs => callX (evsX C D xs) (evs C xs) (D f)
  | .tup xs => evsX C D xs
  | .lst xs => evsX C D xs
  | _ => fun _ => none
noncomputable def evsX (C : Orc) (D : OrcX) : List PX → Rho → Option Str
  | [] => fun _ => none
  | x :: xs => two (evX C D x) (ev C x) (evsX C D xs)
end

/-- a comprehension's scope: its own names and the captured ones -/
noncomputable def relN (names : List (Str × NameKind)) (outer : List (Str × NameKind)) : List (Str × NameKind) :=
  names.map fun (n, k) => if (k == .free && outer.lookup n == some .cell) then (n, .cell) else (n, k)
noncomputable def compSg (S : Sg) (NC : List Str) (names : List (Str × NameKind)) : Sg := ⟨NC, relN names S.sc, S.fs, S.xs⟩
noncomputable def cells (l : List (Str × NameKind)) : Bool := l.all fun x => !(x.2 == .cell)
noncomputable def locals1 (l : List (Str × NameKind)) : Bool := l.all fun x => !(x.2 == .local) || decide (l.lookup x.1 = some .local)
noncomputable def capd (l : List (Str × NameKind)) (o : List (Str × NameKind)) : Bool := l.all fun x => !(x.2 == .free) || decide (o.lookup x.1 = some .cell) || decide (o.lookup x.1 = some .free)
noncomputable def capOk (S : Sg) (NC : List Str) (names : List (Str × NameKind)) : List (Option Nat) → Nat → Bool
  | [], _ => true
  | o :: r, i => (match o with
    | some j => (match NC[i]? with
      | some x => decide (S.N[j]? = some x) && names.contains (x, .free) && decide (names.lookup x = some .free)
      | none => false)
    | none => true) && capOk S NC names r (i + 1)
noncomputable def chkComp (S : Sg) (NC : List Str) (mp : List (Option Nat)) (sc : Scope) : Bool :=
  decide (sc.kind = .function) && cells sc.names && locals1 sc.names && capd sc.names S.sc && decide (mp.length = NC.length) && capOk S NC sc.names mp 0 && decide NC.Nodup
noncomputable def chkTL (S : Sg) : Tg → Expr → Bool
  | .one i, .Name x _ => decide (S.N[i]? = some x) && decide (S.sc.lookup x = some .local)
  | .many is, .Tuple es _ _ => all2 (fun i e => match e with
    | .Name x _ => decide (S.N[i]? = some x) && decide (S.sc.lookup x = some .local)
    | _ => false) is es
  | _, _ => false
section
variable {k : Nat} {C : Orc}
theorem capOk_get {S : Sg} {NC : List Str} {names : List (Str × NameKind)} : ∀ (mp : List (Option Nat)) (i0 i j : Nat), capOk S NC names mp i0 = true → mp[i]? = some (some j) →
    ∃ x, NC[i0 + i]? = some x ∧ S.N[j]? = some x ∧ (x, NameKind.free) ∈ names ∧ names.lookup x = some .free
  | [], i0, i, j, h, e => by simp at e
  | o :: r, i0, 0, j, h, e => by
    simp at e; subst e
    simp only [capOk, Bool.and_eq_true] at h
    have h1 := h.1
    split at h1
    · rename_i x ex
      simp only [Bool.and_eq_true, decide_eq_true_eq] at h1
      exact ⟨x, by simpa using ex, h1.1.1, by simpa using h1.1.2, h1.2⟩
    · cases h1
  | o :: r, i0, i + 1, j, h, e => by
    simp only [capOk, Bool.and_eq_true] at h
    obtain ⟨x, q1, q2⟩ := capOk_get r (i0 + 1) i j h.2 (by simpa using e)
    exact ⟨x, by rw [show i0 + (i + 1) = i0 + 1 + i by omega]; exact q1, q2⟩
theorem comp_sc {X : Cx} {S : Sg} (hx : Hx X S k C) {NC : List Str} {mp : List (Option Nat)} {sc : Scope} (h : chkComp S NC mp sc = true) : CompSc X NC mp sc := by
  unfold chkComp at h
  simp only [Bool.and_eq_true, decide_eq_true_eq] at h
  obtain ⟨⟨⟨⟨⟨⟨h1, h2⟩, h3⟩, h4⟩, h5⟩, h6⟩, h7⟩ := h
  refine ⟨h1, fun x hm e => ?_, fun x hm e => ?_, fun x hm e => ?_, h5, fun i j e => ?_⟩
  · have := List.all_eq_true.mp h2 x hm
    rw [e] at this; simp at this
  · have := List.all_eq_true.mp h3 x hm
    rw [e] at this
    simpa using this
  · have := List.all_eq_true.mp h4 x hm
    rw [e] at this
    show X.env.scope.names.lookup x.1 = _ ∨ X.env.scope.names.lookup x.1 = _
    rw [hx.hsc]
    simpa using this
  · obtain ⟨x, q1, q2, q3, q4⟩ := capOk_get mp 0 i j h6 e
    exact ⟨x, by simpa using q1, by rw [hx.hN]; exact q2, q3, q4⟩
theorem comp_hx {X : Cx} {S : Sg} (hx : Hx X S k C) {NC : List Str} {sc : Scope} (cl : List (Str × Addr)) (Ca : Addr) (s : Shared) (H : Hp) (exx : List Addr) (hk : X.env.scope.kind = .function) : Hx (cxComp X NC sc cl Ca s H exx) (compSg S NC sc.names) k C where
  hN := rfl
  hsc := by
    show (relabel sc X.env).names = relN sc.names S.sc
    show List.map _ sc.names = List.map _ sc.names
    refine List.map_congr_left fun x _ => ?_
    obtain ⟨n, kd⟩ := x
    have : X.env.kindOf n = S.sc.lookup n := by show X.env.scope.names.lookup n = _; rw [hx.hsc]
    simp only [hk, this, beq_self_eq_true, Bool.and_true]
  fns := fun f hf => by
    obtain ⟨e⟩ := hx.fns f hf
    exact ⟨e⟩
  blt := hx.blt
  room := hx.room
  room1 := hx.room1
  calm := hx.calm
theorem namesL_ok {X : Cx} {S : Sg} (hx : Hx X S k C) (nd : X.N.Nodup) : ∀ (is : List Nat) (es : List Expr), all2 (fun i e => match e with
    | .Name x _ => decide (S.N[i]? = some x) && decide (S.sc.lookup x = some .local)
    | _ => false) is es = true → PGs X es (gIs is) ∧ (assignEach es X.env).length = is.length ∧ (assignEach es X.env).findIdx? (·.1) = none
  | [], [], _ => ⟨pgs_nil, rfl, rfl⟩
  | i :: is, e :: es, h => by
    simp only [all2, Bool.and_eq_true] at h
    obtain ⟨h1, h2, h3⟩ := namesL_ok hx nd is es h.2
    have h0 := h.1
    split at h0
    · rename_i x pos
      simp only [Bool.and_eq_true, decide_eq_true_eq] at h0
      have hl : X.env.scope.names.lookup x = some .local := by rw [hx.hsc]; exact h0.2
      have hg : PG X (.Name x pos) (gName i) := pg_name nd (by rw [hx.hN]; exact h0.1) (.inl hl) (.inr hl)
      refine ⟨pgs_cons hg h1 rfl, ?_, ?_⟩
      · show (assignEach es X.env).length + 1 = is.length + 1
        rw [h2]
      · show ((false, assign (.Name x pos) X.env) :: assignEach es X.env).findIdx? (·.1) = none
        rw [List.findIdx?_cons]
        simp only [h3, Option.map_none]
        rfl
    · cases h0
  | [], _ :: _, h => by simp [all2] at h
  | _ :: _, [], h => by simp [all2] at h
theorem targetL_ok {X : Cx} {S : Sg} (hx : Hx X S k C) (nd : X.N.Nodup) {t : Tg} {tg : Expr} (h : chkTL S t tg = true) : PG X tg (gT X.K t) := by
  unfold chkTL at h
  split at h
  · rename_i x _
    simp only [Bool.and_eq_true, decide_eq_true_eq] at h
    have hl : X.env.scope.names.lookup x = some .local := by rw [hx.hsc]; exact h.2
    exact pg_name nd (by rw [hx.hN]; exact h.1) (.inl hl) (.inr hl)
  · obtain ⟨h1, h2, h3⟩ := namesL_ok hx nd _ _ h
    exact pg_tup hx.calm h1 h2 h3
  · cases h

end
section
variable {X : Cx} {S : Sg} {k : Nat} {C : Orc} {a b e : Expr} {p q : PX} {pos : Pos}
/-! ### a rule for each form of expression -/
theorem g_k {c : Const} {j : Nat} {d : PyData} (h : chkC d c = true) : Good X (.Constant c j pos) (ev C (.k d)) := good_val (const_ok h) (fun _ => rfl) (fun _ _ _ z => nomatch z)
theorem g_v (hx : Hx X S k C) {x : Str} {i : Nat} (h : (decide (S.N[i]? = some x) && visB S.sc x && nmB x) = true) : Good X (.Name x pos) (ev C (.v i)) := by
  simp only [Bool.and_eq_true] at h
  exact good_val (e_var (by rw [hx.hN]; exact of_decide_eq_true h.1.1) (hx.vis h.1.2) (nm1 h.2) (nm2 h.2)) (fun _ => rfl) (fun _ _ _ z => nomatch z)
theorem g_bin {op : Operator} (ha : Good X a (ev C p)) (hb : Good X b (ev C q)) : Good X (.BinOp a op b pos) (ev C (.bin op p q)) := good_val (e_bin (i_bin _) ha.1 hb.1) (fun _ => rfl) (fun _ _ _ z => nomatch z)
theorem g_cmp (hx : Hx X S k C) {op : CmpOp} (ha : Good X a (ev C p)) (hb : Good X b (ev C q)) (hh : okHead b = true) : Good X (.Compare a [op] [b] pos) (ev C (.cmp op p q)) :=
  ⟨e_cmp (i_cmp hx.units _) ha.1 hb.1 (marks_ok hh), t_cmp (i_cmp hx.units _) ha.1 hb.1 (marks_ok hh), fun op xs pos z => nomatch z⟩
theorem g_one {op : BoolOp} (ha : Good X a (ev C p)) : Good X (.BoolOp op [a] pos) (ev C p) := by
  have w1 : PW1 X (.BoolOp op [a] pos) (ev C p) := by
    cases op with
    | And => exact w_and1 ha.2.1
    | Or => exact w_or1 ha.2.1
  exact ⟨pe_one ha.1, w1.pt, fun _ _ _ _ => w1⟩
theorem g_and {r : List Expr} (ha : Good X a (ev C p)) (hb : Good X (.BoolOp .And (b :: r) pos) (ev C q)) : Good X (.BoolOp .And (a :: b :: r) pos) (ev C (.and p q)) :=
  have w1 := w_and ha.2.1 (hb.2.2 _ _ _ rfl)
  ⟨e_and ha.1 hb.1, w1.pt, fun _ _ _ _ => w1⟩
theorem g_or {r : List Expr} (ha : Good X a (ev C p)) (hb : Good X (.BoolOp .Or (b :: r) pos) (ev C q)) : Good X (.BoolOp .Or (a :: b :: r) pos) (ev C (.or p q)) :=
  have w1 := w_or ha.2.1 (hb.2.2 _ _ _ rfl)
  ⟨e_or ha.1 hb.1, w1.pt, fun _ _ _ _ => w1⟩
theorem g_not (ha : Good X a (ev C p)) : Good X (.UnaryOp .Not a pos) (ev C (.not p)) := ⟨e_not ha.1, t_not ha.2.1, fun _ _ _ z => nomatch z⟩
theorem g_neg (ha : Good X a (ev C p)) : Good X (.UnaryOp .USub a pos) (ev C (.neg p)) := good_val (e_neg ha.1) (fun _ => rfl) (fun _ _ _ z => nomatch z)
theorem g_ife {c : Expr} {pc : PX} (hc : Good X c (ev C pc)) (ha : Good X a (ev C p)) (hb : Good X b (ev C q)) : Good X (.IfExp c a b pos) (ev C (.ife pc p q)) := ⟨e_if hc.2.1 ha.1 hb.1, t_if hc.2.1 ha.2.1 hb.2.1, fun _ _ _ z => nomatch z⟩
noncomputable def AG (X : Cx) (C : Orc) (es : List Expr) (ps : List PX) : Prop := A1 X es (evs C ps) ∧ ∀ e ∈ es, okHead e = true
theorem ag0 : AG X C [] [] := ⟨a_nil, fun e he => absurd he (by simp)⟩
theorem ag1 {es : List Expr} {ps : List PX} (h : Good X e (ev C p)) (hh : okHead e = true) (t : AG X C es ps) : AG X C (e :: es) (p :: ps) :=
  ⟨a_cons h.1 t.1 (star_ok hh), fun e' he => (List.mem_cons.mp he).elim (fun z => by rw [z]; exact hh) (t.2 e')⟩
theorem g_tup {es : List Expr} {ps : List PX} {x1 : Nat} (h : AG X C es ps) : Good X (.Tuple es x1 pos) (ev C (.tup ps)) := good_val (e_tup h.1) (fun _ => rfl) (fun _ _ _ z => nomatch z)
theorem g_lst {es : List Expr} {ps : List PX} (h : AG X C es ps) : Good X (.List es pos) (ev C (.lst ps)) := good_val (e_lst h.1) (fun _ => rfl) (fun _ _ _ z => nomatch z)
noncomputable def fnB (S : Sg) (x : Str) : Bool := glB S.sc x && S.fs.contains x && nmB x
theorem g_call0 (hx : Hx X S k C) {x : Str} {p2 : Pos} (h : fnB S x = true) : Good X (.Call (.Name x p2) [] [] pos) (ev C (.call x [])) := by
  simp only [fnB, Bool.and_eq_true] at h
  exact good_val (e_call0 hx h.1.1 h.1.2 h.2) (fun _ => rfl) (fun _ _ _ z => nomatch z)
theorem g_call (hx : Hx X S k C) {x : Str} {p2 : Pos} {es : List Expr} {ps : List PX} (h : fnB S x = true) (g : AG X C (e :: es) (p :: ps)) : Good X (.Call (.Name x p2) (e :: es) [] pos) (ev C (.call x (p :: ps))) := by
  simp only [fnB, Bool.and_eq_true] at h
  exact good_val (e_call hx h.1.1 h.1.2 h.2 g.1 g.2) (fun _ => rfl) (fun _ _ _ z => nomatch z)
theorem g_blt (hx : Hx X S k C) (bl : Bl) {p2 : Pos} {es : List Expr} {ps : List PX} (h : glB S.sc bl.name = true) (g : AG X C (e :: es) (p :: ps)) : Good X (.Call (.Name bl.name p2) (e :: es) [] pos) (ev C (.blt bl (p :: ps))) :=
  good_val (e_blt bl hx.calm (hx.gl h) (hx.blt _ (blt_mem _)) g.1 (star_ok (g.2 e List.mem_cons_self)) (stars_ok fun e' he => g.2 e' (List.mem_cons_of_mem _ he))) (fun _ => rfl) (fun _ _ _ z => nomatch z)
theorem g_isin (hx : Hx X S k C) (T : Ty) {p2 p3 : Pos} (h : (glB S.sc "isinstance" && glB S.sc T.name) = true) (ha : Good X a (ev C p)) (hh : okHead a = true) : Good X (.Call (.Name "isinstance" p2) [a, .Name T.name p3] [] pos) (ev C (.isin T p)) := by
  simp only [Bool.and_eq_true] at h
  exact good_val (e_isin _ (hx.gl h.1) (hx.blt _ (by simp [bltNames])) (hx.gl h.2) (hx.blt _ (ty_mem _)) ha.1 (star_ok hh)) (fun _ => rfl) (fun _ _ _ z => nomatch z)
theorem g_sset (hx : Hx X S k C) {p2 p3 pos3 : Pos} (h : (glB S.sc "sorted" && glB S.sc "set") = true) (ha : Good X a (ev C p)) (hh : okHead a = true) : Good X (.Call (.Name "sorted" p2) [.Call (.Name "set" p3) [a] [] pos3] [] pos) (ev C (.sset p)) := by
  simp only [Bool.and_eq_true] at h
  exact good_val (e_sset hx.calm (hx.gl h.1) (hx.blt _ (by simp [bltNames])) (hx.gl h.2) (hx.blt _ (by simp [bltNames])) ha.1 hh) (fun _ => rfl) (fun _ _ _ z => nomatch z)
theorem g_mink (hx : Hx X S k C) {f : Str} {p2 lp p3 kp : Pos} (h : glB S.sc "min" = true) (hf : fnB S f = true) (ha : Good X a (ev C p)) (hb : Good X b (ev C q)) (h1 : okHead a = true) (h2 : okHead b = true) : Good X (.Call (.Name "min" p2) [.List [a, b] lp] [⟨some "key", .Name f p3, kp⟩] pos) (ev C (.mink f p q)) := by
  simp only [fnB, Bool.and_eq_true] at hf
  exact good_val (e_mink hx (hx.gl h) hf.1.1 hf.1.2 hf.2 ha.1 hb.1 h1 h2) (fun _ => rfl) (fun _ _ _ z => nomatch z)
theorem g_ix (ha : Good X a (ev C p)) (hb : Good X b (ev C q)) (hh : okHead b = true) : Good X (.Subscript a b pos) (ev C (.ix p q)) := good_val (e_ix ha.1 hb.1 (plainIx_ok hh)) (fun _ => rfl) (fun _ _ _ z => nomatch z)
theorem so0 : O1 X none (part (.k .none) (ev C (.k .none))) := o_none
theorem so1 (ha : Good X a (ev C p)) (h : part p (ev C p) = intOnly (ev C p)) : O1 X (some a) (part p (ev C p)) := by rw [h]; exact o_some ha.1
theorem g_sl {lo hi : Option Expr} {pl ph : PX} {p2 : Pos} (ha : Good X a (ev C p)) (hl : O1 X lo (part pl (ev C pl))) (hh : O1 X hi (part ph (ev C ph))) : Good X (.Subscript a (.Slice lo hi none p2) pos) (ev C (.sl p pl ph)) := good_val (e_sl2 ha.1 hl hh) (fun _ => rfl) (fun _ _ _ z => nomatch z)
noncomputable def IG (X : Cx) (C : Orc) (tg it : Expr) (pit : PIt) : Prop := I1 X tg it (itD C pit) ∧ ∀ x, foldedSetIterable it X.env x = pure x
theorem ig_seq {tg : Expr} (ha : Good X a (ev C p)) (hh : okHead a = true) : IG X C tg a (.seq p) := ⟨i_any ha.1, folded_ok hh⟩
theorem ig_rng1 (hx : Hx X S k C) {tg : Expr} {p2 : Pos} (h : glB S.sc "range" = true) (ha : Good X a (ev C p)) (hh : okHead a = true) : IG X C tg (.Call (.Name "range" p2) [a] [] pos) (.rng1 p) := ⟨i_rng1 (hx.gl h) (hx.blt _ (by simp [bltNames])) ha.1 hh, fun _ => rfl⟩
theorem ig_enum (hx : Hx X S k C) {elts : List Expr} {x1 : Nat} {p2 p3 : Pos} (h : glB S.sc "enumerate" = true) (ha : Good X a (ev C p)) (hh : okHead a = true) : IG X C (.Tuple elts x1 p3) (.Call (.Name "enumerate" p2) [a] [] pos) (.enum p) := ⟨i_enum (hx.gl h) (hx.blt _ (by simp [bltNames])) ha.1 hh, fun _ => rfl⟩
theorem g_comp (hx : Hx X S k C) {tg it elt : Expr} {t : Tg} {pit : PIt} {NC : List Str} {mp : List (Option Nat)} {sc : Scope} {pe : PX} (h : chkComp S NC mp sc = true) (ht : chkTL (compSg S NC sc.names) t tg = true) (hi : IG X C tg it pit)
    (hb : ∀ X', Hx X' (compSg S NC sc.names) k C → Good X' elt (ev C pe)) : Good X (.ListComp elt [⟨tg, it, [], 0⟩] sc pos) (ev C (.comp t pit NC mp [] pe)) := by
  have hnd : NC.Nodup := by
    have := h
    unfold chkComp at this
    simp only [Bool.and_eq_true, decide_eq_true_eq] at this
    exact this.2
  refine good_val ?_ (fun _ => rfl) (fun _ _ _ z => nomatch z)
  refine e_comp (t := t) (NC := NC) (mp := mp) hx.calm (comp_sc hx h) hi.1 hi.2 fun cl Ca s H exx hk => ?_
  have hxc := comp_hx hx (NC := NC) (sc := sc) cl Ca s H exx hk
  exact ⟨(hb _ hxc).1, .inl ⟨rfl, rfl⟩, targetL_ok hxc hnd ht⟩
theorem g_compI (hx : Hx X S k C) {tg it elt cn : Expr} {t : Tg} {pit : PIt} {NC : List Str} {mp : List (Option Nat)} {sc : Scope} {pe pc : PX} (h : chkComp S NC mp sc = true) (ht : chkTL (compSg S NC sc.names) t tg = true) (hi : IG X C tg it pit)
    (hb : ∀ X', Hx X' (compSg S NC sc.names) k C → Good X' elt (ev C pe)) (hc : ∀ X', Hx X' (compSg S NC sc.names) k C → Good X' cn (ev C pc)) : Good X (.ListComp elt [⟨tg, it, [cn], 0⟩] sc pos) (ev C (.comp t pit NC mp [pc] pe)) := by
  have hnd : NC.Nodup := by
    have := h
    unfold chkComp at this
    simp only [Bool.and_eq_true, decide_eq_true_eq] at this
    exact this.2
  refine good_val ?_ (fun _ => rfl) (fun _ _ _ z => nomatch z)
  refine e_comp (t := t) (NC := NC) (mp := mp) hx.calm (comp_sc hx h) hi.1 hi.2 fun cl Ca s H exx hk => ?_
  have hxc := comp_hx hx (NC := NC) (sc := sc) cl Ca s H exx hk
  exact ⟨(hb _ hxc).1, .inr ⟨cn, rfl, (hc _ hxc).2.1⟩, targetL_ok hxc hnd ht⟩
end
end PL

set_option Elab.async false
set_option linter.all false
set_option maxRecDepth 100000
namespace PL
open PySem PySem.Spec PyProof.Rows L2

/-! ### expressions that raise: the checker's word -/
theorem Hx.nox {X : Cx} {S : Sg} {k : Nat} {C : Orc} (h : Hx X S k C) : Hx X.nox S k C := ⟨h.hN, h.hsc, fun f hf => ⟨(h.fns f hf).ex⟩, h.blt, h.room, h.room1, h.calm⟩
structure HX (X : Cx) (S : Sg) (k : Nat) (C : Orc) (D : OrcX) : Prop extends Hx X S k C where
  hex : X.ex = []
  fx : ∀ f, S.fs.contains f = true → FXOk X k C D f
  tot : ∀ f ds d, C f ds = some d → S.fs.contains f = true
section
variable {X : Cx} {S : Sg} {k : Nat} {C : Orc} {D : OrcX} {e : Expr} {p : PX} {pos : Pos}
/-! ### a rule for each form of expression that raises -/
end
end PL

set_option Elab.async false
set_option linter.all false
set_option maxRecDepth 100000
namespace PL
open PySem PySem.Spec PyProof.Rows L2

/-- what the text says of the program's own error classes -/
noncomputable def XcOk (K : PySem.W.Frag) (mg : Str → Option Value) : Prop := ∀ c Ca, xcNames.contains c = true → mg c = some (.ref Ca) → ClsOk K Ca ∧ PySem.W.kitOne K (.ref Ca) (.type "ValueError") = some true ∧
  ∀ d Cd, xcNames.contains d = true → mg d = some (.ref Cd) → PySem.W.exmOne K (.ref Ca) (.ref Cd) = some (subX c d) ∧ PySem.W.kitOne K (.ref Ca) (.ref Cd) = some (subX c d)

section
variable {X : Cx} {S : Sg} {k : Nat} {C : Orc} {D : OrcX}
/-! ### statements that raise -/
noncomputable def onX (g : Rho → Option Str) (r : Rho) : Option (Str × Rho) := match g r with
  | some c => some (c, r)
  | none => none
noncomputable def ifX (gc : Rho → Option PyData) (ga gb : Rho → Option (Str × Rho)) (r : Rho) : Option (Str × Rho) := match gc r with
  | some (.bool true) => ga r
  | some (.bool false) => gb r
  | _ => none
noncomputable def seqX (gx : Rho → Option (Str × Rho)) (g : Rho → Option Fl) (ux : Rho → Option (Str × Rho)) (r : Rho) : Option (Str × Rho) := match gx r with
  | some p => some p
  | none => match g r with
    | some (.nx r') => ux r'
    | _ => none
/-! ### raise -/
noncomputable def raiseD (x : Str) (g : Rho → Option (List PyData)) (r : Rho) : Option (Str × Rho) := match g r with
  | some ds => if okLen ds.length = true then some (x, r) else none
  | none => none
/-! ### while -/
noncomputable def whileD (gc : Rho → Option PyData) (step : Rho → Option Fl) : Nat → Rho → Option Fl
  | 0, _ => none
  | n + 1, r => match gc r with
    | some (.bool false) => some (.nx r)
    | some (.bool true) => (match step r with
      | some (.nx r1) => whileD gc step n r1
      | some (.ct r1) => whileD gc step n r1
      | some (.bk r1) => some (.nx r1)
      | some (.rt v) => some (.rt v)
      | none => none)
    | _ => none
end
end PL

set_option Elab.async false
set_option linter.all false
set_option maxRecDepth 100000
namespace PL
open PySem PySem.Spec PyProof.Rows L2

section
variable {X : Cx} {pins : List (Addr × Obj)} {σ : L2.St} {H : Hp} {s : Shared} {a Ca : Addr}
end

/-! ### isinstance of an exception -/
section
variable {X : Cx}
/-! ### the expressions of an except suite -/
structure Hh (X : Cx) (S : Sg) : Prop where
  hN : X.N = S.N
  hsc : X.env.scope.names = S.sc
  blt : ∀ x ∈ bltNames, X.mg x = none
  xk : XcOk X.K X.mg
  xb : ∀ c, S.xs.contains c = true → xcNames.contains c = true ∧ ∃ Ca, X.mg c = some (.ref Ca)
theorem Hh.vis {S : Sg} (h : Hh X S) {x : Str} (e : visB S.sc x = true) : Vis X.env.scope x := by
  unfold Vis
  rw [h.hsc]
  unfold visB at e
  split at e
  · rename_i q; exact .inl q
  · rename_i q; exact .inr (.inl q)
  · rename_i q; exact .inr (.inr q)
  · cases e
theorem Hh.gl {S : Sg} (h : Hh X S) {x : Str} (e : glB S.sc x = true) : Gl X x := by
  show X.env.scope.names.lookup x = _
  rw [h.hsc]
  exact of_decide_eq_true e
variable {C : Orc} {S : Sg} {a : Expr} {p : PX} {pos : Pos}
end
end PL

set_option Elab.async false
set_option linter.all false
set_option maxRecDepth 100000
namespace PL
open PySem PySem.Spec PyProof.Rows L2
section
variable {X : Cx}
noncomputable def clr (i : Nat) : Fl → Fl
  | .nx r => .nx (r.set i none)
  | .bk r => .bk (r.set i none)
  | .ct r => .ct (r.set i none)
  | .rt d => .rt d
noncomputable def inH : Option Nat → Str → Rho → Rho
  | none, _, r => r
  | some i, c, r => r.set i (some (excD c))
noncomputable def endH : Option Nat → Option Fl → Option Fl
  | _, none => none
  | none, some fl => some fl
  | some i, some fl => some (clr i fl)
noncomputable def tryD (gb : Rho → Option Fl) (xb : Rho → Option (Str × Rho)) (hc : Str) (hn : Option Nat) (gh : Rho → Option Fl) (r : Rho) : Option Fl := match gb r with
  | some fl => some fl
  | none => match xb r with
    | some (c, r1) => if subX c hc = true then endH hn (gh (inH hn c r1)) else none
    | none => none
end
end PL

set_option Elab.async false
set_option linter.all false
set_option maxRecDepth 100000
namespace PL
open PySem PySem.Spec PyProof.Rows L2

inductive PS where
  | asg (t : Tg) (e : PX)
  | ret (e : PX)
  | retN
  | ife (c : PX) (a b : List PS)
  | for_ (t : Tg) (it : PIt) (body : List PS)
  | while_ (c : PX) (body : List PS)
  | expr (e : PX)
  | pass
  | brk
  | cont
  | never
  | raise_ (c : Str) (args : List PX)
  | try_ (body : List PS) (hc : Str) (hn : Option Nat) (hb : List PS)
noncomputable def exprD (g : Rho → Option PyData) (r : Rho) : Option Fl := match g r with
  | some _ => some (.nx r)
  | none => none
mutual
noncomputable def ex (C : Orc) (D : OrcX) : PS → Rho → Option Fl
  | .asg t e => asgD t (ev C e)
  | .ret e => retD (ev C e)
  | .retN => fun _ => some (.rt .none)
  | .ife c a b => ifS (ev C c) (exs C D a) (exs C D b)
  | .for_ t it body => forS (itD C it) t (exs C D body)
  | .while_ c body => whileD (ev C c) (exs C D body) 1000000
  | .expr e => exprD (ev C e)
  | .pass => fun r => some (.nx r)
  | .brk => fun r => some (.bk r)
  | .cont => fun r => some (.ct r)
  | .never => fun _ => none
  | .raise_ _ _ => fun _ => none
  | .try_ body hc hn hb => tryD (exs C D body) (exsX C D body) hc hn (exs C D hb)
noncomputable def exs (C : Orc) (D : OrcX) : List PS → Rho → Option Fl
  | [] => fun r => some (.nx r)
  | s :: ss => fun r => match ex C D s r with
    | some (.nx r') => exs C D ss r'
    | o => o
noncomputable def exX (C : Orc) (D : OrcX) : PS → Rho → Option (Str × Rho)
  | .asg _ e => onX (evX C D e)
  | .ret e => onX (evX C D e)
  | .expr e => onX (evX C D e)
  | .ife c a b => ifX (ev C c) (exsX C D a) (exsX C D b)
  | .raise_ c args => raiseD c (evs C args)
  | _ => fun _ => none
noncomputable def exsX (C : Orc) (D : OrcX) : List PS → Rho → Option (Str × Rho)
  | [] => fun _ => none
  | s :: ss => seqX (exX C D s) (ex C D s) (exsX C D ss)
end
structure Hz (X : Cx) (S : Sg) (k : Nat) (C : Orc) (D : OrcX) : Prop extends Hs X S k C where
  hex : X.ex = []
  fx : ∀ f, S.fs.contains f = true → FXOk X k C D f
  tot : ∀ f ds d, C f ds = some d → S.fs.contains f = true
  hst : X.stack = X.env :: X.outer
  hfr : X.env.frame = some X.env.locals
  xk : XcOk X.K X.mg
  xb : ∀ c, S.xs.contains c = true → xcNames.contains c = true ∧ ∃ Ca, X.mg c = some (.ref Ca)
theorem ap_unwish {X : Cx} {E : Value → Shared → Prop} {pins : List (Addr × Obj)} {H : Hp} {b : Addr} (h : Ap (X.wish E) pins H b) : Ap X pins H b := ⟨h.top, h.loc, h.cel, h.pin, h.fre⟩
theorem thr_unwish {X : Cx} {E : Value → Shared → Prop} {pins : List (Addr × Obj)} {H : Hp} {a C : Addr} {h : Heap} (t : Thr (X.wish E) pins H a C h) : Thr X pins H a C h := by
  rcases t with ⟨p, T, r, q⟩ | ⟨p, m⟩
  · exact .inl ⟨ap_unwish p, T, r, ap_unwish q⟩
  · exact .inr ⟨ap_unwish p, m⟩
section
variable {S : Sg} {k : Nat} {C : Orc} {D : OrcX}
theorem Hz.nox {X : Cx} (h : Hz X S k C D) : Hz X.nox S k C D :=
  { toHx := h.toHx.nox, nd := h.nd, fnAll := h.fnAll, own := PassesOwn.never, hex := h.hex, fx := fun f hf => ⟨(h.fx f hf).ex⟩, tot := h.tot, hst := h.hst, hfr := h.hfr, xk := h.xk, xb := h.xb }
theorem Hz.hx {X : Cx} (h : Hz X S k C D) : HX X S k C D := { toHx := h.toHx, hex := h.hex, fx := h.fx, tot := h.tot }
theorem s_none {X : Cx} {st : Stmt} : S1 X st (fun _ => none) := ps_imp ps_never fun σ H D ⟨r, fl, env, hg, q⟩ => by cases hg
theorem asg_side {t : Tg} {tg e : Expr} {l : Nat} {env : Env} (h : okHead e = true) (ht : chkT S t tg = true) (hn : tgOk t e = true) (hn2 : notComp e = true) :
    swapsWithSole [tg] e l env = pure false ∧ swappedStores [tg] e env = pure none ∧ (assignEach [tg] env).map (·.2) = [assign tg env] := by
  refine ⟨?_, ?_, ?_⟩
  · show swapsWith e (some tg) l env = pure false
    exact swaps_ok h hn2
  · unfold chkT at ht
    split at ht
    · rfl
    · cases e <;> first | rfl | (simp [tgOk, notTup] at hn)
    · cases ht
  · unfold chkT at ht
    split at ht
    · rfl
    · rfl
    · cases ht
variable {X : Cx} {e tg it : Expr} {p : PX} {pos : Pos} {st : Stmt} {ps : PS}
/-! ### a rule for each form of statement -/
noncomputable def GS (X : Cx) (C : Orc) (D : OrcX) (sts : List Stmt) (pss : List PS) : Prop := SS1 X sts (exs C D pss)
theorem gs0 : GS X C D [] [] := ss_nil
theorem gs1 {sts : List Stmt} {pss : List PS} (h : S1 X st (ex C D ps)) (t : GS X C D sts pss) : GS X C D (st :: sts) (ps :: pss) := ss_cons h t
theorem st_asg (hx : Hs X S k C) {t : Tg} (g : Good X e (ev C p)) (h1 : chkT S t tg = true) (h2 : tgOk t e = true) (h3 : notComp e = true) (hh : okHead e = true) : S1 X (.Assign [tg] e pos) (ex C D (.asg t p)) := by
  obtain ⟨a1, a2, a3⟩ := asg_side (l := pos.line) (env := X.env) hh h1 h2 h3
  exact s_asg g.1 (target_ok hx h1) a1 a2 a3
/-! name = [.. for ..] -/
noncomputable def swB (S : Sg) (y : Str) (py cpos : Pos) (sc : Scope) : Bool := (S.sc.lookup y == some .local) && (py.line == cpos.line) && !(sc.names.any fun x => match x with | (n, k) => n == y && (k == .local || k == .cell))
theorem sw_ok (hx : Hx X S k C) {elt : Expr} {gens : List Comprehension} {y : Str} {py cpos : Pos} {sc : Scope} {l : Nat} (h : swB S y py cpos sc = true) (hk : X.env.scope.kind = .function) : swapsWithSole [.Name y py] (.ListComp elt gens sc cpos) l X.env = pure true := by
  unfold swB at h
  simp only [Bool.and_eq_true] at h
  have hb : X.env.blockKind = .function := by
    unfold Env.blockKind
    rw [hk]
    rfl
  have hy : X.env.kindOf y = S.sc.lookup y := by show X.env.scope.names.lookup y = _; rw [hx.hsc]
  show (pure (X.env.blockKind == .function && X.env.kindOf y == some .local && py.line == cpos.line && !(sc.names.any fun x => match x with | (n, k) => n == y && (k == .local || k == .cell))) : Sem Bool) = pure true
  rw [hb, hy, h.1.1, h.1.2, h.2]
  rfl
theorem st_compI (hx : Hs X S k C) {elt cn : Expr} {i : Nat} {y : Str} {py cpos : Pos} {t : Tg} {pit : PIt} {NC : List Str} {mp : List (Option Nat)} {sc : Scope} {pe pc : PX} (h : chkComp S NC mp sc = true) (ht : chkTL (compSg S NC sc.names) t tg = true) (hi : IG X C tg it pit)
    (hb : ∀ X', Hx X' (compSg S NC sc.names) k C → Good X' elt (ev C pe)) (hc : ∀ X', Hx X' (compSg S NC sc.names) k C → Good X' cn (ev C pc)) (h1 : chkT S (.one i) (.Name y py) = true) (h2 : swB S y py cpos sc = true) : S1 X (.Assign [.Name y py] (.ListComp elt [⟨tg, it, [cn], 0⟩] sc cpos) pos) (ex C D (.asg (.one i) (.comp t pit NC mp [pc] pe))) := by
  have hnd : NC.Nodup := by
    have := h
    unfold chkComp at this
    simp only [Bool.and_eq_true, decide_eq_true_eq] at this
    exact this.2
  refine s_comp (t := t) (t0 := .one i) (NC := NC) (mp := mp) hx.calm (comp_sc hx.toHx h) hi.1 hi.2 (fun cl Ca s H exx hk => ?_) (target_ok hx h1) (sw_ok hx.toHx h2) rfl
  have hxc := comp_hx hx.toHx (NC := NC) (sc := sc) cl Ca s H exx hk
  exact ⟨(hb _ hxc).1, .inr ⟨cn, rfl, (hc _ hxc).2.1⟩, targetL_ok hxc hnd ht⟩
theorem st_ret (g : Good X e (ev C p)) : S1 X (.Return (some e) pos) (ex C D (.ret p)) := s_ret g.1
theorem st_if {a b : List Stmt} {pa pb : List PS} (g : Good X e (ev C p)) (ha : GS X C D a pa) (hb : GS X C D b pb) : S1 X (.If e a b pos) (ex C D (.ife p pa pb)) := s_if g.2.1 ha hb
theorem st_for (hx : Hs X S k C) {t : Tg} {pit : PIt} {body : List Stmt} {pb : List PS} (h1 : chkT S t tg = true) (hi : IG X C tg it pit) (hb : GS X C D body pb) : S1 X (.For tg it body [] pos) (ex C D (.for_ t pit pb)) := s_for hx hi.1 (target_ok hx h1) hb hi.2
theorem st_raise {c : Str} {args : List PX} : S1 X st (ex C D (.raise_ c args)) := s_none
/-! the same, where they raise -/
noncomputable def GX (X : Cx) (C : Orc) (D : OrcX) (sts : List Stmt) (pss : List PS) : Prop := XSS1 X sts (exsX C D pss)
/-! a handler's suite -/
end
theorem lookup_fst {β : Type} {f : Str} {D : β} : ∀ {l : List (Str × β)}, l.lookup f = some D → f ∈ l.map (·.1)
  | [], h => by simp at h
  | (n, b) :: r, h => by
    rw [List.lookup_cons] at h
    split at h
    · rename_i z
      rw [eq_of_beq z]
      simp
    · exact List.mem_cons_of_mem _ (lookup_fst h)
/-! ### defs -/
structure Df where
  name : Str
  ps : List Str
  N : List Str
  body : List PS
noncomputable def startD (N : List Str) (ds : List PyData) : Rho := ds.map some ++ List.replicate (N.length - ds.length) none
noncomputable def outD : Option Fl → Option PyData
  | some (.rt d) => some d
  | some (.nx _) => some .none
  | _ => none
noncomputable def runD (C : Orc) (E : OrcX) (D : Df) (ds : List PyData) : Option PyData := if decide (ds.length = D.ps.length) = true then outD (exs C E D.body (startD D.N ds)) else none
noncomputable def runX (xs : List Str) (C : Orc) (E : OrcX) (D : Df) (ds : List PyData) : Option Str := if decide (ds.length = D.ps.length) = true then (match exsX C E D.body (startD D.N ds) with
  | some (c, _) => if xs.contains c = true then some c else none
  | none => none) else none
/-- the defs of a text, and its own error classes -/
structure Tb where
  df : Str → Option Df
  xs : List Str
  /-- defs whose promise is shown by hand: how many names are handed in, what comes back -/
  fo : Str → Option (Nat × (List PyData → Option PyData)) := fun _ => none
  /-- the defs whose exceptions are told -/
  dx : Str → Bool := fun _ => false
noncomputable def foD (o : Option (Nat × (List PyData → Option PyData))) (ds : List PyData) : Option PyData := match o with
  | some (k, g) => if decide (ds.length = k) = true then g ds else none
  | none => none
noncomputable def callP (tb : Tb) : Nat → Orc × OrcX
  | 0 => (fun _ _ => none, fun _ _ => none)
  | n + 1 => (fun f ds => match tb.df f with
    | some D => runD (callP tb n).1 (callP tb n).2 D ds
    | none => foD (tb.fo f) ds, fun f ds => match tb.df f with
    | some D => if tb.dx f = true then runX tb.xs (callP tb n).1 (callP tb n).2 D ds else none
    | none => none)
noncomputable def callN (tb : Tb) (n : Nat) : Orc := (callP tb n).1
noncomputable def callE (tb : Tb) (n : Nat) : OrcX := (callP tb n).2
theorem runD_some {C : Orc} {E : OrcX} {D : Df} {ds : List PyData} {d : PyData} (h : runD C E D ds = some d) : ds.length = D.ps.length ∧ outD (exs C E D.body (startD D.N ds)) = some d := by
  unfold runD at h
  split at h
  · rename_i e; exact ⟨of_decide_eq_true e, h⟩
  · cases h
theorem runX_some {xs : List Str} {C : Orc} {E : OrcX} {D : Df} {ds : List PyData} {c : Str} (h : runX xs C E D ds = some c) : ds.length = D.ps.length ∧ xs.contains c = true ∧ ∃ r, exsX C E D.body (startD D.N ds) = some (c, r) := by
  unfold runX at h
  split at h
  · rename_i e
    cases e2 : exsX C E D.body (startD D.N ds) with
    | none => rw [e2] at h; cases h
    | some p =>
      rw [e2] at h
      obtain ⟨c', r⟩ := p
      simp only at h
      obtain ⟨q1, q2⟩ := ite_some h
      subst q2
      exact ⟨of_decide_eq_true e, q1, r, rfl⟩
  · cases h
theorem callN_some {tb : Tb} {n : Nat} {f : Str} {D : Df} (hD : tb.df f = some D) {ds : List PyData} {d : PyData} (h : callN tb n f ds = some d) : ds.length = D.ps.length := by
  cases n with
  | zero => cases h
  | succ n =>
    unfold callN callP at h
    simp only [hD] at h
    exact (runD_some h).1
theorem callE_some {tb : Tb} {n : Nat} {f : Str} {D : Df} (hD : tb.df f = some D) {ds : List PyData} {c : Str} (h : callE tb n f ds = some c) : ds.length = D.ps.length ∧ tb.xs.contains c = true := by
  cases n with
  | zero => cases h
  | succ n =>
    unfold callE callP at h
    simp only [hD] at h
    obtain ⟨_, h⟩ := ite_some' h
    exact ⟨(runX_some h).1, (runX_some h).2.1⟩

/-- a def of the text that stands behind the top, with its deep form -/
structure DOk (K : PySem.W.Frag) (mg : Str → Option Value) (fs xs : List Str) (dx : Bool) (D : Df) (st : Stmt) (f : Addr) (fd : FuncData) : Prop where
  fn : Fun K D.name D.name st f fd
  mgf : mg D.name = some (.ref f)
  bd : Binds K fd D.ps []
  sc : FnScope D.N D.ps (defScope st)
  ok : ∀ {X : Cx} {k : Nat} {C : Orc} {E : OrcX}, Hz X ⟨D.N, (defScope st).names, fs, xs⟩ k C E → GS X C E (defBody st) D.body
  okx : dx = true → ∀ {X : Cx} {k : Nat} {C : Orc} {E : OrcX}, Hz X ⟨D.N, (defScope st).names, fs, xs⟩ k C E → GX X C E (defBody st) D.body

theorem start_ok {K : PySem.W.Frag} {mg : Str → Option Value} {H : Hp} {N : List Str} {ds : List PyData} {vs : List V} (b : Brs K mg H ds vs) (hl : ds.length ≤ N.length) : EnvOk K mg H (startD N ds) (L2.start N vs) := by
  have hlen := brs_length ds vs b
  refine ⟨by unfold startD L2.start; simp only [List.length_append, List.length_map, List.length_replicate]; omega, fun i d e => ?_⟩
  unfold startD at e
  by_cases hi : i < ds.length
  · rw [List.getElem?_append_left (by simpa using hi), List.getElem?_map] at e
    cases e1 : ds[i]? with
    | none => rw [e1] at e; cases e
    | some d' =>
      rw [e1] at e
      injection e with e; injection e with e
      subst e
      obtain ⟨v, e2, b2⟩ := brs_get ds vs i d' b e1
      refine ⟨v, ?_, b2⟩
      unfold L2.start
      rw [List.getElem?_append_left (by rw [List.length_map, ← hlen]; exact hi), List.getElem?_map, e2]
      rfl
  · rw [List.getElem?_append_right (by simpa using hi), List.getElem?_replicate] at e
    split at e <;> cases e

section
variable {P : Program} {w : World} {K : PySem.W.Frag} {mg : Str → Option Value} {base : Heap}
theorem callN_tot {tb : Tb} {fs : List Str} (htb : ∀ f D, tb.df f = some D → fs.contains f = true) (hto : ∀ f o, tb.fo f = some o → fs.contains f = true) {n : Nat} (f : Str) (ds : List PyData) (d : PyData) (h : callN tb n f ds = some d) : fs.contains f = true := by
  cases n with
  | zero => cases h
  | succ n =>
    unfold callN callP at h
    cases e : tb.df f with
    | none =>
      simp only [e] at h
      cases e2 : tb.fo f with
      | none => rw [e2] at h; cases h
      | some o => exact hto f o e2
    | some D => exact htb f D e
/-- a def whose promise is shown by hand -/
structure FOk2 (P : Program) (w : World) (K : PySem.W.Frag) (mg : Str → Option Value) (base : Heap) (f : Str) (k : Nat) (g : List PyData → Option PyData) : Prop where
  ex : ∃ (fa : Addr) (fd : FuncData) (ps : List Str), mg f = some (.ref fa) ∧ PySem.W.keepIn K (.ref fa) = true ∧ Binds K fd ps [] ∧ ps.length = k ∧ FnOk P w K mg base CX0 1 fa fd ps (spP K mg k g)
theorem fn_up {n j : Nat} {fa : Addr} {fd : FuncData} {ps : List Str} {g g' : List PyData → Option PyData} {gx : List PyData → Option Str} (F : FnOk P w K mg base CX0 1 fa fd ps (spP K mg j g)) (hg : ∀ ds d, g' ds = some d → g ds = some d) (hx : ∀ ds, gx ds = none) (hn : 1 ≤ n) : FnOk P w K mg base (CX1 P w) n fa fd ps (spX K mg j g' gx) := by
  have F' := F.mono hn
  have imp : ∀ vs H Q E, spX K mg j g' gx vs H Q E → spP K mg j g vs H Q E := fun vs H Q E h => by
    rcases h.2 with ⟨xs, d, b, e, q⟩ | ⟨xs, c, _, _, e, _⟩
    · exact ⟨h.1, xs, d, b, hg _ _ e, q⟩
    · rw [hx] at e; cases e
  exact ⟨fun vs H Q E h => F'.len vs H Q E (imp vs H Q E h), fun A outer s H args us vs Q E hr he hb hv hs => codeAny_mono (F'.run A outer s H args us vs Q E hr he hb hv (imp vs H Q E hs)) fun rr s' hq => by
    cases rr with
    | ok fl => cases fl <;> exact hq
    | error e => exact False.elim hq⟩
theorem every_fx (tb : Tb) {fs : List Str} (xb : ∀ c, tb.xs.contains c = true → xcNames.contains c = true ∧ ∃ Ca, mg c = some (.ref Ca))
    (all : ∀ f, fs.contains f = true → (∃ D st fa fd, tb.df f = some D ∧ D.name = f ∧ DOk K mg fs tb.xs (tb.dx f) D st fa fd) ∨ (tb.df f = none ∧ ∃ k g, tb.fo f = some (k, g) ∧ FOk2 P w K mg base f k g)) (n : Nat)
    (ih : ∀ (f : Str) (D : Df) (st : Stmt) (fa : Addr) (fd : FuncData), tb.df f = some D → D.name = f → DOk K mg fs tb.xs (tb.dx f) D st fa fd → FnOk P w K mg base (CX1 P w) (2 * n) fa fd D.ps (spX K mg D.ps.length (callN tb n f) (callE tb n f))) :
    ∀ f, fs.contains f = true → ∃ (fa : Addr) (fd : FuncData) (ps : List Str), mg f = some (.ref fa) ∧ PySem.W.keepIn K (.ref fa) = true ∧ Binds K fd ps [] ∧
      FnOk P w K mg base (CX1 P w) (2 * n) fa fd ps (spX K mg ps.length (callN tb n f) (callE tb n f)) ∧ (∀ ds d, callN tb n f ds = some d → ds.length = ps.length) ∧ (∀ ds c, callE tb n f ds = some c → ds.length = ps.length ∧ xcNames.contains c = true ∧ ∃ A, mg c = some (.ref A)) := by
  intro g hg
  rcases all g hg with ⟨D', st', fa', fd', t1, t2, t3⟩ | ⟨t0, k, gg, t1, fa', fd', ps', h1, h2, h3, h4, h5⟩
  · refine ⟨fa', fd', D'.ps, ?_, t3.fn.kp, t3.bd, ih g D' st' fa' fd' t1 t2 t3, fun ds d z => callN_some t1 z, fun ds c z => ⟨(callE_some t1 z).1, xb c (callE_some t1 z).2⟩⟩
    rw [← t2]; exact t3.mgf
  · have eN : ∀ ds d, callN tb n g ds = some d → ds.length = k ∧ gg ds = some d ∧ 1 ≤ n := fun ds d z => by
      cases n with
      | zero => cases z
      | succ n =>
        unfold callN callP at z
        simp only [t0] at z
        rw [t1] at z
        unfold foD at z
        split at z
        · rename_i k' g' ek
          injection ek with ek
          injection ek with ek1 ek2
          subst ek1 ek2
          split at z
          · rename_i ek; exact ⟨of_decide_eq_true ek, z, by omega⟩
          · cases z
        · cases z
    have eE : ∀ ds, callE tb n g ds = none := fun ds => by
      cases n with
      | zero => rfl
      | succ n =>
        unfold callE callP
        simp only [t0]
    refine ⟨fa', fd', ps', h1, h2, h3, ?_, fun ds d z => by rw [h4]; exact (eN ds d z).1, fun ds c z => by rw [eE] at z; cases z⟩
    rw [h4]
    cases n with
    | zero =>
      have no : ∀ vs H Q E, ¬ spX K mg k (callN tb 0 g) (callE tb 0 g) vs H Q E := fun vs H Q E h => by
        rcases h.2 with ⟨xs, d, _, e, _⟩ | ⟨xs, c, Ca, _, e, _⟩
        · cases e
        · cases e
      exact ⟨fun vs H Q E h => absurd h (no vs H Q E), fun A outer s H args us vs Q E _ _ _ _ h => absurd h (no vs H Q E)⟩
    | succ n => exact fn_up h5 (fun ds d z => (eN ds d z).2.1) eE (by omega)
theorem funs_ok (tb : Tb) (fs : List Str) (htb : ∀ f D, tb.df f = some D → fs.contains f = true) (hto : ∀ f o, tb.fo f = some o → fs.contains f = true) (hb : ∀ x ∈ bltNames, mg x = none) (xk : XcOk K mg) (xb : ∀ c, tb.xs.contains c = true → xcNames.contains c = true ∧ ∃ Ca, mg c = some (.ref Ca))
    (all : ∀ f, fs.contains f = true → (∃ D st fa fd, tb.df f = some D ∧ D.name = f ∧ DOk K mg fs tb.xs (tb.dx f) D st fa fd) ∨ (tb.df f = none ∧ ∃ k g, tb.fo f = some (k, g) ∧ FOk2 P w K mg base f k g)) :
    ∀ (n : Nat) (f : Str) (D : Df) (st : Stmt) (fa : Addr) (fd : FuncData), tb.df f = some D → D.name = f → DOk K mg fs tb.xs (tb.dx f) D st fa fd → FnOk P w K mg base (CX1 P w) (2 * n) fa fd D.ps (spX K mg D.ps.length (callN tb n f) (callE tb n f))
  | 0, f, D, st, fa, fd, hD, hn, ok => by
    have no : ∀ vs H Q E, ¬ spX K mg D.ps.length (callN tb 0 f) (callE tb 0 f) vs H Q E := fun vs H Q E h => by
      rcases h.2 with ⟨xs, d, _, e, _⟩ | ⟨xs, c, Ca, _, e, _⟩
      · cases e
      · cases e
    exact ⟨fun vs H Q E h => absurd h (no vs H Q E), fun A outer s H args us vs Q E _ _ _ _ h => absurd h (no vs H Q E)⟩
  | n + 1, f, D, st, fa, fd, hD, hn, ok => by
    have ih := funs_ok tb fs htb hto hb xk xb all n
    have every := every_fx tb xb all n ih
    obtain ⟨oc, od, kV, doc, pm, an, cdv, ct, osl, efd, lk, hcd⟩ := ok.fn.ex
    subst efd
    rw [show 2 * (n + 1) = 2 * n + 1 + 1 by omega]
    refine fn_of lk hcd ok.sc (fun vs H Q E h => h.1) fun A outer s H vs Q E hr h => ?_
    obtain ⟨hl, h⟩ := h
    have hx : Hz (cxOf (CX1 P w) P w K mg base D.N D.name (defScope st) fa cdv A outer s H E).nox ⟨D.N, (defScope st).names, fs, tb.xs⟩ (2 * n) (callN tb n) (callE tb n) := {
      hN := rfl
      hsc := rfl
      fns := fun g hg => by
        obtain ⟨fa', fd', ps', h1, h2, h3, h4, h5, h6⟩ := every g hg
        exact ⟨fa', fd', ps', h1, h2, h3, fn_norm h4, h5⟩
      blt := hb
      room := hr.mono (by omega)
      room1 := hr.in1
      calm := rfl
      nd := ok.sc.nd
      fnAll := fun _ => rfl
      own := PassesOwn.never
      hex := rfl
      fx := fun g hg => ⟨every g hg⟩
      tot := fun f ds d z => callN_tot htb hto f ds d z
      hst := rfl
      hfr := rfl
      xk := xk
      xb := xb }
    have hpl : D.ps.length ≤ D.N.length := by have := congrArg List.length ok.sc.pre; rw [List.length_take] at this; omega
    rcases h with ⟨ds, d, b, e, q⟩ | ⟨ds, c, Ca, b, e, hm, q⟩
    · have e' : runD (callN tb n) (callE tb n) D ds = some d := by
        unfold callN callP at e
        simp only [hD] at e
        exact e
      obtain ⟨h1, h2⟩ := runD_some e'
      refine ⟨_, PSs.nox (ok.ok hx), ?_⟩
      have env := start_ok (N := D.N) b (by omega)
      cases e1 : exs (callN tb n) (callE tb n) D.body (startD D.N ds) with
      | none => rw [e1] at h2; cases h2
      | some fl =>
        rw [e1] at h2
        refine ⟨_, fl, env, e1, ?_⟩
        cases fl with
        | nx r =>
          injection h2 with h2; subst h2
          exact fun σ' H' s' _ => q .non H' s' (by simp only [Br])
        | rt v =>
          injection h2 with h2; subst h2
          exact fun u H' s' bu => q u H' s' bu
        | bk r => cases h2
        | ct r => cases h2
    · have e' : runX tb.xs (callN tb n) (callE tb n) D ds = some c := by
        unfold callE callP at e
        simp only [hD] at e
        exact (ite_some' e).2
      have hdx : tb.dx f = true := by
        unfold callE callP at e
        simp only [hD] at e
        exact (ite_some' e).1
      obtain ⟨h1, _, r', h2⟩ := runX_some e'
      have env := start_ok (N := D.N) b (by omega)
      refine ⟨fun _ σ H' => σ = L2.start D.N vs ∧ H' = H, ?_, rfl, rfl⟩
      intro pins s1 σ H' D' I ⟨es, eh⟩
      subst es eh
      have run := ok.okx hdx hx pins s1 _ _ _ c r' (I.wish _) env h2
      refine wpAny_mono run (fun _ _ z => False.elim z) fun ev s2 ⟨a, Cb, H2, σ2, ee, ⟨_, hm2⟩, I2, sm, thr, _⟩ => ?_
      subst ee
      have eC : Cb = Ca := by
        have := hm2.symm.trans hm
        injection this with this; injection this
      subst eC
      have I2' := I2.unwish
      refine leave_ok (X := cxOf (CX1 P w) P w K mg base D.N D.name (defScope st) fa cdv A outer s H' E) rfl I2' (thr_unwish thr) rfl rfl fun h' I3 t3 => ?_
      exact left_cx (X := cxOf (CX1 P w) P w K mg base D.N D.name (defScope st) fa cdv A outer s H' E) rfl I3 t3 I3.os (q H2 sm)
end
end PL

set_option Elab.async false
set_option linter.all false
set_option maxRecDepth 100000
namespace PL
open PySem PySem.Spec PyProof.Rows L2

/-! ### how a deep def is unfolded -/
section
variable (C : Orc) {E : OrcX} (r : Rho)
@[simp] theorem u_vr0 (d : PyData) : vr 0 (some d :: r) = some d := rfl
@[simp] theorem u_vrS (i : Nat) (o : Option PyData) : vr (i + 1) (o :: r) = vr i r := rfl
@[simp] theorem u_k (d : PyData) : ev C (.k d) r = some d := rfl
@[simp] theorem u_v (i : Nat) : ev C (.v i) r = vr i r := rfl
@[simp] theorem u_g (f : Str) : ev C (.g f) r = some (fnD f) := rfl
@[simp] theorem u_bin (op : Operator) (a b : PX) : ev C (.bin op a b) r = (match ev C a r with | some x => (match ev C b r with | some y => binD op x y | none => none) | none => none) := rfl
@[simp] theorem u_cmp (op : CmpOp) (a b : PX) : ev C (.cmp op a b) r = (match ev C a r with | some x => (match ev C b r with | some y => cmpD op x y | none => none) | none => none) := rfl
@[simp] theorem u_and (a b : PX) : ev C (.and a b) r = (match ev C a r with | some (.bool true) => ev C b r | some (.bool false) => some (.bool false) | _ => none) := rfl
@[simp] theorem u_or (a b : PX) : ev C (.or a b) r = (match ev C a r with | some (.bool true) => some (.bool true) | some (.bool false) => ev C b r | _ => none) := rfl
@[simp] theorem u_not (a : PX) : ev C (.not a) r = (match ev C a r with | some (.bool b) => some (.bool (!b)) | _ => none) := rfl
@[simp] theorem u_neg (a : PX) : ev C (.neg a) r = (match ev C a r with | some x => negD x | none => none) := rfl
@[simp] theorem u_ife (c a b : PX) : ev C (.ife c a b) r = (match ev C c r with | some (.bool true) => ev C a r | some (.bool false) => ev C b r | _ => none) := rfl
@[simp] theorem u_tup (xs : List PX) : ev C (.tup xs) r = (match evs C xs r with | some ds => if okLen ds.length = true then some (.tuple ds) else none | none => none) := rfl
@[simp] theorem u_lst (xs : List PX) : ev C (.lst xs) r = (match evs C xs r with | some ds => if okLen ds.length = true then some (.list ds) else none | none => none) := rfl
@[simp] theorem u_call (f : Str) (xs : List PX) : ev C (.call f xs) r = (match evs C xs r with | some ds => C f ds | none => none) := rfl
@[simp] theorem u_blt (b : Bl) (xs : List PX) : ev C (.blt b xs) r = (match evs C xs r with | some ds => b.fn ds | none => none) := rfl
@[simp] theorem u_isin (T : Ty) (a : PX) : ev C (.isin T a) r = (match ev C a r with | some x => isinD T x | none => none) := rfl
@[simp] theorem u_ix (a b : PX) : ev C (.ix a b) r = (match ev C a r with | some x => (match ev C b r with | some y => ixD x y | none => none) | none => none) := rfl
@[simp] theorem u_sl (a lo hi : PX) : ev C (.sl a lo hi) r = sl4 (ev C a) (part lo (ev C lo)) (part hi (ev C hi)) r := rfl
@[simp] theorem u_callv (f : PX) (xs : List PX) : ev C (.callv f xs) r = callvD C (ev C f) (evs C xs) r := rfl
@[simp] theorem u_comp (t : Tg) (it : PIt) (NC : List Str) (mp : List (Option Nat)) (cs : List PX) (e : PX) : ev C (.comp t it NC mp cs e) r = compD t (itD C it) mp (condD (evl C cs)) (ev C e) r := rfl
@[simp] theorem u_rev (a : PX) : ev C (.rev a) r = (match ev C a r with | some x => revD x | none => none) := rfl
@[simp] theorem u_sset (a : PX) : ev C (.sset a) r = (match ev C a r with | some x => ssetD x | none => none) := rfl
@[simp] theorem u_mink (f : Str) (a b : PX) : ev C (.mink f a b) r = (match ev C a r with | some x => (match ev C b r with | some y => minkD C f x y | none => none) | none => none) := rfl
@[simp] theorem u_nil : evs C [] r = some [] := rfl
@[simp] theorem u_cons (x : PX) (xs : List PX) : evs C (x :: xs) r = (match ev C x r with | some d => (match evs C xs r with | some ds => some (d :: ds) | none => none) | none => none) := rfl
@[simp] theorem u_asg1 (i : Nat) (e : PX) : ex C E (.asg (.one i) e) r = (match ev C e r with | some d => some (.nx (r.set i (some d))) | none => none) := by
  show asgD (.one i) (ev C e) r = _
  unfold asgD setTg
  cases ev C e r <;> rfl
@[simp] theorem u_asgM (is : List Nat) (e : PX) : ex C E (.asg (.many is) e) r = (match ev C e r with | some d => (match setTg (.many is) d r with | some r' => some (.nx r') | none => none) | none => none) := rfl
@[simp] theorem u_ret (e : PX) : ex C E (.ret e) r = (match ev C e r with | some d => some (.rt d) | none => none) := rfl
@[simp] theorem u_ifS (c : PX) (a b : List PS) : ex C E (.ife c a b) r = (match ev C c r with | some (.bool true) => exs C E a r | some (.bool false) => exs C E b r | _ => none) := rfl
@[simp] theorem u_for (t : Tg) (it : PIt) (b : List PS) : ex C E (.for_ t it b) r = (match itD C it r with | some ds => forD t (exs C E b) ds r | none => none) := rfl
@[simp] theorem u_expr (e : PX) : ex C E (.expr e) r = (match ev C e r with | some _ => some (.nx r) | none => none) := rfl
@[simp] theorem u_raise (c : Str) (as : List PX) : ex C E (.raise_ c as) r = none := rfl
@[simp] theorem x_asg1 (t : Tg) (e : PX) : exX C E (.asg t e) r = onX (evX C E e) r := rfl
@[simp] theorem x_ret1 (e : PX) : exX C E (.ret e) r = onX (evX C E e) r := rfl
@[simp] theorem x_expr1 (e : PX) : exX C E (.expr e) r = onX (evX C E e) r := rfl
@[simp] theorem x_raise1 (c : Str) (as : List PX) : exX C E (.raise_ c as) r = (match evs C as r with | some ds => if okLen ds.length = true then some (c, r) else none | none => none) := rfl
@[simp] theorem x_ife1 (c : PX) (a b : List PS) : exX C E (.ife c a b) r = (match ev C c r with | some (.bool true) => exsX C E a r | some (.bool false) => exsX C E b r | _ => none) := rfl
@[simp] theorem x_ss0 : exsX C E [] r = none := rfl
@[simp] theorem x_ssS (s : PS) (ss : List PS) : exsX C E (s :: ss) r = (match exX C E s r with | some p => some p | none => match ex C E s r with | some (.nx r') => exsX C E ss r' | _ => none) := rfl
@[simp] theorem x_call1 (f : Str) (xs : List PX) : evX C E (.call f xs) r = (match evsX C E xs r with | some c => some c | none => match evs C xs r with | some ds => E f ds | none => none) := rfl
@[simp] theorem x_tup1 (xs : List PX) : evX C E (.tup xs) r = evsX C E xs r := rfl
@[simp] theorem x_lst1 (xs : List PX) : evX C E (.lst xs) r = evsX C E xs r := rfl
@[simp] theorem x_es0 : evsX C E [] r = none := rfl
@[simp] theorem x_esS (x : PX) (xs : List PX) : evsX C E (x :: xs) r = (match evX C E x r with | some c => some c | none => match ev C x r with | some _ => evsX C E xs r | none => none) := rfl
@[simp] theorem x_k (d : PyData) : evX C E (.k d) r = none := rfl
@[simp] theorem x_v (i : Nat) : evX C E (.v i) r = none := rfl
@[simp] theorem x_ix (a b : PX) : evX C E (.ix a b) r = none := rfl
@[simp] theorem x_bin (o : Operator) (a b : PX) : evX C E (.bin o a b) r = none := rfl
@[simp] theorem x_cmp (o : CmpOp) (a b : PX) : evX C E (.cmp o a b) r = none := rfl
@[simp] theorem x_sl (a b c : PX) : evX C E (.sl a b c) r = none := rfl
@[simp] theorem x_and (a b : PX) : evX C E (.and a b) r = none := rfl
@[simp] theorem x_or (a b : PX) : evX C E (.or a b) r = none := rfl
@[simp] theorem x_not (a : PX) : evX C E (.not a) r = none := rfl
@[simp] theorem u_fstr (xs : List PX) : ev C (.fstr xs) r = fstrD (evs C xs) r := rfl
@[simp] theorem u_isx (c : Str) (a : PX) : ev C (.isx c a) r = (match ev C a r with | some x => isxD c x | none => none) := rfl
@[simp] theorem u_never : ex C E .never r = none := rfl
@[simp] theorem u_enum (e : PX) : itD C (.enum e) r = enumIt (ev C e) r := rfl
@[simp] theorem u_seq (e : PX) : itD C (.seq e) r = anyIt (ev C e) r := rfl
@[simp] theorem u_ss0 : exs C E [] r = some (.nx r) := rfl
@[simp] theorem u_ssS (s : PS) (ss : List PS) : exs C E (s :: ss) r = (match ex C E s r with | some (.nx r') => exs C E ss r' | o => o) := rfl
@[simp] theorem u_outRt (d : PyData) : outD (some (.rt d)) = some d := rfl
@[simp] theorem u_outN : outD none = none := rfl
theorem u_run (D : Df) (ds : List PyData) (h : ds.length = D.ps.length) : runD C E D ds = outD (exs C E D.body (startD D.N ds)) := by
  unfold runD; rw [if_pos (decide_eq_true h)]
@[simp] theorem u_addI (i j : Int) : binD .Add (.int i) (.int j) = some (.int (i + j)) := rfl
@[simp] theorem u_addB (k : Bool) (j : Int) : binD .Add (.bool k) (.int j) = some (.int (b01 k + j)) := rfl
@[simp] theorem u_subI (i j : Int) : binD .Sub (.int i) (.int j) = some (.int (i - j)) := rfl
@[simp] theorem u_mulI (i j : Int) : binD .Mult (.int i) (.int j) = if okMul i j = true then some (.int (i * j)) else none := rfl
@[simp] theorem u_divI (i j : Int) : binD .FloorDiv (.int i) (.int j) = if okDiv j = true then some (.int (i / j)) else none := rfl
@[simp] theorem u_modI (i j : Int) : binD .Mod (.int i) (.int j) = if decide (0 < j) = true then some (.int (i % j)) else none := rfl
@[simp] theorem u_powI (i j : Int) : binD .Pow (.int i) (.int j) = if okPow i j = true then some (.int (i ^ j.toNat)) else none := rfl
@[simp] theorem u_lt (i j : Int) : cmpD .Lt (.int i) (.int j) = some (.bool (decide (i < j))) := rfl
@[simp] theorem u_le (i j : Int) : cmpD .LtE (.int i) (.int j) = some (.bool (decide (i ≤ j))) := rfl
@[simp] theorem u_gt (i j : Int) : cmpD .Gt (.int i) (.int j) = some (.bool (decide (j < i))) := rfl
@[simp] theorem u_ge (i j : Int) : cmpD .GtE (.int i) (.int j) = some (.bool (decide (j ≤ i))) := rfl
@[simp] theorem u_eqI (i j : Int) : cmpD .Eq (.int i) (.int j) = some (.bool (decide (i = j))) := by
  show some (PyData.bool (i == j)) = _
  rfl
@[simp] theorem u_eqB (i j : Bool) : cmpD .Eq (.bool i) (.bool j) = some (.bool (i == j)) := rfl
@[simp] theorem u_neI (i j : Int) : cmpD .NotEq (.int i) (.int j) = some (.bool (!decide (i = j))) := by
  show some (PyData.bool (!(i == j))) = _
  rfl
@[simp] theorem u_isT (d : PyData) : isinD .tuple d = (match d with | .tuple _ => some (.bool true) | .dict _ => none | _ => some (.bool false)) := by cases d <;> rfl
@[simp] theorem u_isI (d : PyData) : isinD .int d = (match d with | .int _ => some (.bool true) | .bool _ => some (.bool true) | .dict _ => none | _ => some (.bool false)) := by cases d <;> rfl
@[simp] theorem u_isB (d : PyData) : isinD .bool d = (match d with | .bool _ => some (.bool true) | .dict _ => none | _ => some (.bool false)) := by cases d <;> rfl
@[simp] theorem u_isS (d : PyData) : isinD .str d = (match d with | .str _ => some (.bool true) | .dict _ => none | _ => some (.bool false)) := by cases d <;> rfl
@[simp] theorem u_negI (i : Int) : negD (.int i) = some (.int (-i)) := rfl
@[simp] theorem u_negB (k : Bool) : negD (.bool k) = some (.int (-(b01 k))) := rfl
@[simp] theorem u_strB (k : Bool) : Bl.fn .str [.bool k] = some (.str (if k then "True" else "False")) := rfl
@[simp] theorem u_strS (x : Str) : Bl.fn .str [.str x] = some (.str x) := rfl
@[simp] theorem u_eqBI (k : Bool) (j : Int) : cmpD .Eq (.bool k) (.int j) = some (.bool (b01 k == j)) := rfl
@[simp] theorem u_len_l (xs : List PyData) : Bl.fn .len [.list xs] = some (.int xs.length) := rfl
@[simp] theorem u_len_t (xs : List PyData) : Bl.fn .len [.tuple xs] = some (.int xs.length) := rfl
@[simp] theorem u_min (i j : Int) : Bl.fn .min [.int i, .int j] = some (.int (if j < i then j else i)) := rfl
@[simp] theorem u_max (i j : Int) : Bl.fn .max [.int i, .int j] = some (.int (if j > i then j else i)) := rfl
@[simp] theorem u_intB (k : Bool) : Bl.fn .int [.bool k] = some (.int (if k then 1 else 0)) := rfl
@[simp] theorem u_ix_l (xs : List PyData) (i : Int) : ixD (.list xs) (.int i) = atI xs i := rfl
@[simp] theorem u_ix_t (xs : List PyData) (i : Int) : ixD (.tuple xs) (.int i) = atI xs i := rfl
end
theorem at0 {α : Type} (a : α) (xs : List α) : atI (a :: xs) 0 = some a := by
  have : ((0 : Nat) : Int) = 0 := rfl
  rw [← this]
  exact atI_nat rfl
theorem at1 {α : Type} (a b : α) (xs : List α) : atI (a :: b :: xs) 1 = some b := by
  have : ((1 : Nat) : Int) = 1 := rfl
  rw [← this]
  exact atI_nat rfl
theorem at2 {α : Type} (a b c : α) (xs : List α) : atI (a :: b :: c :: xs) 2 = some c := by
  have : ((2 : Nat) : Int) = 2 := rfl
  rw [← this]
  exact atI_nat rfl
theorem atI_ex {α : Type} (xs : List α) (i : Int) (h0 : 0 ≤ i) (h1 : i < (xs.length : Int)) : ∃ a, a ∈ xs ∧ atI xs i = some a := by
  have hk : i.toNat < xs.length := by omega
  refine ⟨xs[i.toNat], List.getElem_mem hk, ?_⟩
  have e : ((i.toNat : Nat) : Int) = i := by omega
  have q : atI xs ((i.toNat : Nat) : Int) = some xs[i.toNat] := atI_nat (by simp [hk])
  rw [e] at q
  exact q
@[simp] theorem okLen_lit0 : okLen 0 = true := by decide
@[simp] theorem okLen_lit {n : Nat} (h : n ≤ 1000000) : okLen n = true := decide_eq_true h
@[simp] theorem u_part0 (g : Rho → Option PyData) (r : Rho) : part (.k .none) g r = some .none := rfl
@[simp] theorem u_partV (i : Nat) (g : Rho → Option PyData) (r : Rho) : part (.v i) g r = (match g r with | some (.int i) => some (.int i) | _ => none) := rfl
@[simp] theorem u_partK (i : Int) (g : Rho → Option PyData) (r : Rho) : part (.k (.int i)) g r = (match g r with | some (.int i) => some (.int i) | _ => none) := rfl
@[simp] theorem u_partB (op : Operator) (a b : PX) (g : Rho → Option PyData) (r : Rho) : part (.bin op a b) g r = (match g r with | some (.int i) => some (.int i) | _ => none) := rfl
@[simp] theorem u_partN (a : PX) (g : Rho → Option PyData) (r : Rho) : part (.neg a) g r = (match g r with | some (.int i) => some (.int i) | _ => none) := rfl
@[simp] theorem u_sl3 (ga gl gh : Rho → Option PyData) (r : Rho) : sl4 ga gl gh r = (match ga r, gl r, gh r with | some x, some l, some h => (match partD l, partD h with | some lo, some hi => slD2 x lo hi | _, _ => none) | _, _, _ => none) := rfl
@[simp] theorem u_partD0 : partD .none = some none := rfl
@[simp] theorem u_partDI (i : Int) : partD (.int i) = some (some i) := rfl
@[simp] theorem u_slT (xs : List PyData) (lo hi : Option Int) : slD2 (.tuple xs) lo hi = some (.tuple (cutD xs lo hi)) := rfl
@[simp] theorem u_slL (xs : List PyData) (lo hi : Option Int) : slD2 (.list xs) lo hi = some (.list (cutD xs lo hi)) := rfl
@[simp] theorem u_revT (xs : List PyData) : revD (.tuple xs) = some (.tuple xs.reverse) := rfl
@[simp] theorem u_addT (xs ys : List PyData) : binD .Add (.tuple xs) (.tuple ys) = if okLen (xs.length + ys.length) = true then some (.tuple (xs ++ ys)) else none := rfl
@[simp] theorem u_addL (xs ys : List PyData) : binD .Add (.list xs) (.list ys) = if okLen (xs.length + ys.length) = true then some (.list (xs ++ ys)) else none := rfl
@[simp] theorem u_listT (xs : List PyData) : Bl.fn .list [.tuple xs] = some (.list xs) := rfl
@[simp] theorem u_listL (xs : List PyData) : Bl.fn .list [.list xs] = some (.list xs) := rfl
@[simp] theorem u_strI (i : Int) : Bl.fn .str [.int i] = if decide (i.natAbs.log2 < 1920) = true then some (.str (toString i)) else none := rfl
theorem okLen_of {n : Nat} (h : n ≤ 1000000) : okLen n = true := decide_eq_true h
theorem okMul_r {i j : Int} (h1 : -(2 ^ 64) < j) (h2 : j < 2 ^ 64) : okMul i j = true := decide_eq_true (.inr (.inl ⟨h1, h2⟩))
theorem okMul_l {i j : Int} (h1 : -(2 ^ 64) < i) (h2 : i < 2 ^ 64) : okMul i j = true := decide_eq_true (.inl ⟨h1, h2⟩)
end PL

set_option Elab.async false
set_option linter.all false
set_option maxRecDepth 100000
namespace PL
open PySem PySem.Spec PyProof.Rows L2

/-! ### part trees -/
set_option genSizeOf true
inductive PT where
  | z (b : Bool)
  | p (a b : PT)
  deriving DecidableEq
noncomputable def PT.toD : PT → PyData
  | .z b => .int (if b then 1 else 0)
  | .p a b => .tuple [a.toD, b.toD]
noncomputable def PT.dep : PT → Nat
  | .z _ => 0
  | .p a b => max a.dep b.dep + 1
noncomputable def PT.leaf : PT → Bool
  | .z _ => true
  | .p _ _ => false
noncomputable def PT.join (a b : PT) : PT := match a, b with
  | .z x, .z y => if x = y then .z x else .p (.z x) (.z y)
  | a, b => .p a b
noncomputable def PT.plain : PT → PT
  | .z b => .z b
  | .p a b => PT.join a.plain b.plain
noncomputable def PT.plainB : PT → Bool
  | .z _ => true
  | .p a b => a.plainB && b.plainB && decide (PT.join a b = .p a b)
theorem PT.lay : ∀ t : PT, t.toD.canLay0 = true
  | .z b => rfl
  | .p a b => by simp [PT.toD, PyData.canLay0, PyData.canLayAll0, PT.lay a, PT.lay b]
theorem PT.depD : ∀ t : PT, t.toD.depth = t.dep
  | .z b => rfl
  | .p a b => by simp [PT.toD, PyData.depth, PyData.depthAll, PT.dep, PT.depD a, PT.depD b]
theorem PT.eqv : ∀ a b : PT, PyData.eqv a.toD b.toD = decide (a = b)
  | .z x, .z y => by cases x <;> cases y <;> rfl
  | .z x, .p c d => by simp [PT.toD, PyData.eqv]
  | .p a b, .z y => by simp [PT.toD, PyData.eqv]
  | .p a b, .p c d => by
    simp only [PT.toD, PyData.eqv, PyData.eqvAll, PT.eqv a c, PT.eqv b d]
    by_cases h1 : a = c <;> by_cases h2 : b = d <;> simp [h1, h2]
theorem PT.join_dep (a b : PT) : (PT.join a b).dep ≤ max a.dep b.dep + 1 := by
  unfold PT.join
  split
  · split
    · simp [PT.dep]
    · simp [PT.dep]
  · simp [PT.dep]
theorem PT.plain_dep : ∀ t : PT, t.plain.dep ≤ t.dep
  | .z b => Nat.le_refl _
  | .p a b => by
    have := PT.join_dep a.plain b.plain
    have h1 := PT.plain_dep a
    have h2 := PT.plain_dep b
    simp only [PT.plain, PT.dep]
    omega
theorem PT.plain_id : ∀ t : PT, t.plainB = true → t.plain = t
  | .z b, _ => rfl
  | .p a b, h => by
    simp only [PT.plainB, Bool.and_eq_true, decide_eq_true_eq] at h
    simp only [PT.plain, PT.plain_id a h.1.1, PT.plain_id b h.1.2]
    exact h.2

/-! ### count trees -/
inductive CT where
  | i (n : Nat)
  | t (n : Nat) (a b : CT)
  deriving DecidableEq
noncomputable def CT.toD : CT → PyData
  | .i n => .int n
  | .t n a b => .tuple [.int n, a.toD, b.toD]
noncomputable def CT.dep : CT → Nat
  | .i _ => 0
  | .t _ a b => max a.dep b.dep + 1
noncomputable def CT.front : CT → Nat
  | .i n => n
  | .t n _ _ => n
noncomputable def CT.low (l : Nat) : CT → CT
  | .i n => .i (n - l)
  | .t n a b => .t (n - l) a b
noncomputable def CT.join (n : Nat) (a b : CT) : CT :=
  if a = .i (min a.front b.front) ∧ b = .i (min a.front b.front) then .i (n + min a.front b.front) else .t (n + min a.front b.front) (a.low (min a.front b.front)) (b.low (min a.front b.front))
noncomputable def CT.plain : CT → CT
  | .i n => .i n
  | .t n a b => CT.join n a.plain b.plain
noncomputable def CT.half (a b : CT) : Bool := (decide (a.front = 0) || decide (b.front = 0)) && !(decide (a = .i 0) && decide (b = .i 0))
noncomputable def CT.plainB : CT → Bool
  | .i _ => true
  | .t _ a b => a.plainB && b.plainB && CT.half a b
/-- all numbers at most m -/
noncomputable def CT.le (m : Nat) : CT → Bool
  | .i n => decide (n ≤ m)
  | .t n a b => decide (n ≤ m) && a.le m && b.le m
theorem CT.lay : ∀ t : CT, t.toD.canLay0 = true
  | .i b => rfl
  | .t n a b => by simp [CT.toD, PyData.canLay0, PyData.canLayAll0, CT.lay a, CT.lay b]
theorem CT.depD : ∀ t : CT, t.toD.depth = t.dep
  | .i b => rfl
  | .t n a b => by simp [CT.toD, PyData.depth, PyData.depthAll, CT.dep, CT.depD a, CT.depD b]
theorem CT.eqv : ∀ a b : CT, PyData.eqv a.toD b.toD = decide (a = b)
  | .i x, .i y => by
    simp only [CT.toD, PyData.eqv]
    by_cases h : x = y <;> simp [h]
    omega
  | .i x, .t n c d => by simp [CT.toD, PyData.eqv]
  | .t n a b, .i y => by simp [CT.toD, PyData.eqv]
  | .t n a b, .t m c d => by
    simp only [CT.toD, PyData.eqv, PyData.eqvAll, CT.eqv a c, CT.eqv b d]
    by_cases h1 : a = c <;> by_cases h2 : b = d <;> by_cases h3 : n = m <;> simp [h1, h2, h3]
    all_goals omega
theorem CT.low_zero : ∀ a : CT, a.low 0 = a
  | .i n => rfl
  | .t n a b => rfl
theorem CT.low_dep (l : Nat) : ∀ a : CT, (a.low l).dep = a.dep
  | .i n => rfl
  | .t n a b => rfl
theorem CT.join_dep (n : Nat) (a b : CT) : (CT.join n a b).dep ≤ max a.dep b.dep + 1 := by
  unfold CT.join
  split
  · simp [CT.dep]
  · simp [CT.dep, CT.low_dep]
theorem CT.plain_dep : ∀ t : CT, t.plain.dep ≤ t.dep
  | .i b => Nat.le_refl _
  | .t n a b => by
    have := CT.join_dep n a.plain b.plain
    have h1 := CT.plain_dep a
    have h2 := CT.plain_dep b
    simp only [CT.plain, CT.dep]
    omega
theorem CT.join_half (n : Nat) (a b : CT) : decide (CT.join n a b = .t n a b) = CT.half a b := by
  unfold CT.join CT.half
  by_cases h : a = .i (min a.front b.front) ∧ b = .i (min a.front b.front)
  · rw [if_pos h]
    have : (CT.i (n + min a.front b.front) = CT.t n a b) = False := by simp
    simp only [this, decide_false]
    by_cases h0 : min a.front b.front = 0
    · rw [h0] at h
      simp [h.1, h.2]
    · have h1 : a.front ≠ 0 := by omega
      have h2 : b.front ≠ 0 := by omega
      simp [h1, h2]
  · rw [if_neg h]
    by_cases h0 : min a.front b.front = 0
    · rw [h0] at h ⊢
      rw [CT.low_zero, CT.low_zero]
      have h1 : a.front = 0 ∨ b.front = 0 := by omega
      have h2 : ¬ (a = .i 0 ∧ b = .i 0) := h
      simp only [Nat.add_zero, decide_true]
      rcases h1 with h1 | h1 <;> simp [h1] <;> exact Classical.not_and_iff_not_or_not.mp h2
    · have h1 : a.front ≠ 0 := by omega
      have h2 : b.front ≠ 0 := by omega
      have h3 : ¬ (n + min a.front b.front = n) := by omega
      simp [h1, h2, h3]
theorem CT.plain_id : ∀ t : CT, t.plainB = true → t.plain = t
  | .i b, _ => rfl
  | .t n a b, h => by
    simp only [CT.plainB, Bool.and_eq_true] at h
    simp only [CT.plain, CT.plain_id a h.1.1, CT.plain_id b h.1.2]
    have := CT.join_half n a b
    rw [h.2] at this
    exact of_decide_eq_true this
/-! ### things of some depth -/
theorem depthAll_le {k : Nat} : ∀ {ds : List PyData}, (∀ x ∈ ds, x.depth ≤ k) → PyData.depthAll ds ≤ k
  | [], _ => Nat.zero_le _
  | d :: ds, h => by
    have h1 := h d List.mem_cons_self
    have h2 := depthAll_le fun x hx => h x (List.mem_cons_of_mem _ hx)
    simp only [PyData.depthAll]
    omega
theorem layAll_of : ∀ {ds : List PyData}, (∀ x ∈ ds, x.canLay0 = true) → PyData.canLayAll0 ds = true
  | [], _ => rfl
  | d :: ds, h => by
    simp only [PyData.canLayAll0, Bool.and_eq_true]
    exact ⟨h d List.mem_cons_self, layAll_of fun x hx => h x (List.mem_cons_of_mem _ hx)⟩
noncomputable def leafW (W : Nat) (d : PyData) : Prop := d = .none ∨ (∃ b, d = .bool b) ∨ (∃ i : Int, i.natAbs ≤ W ∧ d = .int i) ∨ ∃ x, PyData.strOk x = true ∧ d = .str x
noncomputable def gen (W : Nat) : Nat → PyData → Prop
  | 0, d => leafW W d
  | k + 1, d => leafW W d ∨ (∃ ds, d = .list ds ∧ ds.length ≤ W ∧ ∀ x ∈ ds, gen W k x) ∨ ∃ ds, d = .tuple ds ∧ ds.length ≤ W ∧ ∀ x ∈ ds, gen W k x
theorem strOk_of (s : String) : PyData.strOk (Str.ofString s) = true := by
  unfold PyData.strOk
  rw [PySem.Str.ofString_eq_toList]
  simp only [List.all_toArray, List.all_map, List.all_eq_true, Function.comp_apply, decide_eq_true_eq]
  intro c _
  have h : c.val.toNat < 0x110000 := by
    have := c.valid
    rcases this with h | h
    · have : c.val.toNat < 55296 := h
      omega
    · exact h.2
  exact h
end PL

set_option Elab.async false
set_option linter.all false
set_option maxRecDepth 100000
namespace PL
open PySem PySem.Spec PyProof.Rows L2
/-! ### what a tree tells at a place; a path that ends early goes on to the left -/
noncomputable def PT.at : PT → List Bool → Int
  | .z b, _ => if b then 1 else 0
  | .p a _, [] => a.at []
  | .p a _, true :: r => a.at r
  | .p _ b, false :: r => b.at r
noncomputable def CT.at : CT → List Bool → Int
  | .i n, _ => n
  | .t n a _, [] => n + a.at []
  | .t n a _, true :: r => n + a.at r
  | .t n _ b, false :: r => n + b.at r
noncomputable def PT.paths : PT → List (List Bool)
  | .z _ => [[]]
  | .p a b => a.paths.map (true :: ·) ++ b.paths.map (false :: ·)
noncomputable def CT.paths : CT → List (List Bool)
  | .i _ => [[]]
  | .t _ a b => a.paths.map (true :: ·) ++ b.paths.map (false :: ·)
theorem PT.at_l : ∀ (t : PT) (p : List Bool) (k : Nat), t.at (p ++ List.replicate k true) = t.at p
  | .z b, w, k => by cases w <;> cases k <;> rfl
  | .p a b, [], 0 => rfl
  | .p a b, [], k + 1 => by
    have := PT.at_l a [] k
    simpa [PT.at, List.replicate_succ] using this
  | .p a b, true :: r, k => by simpa [PT.at] using PT.at_l a r k
  | .p a b, false :: r, k => by simpa [PT.at] using PT.at_l b r k
/-! plain ones tell the same -/
theorem PT.join_at (a b : PT) (p : List Bool) : (PT.join a b).at p = (PT.p a b).at p := by
  unfold PT.join
  split
  · rename_i x y
    split
    · rename_i e
      subst e
      cases p with
      | nil => rfl
      | cons s r => cases s <;> rfl
    · rfl
  · rfl
/-! plain ones are plain -/
theorem PT.join_plainB (a b : PT) (ha : a.plainB = true) (hb : b.plainB = true) : (PT.join a b).plainB = true := by
  cases a with
  | z x =>
    cases b with
    | z y => cases x <;> cases y <;> decide
    | p c d => simp [PT.join, PT.plainB] at ha hb ⊢; exact hb
  | p c d => simp [PT.join, PT.plainB] at ha hb ⊢; exact ⟨ha, hb⟩
theorem CT.low_plainB (l : Nat) : ∀ t : CT, t.plainB = true → (t.low l).plainB = true
  | .i n, _ => rfl
  | .t n a b, h => by simpa [CT.low, CT.plainB] using h
theorem CT.low_front (l : Nat) : ∀ t : CT, (t.low l).front = t.front - l
  | .i n => rfl
  | .t n a b => rfl
theorem CT.low_i0 {l : Nat} {t : CT} (h : l ≤ t.front) (e : t.low l = .i 0) : t = .i l := by
  cases t with
  | i n =>
    have h' : l ≤ n := h
    simp only [CT.low, CT.i.injEq] at e ⊢
    omega
  | t n a b => simp [CT.low] at e
theorem CT.join_plainB (n : Nat) (a b : CT) (ha : a.plainB = true) (hb : b.plainB = true) : (CT.join n a b).plainB = true := by
  unfold CT.join
  have h1 : min a.front b.front ≤ a.front := Nat.min_le_left _ _
  have h2 : min a.front b.front ≤ b.front := Nat.min_le_right _ _
  have h3 : min a.front b.front = a.front ∨ min a.front b.front = b.front := by omega
  generalize min a.front b.front = l at *
  split
  · rfl
  · rename_i e
    simp only [CT.plainB, CT.low_plainB l a ha, CT.low_plainB l b hb, Bool.true_and]
    unfold CT.half
    rw [CT.low_front, CT.low_front]
    have hf : a.front - l = 0 ∨ b.front - l = 0 := by omega
    have hz : ¬ (a.low l = .i 0 ∧ b.low l = .i 0) := fun z => e ⟨CT.low_i0 h1 z.1, CT.low_i0 h2 z.2⟩
    have e1 : (decide (a.front - l = 0) || decide (b.front - l = 0)) = true := by
      rcases hf with q | q <;> simp [q]
    rw [e1, Bool.true_and]
    by_cases z1 : a.low l = .i 0
    · by_cases z2 : b.low l = .i 0
      · exact absurd ⟨z1, z2⟩ hz
      · simp [z2]
    · simp [z1]
/-! plain ones that tell the same are the same -/
theorem PT.uniq : ∀ (s t : PT), s.plainB = true → t.plainB = true → (∀ p, s.at p = t.at p) → s = t
  | .z x, .z y, _, _, h => by
    have := h []
    cases x <;> cases y <;> simp_all [PT.at]
  | .z x, .p c d, _, ht, h => by
    simp only [PT.plainB, Bool.and_eq_true, decide_eq_true_eq] at ht
    have h1 : .z x = c := PT.uniq (.z x) c rfl ht.1.1 fun p => by have := h (true :: p); simpa [PT.at] using this
    have h2 : .z x = d := PT.uniq (.z x) d rfl ht.1.2 fun p => by have := h (false :: p); simpa [PT.at] using this
    have h3 := ht.2
    rw [← h1, ← h2] at h3
    simp [PT.join] at h3
  | .p a b, .z y, hs, _, h => by
    simp only [PT.plainB, Bool.and_eq_true, decide_eq_true_eq] at hs
    have h1 : a = .z y := PT.uniq a (.z y) hs.1.1 rfl fun p => by have := h (true :: p); simpa [PT.at] using this
    have h2 : b = .z y := PT.uniq b (.z y) hs.1.2 rfl fun p => by have := h (false :: p); simpa [PT.at] using this
    have h3 := hs.2
    rw [h1, h2] at h3
    simp [PT.join] at h3
  | .p a b, .p c d, hs, ht, h => by
    simp only [PT.plainB, Bool.and_eq_true] at hs ht
    have h1 : a = c := PT.uniq a c hs.1.1 ht.1.1 fun p => by have := h (true :: p); simpa [PT.at] using this
    have h2 : b = d := PT.uniq b d hs.1.2 ht.1.2 fun p => by have := h (false :: p); simpa [PT.at] using this
    rw [h1, h2]
/-! paths reach every place -/
/-! sizes -/
theorem PT.path_len : ∀ (t : PT) (p : List Bool), p ∈ t.paths → p.length ≤ t.dep
  | .z b, w, h => by simp [PT.paths] at h; subst h; exact Nat.le_refl _
  | .p a b, w, h => by
    simp only [PT.paths, List.mem_append, List.mem_map] at h
    rcases h with ⟨q, hq, rfl⟩ | ⟨q, hq, rfl⟩
    · have := PT.path_len a q hq; simp only [List.length_cons, PT.dep]; omega
    · have := PT.path_len b q hq; simp only [List.length_cons, PT.dep]; omega
/-- paths as texts -/
noncomputable def pS (p : List Bool) : Str := ⟨(p.map fun b => if b then 108 else 114).toArray⟩
theorem pS_nil : pS [] = ("" : Str) := by decide +kernel
theorem pS_l (p : List Bool) : (("l" : Str) ++ pS p) = pS (true :: p) := by
  show (⟨("l" : Str).cps ++ (pS p).cps⟩ : Str) = _
  have : ("l" : Str).cps = #[108] := by decide +kernel
  rw [this]
  simp [pS]
theorem pS_r (p : List Bool) : (("r" : Str) ++ pS p) = pS (false :: p) := by
  show (⟨("r" : Str).cps ++ (pS p).cps⟩ : Str) = _
  have : ("r" : Str).cps = #[114] := by decide +kernel
  rw [this]
  simp [pS]
theorem pS_len (p : List Bool) : (pS p).length = p.length := by simp [pS, Str.length]
theorem pS_cat (p q : List Bool) : pS p ++ pS q = pS (p ++ q) := by
  show (⟨(pS p).cps ++ (pS q).cps⟩ : Str) = _
  simp [pS]
theorem pS_ok (p : List Bool) : PyData.strOk (pS p) = true := by
  unfold PyData.strOk pS
  simp only [List.all_toArray, List.all_map, List.all_eq_true, Function.comp_apply, decide_eq_true_eq]
  intro b _
  cases b <;> decide
theorem signs_pS (p : List Bool) : signs (pS p) = p.map fun b => PyData.str (pS [b]) := by
  unfold signs pS
  simp [Function.comp_def]
end PL

set_option Elab.async false
set_option linter.all false
set_option maxRecDepth 100000
namespace PL
open PySem PySem.Spec PyProof.Rows L2
@[simp] theorem u_addS (x y : Str) : binD .Add (.str x) (.str y) = if okLen (x.length + y.length) = true then some (.str (x ++ y)) else none := rfl
theorem compD_eq {t : Tg} {gi : Rho → Option (List PyData)} {mp : List (Option Nat)} {gc ge : Rho → Option PyData} {r : Rho} {ds ys : List PyData} (h1 : gi r = some ds) (h2 : ds.length ≤ 1000000) (h3 : compL t gc ge ds (capt mp r) = some ys) : compD t gi mp gc ge r = some (.list ys) := by
  unfold compD
  rw [h1]
  simp only
  rw [if_pos (okLen_of h2), h3]
theorem compL_filter {α : Type} {t : Tg} {gc ge : Rho → Option PyData} (f g : α → PyData) (test : α → Bool) (good : Rho → Prop) : ∀ (xs : List α) (r : Rho), good r →
    (∀ x ∈ xs, ∀ r, good r → ∃ r1, setTg t (f x) r = some r1 ∧ good r1 ∧ gc r1 = some (.bool (test x)) ∧ (test x = true → ge r1 = some (g x))) → compL t gc ge (xs.map f) r = some ((xs.filter test).map g)
  | [], r, _, _ => rfl
  | x :: xs, r, hr, h => by
    obtain ⟨r1, e1, g1, e2, e3⟩ := h x List.mem_cons_self r hr
    have ih := compL_filter f g test good xs r1 g1 fun y hy => h y (List.mem_cons_of_mem _ hy)
    rw [List.map_cons]
    unfold compL
    rw [e1]
    simp only [e2]
    cases hx : test x with
    | true =>
      simp only [e3 hx, ih]
      rw [List.filter_cons_of_pos hx, List.map_cons]
    | false =>
      simp only [ih]
      rw [List.filter_cons_of_neg (by simp [hx])]
theorem compL_map {α : Type} {t : Tg} {ge : Rho → Option PyData} (f g : α → PyData) (good : Rho → Prop) (xs : List α) (r : Rho) (hr : good r)
    (h : ∀ x ∈ xs, ∀ r, good r → ∃ r1, setTg t (f x) r = some r1 ∧ good r1 ∧ ge r1 = some (g x)) : compL t (condD []) ge (xs.map f) r = some (xs.map g) := by
  have := compL_filter (t := t) (gc := condD []) (ge := ge) f g (fun _ => true) good xs r hr fun x hx r hr => by
    obtain ⟨r1, e1, g1, e3⟩ := h x hx r hr
    exact ⟨r1, e1, g1, rfl, fun _ => e3⟩
  rw [List.filter_eq_self.mpr (fun _ _ => rfl)] at this
  exact this
/-! halves put in -/
theorem PT.paths_pow : ∀ t : PT, t.paths.length ≤ 2 ^ t.dep
  | .z b => by simp [PT.paths, PT.dep]
  | .p a b => by
    have h1 := PT.paths_pow a
    have h2 := PT.paths_pow b
    have h3 : 2 ^ a.dep ≤ 2 ^ (max a.dep b.dep) := Nat.pow_le_pow_right (by decide) (by omega)
    have h4 : 2 ^ b.dep ≤ 2 ^ (max a.dep b.dep) := Nat.pow_le_pow_right (by decide) (by omega)
    simp only [PT.paths, PT.dep, List.length_append, List.length_map, Nat.pow_succ]
    omega
noncomputable def pD (p : List Bool) : PyData := .str (pS p)
end PL

set_option Elab.async false
set_option linter.all false
set_option maxRecDepth 100000
namespace PL
open PySem PySem.Spec PyProof.Rows L2
/-! ### halves of part trees -/
noncomputable def PT.hf (s : Bool) : PT → PT
  | .z b => .z b
  | .p a b => if s then a else b
theorem PT.hf_at (t : PT) (s : Bool) (w : List Bool) : (t.hf s).at w = t.at (s :: w) := by cases t <;> cases s <;> rfl
theorem PT.hf_dep {t : PT} {s : Bool} {k : Nat} (h : t.dep ≤ k + 1) : (t.hf s).dep ≤ k := by
  cases t with
  | z b => exact Nat.zero_le _
  | p a b => simp only [PT.dep] at h; cases s <;> simp [PT.hf] <;> omega
theorem PT.at01 : ∀ (t : PT) (w : List Bool), t.at w = 0 ∨ t.at w = 1
  | .z b, w => by cases b <;> simp [PT.at]
  | .p a b, [] => by simpa [PT.at] using PT.at01 a []
  | .p a b, true :: r => by simpa [PT.at] using PT.at01 a r
  | .p a b, false :: r => by simpa [PT.at] using PT.at01 b r
theorem PT.at_nil (t : PT) : t.at [] = t.at [true] := by cases t <;> rfl
theorem PT.all_at {R : PT → PT → List Bool → Prop} {s t : PT} (h0 : R s t [true] → R s t []) (h1 : ∀ w, R s t (true :: w)) (h2 : ∀ w, R s t (false :: w)) : ∀ w, R s t w
  | [] => h0 (h1 [])
  | true :: w => h1 w
  | false :: w => h2 w
theorem PT.zero_uniq {t : PT} (h : t.plainB = true) (h0 : ∀ w, t.at w = 0) : t = .z false :=
  PT.uniq _ _ h rfl fun w => by rw [h0 w]; rfl
theorem PT.some_at {t : PT} (h : t.plainB = true) (h0 : t ≠ .z false) : ∃ w, t.at w = 1 := by
  refine Classical.byContradiction fun hh => h0 (PT.zero_uniq h fun w => ?_)
  rcases PT.at01 t w with q | q
  · exact q
  · exact absurd ⟨w, q⟩ hh
theorem PT.p0_plain {l : PT} (h : l ≠ .z false) : (PT.p (.z false) l).plainB = l.plainB := by
  cases l with
  | z b => cases b
           · exact absurd rfl h
           · rfl
  | p c d => simp [PT.plainB, PT.join]
theorem PT.pl_plain {l : PT} (h : l ≠ .z false) : (PT.p l (.z false)).plainB = l.plainB := by
  cases l with
  | z b => cases b
           · exact absurd rfl h
           · rfl
  | p c d => simp [PT.plainB, PT.join]
/-! ### counts -/
noncomputable def CT.leaf : CT → Bool
  | .i _ => true
  | .t _ _ _ => false
noncomputable def CT.up (l : Nat) : CT → CT
  | .i n => .i (n + l)
  | .t n a b => .t (n + l) a b
theorem CT.up_dep (l : Nat) (t : CT) : (t.up l).dep = t.dep := by cases t <;> rfl
theorem CT.up_plainB (l : Nat) (t : CT) : (t.up l).plainB = t.plainB := by cases t <;> rfl
/-- a half, and what is counted beyond l -/
noncomputable def CT.hb (s : Bool) (l : Nat) : CT → CT
  | .i n => .i (n - l)
  | .t n a b => (if s then a else b).up (n - l)
theorem CT.hb_dep {t : CT} {s : Bool} {l k : Nat} (h : t.dep ≤ k + 1) : (t.hb s l).dep ≤ k := by
  cases t with
  | i b => exact Nat.zero_le _
  | t n a b => simp only [CT.dep] at h; cases s <;> simp [CT.hb, CT.up_dep] <;> omega
/-! ### loops -/
theorem forD_rest {t : Tg} {step : Rho → Option Fl} (P : List PyData → Rho → Prop) (hs : ∀ d ds r, P (d :: ds) r → ∃ r1 r2, setTg t d r = some r1 ∧ step r1 = some (.nx r2) ∧ P ds r2) :
    ∀ (ds : List PyData) (r : Rho), P ds r → ∃ r2, forD t step ds r = some (.nx r2) ∧ P [] r2
  | [], r, h => ⟨r, rfl, h⟩
  | d :: ds, r, h => by
    obtain ⟨r1, r2, e1, e2, h2⟩ := hs d ds r h
    obtain ⟨r3, e3, h3⟩ := forD_rest P hs ds r2 h2
    refine ⟨r3, ?_, h3⟩
    show (match setTg t d r with
      | some r1 => match step r1 with
        | some (.nx r2) => forD t step ds r2
        | some (.ct r2) => forD t step ds r2
        | some (.bk r2) => some (.nx r2)
        | some (.rt v) => some (.rt v)
        | none => none
      | none => none) = _
    rw [e1]
    simp only [e2]
    exact e3
theorem rng1_eq {C : Orc} {e : PX} {r : Rho} {j : Nat} (h : ev C e r = some (.int (j : Int))) (hj : j ≤ 1000000) : itD C (.rng1 e) r = some ((List.range j).map fun (k : Nat) => PyData.int (k : Int)) := by
  show (match ev C e r with
    | some (.int j) => if okR j = true then some (rngD 0 j) else none
    | _ => none) = _
  rw [h]
  have : okR (j : Int) = true := decide_eq_true ⟨by omega, by omega⟩
  simp only [this, if_true, rngD]
  simp
end PL

set_option Elab.async false
set_option linter.all false
set_option maxRecDepth 100000
namespace PL
open PySem PySem.Spec PyProof.Rows L2
/-! ### clocks with the deeds that they have -/
structure HC where
  pt : PT
  ct : CT
  kn : List Nat
  deriving DecidableEq
noncomputable def intsD (l : List Nat) : List PyData := l.map fun (k : Nat) => PyData.int (k : Int)
noncomputable def HC.clk (h : HC) : PyData := .tuple [h.pt.toD, h.ct.toD]
noncomputable def HC.toD (h : HC) : PyData := .tuple [h.clk, .tuple (intsD h.kn)]
theorem intsD_eqv : ∀ a b : List Nat, PyData.eqvAll (intsD a) (intsD b) = decide (a = b)
  | [], [] => rfl
  | [], _ :: _ => rfl
  | _ :: _, [] => rfl
  | x :: xs, y :: ys => by
    show (PyData.eqv (.int (x : Int)) (.int (y : Int)) && PyData.eqvAll (intsD xs) (intsD ys)) = _
    rw [intsD_eqv xs ys]
    have : PyData.eqv (.int (x : Int)) (.int (y : Int)) = decide (x = y) := by
      show ((x : Int) == (y : Int)) = _
      rw [Bool.eq_iff_iff]; simp; omega
    rw [this]
    by_cases h1 : x = y <;> by_cases h2 : xs = ys <;> simp [h1, h2]
theorem HC.eqv (a b : HC) : PyData.eqv a.toD b.toD = decide (a = b) := by
  obtain ⟨s, c, k⟩ := a
  obtain ⟨t, d, l⟩ := b
  simp only [HC.toD, HC.clk, PyData.eqv, PyData.eqvAll, PT.eqv, CT.eqv, intsD_eqv]
  by_cases h1 : s = t <;> by_cases h2 : c = d <;> by_cases h3 : k = l <;> simp [h1, h2, h3]
theorem intsD_lay (l : List Nat) : PyData.canLayAll0 (intsD l) = true := layAll_of fun x hx => by
  obtain ⟨k, _, rfl⟩ := List.mem_map.mp hx; rfl
theorem intsD_dep (l : List Nat) : PyData.depthAll (intsD l) = 0 := by
  have := depthAll_le (k := 0) (ds := intsD l) fun x hx => by obtain ⟨k, _, rfl⟩ := List.mem_map.mp hx; exact Nat.le_refl _
  omega
theorem HC.lay (h : HC) : h.toD.canLay0 = true := by
  simp [HC.toD, HC.clk, PyData.canLay0, PyData.canLayAll0, PT.lay, CT.lay, intsD_lay]
theorem dep_aux {a b k : Nat} (h1 : a ≤ k) (h2 : b ≤ k) : max (max a (max b 0) + 1) (max (0 + 1) 0) + 1 ≤ k + 2 :=
  Nat.succ_le_succ (Nat.max_le.mpr ⟨Nat.succ_le_succ (Nat.max_le.mpr ⟨h1, Nat.max_le.mpr ⟨h2, Nat.zero_le _⟩⟩), Nat.succ_le_succ (Nat.zero_le k)⟩)
theorem HC.dep_le (h : HC) {k : Nat} (h1 : h.pt.dep ≤ k) (h2 : h.ct.dep ≤ k) : h.toD.depth ≤ k + 2 := by
  simp only [HC.toD, HC.clk, PyData.depth, PyData.depthAll, PT.depD, CT.depD, intsD_dep]; exact dep_aux h1 h2
/-! slices -/
theorem cut_take {α : Type} (xs : List α) (i : Nat) : cutD xs none (some (i : Int)) = xs.take i := by
  unfold cutD
  rw [HT.sIx_none, HT.sIx_nat, List.drop_zero, Nat.sub_zero]
  rcases Nat.le_total i xs.length with h | h
  · rw [Nat.min_eq_left h]
  · rw [Nat.min_eq_right h, List.take_of_length_le (Nat.le_refl _), List.take_of_length_le h]
theorem cut_drop {α : Type} (xs : List α) (i : Nat) : cutD xs (some (i : Int)) none = xs.drop i := by
  unfold cutD
  rw [HT.sIx_none, HT.sIx_nat]
  rcases Nat.le_total i xs.length with h | h
  · rw [Nat.min_eq_left h, List.take_of_length_le (by rw [List.length_drop]; exact Nat.le_refl _)]
  · rw [Nat.min_eq_right h, List.drop_of_length_le (Nat.le_refl _), List.drop_of_length_le h]; simp
theorem mid_perm {α : Type} {xs : List α} {i : Nat} {x : α} (h : xs[i]? = some x) (ys : List α) : xs.Perm (x :: (xs.take i ++ xs.drop (i + 1))) ∧ (xs.take i ++ ys ++ xs.drop (i + 1)).Perm (ys ++ (xs.take i ++ xs.drop (i + 1))) := by
  constructor
  · have hl : i < xs.length := by
      rcases Nat.lt_or_ge i xs.length with q | q
      · exact q
      · rw [List.getElem?_eq_none q] at h; cases h
    have e : xs = xs.take i ++ x :: xs.drop (i + 1) := by
      have : xs[i] = x := by rw [List.getElem?_eq_getElem hl] at h; injection h
      rw [← this, List.getElem_cons_drop, List.take_append_drop]
    have p : (xs.take i ++ x :: xs.drop (i + 1)).Perm (x :: (xs.take i ++ xs.drop (i + 1))) := List.perm_middle
    rwa [← e] at p
  · rw [List.append_assoc]
    refine (List.perm_append_comm (l₁ := xs.take i)).trans ?_
    rw [List.append_assoc]
    exact List.Perm.append_left _ List.perm_append_comm
/-! all but two -/
noncomputable def drop2 {α : Type} : List α → Nat → Nat → Nat → List α
  | [], _, _, _ => []
  | x :: xs, k, i, j => if k = i ∨ k = j then drop2 xs (k + 1) i j else x :: drop2 xs (k + 1) i j
theorem drop2_none {α : Type} : ∀ (xs : List α) (k i j : Nat), i < k → j < k → drop2 xs k i j = xs
  | [], _, _, _, _, _ => rfl
  | x :: xs, k, i, j, h1, h2 => by
    unfold drop2
    rw [if_neg (by omega), drop2_none xs (k + 1) i j (by omega) (by omega)]
theorem drop2_one {α : Type} : ∀ (xs : List α) (k i j : Nat) (x : α), k ≤ i → j < k → xs[i - k]? = some x → xs.Perm (x :: drop2 xs k i j) ∧ xs.Perm (x :: drop2 xs k j i)
  | [], k, i, j, x, _, _, h => by simp at h
  | y :: xs, k, i, j, x, h1, h2, h => by
    by_cases e : i = k
    · subst e
      simp at h
      subst h
      unfold drop2
      rw [if_pos (.inl rfl), if_pos (.inr rfl), drop2_none xs (i + 1) i j (by omega) (by omega), drop2_none xs (i + 1) j i (by omega) (by omega)]
      exact ⟨List.Perm.refl _, List.Perm.refl _⟩
    · have h' : xs[i - (k + 1)]? = some x := by
        rw [show i - k = (i - (k + 1)) + 1 by omega, List.getElem?_cons_succ] at h; exact h
      obtain ⟨p1, p2⟩ := drop2_one xs (k + 1) i j x (by omega) (by omega) h'
      unfold drop2
      rw [if_neg (by omega), if_neg (by omega)]
      exact ⟨(p1.cons y).trans (List.Perm.swap x y _), (p2.cons y).trans (List.Perm.swap x y _)⟩
theorem drop2_two {α : Type} : ∀ (xs : List α) (k i j : Nat) (x z : α), k ≤ i → k ≤ j → i ≠ j → xs[i - k]? = some x → xs[j - k]? = some z → xs.Perm (x :: z :: drop2 xs k i j)
  | [], k, i, j, x, z, _, _, _, h, _ => by simp at h
  | y :: xs, k, i, j, x, z, h1, h2, hij, hx, hz => by
    by_cases e : i = k
    · subst e
      simp at hx
      subst hx
      have h' : xs[j - (i + 1)]? = some z := by
        rw [show j - i = (j - (i + 1)) + 1 by omega, List.getElem?_cons_succ] at hz; exact hz
      unfold drop2
      rw [if_pos (.inl rfl)]
      exact (drop2_one xs (i + 1) j i z (by omega) (by omega) h').2.cons y
    · by_cases e2 : j = k
      · subst e2
        simp at hz
        subst hz
        have h' : xs[i - (j + 1)]? = some x := by
          rw [show i - j = (i - (j + 1)) + 1 by omega, List.getElem?_cons_succ] at hx; exact hx
        unfold drop2
        rw [if_pos (.inr rfl)]
        exact ((drop2_one xs (j + 1) i j x (by omega) (by omega) h').1.cons y).trans (List.Perm.swap x y _)
      · have hx' : xs[i - (k + 1)]? = some x := by
          rw [show i - k = (i - (k + 1)) + 1 by omega, List.getElem?_cons_succ] at hx; exact hx
        have hz' : xs[j - (k + 1)]? = some z := by
          rw [show j - k = (j - (k + 1)) + 1 by omega, List.getElem?_cons_succ] at hz; exact hz
        have p := drop2_two xs (k + 1) i j x z (by omega) (by omega) hij hx' hz'
        unfold drop2
        rw [if_neg (by omega)]
        refine (p.cons y).trans ?_
        refine (List.Perm.swap x y _).trans ?_
        exact (List.Perm.swap z y _).cons x
/-! deeds known together -/
noncomputable def sortN (l : List Nat) : List Nat := (sortI (l.map fun (k : Nat) => (k : Int))).map Int.toNat
theorem sortN_mem {l : List Nat} {k : Nat} : k ∈ sortN l ↔ k ∈ l := by
  unfold sortN
  rw [List.mem_map]
  constructor
  · rintro ⟨x, hx, rfl⟩
    rw [sortI_mem, List.mem_map] at hx
    obtain ⟨j, hj, rfl⟩ := hx
    simpa using hj
  · intro h
    exact ⟨(k : Int), by rw [sortI_mem, List.mem_map]; exact ⟨k, h, rfl⟩, by simp⟩
theorem sortN_ints (l : List Nat) : (sortI (l.map fun (k : Nat) => (k : Int))).map PyData.int = intsD (sortN l) := by
  unfold intsD sortN
  rw [List.map_map]
  refine List.map_congr_left fun x hx => ?_
  rw [sortI_mem, List.mem_map] at hx
  obtain ⟨j, hj, rfl⟩ := hx
  simp
theorem sortN_nodup (l : List Nat) : (sortN l).Nodup := by
  have h0 : (sortI (l.map fun (k : Nat) => (k : Int))).Nodup := (sortI_perm _).nodup_iff.mpr (once_nodup _ _)
  unfold sortN
  refine List.Pairwise.map _ (fun a b (h : a ≠ b ∧ a ∈ sortI (l.map fun (k : Nat) => (k : Int)) ∧ b ∈ sortI (l.map fun (k : Nat) => (k : Int))) => ?_) ?_ (R := fun a b => a ≠ b ∧ a ∈ sortI (l.map fun (k : Nat) => (k : Int)) ∧ b ∈ sortI (l.map fun (k : Nat) => (k : Int)))
  · obtain ⟨h1, h2, h3⟩ := h
    rw [sortI_mem, List.mem_map] at h2 h3
    obtain ⟨i, _, rfl⟩ := h2
    obtain ⟨j, _, rfl⟩ := h3
    intro z
    apply h1
    have e : i = j := by simpa using z
    rw [e]
  · exact List.Pairwise.imp_of_mem (fun ha hb h => ⟨h, ha, hb⟩) h0
theorem nodup_len : ∀ {j : Nat} {l : List Nat}, l.Nodup → (∀ k ∈ l, k < j) → l.length ≤ j
  | 0, [], _, _ => Nat.le_refl _
  | 0, x :: xs, _, h => absurd (h x List.mem_cons_self) (Nat.not_lt_zero _)
  | j + 1, l, hn, h => by
    have h1 : (l.erase j).Nodup := hn.erase j
    have h2 : ∀ k ∈ l.erase j, k < j := fun k hk => by
      have h3 := h k (List.mem_of_mem_erase hk)
      have h4 : k ≠ j := fun z => by subst z; exact absurd hk (hn.not_mem_erase)
      omega
    have h5 := nodup_len h1 h2
    have h6 := List.length_erase (a := j) (l := l)
    split at h6 <;> omega
theorem intsOf_ints : ∀ l : List Nat, intsOf (intsD l) = some (l.map fun (k : Nat) => (k : Int))
  | [] => rfl
  | x :: xs => by
    show (match intsOf (intsD xs) with | some ns => some ((x : Int) :: ns) | none => none) = _
    rw [intsOf_ints xs]
    rfl
theorem sset_eq (a b : List Nat) (h : a.length + b.length < 60) : ssetD (.tuple (intsD a ++ intsD b)) = some (.list (intsD (sortN (a ++ b)))) := by
  have e : intsD a ++ intsD b = intsD (a ++ b) := by simp [intsD]
  rw [e]
  show (match intsOf (intsD (a ++ b)) with
    | some ns => if decide (ns.length < 60) = true then some (PyData.list ((sortI ns).map PyData.int)) else none
    | none => none) = _
  rw [intsOf_ints]
  have hl : ((a ++ b).map fun (k : Nat) => (k : Int)).length < 60 := by rw [List.length_map, List.length_append]; exact h
  simp only [hl, decide_true, if_true, sortN_ints]
end PL
namespace PL
open PySem PySem.Spec PyProof.Rows L2
structure HOk (j : Nat) (h : HC) : Prop where
  pp : h.pt.plainB = true
  pc : h.ct.plainB = true
  dp : h.pt.dep ≤ j
  dc : h.ct.dep ≤ j
  nd : h.kn.Nodup
  lt : ∀ k ∈ h.kn, k < j
theorem HOk.mono {j j' : Nat} {h : HC} (o : HOk j h) (e : j ≤ j') : HOk j' h := ⟨o.pp, o.pc, Nat.le_trans o.dp e, Nat.le_trans o.dc e, o.nd, fun k hk => Nat.lt_of_lt_of_le (o.lt k hk) e⟩
end PL
namespace PL
open PySem PySem.Spec PyProof.Rows L2
noncomputable def hc0 : HC := ⟨.z true, .i 0, []⟩
/-- the clocks that there were, with the new ones -/
noncomputable def grow (E H : List HC) : List HC := E ++ H.filter fun h => !decide (h ∈ E)
theorem hc_notIn (h : HC) (E : List HC) (hd : h.toD.depth ≤ 100) : cmpD .NotIn h.toD (.list (E.map HC.toD)) = some (.bool (!decide (h ∈ E))) := by
  have hl : PyData.canLayAll0 (E.map HC.toD) = true := layAll_of fun x hx => by obtain ⟨e, _, rfl⟩ := List.mem_map.mp hx; exact e.lay
  have e1 : ((E.map HC.toD).any fun y => PyData.eqv y h.toD) = decide (h ∈ E) := by
    rw [Bool.eq_iff_iff, List.any_eq_true, decide_eq_true_eq]
    constructor
    · rintro ⟨y, hy, q⟩
      obtain ⟨e, he, rfl⟩ := List.mem_map.mp hy
      rw [HC.eqv, decide_eq_true_eq] at q
      rw [← q]; exact he
    · intro he
      exact ⟨h.toD, List.mem_map_of_mem he, by rw [HC.eqv]; exact decide_eq_true rfl⟩
  show (match (if (PyData.canLayAll0 (E.map HC.toD) && h.toD.canLay0 && decide (h.toD.depth ≤ 100)) = true then some (PyData.bool ((E.map HC.toD).any fun y => PyData.eqv y h.toD)) else none) with
    | some (.bool k) => some (PyData.bool (!k))
    | _ => none) = _
  rw [if_pos (by rw [hl, h.lay, decide_eq_true hd]; rfl), e1]
end PL

namespace My
open PySem PySem.Spec PyProof.Rows L2 PL
noncomputable def d_plain_part : Df := ⟨"plain_part", ["tree"], ["tree"], [.ife (.call "is_whole" [(.v 0)]) [.ret (.v 0)] [], .ret (.call "plain_pair" [(.call "plain_part" [(.ix (.v 0) (.k (.int 0)))]), (.call "plain_part" [(.ix (.v 0) (.k (.int 1)))])])]⟩
noncomputable def d_plain_pair : Df := ⟨"plain_pair", ["one", "other"], ["one", "other"], [.ret (.ife (.call "are_same_number" [(.v 0), (.v 1)]) (.v 0) (.tup [(.v 0), (.v 1)]))]⟩
noncomputable def d_plain_count : Df := ⟨"plain_count", ["tree"], ["tree"], [.ife (.call "is_whole" [(.v 0)]) [.ret (.v 0)] [], .ret (.call "plain_triple" [(.ix (.v 0) (.k (.int 0))), (.call "plain_count" [(.ix (.v 0) (.k (.int 1)))]), (.call "plain_count" [(.ix (.v 0) (.k (.int 2)))])])]⟩
noncomputable def d_plain_triple : Df := ⟨"plain_triple", ["number", "one", "other"], ["number", "one", "other", "shared"], [.asg (.one 3) (.blt .min [(.call "front" [(.v 1)]), (.call "front" [(.v 2)])]), .ife (.call "are_same_number" [(.v 1), (.v 2)]) [.ret (.bin .Add (.v 0) (.v 3))] [], .ret (.tup [(.bin .Add (.v 0) (.v 3)), (.call "lifted" [(.v 1), (.neg (.v 3))]), (.call "lifted" [(.v 2), (.neg (.v 3))])])]⟩
noncomputable def d_front : Df := ⟨"front", ["count"], ["count"], [.ret (.ife (.call "is_whole" [(.v 0)]) (.v 0) (.ix (.v 0) (.k (.int 0))))]⟩
noncomputable def d_lifted : Df := ⟨"lifted", ["count", "by"], ["count", "by"], [.ife (.call "is_whole" [(.v 0)]) [.ret (.bin .Add (.v 0) (.v 1))] [], .ret (.tup [(.bin .Add (.ix (.v 0) (.k (.int 0))) (.v 1)), (.ix (.v 0) (.k (.int 1))), (.ix (.v 0) (.k (.int 2)))])]⟩
noncomputable def d_are_same_number : Df := ⟨"are_same_number", ["one", "other"], ["one", "other"], [.ret (.and (.call "is_whole" [(.v 0)]) (.cmp .Eq (.v 0) (.v 1)))]⟩
noncomputable def d_is_whole : Df := ⟨"is_whole", ["thing"], ["thing"], [.ret (.and (.isin .int (.v 0)) (.not (.isin .bool (.v 0))))]⟩
noncomputable def d_highest : Df := ⟨"highest", ["one", "other"], ["one", "other", "shared", "first", "second"], [.ife (.and (.call "is_whole" [(.v 0)]) (.call "is_whole" [(.v 1)])) [.ret (.blt .max [(.v 0), (.v 1)])] [], .asg (.one 2) (.blt .min [(.call "front" [(.v 0)]), (.call "front" [(.v 1)])]), .asg (.one 3) (.call "highest" [(.call "half_beyond" [(.v 0), (.k (.int 1)), (.v 2)]), (.call "half_beyond" [(.v 1), (.k (.int 1)), (.v 2)])]), .asg (.one 4) (.call "highest" [(.call "half_beyond" [(.v 0), (.k (.int 2)), (.v 2)]), (.call "half_beyond" [(.v 1), (.k (.int 2)), (.v 2)])]), .ret (.call "plain_triple" [(.v 2), (.v 3), (.v 4)])]⟩
noncomputable def d_half_beyond : Df := ⟨"half_beyond", ["count", "side", "shared"], ["count", "side", "shared", "rest"], [.asg (.one 3) (.bin .Sub (.call "front" [(.v 0)]) (.v 2)), .ret (.ife (.call "is_whole" [(.v 0)]) (.v 3) (.call "lifted" [(.ix (.v 0) (.v 1)), (.v 3)]))]⟩
noncomputable def d_raised : Df := ⟨"raised", ["count", "part"], ["count", "part", "own", "before", "after"], [.asg (.one 2) (.call "plain_part" [(.v 1)]), .ife (.cmp .Eq (.v 2) (.k (.int 0))) [.raise_ "NotApart" [(.k (.str "in the part 0 there is nothing to raise"))]] [], .asg (.one 3) (.call "plain_count" [(.v 0)]), .asg (.one 4) (.call "evened" [(.v 3), (.v 2)]), .ret (.ife (.cmp .NotEq (.v 4) (.v 3)) (.v 4) (.ix (.call "grown" [(.v 3), (.v 2)]) (.k (.int 1))))]⟩
noncomputable def d_evened : Df := ⟨"evened", ["count", "part"], ["count", "part", "one", "other"], [.ife (.or (.cmp .Eq (.v 1) (.k (.int 0))) (.call "is_whole" [(.v 0)])) [.ret (.v 0)] [], .ife (.cmp .Eq (.v 1) (.k (.int 1))) [.ret (.call "peak" [(.v 0)])] [], .asg (.one 2) (.call "evened" [(.ix (.v 0) (.k (.int 1))), (.ix (.v 1) (.k (.int 0)))]), .asg (.one 3) (.call "evened" [(.ix (.v 0) (.k (.int 2))), (.ix (.v 1) (.k (.int 1)))]), .ife (.cmp .Eq (.ix (.v 1) (.k (.int 0))) (.k (.int 1))) [.asg (.one 2) (.blt .max [(.v 2), (.call "front" [(.v 3)])])] [], .ife (.cmp .Eq (.ix (.v 1) (.k (.int 1))) (.k (.int 1))) [.asg (.one 3) (.blt .max [(.v 3), (.call "front" [(.v 2)])])] [], .ret (.call "plain_triple" [(.ix (.v 0) (.k (.int 0))), (.v 2), (.v 3)])]⟩
noncomputable def d_peak : Df := ⟨"peak", ["count"], ["count"], [.ife (.call "is_whole" [(.v 0)]) [.ret (.v 0)] [], .ret (.bin .Add (.ix (.v 0) (.k (.int 0))) (.blt .max [(.call "peak" [(.ix (.v 0) (.k (.int 1)))]), (.call "peak" [(.ix (.v 0) (.k (.int 2)))])]))]⟩
noncomputable def d_grown : Df := ⟨"grown", ["count", "part"], ["count", "part"], [.ife (.cmp .Eq (.v 1) (.k (.int 1))) [.ret (.tup [(.k (.int 0)), (.call "lifted" [(.v 0), (.k (.int 1))])])] [], .ife (.cmp .Eq (.ix (.v 1) (.k (.int 0))) (.k (.int 0))) [.ret (.call "grown_half" [(.v 0), (.v 1), (.k (.int 1))])] [], .ife (.cmp .Eq (.ix (.v 1) (.k (.int 1))) (.k (.int 0))) [.ret (.call "grown_half" [(.v 0), (.v 1), (.k (.int 0))])] [], .ret (.mink "triples_added" (.call "grown_half" [(.v 0), (.v 1), (.k (.int 0))]) (.call "grown_half" [(.v 0), (.v 1), (.k (.int 1))]))]⟩
noncomputable def d_grown_half : Df := ⟨"grown_half", ["count", "part", "side"], ["count", "part", "side", "added", "triple", "below", "one", "other"], [.asg (.one 3) (.ife (.call "is_whole" [(.v 0)]) (.k (.int 1)) (.k (.int 0))), .asg (.one 4) (.ife (.call "is_whole" [(.v 0)]) (.tup [(.v 0), (.k (.int 0)), (.k (.int 0))]) (.v 0)), .asg (.one 5) (.call "grown" [(.ix (.v 4) (.bin .Add (.v 2) (.k (.int 1)))), (.ix (.v 1) (.v 2))]), .asg (.one 6) (.ife (.cmp .Eq (.v 2) (.k (.int 0))) (.ix (.v 5) (.k (.int 1))) (.ix (.v 4) (.k (.int 1)))), .asg (.one 7) (.ife (.cmp .Eq (.v 2) (.k (.int 1))) (.ix (.v 5) (.k (.int 1))) (.ix (.v 4) (.k (.int 2)))), .ret (.tup [(.bin .Add (.ix (.v 5) (.k (.int 0))) (.v 3)), (.call "plain_triple" [(.ix (.v 4) (.k (.int 0))), (.v 6), (.v 7)])])]⟩
noncomputable def d_triples_added : Df := ⟨"triples_added", ["found"], ["found"], [.ret (.ix (.v 0) (.k (.int 0)))]⟩
noncomputable def d_are_apart : Df := ⟨"are_apart", ["one", "other"], ["one", "other"], [.ife (.or (.cmp .Eq (.v 0) (.k (.int 0))) (.cmp .Eq (.v 1) (.k (.int 0)))) [.ret (.k (.bool true))] [], .ife (.and (.cmp .Eq (.v 0) (.k (.int 1))) (.cmp .Eq (.v 1) (.k (.int 1)))) [.ret (.k (.bool false))] [], .ret (.and (.call "are_apart" [(.call "half" [(.v 0), (.k (.int 0))]), (.call "half" [(.v 1), (.k (.int 0))])]) (.call "are_apart" [(.call "half" [(.v 0), (.k (.int 1))]), (.call "half" [(.v 1), (.k (.int 1))])]))]⟩
noncomputable def d_together : Df := ⟨"together", ["one", "other"], ["one", "other"], [.ife (.not (.call "are_apart" [(.v 0), (.v 1)])) [.raise_ "NotApart" [(.k (.str "the two parts have something in common"))]] [], .ret (.call "joined" [(.v 0), (.v 1)])]⟩
noncomputable def d_joined : Df := ⟨"joined", ["one", "other"], ["one", "other"], [.ife (.and (.call "is_whole" [(.v 0)]) (.call "is_whole" [(.v 1)])) [.ret (.blt .max [(.v 0), (.v 1)])] [], .ret (.call "plain_pair" [(.call "joined" [(.call "half" [(.v 0), (.k (.int 0))]), (.call "half" [(.v 1), (.k (.int 0))])]), (.call "joined" [(.call "half" [(.v 0), (.k (.int 1))]), (.call "half" [(.v 1), (.k (.int 1))])])])]⟩
noncomputable def d_half : Df := ⟨"half", ["part", "side"], ["part", "side"], [.ret (.ife (.call "is_whole" [(.v 0)]) (.v 0) (.ix (.v 0) (.v 1)))]⟩
noncomputable def d_halves : Df := ⟨"halves", ["part"], ["part"], [.ret (.call "parted_in_two" [(.call "plain_part" [(.v 0)])])]⟩
noncomputable def d_parted_in_two : Df := ⟨"parted_in_two", ["part"], ["part", "below"], [.ife (.cmp .Eq (.v 0) (.k (.int 0))) [.ret (.tup [(.k (.int 0)), (.k (.int 0))])] [], .ife (.cmp .Eq (.v 0) (.k (.int 1))) [.ret (.tup [(.tup [(.k (.int 1)), (.k (.int 0))]), (.tup [(.k (.int 0)), (.k (.int 1))])])] [], .ife (.cmp .Eq (.ix (.v 0) (.k (.int 0))) (.k (.int 0))) [.asg (.one 1) (.call "parted_in_two" [(.ix (.v 0) (.k (.int 1)))]), .ret (.tup [(.tup [(.k (.int 0)), (.ix (.v 1) (.k (.int 0)))]), (.tup [(.k (.int 0)), (.ix (.v 1) (.k (.int 1)))])])] [], .ife (.cmp .Eq (.ix (.v 0) (.k (.int 1))) (.k (.int 0))) [.asg (.one 1) (.call "parted_in_two" [(.ix (.v 0) (.k (.int 0)))]), .ret (.tup [(.tup [(.ix (.v 1) (.k (.int 0))), (.k (.int 0))]), (.tup [(.ix (.v 1) (.k (.int 1))), (.k (.int 0))])])] [], .ret (.tup [(.tup [(.ix (.v 0) (.k (.int 0))), (.k (.int 0))]), (.tup [(.k (.int 0)), (.ix (.v 0) (.k (.int 1)))])])]⟩
noncomputable def d_first : Df := ⟨"first", [], [], [.ret (.tup [(.k (.int 1)), (.k (.int 0))])]⟩
noncomputable def d_parted : Df := ⟨"parted", ["clock"], ["clock", "two"], [.asg (.one 1) (.call "halves" [(.ix (.v 0) (.k (.int 0)))]), .ret (.tup [(.tup [(.ix (.v 1) (.k (.int 0))), (.ix (.v 0) (.k (.int 1)))]), (.tup [(.ix (.v 1) (.k (.int 1))), (.ix (.v 0) (.k (.int 1)))])])]⟩
noncomputable def d_done : Df := ⟨"done", ["clock"], ["clock"], [.ret (.tup [(.ix (.v 0) (.k (.int 0))), (.call "raised" [(.ix (.v 0) (.k (.int 1))), (.ix (.v 0) (.k (.int 0)))])])]⟩
noncomputable def d_sent : Df := ⟨"sent", ["clock"], ["clock"], [.ret (.tup [(.k (.int 0)), (.ix (.v 0) (.k (.int 1)))])]⟩
noncomputable def d_met : Df := ⟨"met", ["one", "other"], ["one", "other"], [.ret (.tup [(.call "together" [(.ix (.v 0) (.k (.int 0))), (.ix (.v 1) (.k (.int 0)))]), (.call "highest" [(.ix (.v 0) (.k (.int 1))), (.ix (.v 1) (.k (.int 1)))])])]⟩
noncomputable def d__law_cell_at : Df := ⟨"_law_cell_at", ["_law_script", "_law_k"], ["_law_script", "_law_k"], [.ife (.cmp .Lt (.v 1) (.blt .len [(.v 0)])) [.ret (.ix (.v 0) (.v 1))] [], .ret (.k (.int 0))]⟩
noncomputable def d__law_mixed : Df := ⟨"_law_mixed", ["_law_script", "_law_k"], ["_law_script", "_law_k", "_law_drawn_here"], [.asg (.one 2) (.bin .Mod (.bin .Mult (.bin .Add (.bin .Add (.call "_law_cell_at" [(.v 0), (.v 1)]) (.bin .Mult (.k (.int 7919)) (.v 1))) (.k (.int 1))) (.k (.int 48271))) (.k (.int 2147483647))), .ret (.bin .Mod (.bin .Add (.bin .Add (.bin .Mult (.v 2) (.v 2)) (.bin .Mult (.k (.int 7)) (.v 2))) (.v 1)) (.k (.int 2147483629)))]⟩
noncomputable def d__law_paths : Df := ⟨"_law_paths", ["_law_tree"], ["_law_tree", "_law_one", "_law_other"], [.ife (.not (.isin .tuple (.v 0))) [.ret (.lst [(.k (.str ""))])] [], .asg (.many [1, 2]) (.sl (.v 0) (.neg (.k (.int 2))) (.k .none)), .ret (.bin .Add (.comp (.one 0) (.seq (.call "_law_paths" [(.v 1)])) ["_law_path"] [none] [] (.bin .Add (.k (.str "l")) (.v 0))) (.comp (.one 0) (.seq (.call "_law_paths" [(.v 2)])) ["_law_path"] [none] [] (.bin .Add (.k (.str "r")) (.v 0))))]⟩
noncomputable def d__law_at : Df := ⟨"_law_at", ["_law_tree", "_law_path"], ["_law_tree", "_law_path", "_law_found", "_law_here", "_law_sign"], [.asg (.one 2) (.k (.int 0)), .asg (.one 3) (.v 0), .for_ (.one 4) (.seq (.bin .Add (.v 1) (.bin .Mult (.k (.str "l")) (.k (.int 40))))) [.ife (.not (.isin .tuple (.v 3))) [.ret (.bin .Add (.v 2) (.v 3))] [], .ife (.cmp .Eq (.blt .len [(.v 3)]) (.k (.int 3))) [.asg (.one 2) (.bin .Add (.v 2) (.ix (.v 3) (.k (.int 0))))] [], .asg (.one 3) (.ix (.v 3) (.bin .Sub (.bin .Sub (.blt .len [(.v 3)]) (.k (.int 1))) (.blt .int [(.cmp .Eq (.v 4) (.k (.str "l")))])))], .ret (.k .none)]⟩
noncomputable def d__law_plain_part : Df := ⟨"_law_plain_part", ["_law_tree"], ["_law_tree", "_law_one", "_law_other"], [.ife (.not (.isin .tuple (.v 0))) [.ret (.v 0)] [], .asg (.one 1) (.call "_law_plain_part" [(.ix (.v 0) (.k (.int 0)))]), .asg (.one 2) (.call "_law_plain_part" [(.ix (.v 0) (.k (.int 1)))]), .ife (.and (.cmp .Eq (.v 1) (.v 2)) (.cmp .In (.v 1) (.tup [(.k (.int 0)), (.k (.int 1))]))) [.ret (.v 1)] [], .ret (.tup [(.v 1), (.v 2)])]⟩
noncomputable def d__law_more : Df := ⟨"_law_more", ["_law_count", "_law_by"], ["_law_count", "_law_by"], [.ife (.isin .tuple (.v 0)) [.ret (.tup [(.bin .Add (.ix (.v 0) (.k (.int 0))) (.v 1)), (.ix (.v 0) (.k (.int 1))), (.ix (.v 0) (.k (.int 2)))])] [], .ret (.bin .Add (.v 0) (.v 1))]⟩
noncomputable def d__law_front : Df := ⟨"_law_front", ["_law_count"], ["_law_count"], [.ife (.isin .tuple (.v 0)) [.ret (.ix (.v 0) (.k (.int 0)))] [], .ret (.v 0)]⟩
noncomputable def d__law_plain_count : Df := ⟨"_law_plain_count", ["_law_tree"], ["_law_tree", "_law_one", "_law_other", "_law_least"], [.ife (.not (.isin .tuple (.v 0))) [.ret (.v 0)] [], .asg (.one 1) (.call "_law_plain_count" [(.ix (.v 0) (.k (.int 1)))]), .asg (.one 2) (.call "_law_plain_count" [(.ix (.v 0) (.k (.int 2)))]), .asg (.one 3) (.blt .min [(.call "_law_front" [(.v 1)]), (.call "_law_front" [(.v 2)])]), .ife (.and (.cmp .Eq (.v 1) (.v 3)) (.cmp .Eq (.v 2) (.v 3))) [.ret (.bin .Add (.ix (.v 0) (.k (.int 0))) (.v 3))] [], .ret (.tup [(.bin .Add (.ix (.v 0) (.k (.int 0))) (.v 3)), (.call "_law_more" [(.v 1), (.neg (.v 3))]), (.call "_law_more" [(.v 2), (.neg (.v 3))])])]⟩
noncomputable def d__law_whole : Df := ⟨"_law_whole", ["_law_thing"], ["_law_thing"], [.ret (.and (.isin .int (.v 0)) (.and (.not (.isin .bool (.v 0))) (.cmp .GtE (.v 0) (.k (.int 0)))))]⟩
noncomputable def d__law_is_part : Df := ⟨"_law_is_part", ["_law_thing"], ["_law_thing"], [.ife (.call "_law_whole" [(.v 0)]) [.ret (.cmp .Lt (.v 0) (.k (.int 2)))] [], .ife (.or (.not (.isin .tuple (.v 0))) (.cmp .NotEq (.blt .len [(.v 0)]) (.k (.int 2)))) [.ret (.k (.bool false))] [], .ret (.and (.call "_law_is_part" [(.ix (.v 0) (.k (.int 0)))]) (.and (.call "_law_is_part" [(.ix (.v 0) (.k (.int 1)))]) (.cmp .Eq (.call "_law_plain_part" [(.v 0)]) (.v 0))))]⟩
noncomputable def d__law_is_count : Df := ⟨"_law_is_count", ["_law_thing"], ["_law_thing"], [.ife (.call "_law_whole" [(.v 0)]) [.ret (.k (.bool true))] [], .ife (.or (.not (.isin .tuple (.v 0))) (.or (.cmp .NotEq (.blt .len [(.v 0)]) (.k (.int 3))) (.not (.call "_law_whole" [(.ix (.v 0) (.k (.int 0)))])))) [.ret (.k (.bool false))] [], .ret (.and (.call "_law_is_count" [(.ix (.v 0) (.k (.int 1)))]) (.and (.call "_law_is_count" [(.ix (.v 0) (.k (.int 2)))]) (.cmp .Eq (.call "_law_plain_count" [(.v 0)]) (.v 0))))]⟩
noncomputable def d__law_is_clock : Df := ⟨"_law_is_clock", ["_law_thing"], ["_law_thing"], [.ife (.or (.not (.isin .tuple (.v 0))) (.cmp .NotEq (.blt .len [(.v 0)]) (.k (.int 2)))) [.ret (.k (.bool false))] [], .ret (.and (.call "_law_is_part" [(.ix (.v 0) (.k (.int 0)))]) (.call "_law_is_count" [(.ix (.v 0) (.k (.int 1)))]))]⟩
noncomputable def d__law_deed : Df := ⟨"_law_deed", ["_law_hands", "_law_number", "_law_k"], ["_law_hands", "_law_number", "_law_k", "_law_at_here", "_law_other", "_law_clock", "_law_known", "_law_one", "_law_two", "_law_there", "_law_also", "_law_every", "_law_left"], [.asg (.one 3) (.bin .Mod (.bin .FloorDiv (.v 1) (.k (.int 5))) (.blt .len [(.v 0)])), .asg (.one 4) (.bin .Mod (.bin .FloorDiv (.v 1) (.k (.int 40))) (.blt .len [(.v 0)])), .asg (.many [5, 6]) (.ix (.v 0) (.v 3)), .ife (.and (.cmp .Eq (.bin .Mod (.v 1) (.k (.int 5))) (.k (.int 0))) (.cmp .Lt (.blt .len [(.v 0)]) (.k (.int 6)))) [.asg (.many [7, 8]) (.call "parted" [(.v 5)]), .ret (.bin .Add (.bin .Add (.sl (.v 0) (.k .none) (.v 3)) (.lst [(.tup [(.v 7), (.v 6)]), (.tup [(.v 8), (.v 6)])])) (.sl (.v 0) (.bin .Add (.v 3) (.k (.int 1))) (.k .none)))] [], .ife (.or (.cmp .Lt (.bin .Mod (.v 1) (.k (.int 5))) (.k (.int 3))) (.cmp .Eq (.v 3) (.v 4))) [.ret (.bin .Add (.bin .Add (.sl (.v 0) (.k .none) (.v 3)) (.lst [(.tup [(.call "done" [(.v 5)]), (.bin .Add (.v 6) (.tup [(.v 2)]))])])) (.sl (.v 0) (.bin .Add (.v 3) (.k (.int 1))) (.k .none)))] [], .asg (.many [9, 10]) (.ix (.v 0) (.v 4)), .asg (.one 11) (.blt .tuple [(.sset (.bin .Add (.v 6) (.v 10)))]), .ife (.cmp .Eq (.bin .Mod (.v 1) (.k (.int 5))) (.k (.int 3))) [.ret (.bin .Add (.bin .Add (.sl (.v 0) (.k .none) (.v 4)) (.lst [(.tup [(.call "met" [(.v 9), (.call "sent" [(.v 5)])]), (.v 11)])])) (.sl (.v 0) (.bin .Add (.v 4) (.k (.int 1))) (.k .none)))] [], .asg (.one 12) (.comp (.many [0, 1]) (.enum (.v 0)) ["_law_n", "_law_hand", "_law_at_here", "_law_other"] [none, none, some 3, some 4] [(.cmp .NotIn (.v 0) (.tup [(.v 2), (.v 3)]))] (.v 1)), .ret (.bin .Add (.v 12) (.lst [(.tup [(.call "met" [(.v 5), (.v 9)]), (.v 11)])]))]⟩
noncomputable def d__law_run : Df := ⟨"_law_run", ["_law_script", "_law_most"], ["_law_script", "_law_most", "_law_hands", "_law_every", "_law_k"], [.asg (.one 2) (.lst [(.tup [(.call "first" []), (.tup [])])]), .asg (.one 3) (.blt .list [(.v 2)]), .for_ (.one 4) (.rng1 (.bin .Mod (.call "_law_mixed" [(.v 0), (.k (.int 0))]) (.bin .Add (.v 1) (.k (.int 1))))) [.asg (.one 2) (.call "_law_deed" [(.v 2), (.call "_law_mixed" [(.v 0), (.bin .Add (.k (.int 1)) (.v 4))]), (.v 4)]), .asg (.one 3) (.bin .Add (.v 3) (.comp (.one 0) (.seq (.v 2)) ["_law_hand", "_law_every"] [none, some 3] [(.cmp .NotIn (.v 0) (.v 1))] (.v 0)))], .ret (.tup [(.v 2), (.v 3)])]⟩
noncomputable def d_law : Df := ⟨"law", ["_law_script"], ["_law_script", "_law_hands", "_law_every", "_law_paths_here", "_law_clock", "_law_known", "_law_path"], [.asg (.many [1, 2]) (.call "_law_run" [(.v 0), (.k (.int 16))]), .asg (.one 3) (.lst []), .for_ (.many [4, 5]) (.seq (.v 1)) [.ife (.or (.not (.call "_law_is_clock" [(.v 4)])) (.cmp .Eq (.ix (.v 4) (.k (.int 0))) (.k (.int 0)))) [.ret (.k (.bool false))] [], .asg (.one 3) (.bin .Add (.v 3) (.call "_law_paths" [(.ix (.v 4) (.k (.int 0)))]))], .for_ (.one 6) (.seq (.v 3)) [.ife (.cmp .NotEq (.blt .sum [(.comp (.many [0, 1]) (.seq (.v 1)) ["_law_clock", "_law_known", "_law_path"] [none, none, some 6] [] (.call "_law_at" [(.ix (.v 0) (.k (.int 0))), (.v 2)]))]) (.k (.int 1))) [.ret (.k (.bool false))] []], .ret (.k (.bool true))]⟩
noncomputable def fs : List Str := [("plain_part" : Str), ("plain_pair" : Str), ("plain_count" : Str), ("plain_triple" : Str), ("front" : Str), ("lifted" : Str), ("are_same_number" : Str), ("is_whole" : Str), ("highest" : Str), ("half_beyond" : Str), ("raised" : Str), ("evened" : Str), ("peak" : Str), ("grown" : Str), ("grown_half" : Str), ("triples_added" : Str), ("are_apart" : Str), ("together" : Str), ("joined" : Str), ("half" : Str), ("halves" : Str), ("parted_in_two" : Str), ("first" : Str), ("parted" : Str), ("done" : Str), ("sent" : Str), ("met" : Str), ("_law_cell_at" : Str), ("_law_mixed" : Str), ("_law_paths" : Str), ("_law_at" : Str), ("_law_plain_part" : Str), ("_law_more" : Str), ("_law_front" : Str), ("_law_plain_count" : Str), ("_law_whole" : Str), ("_law_is_part" : Str), ("_law_is_count" : Str), ("_law_is_clock" : Str), ("_law_deed" : Str), ("_law_run" : Str), ("law" : Str)]
noncomputable def xs : List Str := ["ClockError", "NotApart"]
noncomputable def tbl : List (Str × Df) := [(("plain_part" : Str), d_plain_part), (("plain_pair" : Str), d_plain_pair), (("plain_count" : Str), d_plain_count), (("plain_triple" : Str), d_plain_triple), (("front" : Str), d_front), (("lifted" : Str), d_lifted), (("are_same_number" : Str), d_are_same_number), (("is_whole" : Str), d_is_whole), (("highest" : Str), d_highest), (("half_beyond" : Str), d_half_beyond), (("raised" : Str), d_raised), (("evened" : Str), d_evened), (("peak" : Str), d_peak), (("grown" : Str), d_grown), (("grown_half" : Str), d_grown_half), (("triples_added" : Str), d_triples_added), (("are_apart" : Str), d_are_apart), (("together" : Str), d_together), (("joined" : Str), d_joined), (("half" : Str), d_half), (("halves" : Str), d_halves), (("parted_in_two" : Str), d_parted_in_two), (("first" : Str), d_first), (("parted" : Str), d_parted), (("done" : Str), d_done), (("sent" : Str), d_sent), (("met" : Str), d_met), (("_law_cell_at" : Str), d__law_cell_at), (("_law_mixed" : Str), d__law_mixed), (("_law_paths" : Str), d__law_paths), (("_law_at" : Str), d__law_at), (("_law_plain_part" : Str), d__law_plain_part), (("_law_more" : Str), d__law_more), (("_law_front" : Str), d__law_front), (("_law_plain_count" : Str), d__law_plain_count), (("_law_whole" : Str), d__law_whole), (("_law_is_part" : Str), d__law_is_part), (("_law_is_count" : Str), d__law_is_count), (("_law_is_clock" : Str), d__law_is_clock), (("_law_deed" : Str), d__law_deed), (("_law_run" : Str), d__law_run), (("law" : Str), d_law)]
noncomputable def fol : List (Str × (Nat × (List PyData → Option PyData))) := []
noncomputable def dxl : List Str := []
noncomputable def tb : Tb := ⟨fun f => tbl.lookup f, xs, fun f => fol.lookup f, fun f => dxl.contains f⟩
theorem htb (f : Str) (D : Df) (h : tb.df f = some D) : fs.contains f = true := by
  have h1 : f ∈ tbl.map (·.1) := lookup_fst h
  have h2 : (tbl.map (·.1)).all (fun x => fs.contains x) = true := by decide +kernel
  exact List.all_eq_true.mp h2 f h1
theorem hto (f : Str) (o : Nat × (List PyData → Option PyData)) (h : tb.fo f = some o) : fs.contains f = true := by
  have h1 : f ∈ fol.map (·.1) := lookup_fst h
  have h2 : (fol.map (·.1)).all (fun x => fs.contains x) = true := by decide +kernel
  exact List.all_eq_true.mp h2 f h1
theorem c_plain_part (n : Nat) (ds : List PyData) : callN tb (n + 1) "plain_part" ds = runD (callN tb n) (callE tb n) d_plain_part ds := rfl
theorem c_plain_pair (n : Nat) (ds : List PyData) : callN tb (n + 1) "plain_pair" ds = runD (callN tb n) (callE tb n) d_plain_pair ds := rfl
theorem c_plain_count (n : Nat) (ds : List PyData) : callN tb (n + 1) "plain_count" ds = runD (callN tb n) (callE tb n) d_plain_count ds := rfl
theorem c_plain_triple (n : Nat) (ds : List PyData) : callN tb (n + 1) "plain_triple" ds = runD (callN tb n) (callE tb n) d_plain_triple ds := rfl
theorem c_front (n : Nat) (ds : List PyData) : callN tb (n + 1) "front" ds = runD (callN tb n) (callE tb n) d_front ds := rfl
theorem c_lifted (n : Nat) (ds : List PyData) : callN tb (n + 1) "lifted" ds = runD (callN tb n) (callE tb n) d_lifted ds := rfl
theorem c_are_same_number (n : Nat) (ds : List PyData) : callN tb (n + 1) "are_same_number" ds = runD (callN tb n) (callE tb n) d_are_same_number ds := rfl
theorem c_highest (n : Nat) (ds : List PyData) : callN tb (n + 1) "highest" ds = runD (callN tb n) (callE tb n) d_highest ds := rfl
theorem c_half_beyond (n : Nat) (ds : List PyData) : callN tb (n + 1) "half_beyond" ds = runD (callN tb n) (callE tb n) d_half_beyond ds := rfl
theorem c_raised (n : Nat) (ds : List PyData) : callN tb (n + 1) "raised" ds = runD (callN tb n) (callE tb n) d_raised ds := rfl
theorem c_evened (n : Nat) (ds : List PyData) : callN tb (n + 1) "evened" ds = runD (callN tb n) (callE tb n) d_evened ds := rfl
theorem c_peak (n : Nat) (ds : List PyData) : callN tb (n + 1) "peak" ds = runD (callN tb n) (callE tb n) d_peak ds := rfl
theorem c_grown (n : Nat) (ds : List PyData) : callN tb (n + 1) "grown" ds = runD (callN tb n) (callE tb n) d_grown ds := rfl
theorem c_grown_half (n : Nat) (ds : List PyData) : callN tb (n + 1) "grown_half" ds = runD (callN tb n) (callE tb n) d_grown_half ds := rfl
theorem c_triples_added (n : Nat) (ds : List PyData) : callN tb (n + 1) "triples_added" ds = runD (callN tb n) (callE tb n) d_triples_added ds := rfl
theorem c_are_apart (n : Nat) (ds : List PyData) : callN tb (n + 1) "are_apart" ds = runD (callN tb n) (callE tb n) d_are_apart ds := rfl
theorem c_together (n : Nat) (ds : List PyData) : callN tb (n + 1) "together" ds = runD (callN tb n) (callE tb n) d_together ds := rfl
theorem c_joined (n : Nat) (ds : List PyData) : callN tb (n + 1) "joined" ds = runD (callN tb n) (callE tb n) d_joined ds := rfl
theorem c_half (n : Nat) (ds : List PyData) : callN tb (n + 1) "half" ds = runD (callN tb n) (callE tb n) d_half ds := rfl
theorem c_halves (n : Nat) (ds : List PyData) : callN tb (n + 1) "halves" ds = runD (callN tb n) (callE tb n) d_halves ds := rfl
theorem c_parted_in_two (n : Nat) (ds : List PyData) : callN tb (n + 1) "parted_in_two" ds = runD (callN tb n) (callE tb n) d_parted_in_two ds := rfl
theorem c_parted (n : Nat) (ds : List PyData) : callN tb (n + 1) "parted" ds = runD (callN tb n) (callE tb n) d_parted ds := rfl
theorem c_done (n : Nat) (ds : List PyData) : callN tb (n + 1) "done" ds = runD (callN tb n) (callE tb n) d_done ds := rfl
theorem c_sent (n : Nat) (ds : List PyData) : callN tb (n + 1) "sent" ds = runD (callN tb n) (callE tb n) d_sent ds := rfl
theorem c_met (n : Nat) (ds : List PyData) : callN tb (n + 1) "met" ds = runD (callN tb n) (callE tb n) d_met ds := rfl
theorem c__law_cell_at (n : Nat) (ds : List PyData) : callN tb (n + 1) "_law_cell_at" ds = runD (callN tb n) (callE tb n) d__law_cell_at ds := rfl
theorem c__law_mixed (n : Nat) (ds : List PyData) : callN tb (n + 1) "_law_mixed" ds = runD (callN tb n) (callE tb n) d__law_mixed ds := rfl
theorem c__law_paths (n : Nat) (ds : List PyData) : callN tb (n + 1) "_law_paths" ds = runD (callN tb n) (callE tb n) d__law_paths ds := rfl
theorem c__law_at (n : Nat) (ds : List PyData) : callN tb (n + 1) "_law_at" ds = runD (callN tb n) (callE tb n) d__law_at ds := rfl
theorem c__law_plain_part (n : Nat) (ds : List PyData) : callN tb (n + 1) "_law_plain_part" ds = runD (callN tb n) (callE tb n) d__law_plain_part ds := rfl
theorem c__law_more (n : Nat) (ds : List PyData) : callN tb (n + 1) "_law_more" ds = runD (callN tb n) (callE tb n) d__law_more ds := rfl
theorem c__law_plain_count (n : Nat) (ds : List PyData) : callN tb (n + 1) "_law_plain_count" ds = runD (callN tb n) (callE tb n) d__law_plain_count ds := rfl
theorem c__law_whole (n : Nat) (ds : List PyData) : callN tb (n + 1) "_law_whole" ds = runD (callN tb n) (callE tb n) d__law_whole ds := rfl
theorem c__law_is_part (n : Nat) (ds : List PyData) : callN tb (n + 1) "_law_is_part" ds = runD (callN tb n) (callE tb n) d__law_is_part ds := rfl
theorem c__law_is_count (n : Nat) (ds : List PyData) : callN tb (n + 1) "_law_is_count" ds = runD (callN tb n) (callE tb n) d__law_is_count ds := rfl
theorem c__law_is_clock (n : Nat) (ds : List PyData) : callN tb (n + 1) "_law_is_clock" ds = runD (callN tb n) (callE tb n) d__law_is_clock ds := rfl
theorem c__law_deed (n : Nat) (ds : List PyData) : callN tb (n + 1) "_law_deed" ds = runD (callN tb n) (callE tb n) d__law_deed ds := rfl
theorem c__law_run (n : Nat) (ds : List PyData) : callN tb (n + 1) "_law_run" ds = runD (callN tb n) (callE tb n) d__law_run ds := rfl
theorem c_law (n : Nat) (ds : List PyData) : callN tb (n + 1) "law" ds = runD (callN tb n) (callE tb n) d_law ds := rfl

theorem cell_ex (n : Nat) (ns : List Int) (k : Int) (hk : 0 ≤ k) : ∃ m : Int, callN tb (n + 1) "_law_cell_at" [.list (ns.map PyData.int), .int k] = some (.int m) := by
  rw [c__law_cell_at, u_run _ _ _ rfl]
  by_cases h : k < (ns.length : Int)
  · obtain ⟨a, ha, e⟩ := atI_ex (ns.map PyData.int) k hk (by simpa using h)
    obtain ⟨i, _, rfl⟩ := List.mem_map.mp ha
    refine ⟨i, ?_⟩
    simp [d__law_cell_at, startD, h, e]
  · exact ⟨0, by simp [d__law_cell_at, startD, h]⟩
theorem mixed_ex (n : Nat) (ns : List Int) (k : Int) (hk : 0 ≤ k) : ∃ m : Int, 0 ≤ m ∧ callN tb (n + 2) "_law_mixed" [.list (ns.map PyData.int), .int k] = some (.int m) := by
  rw [c__law_mixed, u_run _ _ _ rfl]
  obtain ⟨c, e⟩ := cell_ex n ns k hk
  have h1 : okMul 7919 k = true := okMul_l (by decide) (by decide)
  have h2 : okMul (c + 7919 * k + 1) 48271 = true := okMul_r (by decide) (by decide)
  have h3 : ∀ y : Int, okMul (y % 2147483647) (y % 2147483647) = true := fun y => okMul_l (by omega) (by omega)
  have h4 : ∀ y : Int, okMul 7 y = true := fun y => okMul_l (by decide) (by decide)
  simp [d__law_mixed, startD, e, h1, h2, h3, h4]
  omega
theorem u_eqD {a b : PyData} (h1 : a.canLay0 = true) (h2 : b.canLay0 = true) (h3 : min a.depth b.depth ≤ 100) : cmpD .Eq a b = some (.bool (PyData.eqv a b)) := by
  show (if okEq a b = true then _ else _) = _
  rw [if_pos (by unfold okEq; rw [h1, h2, decide_eq_true h3]; rfl)]
theorem u_neD {a b : PyData} (h1 : a.canLay0 = true) (h2 : b.canLay0 = true) (h3 : min a.depth b.depth ≤ 100) : cmpD .NotEq a b = some (.bool (!PyData.eqv a b)) := by
  show (if okEq a b = true then _ else _) = _
  rw [if_pos (by unfold okEq; rw [h1, h2, decide_eq_true h3]; rfl)]

theorem in01 (t : PT) (h : t.dep ≤ 100) : cmpD .In t.toD (.tuple [.int 0, .int 1]) = some (.bool t.leaf) := by
  show (if (PyData.canLayAll0 [.int 0, .int 1] && t.toD.canLay0 && decide (t.toD.depth ≤ 100)) = true then some (PyData.bool (([.int 0, .int 1] : List PyData).any fun y => PyData.eqv y t.toD)) else none) = _
  rw [if_pos (by rw [PT.lay, PT.depD, decide_eq_true h]; rfl)]
  cases t with
  | z b => cases b <;> rfl
  | p a b => rfl
theorem lplain_part_eq : ∀ (t : PT) (n : Nat), t.dep ≤ 100 → callN tb (n + t.dep + 1) "_law_plain_part" [t.toD] = some t.plain.toD := by
  intro t
  induction t with
  | z b => intro n _; rfl
  | p a b iha ihb =>
    intro n hd
    simp only [PT.dep] at hd ⊢
    rw [c__law_plain_part, u_run _ _ _ rfl]
    have ea : callN tb (n + (max a.dep b.dep + 1)) "_law_plain_part" [a.toD] = some a.plain.toD := by
      have := iha (n + (max a.dep b.dep - a.dep)) (by omega)
      rwa [show n + (max a.dep b.dep - a.dep) + a.dep + 1 = n + (max a.dep b.dep + 1) by omega] at this
    have eb : callN tb (n + (max a.dep b.dep + 1)) "_law_plain_part" [b.toD] = some b.plain.toD := by
      have := ihb (n + (max a.dep b.dep - b.dep)) (by omega)
      rwa [show n + (max a.dep b.dep - b.dep) + b.dep + 1 = n + (max a.dep b.dep + 1) by omega] at this
    have da := PT.plain_dep a
    have db := PT.plain_dep b
    have q1 := u_eqD (PT.lay a.plain) (PT.lay b.plain) (by rw [PT.depD, PT.depD]; omega)
    have q2 := in01 a.plain (by omega)
    have ol : okLen 2 = true := by decide
    rw [PT.eqv] at q1
    simp only [PT.plain]
    generalize a.plain = A at *
    generalize b.plain = B at *
    by_cases h1 : A = B
    · cases hl : A.leaf with
      | true =>
        have e1 : PT.join A B = A := by
          subst h1
          cases A with
          | z x => simp [PT.join]
          | p c d => cases hl
        rw [e1]
        rw [hl] at q2
        rw [decide_eq_true h1] at q1
        simp [d__law_plain_part, startD, PT.toD, at0, at1, ea, eb, q1, q2, ol]
      | false =>
        have e1 : PT.join A B = .p A B := by
          cases A with
          | z x => cases hl
          | p c d => simp [PT.join]
        rw [e1]
        rw [hl] at q2
        rw [decide_eq_true h1] at q1
        simp [d__law_plain_part, startD, PT.toD, at0, at1, ea, eb, q1, q2, ol]
    · have e1 : PT.join A B = .p A B := by
        unfold PT.join
        split
        · rename_i x y
          rw [if_neg fun z => h1 (by rw [z])]
        · rfl
      rw [e1]
      rw [decide_eq_false h1] at q1
      simp [d__law_plain_part, startD, PT.toD, at0, at1, ea, eb, q1, q2, ol]

theorem lfront_eq (t : CT) (n : Nat) : callN tb (n + 1) "_law_front" [t.toD] = some (.int t.front) := by
  cases t <;> rfl
theorem lmore_eq (t : CT) (l n : Nat) (h : l ≤ t.front) : callN tb (n + 1) "_law_more" [t.toD, .int (-(l : Int))] = some (t.low l).toD := by
  rw [c__law_more, u_run _ _ _ rfl]
  have ol : okLen 3 = true := by decide
  cases t with
  | i m =>
    have h' : l ≤ m := h
    simp [d__law_more, startD, CT.toD, CT.low]
    omega
  | t m a b =>
    have h' : l ≤ m := h
    simp [d__law_more, startD, CT.toD, CT.low, at0, at1, at2, ol]
    omega
theorem lplain_count_eq : ∀ (t : CT) (n : Nat), t.dep ≤ 100 → callN tb (n + t.dep + 2) "_law_plain_count" [t.toD] = some t.plain.toD := by
  intro t
  induction t with
  | i b => intro n _; rfl
  | t m a b iha ihb =>
    intro n hd
    simp only [CT.dep] at hd ⊢
    rw [show n + (max a.dep b.dep + 1) + 2 = (n + max a.dep b.dep + 2) + 1 by omega, c__law_plain_count, u_run _ _ _ rfl]
    have ea : callN tb (n + max a.dep b.dep + 2) "_law_plain_count" [a.toD] = some a.plain.toD := by
      have := iha (n + (max a.dep b.dep - a.dep)) (by omega)
      rwa [show n + (max a.dep b.dep - a.dep) + a.dep + 2 = n + max a.dep b.dep + 2 by omega] at this
    have eb : callN tb (n + max a.dep b.dep + 2) "_law_plain_count" [b.toD] = some b.plain.toD := by
      have := ihb (n + (max a.dep b.dep - b.dep)) (by omega)
      rwa [show n + (max a.dep b.dep - b.dep) + b.dep + 2 = n + max a.dep b.dep + 2 by omega] at this
    have da := CT.plain_dep a
    have db := CT.plain_dep b
    have fa := lfront_eq a.plain (n + max a.dep b.dep + 1)
    have fb := lfront_eq b.plain (n + max a.dep b.dep + 1)
    have el : (if ((b.plain.front : Nat) : Int) < ((a.plain.front : Nat) : Int) then ((b.plain.front : Nat) : Int) else ((a.plain.front : Nat) : Int)) = ((min a.plain.front b.plain.front : Nat) : Int) := by
      split <;> omega
    have el2 : (if b.plain.front < a.plain.front then ((b.plain.front : Nat) : Int) else ((a.plain.front : Nat) : Int)) = ((min a.plain.front b.plain.front : Nat) : Int) := by
      split <;> omega
    have ma := lmore_eq a.plain (min a.plain.front b.plain.front) (n + max a.dep b.dep + 1) (Nat.min_le_left _ _)
    have mb := lmore_eq b.plain (min a.plain.front b.plain.front) (n + max a.dep b.dep + 1) (Nat.min_le_right _ _)
    have q1 : cmpD .Eq a.plain.toD (.int ((min a.plain.front b.plain.front : Nat) : Int)) = some (.bool (decide (a.plain = .i (min a.plain.front b.plain.front)))) := by
      have := u_eqD (CT.lay a.plain) (CT.lay (.i (min a.plain.front b.plain.front))) (by rw [CT.depD, CT.depD]; simp [CT.dep])
      rw [CT.eqv] at this
      exact this
    have q2 : cmpD .Eq b.plain.toD (.int ((min a.plain.front b.plain.front : Nat) : Int)) = some (.bool (decide (b.plain = .i (min a.plain.front b.plain.front)))) := by
      have := u_eqD (CT.lay b.plain) (CT.lay (.i (min a.plain.front b.plain.front))) (by rw [CT.depD, CT.depD]; simp [CT.dep])
      rw [CT.eqv] at this
      exact this
    have ol : okLen 3 = true := by decide
    simp only [d__law_plain_count, startD, CT.toD, CT.plain]
    generalize hA : a.plain = A at *
    generalize hB : b.plain = B at *
    generalize hL : min A.front B.front = L at *
    by_cases h1 : A = .i L
    · rw [decide_eq_true h1] at q1
      by_cases h2 : B = .i L
      · rw [decide_eq_true h2] at q2
        simp [at0, at1, at2, ea, eb, fa, fb, el, el2, q1, q2]
        unfold CT.join
        rw [hL, if_pos ⟨h1, h2⟩]
        simp [CT.toD]
      · rw [decide_eq_false h2] at q2
        simp [at0, at1, at2, ea, eb, fa, fb, el, el2, q1, q2, ol, ma, mb]
        unfold CT.join
        rw [hL, if_neg fun z => h2 z.2]
        simp [CT.toD]
    · rw [decide_eq_false h1] at q1
      simp [at0, at1, at2, ea, eb, fa, fb, el, el2, q1, q2, ol, ma, mb]
      unfold CT.join
      rw [hL, if_neg fun z => h1 z.1]
      simp [CT.toD]

/-! ### the program's words on parts -/
theorem is_whole_PT (t : PT) (n : Nat) (h : 1 ≤ n) : callN tb n "is_whole" [t.toD] = some (.bool t.leaf) := by
  obtain ⟨m, rfl⟩ : ∃ m, n = m + 1 := ⟨n - 1, by omega⟩
  cases t <;> rfl
theorem eq_PT (a b : PT) (h : min a.dep b.dep ≤ 100) : cmpD .Eq a.toD b.toD = some (.bool (decide (a = b))) := by
  rw [u_eqD (PT.lay a) (PT.lay b) (by rw [PT.depD, PT.depD]; exact h), PT.eqv]
theorem same_PT (a b : PT) (n : Nat) (h : 2 ≤ n) : callN tb n "are_same_number" [a.toD, b.toD] = some (.bool (a.leaf && decide (a = b))) := by
  obtain ⟨m, rfl⟩ : ∃ m, n = m + 1 := ⟨n - 1, by omega⟩
  have w := is_whole_PT a m (by omega)
  rw [c_are_same_number, u_run _ _ _ rfl]
  cases hl : a.leaf with
  | false => rw [hl] at w; simp [d_are_same_number, startD, w]
  | true =>
    have hd : a.dep = 0 := by cases a <;> first | rfl | cases hl
    have q := eq_PT a b (by omega)
    rw [hl] at w; simp [d_are_same_number, startD, w, q]
theorem join_if (a b : PT) : PT.join a b = if (a.leaf && decide (a = b)) = true then a else .p a b := by
  cases a with
  | z x =>
    cases b with
    | z y => cases x <;> cases y <;> rfl
    | p c d => simp [PT.join, PT.leaf]
  | p c d => simp [PT.join, PT.leaf]
theorem plain_pair_eq (a b : PT) (n : Nat) (h : 3 ≤ n) : callN tb n "plain_pair" [a.toD, b.toD] = some (PT.join a b).toD := by
  obtain ⟨m, rfl⟩ : ∃ m, n = m + 1 := ⟨n - 1, by omega⟩
  have w := same_PT a b m (by omega)
  rw [c_plain_pair, u_run _ _ _ rfl, join_if]
  have ol : okLen 2 = true := by decide
  cases hl : (a.leaf && decide (a = b)) with
  | false => rw [hl] at w; simp [d_plain_pair, startD, w, ol, PT.toD]
  | true => rw [hl] at w; simp [d_plain_pair, startD, w]
theorem plain_part_eq : ∀ (t : PT) (n : Nat), t.dep + 3 ≤ n → callN tb n "plain_part" [t.toD] = some t.plain.toD := by
  intro t
  induction t with
  | z b =>
    intro n h
    obtain ⟨m, rfl⟩ : ∃ m, n = m + 1 := ⟨n - 1, by omega⟩
    have w := is_whole_PT (.z b) m (by omega)
    rw [c_plain_part, u_run _ _ _ rfl]
    simp only [PT.leaf] at w
    simp [d_plain_part, startD, w, PT.plain]
  | p a b iha ihb =>
    intro n h
    simp only [PT.dep] at h
    obtain ⟨m, rfl⟩ : ∃ m, n = m + 1 := ⟨n - 1, by omega⟩
    have ea := iha m (by omega)
    have eb := ihb m (by omega)
    have pp := plain_pair_eq a.plain b.plain m (by omega)
    have w := is_whole_PT (.p a b) m (by omega)
    simp only [PT.toD, PT.leaf] at w
    rw [c_plain_part, u_run _ _ _ rfl]
    simp [d_plain_part, startD, PT.toD, PT.plain, at0, at1, w, ea, eb, pp]

/-! ### the program's words on counts -/
theorem is_whole_CT (t : CT) (n : Nat) (h : 1 ≤ n) : callN tb n "is_whole" [t.toD] = some (.bool t.leaf) := by
  obtain ⟨m, rfl⟩ : ∃ m, n = m + 1 := ⟨n - 1, by omega⟩
  cases t <;> rfl
theorem eq_CT (a b : CT) (h : min a.dep b.dep ≤ 100) : cmpD .Eq a.toD b.toD = some (.bool (decide (a = b))) := by
  rw [u_eqD (CT.lay a) (CT.lay b) (by rw [CT.depD, CT.depD]; exact h), CT.eqv]
theorem ne_CT (a b : CT) (h : min a.dep b.dep ≤ 100) : cmpD .NotEq a.toD b.toD = some (.bool (!decide (a = b))) := by
  rw [u_neD (CT.lay a) (CT.lay b) (by rw [CT.depD, CT.depD]; exact h), CT.eqv]
theorem same_CT (a b : CT) (n : Nat) (h : 2 ≤ n) : callN tb n "are_same_number" [a.toD, b.toD] = some (.bool (a.leaf && decide (a = b))) := by
  obtain ⟨m, rfl⟩ : ∃ m, n = m + 1 := ⟨n - 1, by omega⟩
  have w := is_whole_CT a m (by omega)
  rw [c_are_same_number, u_run _ _ _ rfl]
  cases hl : a.leaf with
  | false => rw [hl] at w; simp [d_are_same_number, startD, w]
  | true =>
    have hd : a.dep = 0 := by cases a <;> first | rfl | cases hl
    have q := eq_CT a b (by omega)
    rw [hl] at w; simp [d_are_same_number, startD, w, q]
theorem front_eq (t : CT) (n : Nat) (h : 2 ≤ n) : callN tb n "front" [t.toD] = some (.int t.front) := by
  obtain ⟨m, rfl⟩ : ∃ m, n = m + 1 := ⟨n - 1, by omega⟩
  have w := is_whole_CT t m (by omega)
  rw [c_front, u_run _ _ _ rfl]
  cases t with
  | i k => simp only [CT.toD, CT.leaf] at w; simp [d_front, startD, w, CT.toD, CT.front]
  | t k a b => simp only [CT.toD, CT.leaf] at w; simp [d_front, startD, w, CT.toD, CT.front, at0]
theorem same_join (a b : CT) : (a.leaf && decide (a = b)) = true ↔ a = .i (min a.front b.front) ∧ b = .i (min a.front b.front) := by
  constructor
  · intro h
    simp only [Bool.and_eq_true, decide_eq_true_eq] at h
    obtain ⟨h1, rfl⟩ := h
    cases a with
    | i k => simp [CT.front]
    | t k x y => cases h1
  · intro ⟨h1, h2⟩
    have e : a = b := h1.trans h2.symm
    rw [decide_eq_true e, Bool.and_true, h1]
    rfl

theorem lifted_low (t : CT) (l n : Nat) (h : l ≤ t.front) (hn : 2 ≤ n) : callN tb n "lifted" [t.toD, .int (-(l : Int))] = some (t.low l).toD := by
  obtain ⟨m, rfl⟩ : ∃ m, n = m + 1 := ⟨n - 1, by omega⟩
  rw [c_lifted, u_run _ _ _ rfl]
  have ol : okLen 3 = true := by decide
  have w0 := is_whole_CT t m (by omega)
  cases t with
  | i k =>
    have h' : l ≤ k := h
    simp only [CT.toD, CT.leaf] at w0
    simp [d_lifted, startD, CT.toD, CT.low, w0]
    omega
  | t k a b =>
    have h' : l ≤ k := h
    simp only [CT.toD, CT.leaf] at w0
    simp [d_lifted, startD, CT.toD, CT.low, at0, at1, at2, ol, w0]
    omega
theorem lifted_up (t : CT) (l n : Nat) (hn : 2 ≤ n) : callN tb n "lifted" [t.toD, .int (l : Int)] = some (t.up l).toD := by
  obtain ⟨m, rfl⟩ : ∃ m, n = m + 1 := ⟨n - 1, by omega⟩
  rw [c_lifted, u_run _ _ _ rfl]
  have ol : okLen 3 = true := by decide
  have w0 := is_whole_CT t m (by omega)
  cases t with
  | i k =>
    simp only [CT.toD, CT.leaf] at w0
    simp [d_lifted, startD, CT.toD, CT.up, w0]
  | t k a b =>
    simp only [CT.toD, CT.leaf] at w0
    simp [d_lifted, startD, CT.toD, CT.up, at0, at1, at2, ol, w0]
theorem plain_triple_eq (k : Nat) (a b : CT) (n : Nat) (h : 3 ≤ n) : callN tb n "plain_triple" [.int (k : Int), a.toD, b.toD] = some (CT.join k a b).toD := by
  obtain ⟨m, rfl⟩ : ∃ m, n = m + 1 := ⟨n - 1, by omega⟩
  have w := same_CT a b m (by omega)
  have fa := front_eq a m (by omega)
  have fb := front_eq b m (by omega)
  have h1 : min a.front b.front ≤ a.front := Nat.min_le_left _ _
  have h2 : min a.front b.front ≤ b.front := Nat.min_le_right _ _
  have ma := lifted_low a (min a.front b.front) m h1 (by omega)
  have mb := lifted_low b (min a.front b.front) m h2 (by omega)
  have el2 : (if b.front < a.front then ((b.front : Nat) : Int) else ((a.front : Nat) : Int)) = ((min a.front b.front : Nat) : Int) := by
    split <;> omega
  have ol : okLen 3 = true := by decide
  rw [c_plain_triple, u_run _ _ _ rfl]
  unfold CT.join
  have sj := same_join a b
  generalize hL : min a.front b.front = L at *
  by_cases hs : (a.leaf && decide (a = b)) = true
  · rw [if_pos (sj.mp hs)]
    rw [hs] at w
    simp [d_plain_triple, startD, w, fa, fb, el2, CT.toD]
  · rw [if_neg (fun z => hs (sj.mpr z))]
    rw [Bool.eq_false_iff.mpr hs] at w
    simp [d_plain_triple, startD, w, fa, fb, el2, ma, mb, ol, CT.toD]
theorem plain_count_eq : ∀ (t : CT) (n : Nat), t.dep + 3 ≤ n → callN tb n "plain_count" [t.toD] = some t.plain.toD := by
  intro t
  induction t with
  | i k =>
    intro n h
    obtain ⟨m, rfl⟩ : ∃ m, n = m + 1 := ⟨n - 1, by omega⟩
    have w := is_whole_CT (.i k) m (by omega)
    rw [c_plain_count, u_run _ _ _ rfl]
    simp only [CT.leaf] at w
    simp [d_plain_count, startD, w, CT.plain]
  | t k a b iha ihb =>
    intro n h
    simp only [CT.dep] at h
    obtain ⟨m, rfl⟩ : ∃ m, n = m + 1 := ⟨n - 1, by omega⟩
    have ea := iha m (by omega)
    have eb := ihb m (by omega)
    have pp := plain_triple_eq k a.plain b.plain m (by omega)
    have w := is_whole_CT (.t k a b) m (by omega)
    simp only [CT.toD, CT.leaf] at w
    rw [c_plain_count, u_run _ _ _ rfl]
    simp [d_plain_count, startD, CT.toD, CT.plain, at0, at1, at2, w, ea, eb, pp]

/-! ### parts: apart, together, halves -/
theorem half0 (t : PT) (n : Nat) (h : 2 ≤ n) : callN tb n "half" [t.toD, .int 0] = some (t.hf true).toD := by
  obtain ⟨m, rfl⟩ : ∃ m, n = m + 1 := ⟨n - 1, by omega⟩
  have w := is_whole_PT t m (by omega)
  rw [c_half, u_run _ _ _ rfl]
  cases t with
  | z b => simp only [PT.leaf] at w; simp [d_half, startD, w, PT.hf]
  | p a b => simp only [PT.leaf, PT.toD] at w; simp [d_half, startD, w, PT.hf, PT.toD, at0]
theorem half1 (t : PT) (n : Nat) (h : 2 ≤ n) : callN tb n "half" [t.toD, .int 1] = some (t.hf false).toD := by
  obtain ⟨m, rfl⟩ : ∃ m, n = m + 1 := ⟨n - 1, by omega⟩
  have w := is_whole_PT t m (by omega)
  rw [c_half, u_run _ _ _ rfl]
  cases t with
  | z b => simp only [PT.leaf] at w; simp [d_half, startD, w, PT.hf]
  | p a b => simp only [PT.leaf, PT.toD] at w; simp [d_half, startD, w, PT.hf, PT.toD, at1]
theorem eq0_PT (t : PT) : cmpD .Eq t.toD (.int 0) = some (.bool (decide (t = .z false))) := eq_PT t (.z false) (by simp [PT.dep])
theorem eq1_PT (t : PT) : cmpD .Eq t.toD (.int 1) = some (.bool (decide (t = .z true))) := eq_PT t (.z true) (by simp [PT.dep])
theorem apart_ex : ∀ (k : Nat) (s t : PT) (n : Nat), s.dep ≤ k → t.dep ≤ k → k + 3 ≤ n → ∃ b, callN tb n "are_apart" [s.toD, t.toD] = some (.bool b) ∧ (b = true ↔ ∀ p, s.at p + t.at p ≤ 1) := by
  intro k
  induction k with
  | zero =>
    intro s t n hs ht hn
    obtain ⟨m, rfl⟩ : ∃ m, n = m + 1 := ⟨n - 1, by omega⟩
    cases s with
    | p a b => simp [PT.dep] at hs
    | z x =>
      cases t with
      | p a b => simp [PT.dep] at ht
      | z y =>
        refine ⟨!(x && y), ?_, ?_⟩
        · cases x <;> cases y <;> rfl
        · cases x <;> cases y <;> simp [PT.at]
  | succ k ih =>
    intro s t n hs ht hn
    obtain ⟨m, rfl⟩ : ∃ m, n = m + 1 := ⟨n - 1, by omega⟩
    have q1 := eq0_PT s
    have q2 := eq0_PT t
    have q3 := eq1_PT s
    have q4 := eq1_PT t
    rw [c_are_apart, u_run _ _ _ rfl]
    by_cases h1 : s = .z false
    · subst h1
      rw [decide_eq_true rfl] at q1
      refine ⟨true, by simp [d_are_apart, startD, q1], ?_⟩
      simp only [true_iff]
      intro p
      rcases PT.at01 t p with h | h <;> simp [PT.at, h]
    rw [decide_eq_false h1] at q1
    by_cases h2 : t = .z false
    · subst h2
      rw [decide_eq_true rfl] at q2
      refine ⟨true, by simp [d_are_apart, startD, q1, q2], ?_⟩
      simp only [true_iff]
      intro p
      rcases PT.at01 s p with h | h <;> simp [PT.at, h]
    rw [decide_eq_false h2] at q2
    by_cases h3 : s = .z true ∧ t = .z true
    · obtain ⟨rfl, rfl⟩ := h3
      rw [decide_eq_true rfl] at q3
      refine ⟨false, by simp [d_are_apart, startD, q1, q3], ?_⟩
      simp only [Bool.false_eq_true, false_iff]
      intro h
      have := h []
      simp [PT.at] at this
    obtain ⟨b1, e1, i1⟩ := ih (s.hf true) (t.hf true) m (PT.hf_dep hs) (PT.hf_dep ht) (by omega)
    obtain ⟨b2, e2, i2⟩ := ih (s.hf false) (t.hf false) m (PT.hf_dep hs) (PT.hf_dep ht) (by omega)
    have s0 := half0 s m (by omega)
    have s1 := half1 s m (by omega)
    have t0 := half0 t m (by omega)
    have t1 := half1 t m (by omega)
    refine ⟨b1 && b2, ?_, ?_⟩
    · have both : ∀ d e : Bool, ¬ (d = true ∧ e = true) → cmpD .Eq s.toD (.int 1) = some (.bool d) → cmpD .Eq t.toD (.int 1) = some (.bool e) →
          outD (exs (callN tb m) (callE tb m) d_are_apart.body (startD d_are_apart.N [s.toD, t.toD])) = some (.bool (b1 && b2)) := by
        intro d e hde qd qe
        cases d <;> cases e <;> cases b1 <;> simp [d_are_apart, startD, q1, q2, qd, qe, s0, s1, t0, t1, e1, e2] at hde ⊢
      refine both _ _ ?_ q3 q4
      simp only [decide_eq_true_eq]
      exact h3
    · rw [Bool.and_eq_true, i1, i2]
      simp only [PT.hf_at]
      constructor
      · intro ⟨ha, hb⟩
        exact PT.all_at (R := fun s t w => s.at w + t.at w ≤ 1) (fun h => by rw [PT.at_nil s, PT.at_nil t]; exact h) ha hb
      · intro h
        exact ⟨fun w => h _, fun w => h _⟩
theorem joined_ex : ∀ (k : Nat) (s t : PT) (n : Nat), s.dep ≤ k → t.dep ≤ k → k + 4 ≤ n → ∃ u : PT, callN tb n "joined" [s.toD, t.toD] = some u.toD ∧ u.plainB = true ∧ (∀ p, u.at p = max (s.at p) (t.at p)) ∧ u.dep ≤ k := by
  intro k
  have leafs : ∀ (x y : Bool) (n : Nat), 2 ≤ n → callN tb n "joined" [(PT.z x).toD, (PT.z y).toD] = some (PT.z (x || y)).toD := by
    intro x y n hn
    obtain ⟨m, rfl⟩ : ∃ m, n = m + 2 := ⟨n - 2, by omega⟩
    cases x <;> cases y <;> rfl
  induction k with
  | zero =>
    intro s t n hs ht hn
    cases s with
    | p a b => simp [PT.dep] at hs
    | z x =>
      cases t with
      | p a b => simp [PT.dep] at ht
      | z y =>
        refine ⟨.z (x || y), leafs x y n (by omega), rfl, ?_, Nat.zero_le _⟩
        intro p
        cases x <;> cases y <;> simp [PT.at] <;> decide
  | succ k ih =>
    intro s t n hs ht hn
    by_cases hl : (s.leaf && t.leaf) = true
    · cases s with
      | p a b => simp [PT.leaf] at hl
      | z x =>
        cases t with
        | p a b => simp [PT.leaf] at hl
        | z y =>
          refine ⟨.z (x || y), leafs x y n (by omega), rfl, ?_, Nat.zero_le _⟩
          intro p
          cases x <;> cases y <;> simp [PT.at] <;> decide
    obtain ⟨m, rfl⟩ : ∃ m, n = m + 1 := ⟨n - 1, by omega⟩
    obtain ⟨u, e1, p1, a1, d1⟩ := ih (s.hf true) (t.hf true) m (PT.hf_dep hs) (PT.hf_dep ht) (by omega)
    obtain ⟨v, e2, p2, a2, d2⟩ := ih (s.hf false) (t.hf false) m (PT.hf_dep hs) (PT.hf_dep ht) (by omega)
    have s0 := half0 s m (by omega)
    have s1 := half1 s m (by omega)
    have t0 := half0 t m (by omega)
    have t1 := half1 t m (by omega)
    have ws := is_whole_PT s m (by omega)
    have wt := is_whole_PT t m (by omega)
    have pp := plain_pair_eq u v m (by omega)
    have jd := PT.join_dep u v
    refine ⟨PT.join u v, ?_, PT.join_plainB u v p1 p2, ?_, by omega⟩
    · rw [c_joined, u_run _ _ _ rfl]
      cases h1 : s.leaf
      · rw [h1] at ws
        simp [d_joined, startD, ws, s0, s1, t0, t1, e1, e2, pp]
      · cases h2 : t.leaf
        · rw [h1] at ws
          rw [h2] at wt
          simp [d_joined, startD, ws, wt, s0, s1, t0, t1, e1, e2, pp]
        · rw [h1, h2] at hl; exact absurd rfl hl
    · intro p
      rw [PT.join_at]
      cases p with
      | nil =>
        simp only [PT.at]
        rw [a1, PT.hf_at, PT.hf_at, ← PT.at_nil, ← PT.at_nil]
      | cons c w =>
        cases c
        · simp only [PT.at]; rw [a2, PT.hf_at, PT.hf_at]
        · simp only [PT.at]; rw [a1, PT.hf_at, PT.hf_at]
theorem together_yes (k : Nat) (s t : PT) (n : Nat) (hs : s.dep ≤ k) (ht : t.dep ≤ k) (hn : k + 5 ≤ n) (ha : ∀ p, s.at p + t.at p ≤ 1) :
    ∃ u : PT, callN tb n "together" [s.toD, t.toD] = some u.toD ∧ u.plainB = true ∧ (∀ p, u.at p = s.at p + t.at p) ∧ u.dep ≤ k := by
  obtain ⟨m, rfl⟩ : ∃ m, n = m + 1 := ⟨n - 1, by omega⟩
  obtain ⟨b, e1, i1⟩ := apart_ex k s t m hs ht (by omega)
  obtain ⟨u, e2, p2, a2, d2⟩ := joined_ex k s t m hs ht (by omega)
  rw [i1.mpr ha] at e1
  refine ⟨u, ?_, p2, ?_, d2⟩
  · rw [c_together, u_run _ _ _ rfl]
    simp [d_together, startD, e1, e2]
  · intro p
    rw [a2]
    have h0 := ha p
    rcases PT.at01 s p with h | h <;> rcases PT.at01 t p with h' | h' <;> rw [h, h'] at h0 ⊢ <;> first | rfl | (exfalso; omega)
theorem in_two_ex : ∀ (t : PT) (n : Nat), t.plainB = true → t.dep + 2 ≤ n → ∃ l r : PT, callN tb n "parted_in_two" [t.toD] = some (.tuple [l.toD, r.toD]) ∧ l.plainB = true ∧ r.plainB = true ∧ (∀ p, l.at p + r.at p = t.at p) ∧ (t ≠ .z false → l ≠ .z false ∧ r ≠ .z false) ∧ l.dep ≤ t.dep + 1 ∧ r.dep ≤ t.dep + 1 := by
  have ol : okLen 2 = true := by decide
  intro t
  induction t with
  | z b =>
    intro n _ hn
    obtain ⟨m, rfl⟩ : ∃ m, n = m + 1 := ⟨n - 1, by omega⟩
    cases b
    · exact ⟨.z false, .z false, rfl, rfl, rfl, fun p => rfl, fun h => absurd rfl h, by decide, by decide⟩
    · refine ⟨.p (.z true) (.z false), .p (.z false) (.z true), rfl, rfl, rfl, fun p => ?_, fun _ => ⟨by simp, by simp⟩, by decide, by decide⟩
      cases p with
      | nil => rfl
      | cons c w => cases c <;> rfl
  | p a b iha ihb =>
    intro n hp hn
    obtain ⟨m, rfl⟩ : ∃ m, n = m + 1 := ⟨n - 1, by omega⟩
    simp only [PT.dep] at hn
    have hp' := hp
    simp only [PT.plainB, Bool.and_eq_true, decide_eq_true_eq] at hp'
    have q0 : cmpD .Eq (PyData.tuple [a.toD, b.toD]) (.int 0) = some (.bool false) := eq0_PT (.p a b)
    have q1 : cmpD .Eq (PyData.tuple [a.toD, b.toD]) (.int 1) = some (.bool false) := eq1_PT (.p a b)
    have qa := eq0_PT a
    have qb := eq0_PT b
    rw [c_parted_in_two, u_run _ _ _ rfl]
    by_cases h1 : a = .z false
    · have hb : b ≠ .z false := by
        intro z; rw [h1, z] at hp'; exact absurd hp'.2 (by decide)
      rw [decide_eq_true h1] at qa
      obtain ⟨l, r, e, pl, pr, ap, nz, d1, d2⟩ := ihb m hp'.1.2 (by omega)
      obtain ⟨nl, nr⟩ := nz hb
      refine ⟨.p (.z false) l, .p (.z false) r, ?_, by rw [PT.p0_plain nl]; exact pl, by rw [PT.p0_plain nr]; exact pr, ?_, fun _ => ⟨by simp, by simp⟩, ?_, ?_⟩
      · simp [d_parted_in_two, startD, PT.toD, q0, q1, at0, at1, qa, e, ol]
      · intro p
        subst h1
        cases p with
        | nil => rfl
        | cons c w =>
          cases c
          · simp only [PT.at]; exact ap w
          · rfl
      · simp only [PT.dep]; omega
      · simp only [PT.dep]; omega
    rw [decide_eq_false h1] at qa
    by_cases h2 : b = .z false
    · rw [decide_eq_true h2] at qb
      obtain ⟨l, r, e, pl, pr, ap, nz, d1, d2⟩ := iha m hp'.1.1 (by omega)
      obtain ⟨nl, nr⟩ := nz h1
      refine ⟨.p l (.z false), .p r (.z false), ?_, by rw [PT.pl_plain nl]; exact pl, by rw [PT.pl_plain nr]; exact pr, ?_, fun _ => ⟨by simp, by simp⟩, ?_, ?_⟩
      · simp [d_parted_in_two, startD, PT.toD, q0, q1, at0, at1, qa, qb, e, ol]
      · intro p
        subst h2
        cases p with
        | nil => simp only [PT.at]; exact ap []
        | cons c w =>
          cases c
          · rfl
          · simp only [PT.at]; exact ap w
      · simp only [PT.dep]; omega
      · simp only [PT.dep]; omega
    · rw [decide_eq_false h2] at qb
      refine ⟨.p a (.z false), .p (.z false) b, ?_, by rw [PT.pl_plain h1]; exact hp'.1.1, by rw [PT.p0_plain h2]; exact hp'.1.2, ?_, fun _ => ⟨by simp, by simp⟩, ?_, ?_⟩
      · simp [d_parted_in_two, startD, PT.toD, q0, q1, at0, at1, qa, qb, ol]
      · intro p
        cases p with
        | nil => simp [PT.at]
        | cons c w => cases c <;> simp [PT.at]
      · simp only [PT.dep]; omega
      · simp only [PT.dep]; omega
theorem halves_ex (t : PT) (n : Nat) (hp : t.plainB = true) (hn : t.dep + 4 ≤ n) : ∃ l r : PT, callN tb n "halves" [t.toD] = some (.tuple [l.toD, r.toD]) ∧ l.plainB = true ∧ r.plainB = true ∧ (∀ p, l.at p + r.at p = t.at p) ∧ (t ≠ .z false → l ≠ .z false ∧ r ≠ .z false) ∧ l.dep ≤ t.dep + 1 ∧ r.dep ≤ t.dep + 1 := by
  obtain ⟨m, rfl⟩ : ∃ m, n = m + 1 := ⟨n - 1, by omega⟩
  obtain ⟨l, r, e, rest⟩ := in_two_ex t m hp (by omega)
  have pp := plain_part_eq t m (by omega)
  rw [PT.plain_id t hp] at pp
  refine ⟨l, r, ?_, rest⟩
  rw [c_halves, u_run _ _ _ rfl]
  simp [d_halves, startD, pp, e]

/-! ### counts: the highest, at most -/
theorem beyond1 (t : CT) (l n : Nat) (hl : l ≤ t.front) (hn : 3 ≤ n) : callN tb n "half_beyond" [t.toD, .int 1, .int (l : Int)] = some (t.hb true l).toD := by
  obtain ⟨m, rfl⟩ : ∃ m, n = m + 1 := ⟨n - 1, by omega⟩
  have w := is_whole_CT t m (by omega)
  have f := front_eq t m (by omega)
  rw [c_half_beyond, u_run _ _ _ rfl]
  cases t with
  | i k =>
    have h' : l ≤ k := hl
    have e : ((k : Int) - (l : Int)) = ((k - l : Nat) : Int) := by omega
    simp only [CT.leaf, CT.toD, CT.front] at w f
    simp [d_half_beyond, startD, CT.toD, w, f, e, CT.hb]
  | t k a b =>
    have h' : l ≤ k := hl
    have e : ((k : Int) - (l : Int)) = ((k - l : Nat) : Int) := by omega
    simp only [CT.leaf, CT.toD, CT.front] at w f
    have u := lifted_up a (k - l) m (by omega)
    simp [d_half_beyond, startD, CT.toD, w, f, e, at1, u, CT.hb]
theorem beyond2 (t : CT) (l n : Nat) (hl : l ≤ t.front) (hn : 3 ≤ n) : callN tb n "half_beyond" [t.toD, .int 2, .int (l : Int)] = some (t.hb false l).toD := by
  obtain ⟨m, rfl⟩ : ∃ m, n = m + 1 := ⟨n - 1, by omega⟩
  have w := is_whole_CT t m (by omega)
  have f := front_eq t m (by omega)
  rw [c_half_beyond, u_run _ _ _ rfl]
  cases t with
  | i k =>
    have h' : l ≤ k := hl
    have e : ((k : Int) - (l : Int)) = ((k - l : Nat) : Int) := by omega
    simp only [CT.leaf, CT.toD, CT.front] at w f
    simp [d_half_beyond, startD, CT.toD, w, f, e, CT.hb]
  | t k a b =>
    have h' : l ≤ k := hl
    have e : ((k : Int) - (l : Int)) = ((k - l : Nat) : Int) := by omega
    simp only [CT.leaf, CT.toD, CT.front] at w f
    have u := lifted_up b (k - l) m (by omega)
    simp [d_half_beyond, startD, CT.toD, w, f, e, at2, u, CT.hb]
theorem highest_ex : ∀ (k : Nat) (s t : CT) (n : Nat), s.dep ≤ k → t.dep ≤ k → k + 4 ≤ n → ∃ u : CT, callN tb n "highest" [s.toD, t.toD] = some u.toD ∧ u.plainB = true ∧ u.dep ≤ k := by
  intro k
  have leafs : ∀ (x y n : Nat), 2 ≤ n → callN tb n "highest" [(CT.i x).toD, (CT.i y).toD] = some (CT.i (max x y)).toD := by
    intro x y n hn
    obtain ⟨m, rfl⟩ : ∃ m, n = m + 1 := ⟨n - 1, by omega⟩
    have w1 := is_whole_CT (.i x) m (by omega)
    have w2 := is_whole_CT (.i y) m (by omega)
    rw [c_highest, u_run _ _ _ rfl]
    simp only [CT.leaf, CT.toD] at w1 w2
    simp [d_highest, startD, CT.toD, w1, w2]
    split <;> omega
  induction k with
  | zero =>
    intro s t n hs ht hn
    cases s with
    | t m a b => simp [CT.dep] at hs
    | i x =>
      cases t with
      | t m a b => simp [CT.dep] at ht
      | i y => exact ⟨.i (max x y), leafs x y n (by omega), rfl, Nat.le_refl _⟩
  | succ k ih =>
    intro s t n hs ht hn
    by_cases hl : (s.leaf && t.leaf) = true
    · cases s with
      | t m a b => simp [CT.leaf] at hl
      | i x =>
        cases t with
        | t m a b => simp [CT.leaf] at hl
        | i y => exact ⟨.i (max x y), leafs x y n (by omega), rfl, Nat.zero_le _⟩
    obtain ⟨m, rfl⟩ : ∃ m, n = m + 1 := ⟨n - 1, by omega⟩
    have h1 : min s.front t.front ≤ s.front := Nat.min_le_left _ _
    have h2 : min s.front t.front ≤ t.front := Nat.min_le_right _ _
    have el2 : (if t.front < s.front then ((t.front : Nat) : Int) else ((s.front : Nat) : Int)) = ((min s.front t.front : Nat) : Int) := by
      split <;> omega
    have fs := front_eq s m (by omega)
    have ft := front_eq t m (by omega)
    have ws := is_whole_CT s m (by omega)
    have wt := is_whole_CT t m (by omega)
    generalize hL : min s.front t.front = l at *
    obtain ⟨u, e1, p1, d1⟩ := ih (s.hb true l) (t.hb true l) m (CT.hb_dep hs) (CT.hb_dep ht) (by omega)
    obtain ⟨v, e2, p2, d2⟩ := ih (s.hb false l) (t.hb false l) m (CT.hb_dep hs) (CT.hb_dep ht) (by omega)
    have s1 := beyond1 s l m h1 (by omega)
    have s2 := beyond2 s l m h1 (by omega)
    have t1 := beyond1 t l m h2 (by omega)
    have t2 := beyond2 t l m h2 (by omega)
    have pp := plain_triple_eq l u v m (by omega)
    have jd := CT.join_dep l u v
    refine ⟨CT.join l u v, ?_, CT.join_plainB l u v p1 p2, by omega⟩
    rw [c_highest, u_run _ _ _ rfl]
    cases g1 : s.leaf
    · rw [g1] at ws
      simp [d_highest, startD, ws, fs, ft, el2, s1, s2, t1, t2, e1, e2, pp]
    · cases g2 : t.leaf
      · rw [g1] at ws
        rw [g2] at wt
        simp [d_highest, startD, ws, wt, fs, ft, el2, s1, s2, t1, t2, e1, e2, pp]
      · rw [g1, g2] at hl; exact absurd rfl hl

/-! ### counts raised within a part: a plain count comes of it -/
theorem peak_ex : ∀ (c : CT) (n : Nat), c.dep + 2 ≤ n → ∃ m : Nat, callN tb n "peak" [c.toD] = some (.int (m : Int)) := by
  intro c
  induction c with
  | i k =>
    intro n hn
    obtain ⟨m, rfl⟩ : ∃ m, n = m + 1 := ⟨n - 1, by omega⟩
    have w := is_whole_CT (.i k) m (by omega)
    refine ⟨k, ?_⟩
    rw [c_peak, u_run _ _ _ rfl]
    simp only [CT.leaf, CT.toD] at w
    simp [d_peak, startD, w, CT.toD]
  | t k a b iha ihb =>
    intro n hn
    obtain ⟨m, rfl⟩ : ∃ m, n = m + 1 := ⟨n - 1, by omega⟩
    simp only [CT.dep] at hn
    obtain ⟨x, ex⟩ := iha m (by omega)
    obtain ⟨y, ey⟩ := ihb m (by omega)
    have w := is_whole_CT (.t k a b) m (by omega)
    simp only [CT.leaf, CT.toD] at w
    have el2 : (if x < y then ((y : Nat) : Int) else ((x : Nat) : Int)) = ((max x y : Nat) : Int) := by split <;> omega
    refine ⟨k + max x y, ?_⟩
    rw [c_peak, u_run _ _ _ rfl]
    simp [d_peak, startD, w, CT.toD, at0, at1, at2, ex, ey, el2]
noncomputable def ev1S : PS := .ife (.cmp .Eq (.ix (.v 1) (.k (.int 0))) (.k (.int 1))) [.asg (.one 2) (.blt .max [(.v 2), (.call "front" [(.v 3)])])] []
noncomputable def ev2S : PS := .ife (.cmp .Eq (.ix (.v 1) (.k (.int 1))) (.k (.int 1))) [.asg (.one 3) (.blt .max [(.v 3), (.call "front" [(.v 2)])])] []
theorem ev1_ex (m : Nat) (hm : 2 ≤ m) (s r : PT) (u v : CT) (o : Option PyData) (hu : u.plainB = true) (hs : s = .z true → u.leaf = true) : ∃ u' : CT, u'.plainB = true ∧ u'.dep ≤ u.dep ∧ ex (callN tb m) (callE tb m) ev1S [o, some (.tuple [s.toD, r.toD]), some u.toD, some v.toD] = some (.nx [o, some (.tuple [s.toD, r.toD]), some u'.toD, some v.toD]) := by
  have qs := eq1_PT s
  have fv := front_eq v m hm
  by_cases h : s = .z true
  · rw [decide_eq_true h] at qs
    have hl := hs h
    cases u with
    | t _ _ _ => cases hl
    | i x =>
      refine ⟨.i (max x v.front), rfl, Nat.le_refl _, ?_⟩
      have el2 : (if x < v.front then ((v.front : Nat) : Int) else ((x : Nat) : Int)) = ((max x v.front : Nat) : Int) := by split <;> omega
      simp [ev1S, at0, qs, CT.toD, fv, el2]
  · rw [decide_eq_false h] at qs
    exact ⟨u, hu, Nat.le_refl _, by simp [ev1S, at0, qs]⟩
theorem ev2_ex (m : Nat) (hm : 2 ≤ m) (s r : PT) (u v : CT) (o : Option PyData) (hv : v.plainB = true) (hr : r = .z true → v.leaf = true) : ∃ v' : CT, v'.plainB = true ∧ v'.dep ≤ v.dep ∧ ex (callN tb m) (callE tb m) ev2S [o, some (.tuple [s.toD, r.toD]), some u.toD, some v.toD] = some (.nx [o, some (.tuple [s.toD, r.toD]), some u.toD, some v'.toD]) := by
  have qr := eq1_PT r
  have fu := front_eq u m hm
  by_cases h : r = .z true
  · rw [decide_eq_true h] at qr
    have hl := hr h
    cases v with
    | t _ _ _ => cases hl
    | i x =>
      refine ⟨.i (max x u.front), rfl, Nat.le_refl _, ?_⟩
      have el2 : (if x < u.front then ((u.front : Nat) : Int) else ((x : Nat) : Int)) = ((max x u.front : Nat) : Int) := by split <;> omega
      simp [ev2S, at1, qr, CT.toD, fu, el2]
  · rw [decide_eq_false h] at qr
    exact ⟨v, hv, Nat.le_refl _, by simp [ev2S, at1, qr]⟩
theorem evened_ex : ∀ (c : CT) (t : PT) (n : Nat), c.plainB = true → c.dep + 4 ≤ n → ∃ u : CT, callN tb n "evened" [c.toD, t.toD] = some u.toD ∧ u.plainB = true ∧ u.dep ≤ c.dep ∧ (t = .z true → u.leaf = true) := by
  intro c
  induction c with
  | i k =>
    intro t n hp hn
    obtain ⟨m, rfl⟩ : ∃ m, n = m + 1 := ⟨n - 1, by omega⟩
    have w := is_whole_CT (.i k) m (by omega)
    have q := eq0_PT t
    refine ⟨.i k, ?_, rfl, Nat.le_refl _, fun _ => rfl⟩
    rw [c_evened, u_run _ _ _ rfl]
    simp only [CT.leaf] at w
    cases hz : decide (t = .z false) <;> rw [hz] at q <;> simp [d_evened, startD, w, q]
  | t k a b iha ihb =>
    intro t n hp hn
    obtain ⟨m, rfl⟩ : ∃ m, n = m + 1 := ⟨n - 1, by omega⟩
    have w := is_whole_CT (.t k a b) m (by omega)
    have q0 := eq0_PT t
    have q1 := eq1_PT t
    have hp' := hp
    simp only [CT.plainB, Bool.and_eq_true] at hp'
    simp only [CT.leaf] at w
    rw [c_evened, u_run _ _ _ rfl]
    cases t with
    | z y =>
      cases y
      · rw [decide_eq_true rfl] at q0
        exact ⟨.t k a b, by simp [d_evened, startD, q0], hp, Nat.le_refl _, fun z => by cases z⟩
      · rw [decide_eq_false (by simp)] at q0
        rw [decide_eq_true rfl] at q1
        obtain ⟨x, ex⟩ := peak_ex (.t k a b) m (by omega)
        exact ⟨.i x, by simp [d_evened, startD, q0, q1, w, ex]; rfl, rfl, Nat.zero_le _, fun _ => rfl⟩
    | p s r =>
      rw [decide_eq_false (by simp)] at q0 q1
      simp only [CT.dep] at hn
      obtain ⟨u, eu, pu, du, zu⟩ := iha s m hp'.1.1 (by omega)
      obtain ⟨v, ev, pv, dv, zv⟩ := ihb r m hp'.1.2 (by omega)
      simp only [CT.toD, PT.toD] at w q0 q1
      obtain ⟨u', pu', du', f1⟩ := ev1_ex m (by omega) s r u v (some (.tuple [.int (k : Int), a.toD, b.toD])) pu zu
      obtain ⟨v', pv', dv', f2⟩ := ev2_ex m (by omega) s r u' v (some (.tuple [.int (k : Int), a.toD, b.toD])) pv zv
      have pt := plain_triple_eq k u' v' m (by omega)
      have jd := CT.join_dep k u' v'
      refine ⟨CT.join k u' v', ?_, CT.join_plainB k u' v' pu' pv', by simp only [CT.dep]; omega, fun z => by cases z⟩
      have hb : d_evened.body = .ife (.or (.cmp .Eq (.v 1) (.k (.int 0))) (.call "is_whole" [(.v 0)])) [.ret (.v 0)] [] :: .ife (.cmp .Eq (.v 1) (.k (.int 1))) [.ret (.call "peak" [(.v 0)])] [] ::
          .asg (.one 2) (.call "evened" [(.ix (.v 0) (.k (.int 1))), (.ix (.v 1) (.k (.int 0)))]) :: .asg (.one 3) (.call "evened" [(.ix (.v 0) (.k (.int 2))), (.ix (.v 1) (.k (.int 1)))]) ::
          ev1S :: ev2S :: [.ret (.call "plain_triple" [(.ix (.v 0) (.k (.int 0))), (.v 2), (.v 3)])] := rfl
      have hst : startD d_evened.N [(CT.t k a b).toD, (PT.p s r).toD] = [some (.tuple [.int (k : Int), a.toD, b.toD]), some (.tuple [s.toD, r.toD]), none, none] := rfl
      rw [hb, hst]
      rw [u_ssS]
      simp only [u_ifS, u_or, u_cmp, u_v, u_vr0, u_vrS, u_k, q0, u_call, u_cons, u_nil, w, u_ss0]
      rw [u_ssS]
      simp only [u_ifS, u_cmp, u_v, u_vr0, u_vrS, u_k, q1, u_ss0]
      rw [u_ssS]
      simp only [u_asg1, u_call, u_cons, u_nil, u_ix, u_v, u_vr0, u_vrS, u_k, u_ix_t, at0, at1, at2, eu, List.set]
      rw [u_ssS]
      simp only [u_asg1, u_call, u_cons, u_nil, u_ix, u_v, u_vr0, u_vrS, u_k, u_ix_t, at0, at1, at2, ev, List.set]
      rw [u_ssS, f1]
      simp only
      rw [u_ssS, f2]
      simp [at0, pt]
noncomputable def Up (c u : CT) (t : PT) : Prop := u.plainB = true ∧ u.dep ≤ max c.dep t.dep
theorem added_eq (x : Int) (d : PyData) (n : Nat) (hn : 1 ≤ n) : callN tb n "triples_added" [.tuple [.int x, d]] = some (.int x) := by
  obtain ⟨m, rfl⟩ : ∃ m, n = m + 1 := ⟨n - 1, by omega⟩
  rw [c_triples_added, u_run _ _ _ rfl]
  simp [d_triples_added, startD, at0]
theorem gh_le {u b a s r : Nat} (hu : u ≤ max a s) : max u b ≤ max (max a b) (max s r) :=
  Nat.max_le.mpr ⟨Nat.le_trans hu (Nat.max_le.mpr ⟨Nat.le_trans (Nat.le_max_left a b) (Nat.le_max_left _ _), Nat.le_trans (Nat.le_max_left s r) (Nat.le_max_right _ _)⟩), Nat.le_trans (Nat.le_max_right a b) (Nat.le_max_left _ _)⟩
theorem gh_dep {J u b a s r : Nat} (hJ : J ≤ max u b + 1) (hu : u ≤ max a s) : J ≤ max (max a b + 1) (max s r + 1) := by
  rw [Nat.add_max_add_right]
  exact Nat.le_trans hJ (Nat.succ_le_succ (gh_le hu))
theorem gh_dep' {J u b a s r : Nat} (hJ : J ≤ max a u + 1) (hu : u ≤ max b r) : J ≤ max (max a b + 1) (max s r + 1) := by
  rw [Nat.max_comm a u] at hJ
  rw [Nat.max_comm a b, Nat.max_comm s r]
  exact gh_dep hJ hu
theorem gh_0 {J x : Nat} (h : J ≤ max (max 0 0 + 1) (x + 1)) : J ≤ max 0 (x + 1) :=
  Nat.le_trans h (Nat.max_le.mpr ⟨Nat.le_trans (Nat.succ_le_succ (Nat.zero_le x)) (Nat.le_max_right _ _), Nat.le_max_right _ _⟩)
theorem grown_half0 (c : CT) (s r : PT) (n : Nat) (hn : 4 ≤ n) (hc : c.plainB = true) (ih : ∀ c' : CT, c'.plainB = true → ∃ (x : Nat) (u : CT), callN tb (n - 1) "grown" [c'.toD, s.toD] = some (.tuple [.int (x : Int), u.toD]) ∧ Up c' u s) :
    ∃ (x : Nat) (u : CT), callN tb n "grown_half" [c.toD, (PT.p s r).toD, .int 0] = some (.tuple [.int (x : Int), u.toD]) ∧ Up c u (.p s r) := by
  obtain ⟨m, rfl⟩ : ∃ m, n = m + 1 := ⟨n - 1, by omega⟩
  rw [show m + 1 - 1 = m by omega] at ih
  have w := is_whole_CT c m (by omega)
  have ol2 : okLen 2 = true := by decide
  have ol3 : okLen 3 = true := by decide
  rw [c_grown_half, u_run _ _ _ rfl]
  cases c with
  | i k =>
    obtain ⟨x, u, eg, pu, du⟩ := ih (.i 0) rfl
    have pt := plain_triple_eq k u (.i 0) m (by omega)
    have jd := CT.join_dep k u (.i 0)
    refine ⟨x + 1, CT.join k u (.i 0), ?_, CT.join_plainB k u (.i 0) pu rfl, ?_⟩
    · simp only [CT.leaf, CT.toD] at w eg pt
      have z0 : ((0 : Nat) : Int) = 0 := rfl
      rw [z0] at eg pt
      simp [d_grown_half, startD, CT.toD, PT.toD, w, ol2, ol3, at0, at1, at2, eg, pt]
    · exact gh_0 (gh_dep jd du)
  | t k a b =>
    have hc' := hc
    simp only [CT.plainB, Bool.and_eq_true] at hc'
    obtain ⟨x, u, eg, pu, du⟩ := ih a hc'.1.1
    have pt := plain_triple_eq k u b m (by omega)
    have jd := CT.join_dep k u b
    refine ⟨x, CT.join k u b, ?_, CT.join_plainB k u b pu hc'.1.2, ?_⟩
    · simp only [CT.leaf, CT.toD] at w
      simp [d_grown_half, startD, CT.toD, PT.toD, w, ol2, at0, at1, at2, eg, pt]
    · exact gh_dep jd du
theorem grown_half1 (c : CT) (s r : PT) (n : Nat) (hn : 4 ≤ n) (hc : c.plainB = true) (ih : ∀ c' : CT, c'.plainB = true → ∃ (x : Nat) (u : CT), callN tb (n - 1) "grown" [c'.toD, r.toD] = some (.tuple [.int (x : Int), u.toD]) ∧ Up c' u r) :
    ∃ (x : Nat) (u : CT), callN tb n "grown_half" [c.toD, (PT.p s r).toD, .int 1] = some (.tuple [.int (x : Int), u.toD]) ∧ Up c u (.p s r) := by
  obtain ⟨m, rfl⟩ : ∃ m, n = m + 1 := ⟨n - 1, by omega⟩
  rw [show m + 1 - 1 = m by omega] at ih
  have w := is_whole_CT c m (by omega)
  have ol2 : okLen 2 = true := by decide
  have ol3 : okLen 3 = true := by decide
  rw [c_grown_half, u_run _ _ _ rfl]
  cases c with
  | i k =>
    obtain ⟨x, u, eg, pu, du⟩ := ih (.i 0) rfl
    have pt := plain_triple_eq k (.i 0) u m (by omega)
    have jd := CT.join_dep k (.i 0) u
    refine ⟨x + 1, CT.join k (.i 0) u, ?_, CT.join_plainB k (.i 0) u rfl pu, ?_⟩
    · simp only [CT.leaf, CT.toD] at w eg pt
      have z0 : ((0 : Nat) : Int) = 0 := rfl
      rw [z0] at eg pt
      simp [d_grown_half, startD, CT.toD, PT.toD, w, ol2, ol3, at0, at1, at2, eg, pt]
    · exact gh_0 (gh_dep' jd du)
  | t k a b =>
    have hc' := hc
    simp only [CT.plainB, Bool.and_eq_true] at hc'
    obtain ⟨x, u, eg, pu, du⟩ := ih b hc'.1.2
    have pt := plain_triple_eq k a u m (by omega)
    have jd := CT.join_dep k a u
    refine ⟨x, CT.join k a u, ?_, CT.join_plainB k a u hc'.1.1 pu, ?_⟩
    · simp only [CT.leaf, CT.toD] at w
      simp [d_grown_half, startD, CT.toD, PT.toD, w, ol2, at0, at1, at2, eg, pt]
    · exact gh_dep' jd du
theorem grown_ex : ∀ (t : PT) (c : CT) (n : Nat), t.plainB = true → t ≠ .z false → c.plainB = true → t.dep + t.dep + 5 ≤ n → ∃ (x : Nat) (u : CT), callN tb n "grown" [c.toD, t.toD] = some (.tuple [.int (x : Int), u.toD]) ∧ Up c u t := by
  have ol2 : okLen 2 = true := by decide
  intro t
  induction t with
  | z b =>
    intro c n _ h0 hc hn
    cases b
    · exact absurd rfl h0
    obtain ⟨m, rfl⟩ : ∃ m, n = m + 1 := ⟨n - 1, by omega⟩
    have q := eq1_PT (.z true)
    rw [decide_eq_true rfl] at q
    have l := lifted_up c 1 m (by omega)
    have z1 : ((1 : Nat) : Int) = 1 := rfl
    rw [z1] at l
    refine ⟨0, c.up 1, ?_, by rw [CT.up_plainB]; exact hc, by rw [CT.up_dep]; omega⟩
    rw [c_grown, u_run _ _ _ rfl]
    simp [d_grown, startD, q, l, ol2]
  | p s r ihs ihr =>
    intro c n hp h0 hc hn
    simp only [PT.dep] at hn
    have hp' := hp
    simp only [PT.plainB, Bool.and_eq_true, decide_eq_true_eq] at hp'
    obtain ⟨m, rfl⟩ : ∃ m, n = m + 1 := ⟨n - 1, by omega⟩
    have q1 : cmpD .Eq (PyData.tuple [s.toD, r.toD]) (.int 1) = some (.bool false) := eq1_PT (.p s r)
    have qs := eq0_PT s
    have qr := eq0_PT r
    rw [c_grown, u_run _ _ _ rfl]
    by_cases h1 : s = .z false
    · have hr : r ≠ .z false := by
        intro z; rw [h1, z] at hp'; exact absurd hp'.2 (by decide)
      rw [decide_eq_true h1] at qs
      obtain ⟨x, u, e, up⟩ := grown_half1 c s r m (by omega) hc fun c' hc' => ihr c' (m - 1) hp'.1.2 hr hc' (by omega)
      refine ⟨x, u, ?_, up⟩
      simp only [PT.toD] at e
      simp [d_grown, startD, PT.toD, q1, at0, qs, e]
    rw [decide_eq_false h1] at qs
    obtain ⟨x, u, e, up⟩ := grown_half0 c s r m (by omega) hc fun c' hc' => ihs c' (m - 1) hp'.1.1 h1 hc' (by omega)
    simp only [PT.toD] at e
    by_cases h2 : r = .z false
    · rw [decide_eq_true h2] at qr
      refine ⟨x, u, ?_, up⟩
      simp [d_grown, startD, PT.toD, q1, at0, at1, qs, qr, e]
    · rw [decide_eq_false h2] at qr
      obtain ⟨y, v, e2, up2⟩ := grown_half1 c s r m (by omega) hc fun c' hc' => ihr c' (m - 1) hp'.1.2 h2 hc' (by omega)
      simp only [PT.toD] at e2
      have k1 := added_eq (x : Int) u.toD m (by omega)
      have k2 := added_eq (y : Int) v.toD m (by omega)
      have mk : minkD (callN tb m) "triples_added" (.tuple [.int (x : Int), u.toD]) (.tuple [.int (y : Int), v.toD]) = some (if (y : Int) < (x : Int) then .tuple [.int (y : Int), v.toD] else .tuple [.int (x : Int), u.toD]) := by
        unfold minkD
        rw [k1, k2]
      by_cases hxy : (y : Int) < (x : Int)
      · rw [if_pos hxy] at mk
        refine ⟨y, v, ?_, up2⟩
        simp [d_grown, startD, PT.toD, q1, at0, at1, qs, qr, e, e2, mk]
      · rw [if_neg hxy] at mk
        refine ⟨x, u, ?_, up⟩
        simp [d_grown, startD, PT.toD, q1, at0, at1, qs, qr, e, e2, mk]
theorem raised_ex (c : CT) (t : PT) (n : Nat) (hc : c.plainB = true) (ht : t.plainB = true) (h0 : t ≠ .z false) (hd : c.dep ≤ 90) (hn : c.dep + t.dep + t.dep + 7 ≤ n) : ∃ u : CT, callN tb n "raised" [c.toD, t.toD] = some u.toD ∧ Up c u t := by
  obtain ⟨m, rfl⟩ : ∃ m, n = m + 1 := ⟨n - 1, by omega⟩
  have pp := plain_part_eq t m (by omega)
  rw [PT.plain_id t ht] at pp
  have pc := plain_count_eq c m (by omega)
  rw [CT.plain_id c hc] at pc
  have q := eq0_PT t
  rw [decide_eq_false h0] at q
  obtain ⟨u, e1, p1, d1, _⟩ := evened_ex c t m hc (by omega)
  have qn := ne_CT u c (by omega)
  rw [c_raised, u_run _ _ _ rfl]
  cases hu : decide (u = c) with
  | true =>
    rw [hu] at qn
    obtain ⟨x, v, e2, up⟩ := grown_ex t c m ht h0 hc (by omega)
    exact ⟨v, by simp [d_raised, startD, pp, q, pc, e1, qn, e2, at1], up⟩
  | false =>
    rw [hu] at qn
    exact ⟨u, by simp [d_raised, startD, pp, q, pc, e1, qn], p1, Nat.le_trans d1 (Nat.le_max_left _ _)⟩
theorem done_ex (c : CT) (t : PT) (n : Nat) (hc : c.plainB = true) (ht : t.plainB = true) (h0 : t ≠ .z false) (hd : c.dep ≤ 90) (hn : c.dep + t.dep + t.dep + 8 ≤ n) : ∃ u : CT, callN tb n "done" [.tuple [t.toD, c.toD]] = some (.tuple [t.toD, u.toD]) ∧ Up c u t := by
  obtain ⟨m, rfl⟩ : ∃ m, n = m + 1 := ⟨n - 1, by omega⟩
  obtain ⟨u, e, up⟩ := raised_ex c t m hc ht h0 hd (by omega)
  have ol2 : okLen 2 = true := by decide
  refine ⟨u, ?_, up⟩
  rw [c_done, u_run _ _ _ rfl]
  simp [d_done, startD, at0, at1, e, ol2]

theorem lwhole_PT (t : PT) (n : Nat) : callN tb (n + 1) "_law_whole" [t.toD] = some (.bool t.leaf) := by
  cases t with
  | z b => cases b <;> rfl
  | p a b => rfl
theorem lis_part_eq : ∀ (t : PT) (n : Nat), t.dep ≤ 60 → callN tb (n + t.dep + t.dep + 3) "_law_is_part" [t.toD] = some (.bool t.plainB) := by
  intro t
  induction t with
  | z b => intro n _; cases b <;> rfl
  | p a b iha ihb =>
    intro n hd
    simp only [PT.dep] at hd ⊢
    generalize hm : max a.dep b.dep = m at *
    rw [show n + (m + 1) + (m + 1) + 3 = (n + m + m + 4) + 1 by omega, c__law_is_part, u_run _ _ _ rfl]
    have ea : callN tb (n + m + m + 4) "_law_is_part" [a.toD] = some (.bool a.plainB) := by
      have := iha (n + (m - a.dep) + (m - a.dep) + 1) (by omega)
      rwa [show n + (m - a.dep) + (m - a.dep) + 1 + a.dep + a.dep + 3 = n + m + m + 4 by omega] at this
    have eb : callN tb (n + m + m + 4) "_law_is_part" [b.toD] = some (.bool b.plainB) := by
      have := ihb (n + (m - b.dep) + (m - b.dep) + 1) (by omega)
      rwa [show n + (m - b.dep) + (m - b.dep) + 1 + b.dep + b.dep + 3 = n + m + m + 4 by omega] at this
    have w0 := lwhole_PT (.p a b) (n + m + m + 3)
    simp only [PT.toD, PT.leaf] at w0
    simp only [PT.plainB]
    cases ha : a.plainB with
    | false =>
      rw [ha] at ea
      simp [d__law_is_part, startD, PT.toD, w0, at0, at1, ea]
    | true =>
      rw [ha] at ea
      cases hb : b.plainB with
      | false =>
        rw [hb] at eb
        simp [d__law_is_part, startD, PT.toD, w0, at0, at1, ea, eb]
      | true =>
        rw [hb] at eb
        have pp := lplain_part_eq (.p a b) (n + m + m + 3 - (PT.p a b).dep) (by simp only [PT.dep]; omega)
        rw [show n + m + m + 3 - (PT.p a b).dep + (PT.p a b).dep + 1 = n + m + m + 4 by simp only [PT.dep]; omega] at pp
        have e3 : (PT.p a b).plain = PT.join a b := by simp only [PT.plain, PT.plain_id a ha, PT.plain_id b hb]
        rw [e3] at pp
        have jd := PT.join_dep a b
        have q3 := u_eqD (PT.lay (PT.join a b)) (PT.lay (.p a b)) (by rw [PT.depD, PT.depD]; omega)
        rw [PT.eqv] at q3
        simp only [PT.toD] at pp q3
        simp [d__law_is_part, startD, PT.toD, w0, at0, at1, ea, eb, pp, q3]

theorem lwhole_CT (t : CT) (n : Nat) : callN tb (n + 1) "_law_whole" [t.toD] = some (.bool (match t with | .i _ => true | .t _ _ _ => false)) := by
  cases t with
  | i m =>
    rw [c__law_whole, u_run _ _ _ rfl]
    have h : (0 : Int) ≤ (m : Int) := by omega
    simp [d__law_whole, startD, CT.toD, h]
  | t m a b => rfl
theorem lis_count_eq : ∀ (t : CT) (n : Nat), t.dep ≤ 60 → callN tb (n + t.dep + t.dep + 4) "_law_is_count" [t.toD] = some (.bool t.plainB) := by
  intro t
  induction t with
  | i m =>
    intro n _
    have w0 := lwhole_CT (.i m) (n + (CT.i m).dep + (CT.i m).dep + 2)
    rw [c__law_is_count, u_run _ _ _ rfl]
    simp only [CT.toD] at w0 ⊢
    simp [d__law_is_count, startD, w0, CT.plainB]
  | t k a b iha ihb =>
    intro n hd
    simp only [CT.dep] at hd ⊢
    generalize hm : max a.dep b.dep = m at *
    rw [show n + (m + 1) + (m + 1) + 4 = (n + m + m + 5) + 1 by omega, c__law_is_count, u_run _ _ _ rfl]
    have ea : callN tb (n + m + m + 5) "_law_is_count" [a.toD] = some (.bool a.plainB) := by
      have := iha (n + (m - a.dep) + (m - a.dep) + 1) (by omega)
      rwa [show n + (m - a.dep) + (m - a.dep) + 1 + a.dep + a.dep + 4 = n + m + m + 5 by omega] at this
    have eb : callN tb (n + m + m + 5) "_law_is_count" [b.toD] = some (.bool b.plainB) := by
      have := ihb (n + (m - b.dep) + (m - b.dep) + 1) (by omega)
      rwa [show n + (m - b.dep) + (m - b.dep) + 1 + b.dep + b.dep + 4 = n + m + m + 5 by omega] at this
    have w0 := lwhole_CT (.t k a b) (n + m + m + 4)
    have w1 := lwhole_CT (.i k) (n + m + m + 4)
    simp only [CT.toD] at w0 w1
    simp only [CT.plainB]
    cases ha : a.plainB with
    | false =>
      rw [ha] at ea
      simp [d__law_is_count, startD, CT.toD, w0, w1, at0, at1, at2, ea]
    | true =>
      rw [ha] at ea
      cases hb : b.plainB with
      | false =>
        rw [hb] at eb
        simp [d__law_is_count, startD, CT.toD, w0, w1, at0, at1, at2, ea, eb]
      | true =>
        rw [hb] at eb
        have pp := lplain_count_eq (.t k a b) (n + m + m + 3 - (CT.t k a b).dep) (by simp only [CT.dep]; omega)
        rw [show n + m + m + 3 - (CT.t k a b).dep + (CT.t k a b).dep + 2 = n + m + m + 5 by simp only [CT.dep]; omega] at pp
        have e3 : (CT.t k a b).plain = CT.join k a b := by simp only [CT.plain, CT.plain_id a ha, CT.plain_id b hb]
        rw [e3] at pp
        have jd := CT.join_dep k a b
        have q3 := u_eqD (CT.lay (CT.join k a b)) (CT.lay (.t k a b)) (by rw [CT.depD, CT.depD]; omega)
        rw [CT.eqv, CT.join_half] at q3
        simp only [CT.toD] at pp q3
        simp [d__law_is_count, startD, CT.toD, w0, w1, at0, at1, at2, ea, eb, pp, q3]

theorem comp_sign (C : Orc) (sg : Bool) (l : List (List Bool)) (r : Rho) (hl : ∀ p ∈ l, p.length ≤ 1000) :
    compL (.one 0) (condD []) (ev C (.bin .Add (.k (.str (if sg then "l" else "r"))) (.v 0))) (l.map pD) (capt [none] r) = some ((l.map (sg :: ·)).map pD) := by
  rw [List.map_map]
  refine compL_map pD _ (fun r => r.length = 1) l _ (by simp [capt]) fun p hp r hr => ?_
  obtain ⟨o, rfl⟩ : ∃ o, r = [o] := by
    match r, hr with
    | [o], _ => exact ⟨o, rfl⟩
  refine ⟨[some (pD p)], rfl, rfl, ?_⟩
  have h1 := hl p hp
  have h2 : (("l" : Str)).length = 1 := by decide +kernel
  have h3 : (("r" : Str)).length = 1 := by decide +kernel
  have ol : okLen (1 + (pS p).length) = true := okLen_of (by rw [pS_len]; omega)
  cases sg
  · simp [pD, h3, ol, pS_r]
  · simp [pD, h2, ol, pS_l]
noncomputable def atBody : List PS := [.ife (.not (.isin .tuple (.v 3))) [.ret (.bin .Add (.v 2) (.v 3))] [], .ife (.cmp .Eq (.blt .len [(.v 3)]) (.k (.int 3))) [.asg (.one 2) (.bin .Add (.v 2) (.ix (.v 3) (.k (.int 0))))] [], .asg (.one 3) (.ix (.v 3) (.bin .Sub (.bin .Sub (.blt .len [(.v 3)]) (.k (.int 1))) (.blt .int [(.cmp .Eq (.v 4) (.k (.str "l")))])))]
theorem eqS_l (b : Bool) : cmpD .Eq (.str (pS [b])) (.str "l") = some (.bool b) := by
  have := u_eqD (a := .str (pS [b])) (b := .str "l") (pS_ok [b]) (strOk_of _) (by simp [PyData.depth])
  rw [this]
  have e : PyData.eqv (.str (pS [b])) (.str "l") = b := by cases b <;> decide +kernel
  rw [e]
theorem forD_cons (t : Tg) (step : Rho → Option Fl) (d : PyData) (ds : List PyData) (r : Rho) : forD t step (d :: ds) r = (match setTg t d r with
    | some r1 => match step r1 with
      | some (.nx r2) => forD t step ds r2
      | some (.ct r2) => forD t step ds r2
      | some (.bk r2) => some (.nx r2)
      | some (.rt v) => some (.rt v)
      | none => none
    | none => none) := rfl
theorem l40 : strMul "l" 40 = pS (List.replicate 40 true) := by decide +kernel

theorem paths_PT : ∀ (t : PT) (n : Nat), t.paths.length ≤ 100000 → t.dep ≤ 1000 → callN tb (n + t.dep + 1) "_law_paths" [t.toD] = some (.list (t.paths.map pD)) := by
  intro t
  induction t with
  | z b => intro n _ _; rw [c__law_paths, u_run _ _ _ rfl]; simp [d__law_paths, startD, PT.toD, PT.paths, pD, pS_nil]
  | p a b iha ihb =>
    intro n hl hd
    simp only [PT.paths, List.length_append, List.length_map] at hl
    simp only [PT.dep] at hd ⊢
    generalize hm : max a.dep b.dep = m at *
    rw [show n + (m + 1) + 1 = (n + m + 1) + 1 by omega, c__law_paths, u_run _ _ _ rfl]
    have ea : callN tb (n + m + 1) "_law_paths" [a.toD] = some (.list (a.paths.map pD)) := by
      have := iha (n + (m - a.dep)) (by omega) (by omega)
      rwa [show n + (m - a.dep) + a.dep + 1 = n + m + 1 by omega] at this
    have eb : callN tb (n + m + 1) "_law_paths" [b.toD] = some (.list (b.paths.map pD)) := by
      have := ihb (n + (m - b.dep)) (by omega) (by omega)
      rwa [show n + (m - b.dep) + b.dep + 1 = n + m + 1 by omega] at this
    have cut : cutD [a.toD, b.toD] (some (-2)) none = [a.toD, b.toD] := rfl
    have k1 := comp_sign (callN tb (n + m + 1)) true a.paths [some (.tuple [a.toD, b.toD]), some a.toD, some b.toD] fun p hp => by have := PT.path_len a p hp; omega
    have k2 := comp_sign (callN tb (n + m + 1)) false b.paths [some (.tuple [a.toD, b.toD]), some a.toD, some b.toD] fun p hp => by have := PT.path_len b p hp; omega
    simp only [if_true, Bool.false_eq_true, if_false] at k1 k2
    have j1 : compD (.one 0) (itD (callN tb (n + m + 1)) (.seq (.call "_law_paths" [.v 1]))) [none] (condD (evl (callN tb (n + m + 1)) [])) (ev (callN tb (n + m + 1)) (.bin .Add (.k (.str "l")) (.v 0))) [some (.tuple [a.toD, b.toD]), some a.toD, some b.toD] = some (.list ((a.paths.map (true :: ·)).map pD)) :=
      compD_eq (ds := a.paths.map pD) (by simp [anyIt, ea]) (by rw [List.length_map]; omega) k1
    have j2 : compD (.one 0) (itD (callN tb (n + m + 1)) (.seq (.call "_law_paths" [.v 2]))) [none] (condD (evl (callN tb (n + m + 1)) [])) (ev (callN tb (n + m + 1)) (.bin .Add (.k (.str "r")) (.v 0))) [some (.tuple [a.toD, b.toD]), some a.toD, some b.toD] = some (.list ((b.paths.map (false :: ·)).map pD)) :=
      compD_eq (ds := b.paths.map pD) (by simp [anyIt, eb]) (by rw [List.length_map]; omega) k2
    have ol : okLen (a.paths.length + b.paths.length) = true := okLen_of (by omega)
    simp [d__law_paths, startD, PT.toD, PT.paths, cut, setTg, setMany, j1, j2, ol]
theorem at_loop_PT (C : Orc) (E : OrcX) : ∀ (t : PT) (w : List Bool) (acc : Int) (x y : Option PyData) (z : Option PyData), t.dep < w.length →
    forD (.one 4) (exs C E atBody) (w.map fun b => PyData.str (pS [b])) [x, y, some (.int acc), some t.toD, z] = some (.rt (.int (acc + t.at w)))
  | t, [], acc, x, y, z, h => by simp at h
  | .z b, s :: w, acc, x, y, z, h => by
    rw [List.map_cons, forD_cons]
    have e0 : setTg (.one 4) (.str (pS [s])) [x, y, some (.int acc), some (PT.z b).toD, z] = some [x, y, some (.int acc), some (PT.z b).toD, some (.str (pS [s]))] := rfl
    have st : exs C E atBody [x, y, some (.int acc), some (PT.z b).toD, some (.str (pS [s]))] = some (.rt (.int (acc + (PT.z b).at (s :: w)))) := by
      simp [atBody, PT.toD, PT.at]
    rw [e0]
    simp only [st]
  | .p a b, s :: w, acc, x, y, z, h => by
    simp only [PT.dep, List.length_cons] at h
    rw [List.map_cons, forD_cons]
    have e0 : setTg (.one 4) (.str (pS [s])) [x, y, some (.int acc), some (PT.p a b).toD, z] = some [x, y, some (.int acc), some (PT.p a b).toD, some (.str (pS [s]))] := rfl
    have q := eqS_l s
    have st : exs C E atBody [x, y, some (.int acc), some (PT.p a b).toD, some (.str (pS [s]))] = some (.nx [x, y, some (.int acc), some (if s then a.toD else b.toD), some (.str (pS [s]))]) := by
      cases s
      · simp [atBody, PT.toD, q, at1]
      · simp [atBody, PT.toD, q, at0]
    rw [e0]
    simp only [st]
    cases s
    · simp only [Bool.false_eq_true, if_false, PT.at]; exact at_loop_PT C E b w acc x y _ (by omega)
    · simp only [if_true, PT.at]; exact at_loop_PT C E a w acc x y _ (by omega)
theorem at_PT (t : PT) (p : List Bool) (n : Nat) (h : t.dep ≤ 39) (hp : p.length ≤ 1000) : callN tb (n + 1) "_law_at" [t.toD, pD p] = some (.int (t.at p)) := by
  rw [c__law_at, u_run _ _ _ rfl]
  have lp := at_loop_PT (callN tb n) (callE tb n) t (p ++ List.replicate 40 true) 0 (some t.toD) (some (pD p)) none (by simp; omega)
  rw [PT.at_l, Int.zero_add, ← signs_pS] at lp
  unfold atBody at lp
  have h1 : okRep "l" 40 = true := by decide +kernel
  have e1 : binD .Mult (.str "l") (.int 40) = some (.str (strMul "l" 40)) := by
    show (if okRep "l" 40 = true then some (PyData.str (strMul "l" 40)) else none) = _
    rw [if_pos h1]
  have ol : okLen ((pS p).length + (pS (List.replicate 40 true)).length) = true := okLen_of (by rw [pS_len, pS_len]; simp; omega)
  rw [l40] at e1
  generalize List.replicate 40 true = w at *
  unfold pD at lp ⊢
  simp [d__law_at, startD, e1, ol, pS_cat, anyIt, lp]

/-! ### clocks of hands -/
theorem first_eq (n : Nat) (hn : 1 ≤ n) : callN tb n "first" [] = some (.tuple [.int 1, .int 0]) := by
  obtain ⟨m, rfl⟩ : ∃ m, n = m + 1 := ⟨n - 1, by omega⟩
  rfl
theorem sent_eq (s c : PyData) (n : Nat) (hn : 1 ≤ n) : callN tb n "sent" [.tuple [s, c]] = some (.tuple [.int 0, c]) := by
  obtain ⟨m, rfl⟩ : ∃ m, n = m + 1 := ⟨n - 1, by omega⟩
  have ol : okLen 2 = true := by decide
  rw [c_sent, u_run _ _ _ rfl]
  simp [d_sent, startD, at1, ol]
theorem met_ex (k : Nat) (s t : PT) (c d : CT) (n : Nat) (hs : s.dep ≤ k) (ht : t.dep ≤ k) (hc : c.dep ≤ k) (hd : d.dep ≤ k) (hn : k + 6 ≤ n) (ha : ∀ p, s.at p + t.at p ≤ 1) :
    ∃ (u : PT) (v : CT), callN tb n "met" [.tuple [s.toD, c.toD], .tuple [t.toD, d.toD]] = some (.tuple [u.toD, v.toD]) ∧ u.plainB = true ∧ v.plainB = true ∧ (∀ p, u.at p = s.at p + t.at p) ∧ u.dep ≤ k ∧ v.dep ≤ k := by
  obtain ⟨m, rfl⟩ : ∃ m, n = m + 1 := ⟨n - 1, by omega⟩
  obtain ⟨u, e1, p1, a1, d1⟩ := together_yes k s t m hs ht (by omega) ha
  obtain ⟨v, e2, p2, d2⟩ := highest_ex k c d m hc hd (by omega)
  have ol : okLen 2 = true := by decide
  refine ⟨u, v, ?_, p1, p2, a1, d1, d2⟩
  rw [c_met, u_run _ _ _ rfl]
  simp [d_met, startD, at0, at1, e1, e2, ol]
theorem parted_ex (s : PT) (c : CT) (n : Nat) (hp : s.plainB = true) (hn : s.dep + 5 ≤ n) : ∃ l r : PT, callN tb n "parted" [.tuple [s.toD, c.toD]] = some (.tuple [.tuple [l.toD, c.toD], .tuple [r.toD, c.toD]]) ∧ l.plainB = true ∧ r.plainB = true ∧ (∀ p, l.at p + r.at p = s.at p) ∧ (s ≠ .z false → l ≠ .z false ∧ r ≠ .z false) ∧ l.dep ≤ s.dep + 1 ∧ r.dep ≤ s.dep + 1 := by
  obtain ⟨m, rfl⟩ : ∃ m, n = m + 1 := ⟨n - 1, by omega⟩
  obtain ⟨l, r, e, pl, pr, al, nz, d1, d2⟩ := halves_ex s m hp (by omega)
  have ol : okLen 2 = true := by decide
  refine ⟨l, r, ?_, pl, pr, al, nz, d1, d2⟩
  rw [c_parted, u_run _ _ _ rfl]
  simp [d_parted, startD, at0, at1, e, ol]
/-! ### a deed -/
noncomputable def deedB (b : Nat) : List PS := d__law_deed.body.drop b
theorem atH {H : List HC} {i : Nat} {h : HC} (e : H[i]? = some h) : atI (H.map HC.toD) (i : Int) = some h.toD := atI_nat (by rw [List.getElem?_map, e]; rfl)
theorem takeH (H : List HC) (i : Nat) : cutD (H.map HC.toD) none (some (i : Int)) = (H.take i).map HC.toD := by rw [cut_take, List.map_take]
theorem dropH (H : List HC) (i : Nat) : cutD (H.map HC.toD) (some ((i : Int) + 1)) none = (H.drop (i + 1)).map HC.toD := by
  have e : ((i : Int) + 1) = ((i + 1 : Nat) : Int) := by omega
  rw [e, cut_drop, List.map_drop]
theorem midLen {α : Type} (H : List α) (i : Nat) (h : i < H.length) : (H.take i).length = i ∧ (H.drop (i + 1)).length = H.length - (i + 1) := ⟨by rw [List.length_take]; omega, by rw [List.length_drop]⟩
/-- the state behind the first three rows -/
noncomputable def deedR (H : List HC) (x : Int) (j i o : Nat) (h : HC) : Rho := [some (.list (H.map HC.toD)), some (.int x), some (.int (j : Int)), some (.int (i : Int)), some (.int (o : Int)), some h.clk, some (.tuple (intsD h.kn)), none, none, none, none, none, none]
theorem deed_start (H : List HC) (x : Int) (j n : Nat) (hl : 1 ≤ H.length) : ∃ (i o : Nat) (h g : HC), H[i]? = some h ∧ H[o]? = some g ∧ i < H.length ∧ o < H.length ∧
    callN tb (n + 1) "_law_deed" [.list (H.map HC.toD), .int x, .int (j : Int)] = outD (exs (callN tb n) (callE tb n) (deedB 3) (deedR H x j i o h)) := by
  have h5 : okDiv 5 = true := by decide
  have h40 : okDiv 40 = true := by decide
  have hp : (0 : Int) < (H.length : Int) := by omega
  have hne : H ≠ [] := fun z => by rw [z] at hl; simp at hl
  have a0 := Int.emod_nonneg (x / 5) (b := (H.length : Int)) (by omega)
  have a1 := Int.emod_lt_of_pos (x / 5) hp
  have b0 := Int.emod_nonneg (x / 40) (b := (H.length : Int)) (by omega)
  have b1 := Int.emod_lt_of_pos (x / 40) hp
  generalize hi : (x / 5 % (H.length : Int)) = ii at *
  generalize ho : (x / 40 % (H.length : Int)) = oo at *
  obtain ⟨i, rfl⟩ : ∃ i : Nat, ii = (i : Int) := ⟨ii.toNat, by omega⟩
  obtain ⟨o, rfl⟩ : ∃ o : Nat, oo = (o : Int) := ⟨oo.toNat, by omega⟩
  have li : i < H.length := by omega
  have lo : o < H.length := by omega
  refine ⟨i, o, H[i], H[o], List.getElem?_eq_getElem li, List.getElem?_eq_getElem lo, li, lo, ?_⟩
  have ea := atH (List.getElem?_eq_getElem li)
  rw [c__law_deed, u_run _ _ _ rfl]
  have hb : d__law_deed.body = .asg (.one 3) (.bin .Mod (.bin .FloorDiv (.v 1) (.k (.int 5))) (.blt .len [(.v 0)])) :: .asg (.one 4) (.bin .Mod (.bin .FloorDiv (.v 1) (.k (.int 40))) (.blt .len [(.v 0)])) :: .asg (.many [5, 6]) (.ix (.v 0) (.v 3)) :: deedB 3 := rfl
  have hs : startD d__law_deed.N [.list (H.map HC.toD), .int x, .int (j : Int)] = [some (.list (H.map HC.toD)), some (.int x), some (.int (j : Int)), none, none, none, none, none, none, none, none, none, none] := rfl
  rw [hb, hs]
  generalize deedB 3 = T
  have e1 : ev (callN tb n) (.bin .Mod (.bin .FloorDiv (.v 1) (.k (.int 5))) (.blt .len [(.v 0)])) [some (.list (H.map HC.toD)), some (.int x), some (.int (j : Int)), none, none, none, none, none, none, none, none, none, none] = some (.int (i : Int)) := by
    simp [h5, hp, hne, hi]
  have e2 : ev (callN tb n) (.bin .Mod (.bin .FloorDiv (.v 1) (.k (.int 40))) (.blt .len [(.v 0)])) [some (.list (H.map HC.toD)), some (.int x), some (.int (j : Int)), some (.int (i : Int)), none, none, none, none, none, none, none, none, none] = some (.int (o : Int)) := by
    simp [h40, hp, hne, ho]
  rw [u_ssS, u_asg1, e1]
  simp only [List.set]
  rw [u_ssS, u_asg1, e2]
  simp only [List.set]
  rw [u_ssS]
  simp only [u_asgM, u_ix, u_v, u_vr0, u_vrS, u_ix_l, ea]
  rfl
/-! ### the parts of all hands together -/
noncomputable def atSum (p : List Bool) (H : List HC) : Int := (H.map fun h => h.pt.at p).sum
noncomputable def PI (H : List HC) : Prop := (∀ p, atSum p H = 1) ∧ ∀ h ∈ H, h.pt ≠ .z false
theorem atSum_perm (p : List Bool) {L M : List HC} (h : L.Perm M) : atSum p L = atSum p M := by
  unfold atSum
  induction h with
  | nil => rfl
  | cons x _ ih => simp only [List.map_cons, List.sum_cons, ih]
  | swap x y _ => simp only [List.map_cons, List.sum_cons]; omega
  | trans _ _ h1 h2 => exact h1.trans h2
theorem atSum_app (p : List Bool) : ∀ L M : List HC, atSum p (L ++ M) = atSum p L + atSum p M
  | [], M => by show atSum p M = 0 + atSum p M; omega
  | x :: L, M => by
    have := atSum_app p L M
    show x.pt.at p + atSum p (L ++ M) = x.pt.at p + atSum p L + atSum p M
    omega
theorem atSum_nn (p : List Bool) : ∀ L : List HC, 0 ≤ atSum p L
  | [] => Int.le_refl _
  | x :: L => by
    have := atSum_nn p L
    show 0 ≤ x.pt.at p + atSum p L
    rcases PT.at01 x.pt p with e | e <;> omega
theorem pi_swap {H H' as bs L : List HC} (pi : PI H) (p1 : H.Perm (as ++ L)) (p2 : H'.Perm (bs ++ L)) (hs : ∀ p, atSum p bs = atSum p as) (nz : ∀ h ∈ bs, h.pt ≠ .z false) : PI H' := by
  refine ⟨fun p => ?_, fun h hh => ?_⟩
  · rw [atSum_perm p p2, atSum_app, hs p, ← atSum_app, ← atSum_perm p p1]; exact pi.1 p
  · rcases List.mem_append.mp (p2.mem_iff.mp hh) with q | q
    · exact nz h q
    · exact pi.2 h (p1.mem_iff.mpr (List.mem_append_right _ q))
theorem nz_of {u : PT} {p : List Bool} (h : u.at p = 1) : u ≠ .z false := fun z => by
  rw [z] at h
  cases h
theorem atS1 (p : List Bool) (h : HC) : atSum p [h] = h.pt.at p := by
  show h.pt.at p + 0 = _
  omega
theorem atS2 (p : List Bool) (h g : HC) : atSum p [h, g] = h.pt.at p + g.pt.at p := by
  show h.pt.at p + (g.pt.at p + 0) = _
  omega
/-- what a deed promises -/
noncomputable def Deed (j : Nat) (d : Option PyData) : Prop := ∃ H' : List HC, d = some (.list (H'.map HC.toD)) ∧ 1 ≤ H'.length ∧ H'.length ≤ 6 ∧ (∀ h ∈ H', HOk (j + 1) h) ∧ PI H'
theorem deed_part (H : List HC) (x : Int) (j n i o : Nat) (h : HC) (hi : H[i]? = some h) (li : i < H.length) (hm : x % 5 = 0) (h6 : H.length < 6) (hj : j ≤ 15) (ok : ∀ h ∈ H, HOk j h) (pi : PI H) (hn : 30 ≤ n) : Deed j (outD (exs (callN tb n) (callE tb n) (deedB 3) (deedR H x j i o h))) := by
  have ho := ok h (List.mem_of_getElem? hi)
  have hd := ho.dp
  obtain ⟨l, r, e, pl, pr, al, nz, d1, d2⟩ := parted_ex h.pt h.ct n ho.pp (by omega)
  obtain ⟨nl, nr⟩ := nz (pi.2 h (List.mem_of_getElem? hi))
  obtain ⟨m1, m2⟩ := midLen H i li
  obtain ⟨pm1, pm2⟩ := mid_perm hi [(⟨l, h.ct, h.kn⟩ : HC), ⟨r, h.ct, h.kn⟩]
  refine ⟨H.take i ++ [⟨l, h.ct, h.kn⟩, ⟨r, h.ct, h.kn⟩] ++ H.drop (i + 1), ?_, ?_, ?_, ?_, ?_⟩
  · have o1 : okLen ((H.take i).length + 2) = true := okLen_of (by omega)
    have o2 : okLen ((H.take i).length + 2 + (H.drop (i + 1)).length) = true := okLen_of (by omega)
    have ol : okLen 2 = true := by decide
    have lt6 : (H.length : Int) < 6 := by omega
    have t1 := takeH H i
    have t2 := dropH H i
    have hb : deedB 3 = .ife (.and (.cmp .Eq (.bin .Mod (.v 1) (.k (.int 5))) (.k (.int 0))) (.cmp .Lt (.blt .len [(.v 0)]) (.k (.int 6)))) [.asg (.many [7, 8]) (.call "parted" [(.v 5)]), .ret (.bin .Add (.bin .Add (.sl (.v 0) (.k .none) (.v 3)) (.lst [(.tup [(.v 7), (.v 6)]), (.tup [(.v 8), (.v 6)])])) (.sl (.v 0) (.bin .Add (.v 3) (.k (.int 1))) (.k .none)))] [] :: deedB 4 := rfl
    rw [hb]
    generalize deedB 4 = T
    unfold HC.clk at *
    have lt6' : H.length < 6 := h6
    rw [List.length_take, List.length_drop] at o2
    rw [List.length_take] at o1
    simp [deedR, HC.clk, hm, lt6, lt6', e, setTg, setMany, ol, t1, t2, o1, o2, HC.toD]
  · simp only [List.length_append, List.length_cons]; omega
  · simp only [List.length_append, List.length_cons, List.length_nil]; omega
  · intro g hg
    rcases List.mem_append.mp hg with hg | hg
    · rcases List.mem_append.mp hg with hg | hg
      · exact (ok g (List.mem_of_mem_take hg)).mono (by omega)
      · simp only [List.mem_cons, List.not_mem_nil, or_false] at hg
        rcases hg with rfl | rfl
        · exact ⟨pl, ho.pc, Nat.le_trans d1 (by omega), Nat.le_succ_of_le ho.dc, ho.nd, fun k hk => Nat.lt_succ_of_lt (ho.lt k hk)⟩
        · exact ⟨pr, ho.pc, Nat.le_trans d2 (by omega), Nat.le_succ_of_le ho.dc, ho.nd, fun k hk => Nat.lt_succ_of_lt (ho.lt k hk)⟩
    · exact (ok g (List.mem_of_mem_drop hg)).mono (by omega)
  · refine pi_swap pi (as := [h]) pm1 pm2 (fun p => ?_) fun g hg => ?_
    · rw [atS1, atS2]; exact al p
    · simp only [List.mem_cons, List.not_mem_nil, or_false] at hg
      rcases hg with rfl | rfl
      · exact nl
      · exact nr

theorem deedB3 : deedB 3 = .ife (.and (.cmp .Eq (.bin .Mod (.v 1) (.k (.int 5))) (.k (.int 0))) (.cmp .Lt (.blt .len [(.v 0)]) (.k (.int 6)))) [.asg (.many [7, 8]) (.call "parted" [(.v 5)]), .ret (.bin .Add (.bin .Add (.sl (.v 0) (.k .none) (.v 3)) (.lst [(.tup [(.v 7), (.v 6)]), (.tup [(.v 8), (.v 6)])])) (.sl (.v 0) (.bin .Add (.v 3) (.k (.int 1))) (.k .none)))] [] :: deedB 4 := rfl
theorem deedB4 : deedB 4 = .ife (.or (.cmp .Lt (.bin .Mod (.v 1) (.k (.int 5))) (.k (.int 3))) (.cmp .Eq (.v 3) (.v 4))) [.ret (.bin .Add (.bin .Add (.sl (.v 0) (.k .none) (.v 3)) (.lst [(.tup [(.call "done" [(.v 5)]), (.bin .Add (.v 6) (.tup [(.v 2)]))])])) (.sl (.v 0) (.bin .Add (.v 3) (.k (.int 1))) (.k .none)))] [] :: deedB 5 := rfl
/-- the hand does not part -/
theorem deed_on (H : List HC) (x : Int) (j n i o : Nat) (h : HC) (hm : ¬ (x % 5 = 0 ∧ H.length < 6)) : exs (callN tb n) (callE tb n) (deedB 3) (deedR H x j i o h) = exs (callN tb n) (callE tb n) (deedB 4) (deedR H x j i o h) := by
  rw [deedB3]
  generalize deedB 4 = T
  have e1 : ev (callN tb n) (.and (.cmp .Eq (.bin .Mod (.v 1) (.k (.int 5))) (.k (.int 0))) (.cmp .Lt (.blt .len [(.v 0)]) (.k (.int 6)))) (deedR H x j i o h) = some (.bool false) := by
    by_cases h0 : x % 5 = 0
    · have l6 : ¬ H.length < 6 := fun z => hm ⟨h0, z⟩
      have l6' : ¬ ((H.length : Int) < 6) := by omega
      simp [deedR, h0, l6']
    · simp [deedR, h0]
  rw [u_ssS, u_ifS, e1]
  rfl
theorem deed_done (H : List HC) (x : Int) (j n i o : Nat) (h : HC) (hi : H[i]? = some h) (li : i < H.length) (hm : ¬ (x % 5 = 0 ∧ H.length < 6)) (h3 : x % 5 < 3 ∨ i = o) (h6 : H.length ≤ 6) (hj : j ≤ 15) (ok : ∀ h ∈ H, HOk j h) (pi : PI H) (hn : 60 ≤ n) : Deed j (outD (exs (callN tb n) (callE tb n) (deedB 3) (deedR H x j i o h))) := by
  rw [deed_on H x j n i o h hm]
  have ho := ok h (List.mem_of_getElem? hi)
  have hd := ho.dp
  have hc := ho.dc
  have hnz := pi.2 h (List.mem_of_getElem? hi)
  obtain ⟨u, e, up⟩ := done_ex h.ct h.pt n ho.pc ho.pp hnz (by omega) (by omega)
  obtain ⟨m1, m2⟩ := midLen H i li
  obtain ⟨pm1, pm2⟩ := mid_perm hi [(⟨h.pt, u, h.kn ++ [j]⟩ : HC)]
  have hk := nodup_len ho.nd ho.lt
  have du := up.2
  refine ⟨H.take i ++ [⟨h.pt, u, h.kn ++ [j]⟩] ++ H.drop (i + 1), ?_, ?_, ?_, ?_, ?_⟩
  · have o1 : okLen ((H.take i).length + 1) = true := okLen_of (by omega)
    have o2 : okLen ((H.take i).length + 1 + (H.drop (i + 1)).length) = true := okLen_of (by omega)
    have ol : okLen 2 = true := by decide
    have ol1 : okLen 1 = true := by decide
    have o3 : okLen ((intsD h.kn).length + 1) = true := okLen_of (by simp only [intsD, List.length_map]; omega)
    have t1 := takeH H i
    have t2 := dropH H i
    rw [deedB4]
    generalize deedB 5 = T
    have e1 : ev (callN tb n) (.or (.cmp .Lt (.bin .Mod (.v 1) (.k (.int 5))) (.k (.int 3))) (.cmp .Eq (.v 3) (.v 4))) (deedR H x j i o h) = some (.bool true) := by
      by_cases z : x % 5 < 3
      · simp [deedR, z]
      · have z2 : i = o := h3.resolve_left z
        simp [deedR, z, z2]
    have ec : intsD (h.kn ++ [j]) = intsD h.kn ++ [.int (j : Int)] := by simp [intsD]
    rw [u_ssS, u_ifS, e1]
    rw [List.length_take, List.length_drop] at o2
    rw [List.length_take] at o1
    unfold HC.clk at *
    simp [deedR, HC.clk, e, ol, ol1, o3, t1, t2, o1, o2, HC.toD, ec]
  · simp only [List.length_append, List.length_cons]; omega
  · simp only [List.length_append, List.length_cons, List.length_nil]; omega
  · intro g hg
    rcases List.mem_append.mp hg with hg | hg
    · rcases List.mem_append.mp hg with hg | hg
      · exact (ok g (List.mem_of_mem_take hg)).mono (by omega)
      · simp only [List.mem_cons, List.not_mem_nil, or_false] at hg
        subst hg
        refine ⟨ho.pp, up.1, Nat.le_succ_of_le hd, Nat.le_trans du (by omega), ?_, fun k hk => ?_⟩
        · refine List.nodup_append.mpr ⟨ho.nd, by simp, fun a ha b hb => ?_⟩
          simp only [List.mem_cons, List.not_mem_nil, or_false] at hb
          subst hb
          have := ho.lt a ha
          omega
        · rcases List.mem_append.mp hk with hk | hk
          · exact Nat.lt_succ_of_lt (ho.lt k hk)
          · simp only [List.mem_cons, List.not_mem_nil, or_false] at hk
            omega
    · exact (ok g (List.mem_of_mem_drop hg)).mono (by omega)
  · exact pi_swap pi (as := [h]) pm1 pm2 (fun p => rfl) fun g hg => by
      simp only [List.mem_cons, List.not_mem_nil, or_false] at hg
      subst hg
      exact hnz
/-- behind the deed: two hands -/
noncomputable def deedR2 (H : List HC) (x : Int) (j i o : Nat) (h g : HC) : Rho := [some (.list (H.map HC.toD)), some (.int x), some (.int (j : Int)), some (.int (i : Int)), some (.int (o : Int)), some h.clk, some (.tuple (intsD h.kn)), none, none, some g.clk, some (.tuple (intsD g.kn)), some (.tuple (intsD (sortN (h.kn ++ g.kn)))), none]
theorem deedB5 : deedB 5 = .asg (.many [9, 10]) (.ix (.v 0) (.v 4)) :: .asg (.one 11) (.blt .tuple [(.sset (.bin .Add (.v 6) (.v 10)))]) :: deedB 7 := rfl
theorem deedB7 : deedB 7 = .ife (.cmp .Eq (.bin .Mod (.v 1) (.k (.int 5))) (.k (.int 3))) [.ret (.bin .Add (.bin .Add (.sl (.v 0) (.k .none) (.v 4)) (.lst [(.tup [(.call "met" [(.v 9), (.call "sent" [(.v 5)])]), (.v 11)])])) (.sl (.v 0) (.bin .Add (.v 4) (.k (.int 1))) (.k .none)))] [] :: deedB 8 := rfl
theorem u_tupL (xs : List PyData) : Bl.fn .tuple [.list xs] = some (.tuple xs) := rfl
theorem deed_two (H : List HC) (x : Int) (j n i o : Nat) (h g : HC) (hm : ¬ (x % 5 = 0 ∧ H.length < 6)) (h3 : ¬ (x % 5 < 3 ∨ i = o)) (ho : H[o]? = some g) (hk : h.kn.length + g.kn.length < 60) : exs (callN tb n) (callE tb n) (deedB 3) (deedR H x j i o h) = exs (callN tb n) (callE tb n) (deedB 7) (deedR2 H x j i o h g) := by
  rw [deed_on H x j n i o h hm, deedB4]
  have n3 : ¬ x % 5 < 3 := fun z => h3 (.inl z)
  have nio : ¬ i = o := fun z => h3 (.inr z)
  have e1 : ev (callN tb n) (.or (.cmp .Lt (.bin .Mod (.v 1) (.k (.int 5))) (.k (.int 3))) (.cmp .Eq (.v 3) (.v 4))) (deedR H x j i o h) = some (.bool false) := by
    have nio' : ¬ ((i : Int) = (o : Int)) := by omega
    simp [deedR, n3, nio]
    try omega
  rw [u_ssS, u_ifS, e1]
  show exs (callN tb n) (callE tb n) (deedB 5) (deedR H x j i o h) = _
  rw [deedB5]
  generalize deedB 7 = T
  have ea := atH ho
  have e2 : ex (callN tb n) (callE tb n) (.asg (.many [9, 10]) (.ix (.v 0) (.v 4))) (deedR H x j i o h) = some (.nx [some (.list (H.map HC.toD)), some (.int x), some (.int (j : Int)), some (.int (i : Int)), some (.int (o : Int)), some h.clk, some (.tuple (intsD h.kn)), none, none, some g.clk, some (.tuple (intsD g.kn)), none, none]) := by
    rw [u_asgM]
    simp only [deedR, u_ix, u_v, u_vr0, u_vrS, u_ix_l, ea]
    rfl
  have o1 : okLen ((intsD h.kn).length + (intsD g.kn).length) = true := okLen_of (by simp only [intsD, List.length_map]; omega)
  have sq := sset_eq h.kn g.kn hk
  have e3 : ev (callN tb n) (.blt .tuple [(.sset (.bin .Add (.v 6) (.v 10)))]) [some (.list (H.map HC.toD)), some (.int x), some (.int (j : Int)), some (.int (i : Int)), some (.int (o : Int)), some h.clk, some (.tuple (intsD h.kn)), none, none, some g.clk, some (.tuple (intsD g.kn)), none, none] = some (.tuple (intsD (sortN (h.kn ++ g.kn)))) := by
    simp [o1, sq, u_tupL]
  rw [u_ssS, e2]
  simp only
  rw [u_ssS, u_asg1, e3]
  rfl
theorem deed_sent (H : List HC) (x : Int) (j n i o : Nat) (h g : HC) (hi : H[i]? = some h) (ho : H[o]? = some g) (lo : o < H.length) (hm : ¬ (x % 5 = 0 ∧ H.length < 6)) (h3 : ¬ (x % 5 < 3 ∨ i = o)) (h5 : x % 5 = 3) (h6 : H.length ≤ 6) (hj : j ≤ 15) (ok : ∀ h ∈ H, HOk j h) (pi : PI H) (hn : 60 ≤ n) : Deed j (outD (exs (callN tb n) (callE tb n) (deedB 3) (deedR H x j i o h))) := by
  have oh := ok h (List.mem_of_getElem? hi)
  have og := ok g (List.mem_of_getElem? ho)
  have kh := nodup_len oh.nd oh.lt
  have kg := nodup_len og.nd og.lt
  rw [deed_two H x j n i o h g hm h3 ho (by omega)]
  have dh := oh.dc
  have dg := og.dc
  have dp := og.dp
  have se := sent_eq h.pt.toD h.ct.toD n (by omega)
  obtain ⟨u, v, e, pu, pv, au, du, dv⟩ := met_ex j g.pt (.z false) g.ct h.ct n og.dp (Nat.zero_le _) og.dc oh.dc (by omega) (fun p => by rcases PT.at01 g.pt p with z | z <;> simp [z, PT.at])
  obtain ⟨m1, m2⟩ := midLen H o lo
  obtain ⟨pm1, pm2⟩ := mid_perm ho [(⟨u, v, sortN (h.kn ++ g.kn)⟩ : HC)]
  refine ⟨H.take o ++ [⟨u, v, sortN (h.kn ++ g.kn)⟩] ++ H.drop (o + 1), ?_, ?_, ?_, ?_, ?_⟩
  · have o1 : okLen ((H.take o).length + 1) = true := okLen_of (by omega)
    have o2 : okLen ((H.take o).length + 1 + (H.drop (o + 1)).length) = true := okLen_of (by omega)
    have ol : okLen 2 = true := by decide
    have ol1 : okLen 1 = true := by decide
    have t1 := takeH H o
    have t2 := dropH H o
    rw [deedB7]
    generalize deedB 8 = T
    rw [List.length_take, List.length_drop] at o2
    rw [List.length_take] at o1
    simp only [PT.toD, Bool.false_eq_true, if_false] at e
    simp [deedR2, HC.clk, h5, se, e, ol, ol1, t1, t2, o1, o2, HC.toD]
  · simp only [List.length_append, List.length_cons]; omega
  · simp only [List.length_append, List.length_cons, List.length_nil]; omega
  · intro a ha
    rcases List.mem_append.mp ha with ha | ha
    · rcases List.mem_append.mp ha with ha | ha
      · exact (ok a (List.mem_of_mem_take ha)).mono (by omega)
      · simp only [List.mem_cons, List.not_mem_nil, or_false] at ha
        subst ha
        refine ⟨pu, pv, Nat.le_succ_of_le du, Nat.le_succ_of_le dv, sortN_nodup _, fun k hk => ?_⟩
        rcases List.mem_append.mp (sortN_mem.mp hk) with hk | hk
        · exact Nat.lt_succ_of_lt (oh.lt k hk)
        · exact Nat.lt_succ_of_lt (og.lt k hk)
    · exact (ok a (List.mem_of_mem_drop ha)).mono (by omega)
  · have ug : ∀ p, u.at p = g.pt.at p := fun p => by
      have := au p
      simp only [PT.at, Bool.false_eq_true, if_false, Int.add_zero] at this
      exact this
    obtain ⟨w, hw⟩ := PT.some_at og.pp (pi.2 g (List.mem_of_getElem? ho))
    exact pi_swap pi (as := [g]) pm1 pm2 (fun p => by rw [atS1, atS1]; exact ug p) fun a ha => by
      simp only [List.mem_cons, List.not_mem_nil, or_false] at ha
      subst ha
      exact nz_of ((ug w).trans hw)
/-- all hands but two -/
theorem drop2_eq (H : List HC) (i o : Nat) : ∀ (L : List HC) (b : Nat) (r : Rho) (C : Orc), (∃ o1 o2, r = [o1, o2, some (.int (i : Int)), some (.int (o : Int))]) → compL (.many [0, 1]) (condD (evl C [.cmp .NotIn (.v 0) (.tup [(.v 2), (.v 3)])])) (ev C (.v 1)) (enumD (L.map HC.toD) b) r = some ((drop2 L b i o).map HC.toD)
  | [], b, r, C, _ => rfl
  | h :: L, b, r, C, ⟨o1, o2, hr⟩ => by
    subst hr
    have ol : okLen 2 = true := by decide
    have ih := drop2_eq H i o L (b + 1) [some (.int (b : Int)), some h.toD, some (.int (i : Int)), some (.int (o : Int))] C ⟨_, _, rfl⟩
    rw [List.map_cons]
    unfold enumD compL
    have e0 : setTg (.many [0, 1]) (.tuple [.int (b : Int), h.toD]) [o1, o2, some (.int (i : Int)), some (.int (o : Int))] = some [some (.int (b : Int)), some h.toD, some (.int (i : Int)), some (.int (o : Int))] := rfl
    have cn : cmpD .NotIn (.int (b : Int)) (.tuple [.int (i : Int), .int (o : Int)]) = some (.bool (!decide (b = i ∨ b = o))) := by
      show (match (some (PyData.bool (((i : Int) == (b : Int)) || (((o : Int) == (b : Int)) || false))) : Option PyData) with
        | some (.bool k) => some (PyData.bool (!k))
        | _ => none) = _
      have : (((i : Int) == (b : Int)) || (((o : Int) == (b : Int)) || false)) = decide (b = i ∨ b = o) := by
        rw [Bool.eq_iff_iff]
        simp
        omega
      rw [this]
    have ec : condD (evl C [.cmp .NotIn (.v 0) (.tup [(.v 2), (.v 3)])]) [some (.int (b : Int)), some h.toD, some (.int (i : Int)), some (.int (o : Int))] = some (.bool (!decide (b = i ∨ b = o))) := by
      simp only [condD, evl, u_cmp, u_v, u_vr0, u_vrS, u_tup, u_cons, u_nil, List.length_cons, List.length_nil, ol, if_true]
      exact cn
    rw [e0]
    simp only [ec]
    unfold drop2
    by_cases hb : b = i ∨ b = o
    · rw [if_pos hb]
      simp only [hb, decide_true, Bool.not_true]
      exact ih
    · rw [if_neg hb]
      simp only [hb, decide_false, Bool.not_false, u_v, u_vrS, u_vr0, ih, List.map_cons]
theorem deedB8 : deedB 8 = [.asg (.one 12) (.comp (.many [0, 1]) (.enum (.v 0)) ["_law_n", "_law_hand", "_law_at_here", "_law_other"] [none, none, some 3, some 4] [(.cmp .NotIn (.v 0) (.tup [(.v 2), (.v 3)]))] (.v 1)), .ret (.bin .Add (.v 12) (.lst [(.tup [(.call "met" [(.v 5), (.v 9)]), (.v 11)])]))] := rfl
theorem deed_met (H : List HC) (x : Int) (j n i o : Nat) (h g : HC) (hi : H[i]? = some h) (ho : H[o]? = some g) (lo : o < H.length) (hm : ¬ (x % 5 = 0 ∧ H.length < 6)) (h3 : ¬ (x % 5 < 3 ∨ i = o)) (h5 : ¬ x % 5 = 3) (h6 : H.length ≤ 6) (hj : j ≤ 15) (ok : ∀ h ∈ H, HOk j h) (pi : PI H) (hn : 60 ≤ n) : Deed j (outD (exs (callN tb n) (callE tb n) (deedB 3) (deedR H x j i o h))) := by
  have oh := ok h (List.mem_of_getElem? hi)
  have og := ok g (List.mem_of_getElem? ho)
  have kh := nodup_len oh.nd oh.lt
  have kg := nodup_len og.nd og.lt
  rw [deed_two H x j n i o h g hm h3 ho (by omega)]
  have hio : i ≠ o := fun z => h3 (.inr z)
  have pm := drop2_two H 0 i o h g (Nat.zero_le _) (Nat.zero_le _) hio (by simpa using hi) (by simpa using ho)
  have ll := pm.length_eq
  simp only [List.length_cons] at ll
  have ha : ∀ p, h.pt.at p + g.pt.at p ≤ 1 := fun p => by
    have h1 := pi.1 p
    have h2 := atSum_nn p (drop2 H 0 i o)
    have h3 : atSum p (h :: g :: drop2 H 0 i o) = h.pt.at p + (g.pt.at p + atSum p (drop2 H 0 i o)) := rfl
    rw [atSum_perm p pm, h3] at h1
    omega
  obtain ⟨u, v, e, pu, pv, au, du, dv⟩ := met_ex j h.pt g.pt h.ct g.ct n oh.dp og.dp oh.dc og.dc (by omega) ha
  refine ⟨drop2 H 0 i o ++ [⟨u, v, sortN (h.kn ++ g.kn)⟩], ?_, ?_, ?_, ?_, ?_⟩
  · have ol : okLen 2 = true := by decide
    have ol1 : okLen 1 = true := by decide
    have o1 : okLen ((drop2 H 0 i o).length + 1) = true := okLen_of (by omega)
    have kk := drop2_eq H i o H 0 [none, none, some (.int (i : Int)), some (.int (o : Int))] (callN tb n) ⟨_, _, rfl⟩
    have j1 : ev (callN tb n) (.comp (.many [0, 1]) (.enum (.v 0)) ["_law_n", "_law_hand", "_law_at_here", "_law_other"] [none, none, some 3, some 4] [(.cmp .NotIn (.v 0) (.tup [(.v 2), (.v 3)]))] (.v 1)) (deedR2 H x j i o h g) = some (.list ((drop2 H 0 i o).map HC.toD)) := by
      rw [u_comp]
      exact compD_eq (ds := enumD (H.map HC.toD) 0) rfl (by rw [enumD_len, List.length_map]; omega) kk
    rw [deedB7, u_ssS]
    have e1 : ex (callN tb n) (callE tb n) (.ife (.cmp .Eq (.bin .Mod (.v 1) (.k (.int 5))) (.k (.int 3))) [.ret (.bin .Add (.bin .Add (.sl (.v 0) (.k .none) (.v 4)) (.lst [(.tup [(.call "met" [(.v 9), (.call "sent" [(.v 5)])]), (.v 11)])])) (.sl (.v 0) (.bin .Add (.v 4) (.k (.int 1))) (.k .none)))] []) (deedR2 H x j i o h g) = some (.nx (deedR2 H x j i o h g)) := by
      simp [deedR2, h5]
    rw [e1]
    simp only
    rw [deedB8, u_ssS, u_asg1, j1]
    simp [deedR2, HC.clk, e, ol, ol1, o1, HC.toD]
  · simp only [List.length_append, List.length_cons]; omega
  · simp only [List.length_append, List.length_cons, List.length_nil]; omega
  · intro a ha
    rcases List.mem_append.mp ha with ha | ha
    · exact (ok a (pm.mem_iff.mpr (List.mem_cons_of_mem _ (List.mem_cons_of_mem _ ha)))).mono (by omega)
    · simp only [List.mem_cons, List.not_mem_nil, or_false] at ha
      subst ha
      refine ⟨pu, pv, Nat.le_succ_of_le du, Nat.le_succ_of_le dv, sortN_nodup _, fun k hk => ?_⟩
      rcases List.mem_append.mp (sortN_mem.mp hk) with hk | hk
      · exact Nat.lt_succ_of_lt (oh.lt k hk)
      · exact Nat.lt_succ_of_lt (og.lt k hk)
  · obtain ⟨w, hw⟩ := PT.some_at oh.pp (pi.2 h (List.mem_of_getElem? hi))
    refine pi_swap pi (as := [h, g]) (bs := [⟨u, v, sortN (h.kn ++ g.kn)⟩]) pm List.perm_append_comm (fun p => by rw [atS1, atS2]; exact au p) fun a ha => ?_
    simp only [List.mem_cons, List.not_mem_nil, or_false] at ha
    subst ha
    have h1 := au w
    have h2 : 0 ≤ g.pt.at w := by rcases PT.at01 g.pt w with z | z <;> omega
    have h3 : u.at w = 1 := by rcases PT.at01 u w with z | z <;> omega
    exact nz_of h3
theorem deed_ex (H : List HC) (x : Int) (j n : Nat) (hl : 1 ≤ H.length) (h6 : H.length ≤ 6) (hj : j ≤ 15) (ok : ∀ h ∈ H, HOk j h) (pi : PI H) (hn : 61 ≤ n) : Deed j (callN tb n "_law_deed" [.list (H.map HC.toD), .int x, .int (j : Int)]) := by
  obtain ⟨m, rfl⟩ : ∃ m, n = m + 1 := ⟨n - 1, by omega⟩
  obtain ⟨i, o, h, g, hi, ho, li, lo, e⟩ := deed_start H x j m hl
  rw [e]
  by_cases c1 : x % 5 = 0 ∧ H.length < 6
  · exact deed_part H x j m i o h hi li c1.1 c1.2 hj ok pi (by omega)
  by_cases c2 : x % 5 < 3 ∨ i = o
  · exact deed_done H x j m i o h hi li c1 c2 h6 hj ok pi (by omega)
  by_cases c3 : x % 5 = 3
  · exact deed_sent H x j m i o h g hi ho lo c1 c2 c3 h6 hj ok pi (by omega)
  · exact deed_met H x j m i o h g hi ho lo c1 c2 c3 h6 hj ok pi (by omega)

/-! ### all deeds, one behind the other -/
structure RP (j : Nat) (H E : List HC) : Prop where
  l1 : 1 ≤ H.length
  l6 : H.length ≤ 6
  oH : ∀ h ∈ H, HOk j h
  lE : E.length ≤ 1 + 6 * j
  pi : PI H
theorem rp0 : RP 0 [hc0] [hc0] where
  l1 := by decide
  l6 := by decide
  oH := fun h hh => by
    simp only [List.mem_cons, List.not_mem_nil, or_false] at hh
    subst hh
    exact ⟨rfl, rfl, Nat.le_refl _, Nat.le_refl _, List.nodup_nil, fun k hk => by cases hk⟩
  lE := by decide
  pi := ⟨fun p => rfl, fun h hh => by
    simp only [List.mem_cons, List.not_mem_nil, or_false] at hh
    subst hh
    intro z
    cases z⟩
noncomputable def runB : List PS := [.asg (.one 2) (.call "_law_deed" [(.v 2), (.call "_law_mixed" [(.v 0), (.bin .Add (.k (.int 1)) (.v 4))]), (.v 4)]), .asg (.one 3) (.bin .Add (.v 3) (.comp (.one 0) (.seq (.v 2)) ["_law_hand", "_law_every"] [none, some 3] [(.cmp .NotIn (.v 0) (.v 1))] (.v 0)))]
theorem run_step (ns : List Int) (j n : Nat) (H E : List HC) (o1 : Option PyData) (r : RP j H E) (hj : j ≤ 15) (hn : 61 ≤ n) : ∃ H' : List HC, RP (j + 1) H' (grow E H') ∧
    exs (callN tb n) (callE tb n) runB [some (.list (ns.map PyData.int)), o1, some (.list (H.map HC.toD)), some (.list (E.map HC.toD)), some (.int (j : Int))] = some (.nx [some (.list (ns.map PyData.int)), o1, some (.list (H'.map HC.toD)), some (.list ((grow E H').map HC.toD)), some (.int (j : Int))]) := by
  obtain ⟨m, _, em⟩ := mixed_ex (n - 2) ns (1 + (j : Int)) (by omega)
  rw [show n - 2 + 2 = n by omega] at em
  obtain ⟨H', e, l1, l6, oH, pi⟩ := deed_ex H m j n r.l1 r.l6 hj r.oH r.pi hn
  have rn : RP (j + 1) H' (grow E H') := ⟨l1, l6, oH, by
    have h1 := r.lE
    have h2 := List.length_filter_le (fun h => !decide (h ∈ E)) H'
    unfold grow
    rw [List.length_append]
    omega, pi⟩
  refine ⟨H', rn, ?_⟩
  have lE := r.lE
  have lf := List.length_filter_le (fun h => !decide (h ∈ E)) H'
  have kk : compL (.one 0) (condD (evl (callN tb n) [.cmp .NotIn (.v 0) (.v 1)])) (ev (callN tb n) (.v 0)) (H'.map HC.toD) (capt [none, some 3] [some (.list (ns.map PyData.int)), o1, some (.list (H'.map HC.toD)), some (.list (E.map HC.toD)), some (.int (j : Int))]) = some ((H'.filter fun h => !decide (h ∈ E)).map HC.toD) := by
    refine compL_filter HC.toD HC.toD _ (fun r => ∃ o, r = [o, some (.list (E.map HC.toD))]) _ _ ⟨none, rfl⟩ fun h hh r ⟨o, hr⟩ => ?_
    subst hr
    refine ⟨[some h.toD, some (.list (E.map HC.toD))], rfl, ⟨_, rfl⟩, ?_, fun _ => rfl⟩
    have oh := oH h hh
    have hd := h.dep_le (k := 16) (Nat.le_trans oh.dp (by omega)) (Nat.le_trans oh.dc (by omega))
    exact hc_notIn h E (by omega)
  have j1 : ev (callN tb n) (.comp (.one 0) (.seq (.v 2)) ["_law_hand", "_law_every"] [none, some 3] [(.cmp .NotIn (.v 0) (.v 1))] (.v 0)) [some (.list (ns.map PyData.int)), o1, some (.list (H'.map HC.toD)), some (.list (E.map HC.toD)), some (.int (j : Int))] = some (.list ((H'.filter fun h => !decide (h ∈ E)).map HC.toD)) := by
    rw [u_comp]
    exact compD_eq (ds := H'.map HC.toD) rfl (by rw [List.length_map]; omega) kk
  have o2 : okLen ((E.map HC.toD).length + ((H'.filter fun h => !decide (h ∈ E)).map HC.toD).length) = true := okLen_of (by rw [List.length_map, List.length_map]; omega)
  unfold runB grow
  rw [u_ssS, u_asg1]
  simp only [u_call, u_cons, u_nil, u_v, u_vr0, u_vrS, u_bin, u_k, u_addI, em, e, List.set]
  rw [u_ssS, u_asg1, u_bin, j1]
  simp only [u_v, u_vr0, u_vrS, u_addL, o2, if_true, List.set, u_ss0, List.map_append]
theorem run_loop (ns : List Int) (m n : Nat) (o1 : Option PyData) (hm : m ≤ 16) (hn : 61 ≤ n) : ∃ (H E : List HC) (o : Option PyData), RP m H E ∧ forD (.one 4) (exs (callN tb n) (callE tb n) runB) ((List.range m).map fun (k : Nat) => PyData.int (k : Int)) [some (.list (ns.map PyData.int)), o1, some (.list ([hc0].map HC.toD)), some (.list ([hc0].map HC.toD)), none] = some (.nx [some (.list (ns.map PyData.int)), o1, some (.list (H.map HC.toD)), some (.list (E.map HC.toD)), o]) := by
  obtain ⟨r2, e, j, H, E, o, hj, hds, ri, rfl⟩ := forD_rest (t := .one 4) (step := exs (callN tb n) (callE tb n) runB) (fun ds r => ∃ (j : Nat) (H E : List HC) (o : Option PyData), j ≤ m ∧ ds = (List.range' j (m - j)).map (fun (k : Nat) => PyData.int (k : Int)) ∧ RP j H E ∧ r = [some (.list (ns.map PyData.int)), o1, some (.list (H.map HC.toD)), some (.list (E.map HC.toD)), o]) (by
      intro d ds r ⟨j, H, E, o, hj, hds, ri, hr⟩
      subst hr
      cases hmj : m - j with
      | zero => rw [hmj] at hds; simp at hds
      | succ q =>
        rw [hmj, List.range'_succ, List.map_cons] at hds
        injection hds with h1 h2
        subst h1 h2
        obtain ⟨H', rn, ev⟩ := run_step ns j n H E o1 ri (by omega) hn
        exact ⟨[some (.list (ns.map PyData.int)), o1, some (.list (H.map HC.toD)), some (.list (E.map HC.toD)), some (.int (j : Int))], _, rfl, ev, j + 1, H', grow E H', _, by omega, by rw [show m - (j + 1) = q by omega], rn, rfl⟩)
    ((List.range m).map fun (k : Nat) => PyData.int (k : Int)) [some (.list (ns.map PyData.int)), o1, some (.list ([hc0].map HC.toD)), some (.list ([hc0].map HC.toD)), none]
    ⟨0, [hc0], [hc0], none, Nat.zero_le _, by rw [List.range_eq_range']; rfl, rp0, rfl⟩
  have : j = m := by
    cases hmj : m - j with
    | zero => omega
    | succ q => rw [hmj] at hds; simp [List.range'_succ] at hds
  subst this
  exact ⟨H, E, o, ri, e⟩
theorem run_ex (ns : List Int) (n : Nat) (hn : 62 ≤ n) : ∃ (j : Nat) (H E : List HC), j ≤ 16 ∧ RP j H E ∧ callN tb n "_law_run" [.list (ns.map PyData.int), .int 16] = some (.tuple [.list (H.map HC.toD), .list (E.map HC.toD)]) := by
  obtain ⟨m, rfl⟩ : ∃ m, n = m + 1 := ⟨n - 1, by omega⟩
  obtain ⟨m0, h0, e0⟩ := mixed_ex (m - 2) ns 0 (by decide)
  rw [show m - 2 + 2 = m by omega] at e0
  have b1 := Int.emod_lt_of_pos m0 (b := 17) (by decide)
  have b0 := Int.emod_nonneg m0 (b := 17) (by decide)
  obtain ⟨q, hq⟩ : ∃ q : Nat, m0 % 17 = (q : Int) := ⟨(m0 % 17).toNat, by omega⟩
  obtain ⟨H, E, o, ri, el⟩ := run_loop ns q m (some (.int 16)) (by omega) (by omega)
  refine ⟨q, H, E, by omega, ri, ?_⟩
  have ef := first_eq m (by omega)
  have ol : okLen 2 = true := by decide
  have ol1 : okLen 1 = true := by decide
  have er : itD (callN tb m) (.rng1 (.bin .Mod (.call "_law_mixed" [(.v 0), (.k (.int 0))]) (.bin .Add (.v 1) (.k (.int 1))))) [some (.list (ns.map PyData.int)), some (.int 16), some (.list ([hc0].map HC.toD)), some (.list ([hc0].map HC.toD)), none] = some ((List.range q).map fun (k : Nat) => PyData.int (k : Int)) := rng1_eq (by simp [e0, hq]) (by omega)
  rw [c__law_run, u_run _ _ _ rfl]
  have hb : d__law_run.body = .asg (.one 2) (.lst [(.tup [(.call "first" []), (.tup [])])]) :: .asg (.one 3) (.blt .list [(.v 2)]) :: .for_ (.one 4) (.rng1 (.bin .Mod (.call "_law_mixed" [(.v 0), (.k (.int 0))]) (.bin .Add (.v 1) (.k (.int 1))))) runB :: [.ret (.tup [(.v 2), (.v 3)])] := rfl
  have hs : startD d__law_run.N [.list (ns.map PyData.int), .int 16] = [some (.list (ns.map PyData.int)), some (.int 16), none, none, none] := rfl
  have e1 : ev (callN tb m) (.lst [(.tup [(.call "first" []), (.tup [])])]) [some (.list (ns.map PyData.int)), some (.int 16), none, none, none] = some (.list ([hc0].map HC.toD)) := by
    simp [ef, ol, ol1, hc0, HC.toD, HC.clk, PT.toD, CT.toD, intsD]
  rw [hb, hs, u_ssS, u_asg1, e1]
  simp only [List.set]
  rw [u_ssS, u_asg1]
  simp only [u_blt, u_cons, u_nil, u_v, u_vrS, u_vr0, u_listL, List.set]
  rw [u_ssS, u_for, er]
  simp only [el]
  simp [ol]

/-! ### the parts of all hands -/
theorem lclock_eq (h : HC) (j n : Nat) (o : HOk j h) (hj : j ≤ 16) (hn : 60 ≤ n) : callN tb n "_law_is_clock" [h.clk] = some (.bool true) := by
  obtain ⟨m, rfl⟩ : ∃ m, n = m + 1 := ⟨n - 1, by omega⟩
  have d1 := o.dp
  have d2 := o.dc
  have e1 := lis_part_eq h.pt (m - h.pt.dep - h.pt.dep - 3) (by omega)
  rw [show m - h.pt.dep - h.pt.dep - 3 + h.pt.dep + h.pt.dep + 3 = m by omega, o.pp] at e1
  have e2 := lis_count_eq h.ct (m - h.ct.dep - h.ct.dep - 4) (by omega)
  rw [show m - h.ct.dep - h.ct.dep - 4 + h.ct.dep + h.ct.dep + 4 = m by omega, o.pc] at e2
  rw [c__law_is_clock, u_run _ _ _ rfl]
  unfold HC.clk
  simp [d__law_is_clock, startD, at0, at1, e1, e2]
noncomputable def pathB : List PS := [.ife (.or (.not (.call "_law_is_clock" [(.v 4)])) (.cmp .Eq (.ix (.v 4) (.k (.int 0))) (.k (.int 0)))) [.ret (.k (.bool false))] [], .asg (.one 3) (.bin .Add (.v 3) (.call "_law_paths" [(.ix (.v 4) (.k (.int 0)))]))]
theorem path_loop (H : List HC) (j : Nat) (hj : j ≤ 16) (l6 : H.length ≤ 6) (oH : ∀ h ∈ H, HOk j h) (nz : ∀ h ∈ H, h.pt ≠ .z false) (o0 o1 o2 : Option PyData) : ∃ (A : List (List Bool)) (o4 o5 : Option PyData), A.length ≤ 400000 ∧ (∀ p ∈ A, p.length ≤ 1000) ∧ forD (.many [4, 5]) (exs (callN tb 99) (callE tb 99) pathB) (H.map HC.toD) [o0, o1, o2, some (.list []), none, none, none] = some (.nx [o0, o1, o2, some (.list (A.map pD)), o4, o5, none]) := by
  obtain ⟨r2, ef, _, A, o4, o5, hA, hp, rfl⟩ := forD_rest (t := .many [4, 5]) (step := exs (callN tb 99) (callE tb 99) pathB) (fun ds r => (∀ d ∈ ds, ∃ h ∈ H, d = h.toD) ∧ ∃ (A : List (List Bool)) (o4 o5 : Option PyData), A.length + ds.length * 65536 ≤ 400000 ∧ (∀ p ∈ A, p.length ≤ 1000) ∧ r = [o0, o1, o2, some (.list (A.map pD)), o4, o5, none]) (by
      intro d ds r ⟨hd, A, o4, o5, hA, hp, hr⟩
      subst hr
      obtain ⟨h, hh, rfl⟩ := hd d List.mem_cons_self
      have oh := oH h hh
      have d1 := oh.dp
      have ic := lclock_eq h j 99 oh hj (by omega)
      have q0 := eq0_PT h.pt
      rw [decide_eq_false (nz h hh)] at q0
      have pl := PT.paths_pow h.pt
      have p2 : 2 ^ h.pt.dep ≤ 2 ^ 16 := Nat.pow_le_pow_right (by decide) (by omega)
      have p16 : 2 ^ 16 = 65536 := by decide
      have pp := paths_PT h.pt (98 - h.pt.dep) (by omega) (by omega)
      rw [show 98 - h.pt.dep + h.pt.dep + 1 = 99 by omega] at pp
      simp only [List.length_cons] at hA
      have ol : okLen (A.length + h.pt.paths.length) = true := okLen_of (by omega)
      refine ⟨[o0, o1, o2, some (.list (A.map pD)), some h.clk, some (.tuple (intsD h.kn)), none], [o0, o1, o2, some (.list ((A ++ h.pt.paths).map pD)), some h.clk, some (.tuple (intsD h.kn)), none], rfl, ?_, fun d' hd' => hd d' (List.mem_cons_of_mem _ hd'), A ++ h.pt.paths, _, _, ?_, ?_, rfl⟩
      · unfold HC.clk at *
        simp [pathB, ic, at0, q0, pp, ol]
      · rw [List.length_append]; omega
      · intro p hp'
        rcases List.mem_append.mp hp' with z | z
        · exact hp p z
        · have := PT.path_len h.pt p z; omega)
    (H.map HC.toD) [o0, o1, o2, some (.list []), none, none, none] ⟨fun d hd => by obtain ⟨h, hh, rfl⟩ := List.mem_map.mp hd; exact ⟨h, hh, rfl⟩, [], none, none, by rw [List.length_map]; simp only [List.length_nil]; omega, (fun p hp => absurd hp (by simp)), rfl⟩
  exact ⟨A, o4, o5, by simpa using hA, hp, ef⟩
theorem sum_ints : ∀ l : List Int, intsOf (l.map PyData.int) = some l
  | [] => rfl
  | x :: xs => by
    show (match intsOf (xs.map PyData.int) with | some ns => some (x :: ns) | none => none) = _
    rw [sum_ints xs]
theorem sum_eq (l : List Int) : Bl.fn .sum [.list (l.map PyData.int)] = some (.int l.sum) := by
  show (match intsOf (l.map PyData.int) with | some ns => some (PyData.int ns.sum) | none => none) = _
  rw [sum_ints]
noncomputable def oneB : List PS := [.ife (.cmp .NotEq (.blt .sum [(.comp (.many [0, 1]) (.seq (.v 1)) ["_law_clock", "_law_known", "_law_path"] [none, none, some 6] [] (.call "_law_at" [(.ix (.v 0) (.k (.int 0))), (.v 2)]))]) (.k (.int 1))) [.ret (.k (.bool false))] []]
theorem one_loop (H : List HC) (j : Nat) (hj : j ≤ 16) (l6 : H.length ≤ 6) (oH : ∀ h ∈ H, HOk j h) (one : ∀ p, (H.map fun h => h.pt.at p).sum = 1) (A : List (List Bool)) (hA : ∀ p ∈ A, p.length ≤ 1000) (o0 o2 o3 o4 o5 o6 : Option PyData) : ∃ o6', forD (.one 6) (exs (callN tb 99) (callE tb 99) oneB) (A.map pD) [o0, some (.list (H.map HC.toD)), o2, o3, o4, o5, o6] = some (.nx [o0, some (.list (H.map HC.toD)), o2, o3, o4, o5, o6']) := by
  obtain ⟨r2, ef, _, o6', rfl⟩ := forD_rest (t := .one 6) (step := exs (callN tb 99) (callE tb 99) oneB) (fun ds r => (∀ d ∈ ds, ∃ p, p.length ≤ 1000 ∧ d = pD p) ∧ ∃ o6, r = [o0, some (.list (H.map HC.toD)), o2, o3, o4, o5, o6]) (by
      intro d ds r ⟨hd, o6, hr⟩
      subst hr
      obtain ⟨p, hp, rfl⟩ := hd d List.mem_cons_self
      have kk : compL (.many [0, 1]) (condD []) (ev (callN tb 99) (.call "_law_at" [(.ix (.v 0) (.k (.int 0))), (.v 2)])) (H.map HC.toD) (capt [none, none, some 6] [o0, some (.list (H.map HC.toD)), o2, o3, o4, o5, some (pD p)]) = some (H.map fun h => PyData.int (h.pt.at p)) := by
        refine compL_map HC.toD _ (fun r => ∃ a b, r = [a, b, some (pD p)]) H _ ⟨none, none, rfl⟩ fun h hh r ⟨a, b, hr⟩ => ?_
        subst hr
        refine ⟨[some h.clk, some (.tuple (intsD h.kn)), some (pD p)], rfl, ⟨_, _, rfl⟩, ?_⟩
        have d1 := (oH h hh).dp
        have ea := at_PT h.pt p 98 (by omega) hp
        unfold HC.clk
        simp [at0, ea]
      have j1 : ev (callN tb 99) (.comp (.many [0, 1]) (.seq (.v 1)) ["_law_clock", "_law_known", "_law_path"] [none, none, some 6] [] (.call "_law_at" [(.ix (.v 0) (.k (.int 0))), (.v 2)])) [o0, some (.list (H.map HC.toD)), o2, o3, o4, o5, some (pD p)] = some (.list ((H.map fun h => h.pt.at p).map PyData.int)) := by
        rw [u_comp, List.map_map]
        exact compD_eq (ds := H.map HC.toD) rfl (by rw [List.length_map]; omega) kk
      have e2 : ev (callN tb 99) (.cmp .NotEq (.blt .sum [(.comp (.many [0, 1]) (.seq (.v 1)) ["_law_clock", "_law_known", "_law_path"] [none, none, some 6] [] (.call "_law_at" [(.ix (.v 0) (.k (.int 0))), (.v 2)]))]) (.k (.int 1))) [o0, some (.list (H.map HC.toD)), o2, o3, o4, o5, some (pD p)] = some (.bool false) := by
        rw [u_cmp, u_blt, u_cons, j1]
        simp only [u_nil, sum_eq, one p, u_k, u_neI]
        rfl
      refine ⟨[o0, some (.list (H.map HC.toD)), o2, o3, o4, o5, some (pD p)], [o0, some (.list (H.map HC.toD)), o2, o3, o4, o5, some (pD p)], rfl, ?_, fun d' hd' => hd d' (List.mem_cons_of_mem _ hd'), _, rfl⟩
      unfold oneB
      rw [u_ssS, u_ifS, e2]
      rfl)
    (A.map pD) [o0, some (.list (H.map HC.toD)), o2, o3, o4, o5, o6] ⟨fun d hd => by obtain ⟨p, hp, rfl⟩ := List.mem_map.mp hd; exact ⟨p, hA p hp, rfl⟩, _, rfl⟩
  exact ⟨o6', ef⟩
theorem law_true (ns : List Int) (h : ns.length ≤ 63) : callN tb 100 "law" [.list (ns.map PyData.int)] = some (.bool true) := by
  obtain ⟨j, H, E, hj, ri, er⟩ := run_ex ns 99 (by omega)
  have one : ∀ p, (H.map fun h => h.pt.at p).sum = 1 := ri.pi.1
  have nz := ri.pi.2
  obtain ⟨A, o4, o5, lA, hA, e1⟩ := path_loop H j hj ri.l6 ri.oH nz (some (.list (ns.map PyData.int))) (some (.list (H.map HC.toD))) (some (.list (E.map HC.toD)))
  obtain ⟨o6, e2⟩ := one_loop H j hj ri.l6 ri.oH one A hA (some (.list (ns.map PyData.int))) (some (.list (E.map HC.toD))) (some (.list (A.map pD))) o4 o5 none
  rw [c_law, u_run _ _ _ rfl]
  have hb : d_law.body = [.asg (.many [1, 2]) (.call "_law_run" [(.v 0), (.k (.int 16))]), .asg (.one 3) (.lst []), .for_ (.many [4, 5]) (.seq (.v 1)) pathB, .for_ (.one 6) (.seq (.v 3)) oneB, .ret (.k (.bool true))] := rfl
  have hs : startD d_law.N [.list (ns.map PyData.int)] = [some (.list (ns.map PyData.int)), none, none, none, none, none, none] := rfl
  rw [hb, hs, u_ssS, u_asgM]
  simp only [u_call, u_cons, u_nil, u_v, u_vr0, u_k, er]
  show outD (exs (callN tb 99) (callE tb 99) [.asg (.one 3) (.lst []), .for_ (.many [4, 5]) (.seq (.v 1)) pathB, .for_ (.one 6) (.seq (.v 3)) oneB, .ret (.k (.bool true))] [some (.list (ns.map PyData.int)), some (.list (H.map HC.toD)), some (.list (E.map HC.toD)), none, none, none, none]) = _
  rw [u_ssS, u_asg1]
  show outD (exs (callN tb 99) (callE tb 99) [.for_ (.many [4, 5]) (.seq (.v 1)) pathB, .for_ (.one 6) (.seq (.v 3)) oneB, .ret (.k (.bool true))] [some (.list (ns.map PyData.int)), some (.list (H.map HC.toD)), some (.list (E.map HC.toD)), some (.list []), none, none, none]) = _
  rw [u_ssS, u_for]
  show outD (match (match (some (H.map HC.toD) : Option (List PyData)) with | some ds => forD (.many [4, 5]) (exs (callN tb 99) (callE tb 99) pathB) ds [some (.list (ns.map PyData.int)), some (.list (H.map HC.toD)), some (.list (E.map HC.toD)), some (.list []), none, none, none] | none => none) with | some (.nx r') => exs (callN tb 99) (callE tb 99) [.for_ (.one 6) (.seq (.v 3)) oneB, .ret (.k (.bool true))] r' | o => o) = _
  simp only [e1]
  rw [u_ssS, u_for]
  show outD (match (match (some (A.map pD) : Option (List PyData)) with | some ds => forD (.one 6) (exs (callN tb 99) (callE tb 99) oneB) ds [some (.list (ns.map PyData.int)), some (.list (H.map HC.toD)), some (.list (E.map HC.toD)), some (.list (A.map pD)), o4, o5, none] | none => none) with | some (.nx r') => exs (callN tb 99) (callE tb 99) [.ret (.k (.bool true))] r' | o => o) = _
  simp only [e2]
  rfl

noncomputable def top (i : Nat) : Stmt := PySem.Challenge.pw_treeclock_k31_whole_parts_of_all.main.body.getD i (.Pass ⟨0, 0, 0, 0⟩)
theorem sc_plain_part : FnScope d_plain_part.N d_plain_part.ps (defScope (top 4)) := ⟨rfl, rfl, rfl, by decide +kernel, rfl, by decide +kernel, by decide +kernel⟩
theorem sc_plain_pair : FnScope d_plain_pair.N d_plain_pair.ps (defScope (top 5)) := ⟨rfl, rfl, rfl, by decide +kernel, rfl, by decide +kernel, by decide +kernel⟩
theorem sc_plain_count : FnScope d_plain_count.N d_plain_count.ps (defScope (top 6)) := ⟨rfl, rfl, rfl, by decide +kernel, rfl, by decide +kernel, by decide +kernel⟩
theorem sc_plain_triple : FnScope d_plain_triple.N d_plain_triple.ps (defScope (top 7)) := ⟨rfl, rfl, rfl, by decide +kernel, rfl, by decide +kernel, by decide +kernel⟩
theorem sc_front : FnScope d_front.N d_front.ps (defScope (top 8)) := ⟨rfl, rfl, rfl, by decide +kernel, rfl, by decide +kernel, by decide +kernel⟩
theorem sc_lifted : FnScope d_lifted.N d_lifted.ps (defScope (top 9)) := ⟨rfl, rfl, rfl, by decide +kernel, rfl, by decide +kernel, by decide +kernel⟩
theorem sc_are_same_number : FnScope d_are_same_number.N d_are_same_number.ps (defScope (top 10)) := ⟨rfl, rfl, rfl, by decide +kernel, rfl, by decide +kernel, by decide +kernel⟩
theorem sc_is_whole : FnScope d_is_whole.N d_is_whole.ps (defScope (top 11)) := ⟨rfl, rfl, rfl, by decide +kernel, rfl, by decide +kernel, by decide +kernel⟩
theorem sc_highest : FnScope d_highest.N d_highest.ps (defScope (top 13)) := ⟨rfl, rfl, rfl, by decide +kernel, rfl, by decide +kernel, by decide +kernel⟩
theorem sc_half_beyond : FnScope d_half_beyond.N d_half_beyond.ps (defScope (top 14)) := ⟨rfl, rfl, rfl, by decide +kernel, rfl, by decide +kernel, by decide +kernel⟩
theorem sc_raised : FnScope d_raised.N d_raised.ps (defScope (top 15)) := ⟨rfl, rfl, rfl, by decide +kernel, rfl, by decide +kernel, by decide +kernel⟩
theorem sc_evened : FnScope d_evened.N d_evened.ps (defScope (top 16)) := ⟨rfl, rfl, rfl, by decide +kernel, rfl, by decide +kernel, by decide +kernel⟩
theorem sc_peak : FnScope d_peak.N d_peak.ps (defScope (top 17)) := ⟨rfl, rfl, rfl, by decide +kernel, rfl, by decide +kernel, by decide +kernel⟩
theorem sc_grown : FnScope d_grown.N d_grown.ps (defScope (top 18)) := ⟨rfl, rfl, rfl, by decide +kernel, rfl, by decide +kernel, by decide +kernel⟩
theorem sc_grown_half : FnScope d_grown_half.N d_grown_half.ps (defScope (top 19)) := ⟨rfl, rfl, rfl, by decide +kernel, rfl, by decide +kernel, by decide +kernel⟩
theorem sc_triples_added : FnScope d_triples_added.N d_triples_added.ps (defScope (top 20)) := ⟨rfl, rfl, rfl, by decide +kernel, rfl, by decide +kernel, by decide +kernel⟩
theorem sc_are_apart : FnScope d_are_apart.N d_are_apart.ps (defScope (top 22)) := ⟨rfl, rfl, rfl, by decide +kernel, rfl, by decide +kernel, by decide +kernel⟩
theorem sc_together : FnScope d_together.N d_together.ps (defScope (top 23)) := ⟨rfl, rfl, rfl, by decide +kernel, rfl, by decide +kernel, by decide +kernel⟩
theorem sc_joined : FnScope d_joined.N d_joined.ps (defScope (top 24)) := ⟨rfl, rfl, rfl, by decide +kernel, rfl, by decide +kernel, by decide +kernel⟩
theorem sc_half : FnScope d_half.N d_half.ps (defScope (top 25)) := ⟨rfl, rfl, rfl, by decide +kernel, rfl, by decide +kernel, by decide +kernel⟩
theorem sc_halves : FnScope d_halves.N d_halves.ps (defScope (top 26)) := ⟨rfl, rfl, rfl, by decide +kernel, rfl, by decide +kernel, by decide +kernel⟩
theorem sc_parted_in_two : FnScope d_parted_in_two.N d_parted_in_two.ps (defScope (top 27)) := ⟨rfl, rfl, rfl, by decide +kernel, rfl, by decide +kernel, by decide +kernel⟩
theorem sc_first : FnScope d_first.N d_first.ps (defScope (top 29)) := ⟨rfl, rfl, rfl, by decide +kernel, rfl, by decide +kernel, by decide +kernel⟩
theorem sc_parted : FnScope d_parted.N d_parted.ps (defScope (top 30)) := ⟨rfl, rfl, rfl, by decide +kernel, rfl, by decide +kernel, by decide +kernel⟩
theorem sc_done : FnScope d_done.N d_done.ps (defScope (top 31)) := ⟨rfl, rfl, rfl, by decide +kernel, rfl, by decide +kernel, by decide +kernel⟩
theorem sc_sent : FnScope d_sent.N d_sent.ps (defScope (top 32)) := ⟨rfl, rfl, rfl, by decide +kernel, rfl, by decide +kernel, by decide +kernel⟩
theorem sc_met : FnScope d_met.N d_met.ps (defScope (top 33)) := ⟨rfl, rfl, rfl, by decide +kernel, rfl, by decide +kernel, by decide +kernel⟩
theorem sc__law_cell_at : FnScope d__law_cell_at.N d__law_cell_at.ps (defScope (top 35)) := ⟨rfl, rfl, rfl, by decide +kernel, rfl, by decide +kernel, by decide +kernel⟩
theorem sc__law_mixed : FnScope d__law_mixed.N d__law_mixed.ps (defScope (top 36)) := ⟨rfl, rfl, rfl, by decide +kernel, rfl, by decide +kernel, by decide +kernel⟩
theorem sc__law_paths : FnScope d__law_paths.N d__law_paths.ps (defScope (top 38)) := ⟨rfl, rfl, rfl, by decide +kernel, rfl, by decide +kernel, by decide +kernel⟩
theorem sc__law_at : FnScope d__law_at.N d__law_at.ps (defScope (top 39)) := ⟨rfl, rfl, rfl, by decide +kernel, rfl, by decide +kernel, by decide +kernel⟩
theorem sc__law_plain_part : FnScope d__law_plain_part.N d__law_plain_part.ps (defScope (top 40)) := ⟨rfl, rfl, rfl, by decide +kernel, rfl, by decide +kernel, by decide +kernel⟩
theorem sc__law_more : FnScope d__law_more.N d__law_more.ps (defScope (top 41)) := ⟨rfl, rfl, rfl, by decide +kernel, rfl, by decide +kernel, by decide +kernel⟩
theorem sc__law_front : FnScope d__law_front.N d__law_front.ps (defScope (top 42)) := ⟨rfl, rfl, rfl, by decide +kernel, rfl, by decide +kernel, by decide +kernel⟩
theorem sc__law_plain_count : FnScope d__law_plain_count.N d__law_plain_count.ps (defScope (top 43)) := ⟨rfl, rfl, rfl, by decide +kernel, rfl, by decide +kernel, by decide +kernel⟩
theorem sc__law_whole : FnScope d__law_whole.N d__law_whole.ps (defScope (top 44)) := ⟨rfl, rfl, rfl, by decide +kernel, rfl, by decide +kernel, by decide +kernel⟩
theorem sc__law_is_part : FnScope d__law_is_part.N d__law_is_part.ps (defScope (top 45)) := ⟨rfl, rfl, rfl, by decide +kernel, rfl, by decide +kernel, by decide +kernel⟩
theorem sc__law_is_count : FnScope d__law_is_count.N d__law_is_count.ps (defScope (top 46)) := ⟨rfl, rfl, rfl, by decide +kernel, rfl, by decide +kernel, by decide +kernel⟩
theorem sc__law_is_clock : FnScope d__law_is_clock.N d__law_is_clock.ps (defScope (top 47)) := ⟨rfl, rfl, rfl, by decide +kernel, rfl, by decide +kernel, by decide +kernel⟩
theorem sc__law_deed : FnScope d__law_deed.N d__law_deed.ps (defScope (top 48)) := ⟨rfl, rfl, rfl, by decide +kernel, rfl, by decide +kernel, by decide +kernel⟩
theorem sc__law_run : FnScope d__law_run.N d__law_run.ps (defScope (top 49)) := ⟨rfl, rfl, rfl, by decide +kernel, rfl, by decide +kernel, by decide +kernel⟩
theorem sc_law : FnScope d_law.N d_law.ps (defScope (top 50)) := ⟨rfl, rfl, rfl, by decide +kernel, rfl, by decide +kernel, by decide +kernel⟩
theorem ok_plain_part {X : Cx} {k : Nat} {C : Orc} {E : OrcX} (hx : Hz X ⟨d_plain_part.N, (defScope (top 4)).names, fs, xs⟩ k C E) : GS X C E (defBody (top 4)) d_plain_part.body := (gs1 (st_if (g_call hx.toHx (by decide +kernel) (ag1 (g_v hx.toHx (by decide +kernel)) (by rfl) ag0)) (gs1 (st_ret (g_v hx.toHx (by decide +kernel))) gs0) gs0) (gs1 (st_ret (g_call hx.toHx (by decide +kernel) (ag1 (g_call hx.toHx (by decide +kernel) (ag1 (g_ix (g_v hx.toHx (by decide +kernel)) (g_k (by decide +kernel)) (by rfl)) (by rfl) ag0)) (by rfl) (ag1 (g_call hx.toHx (by decide +kernel) (ag1 (g_ix (g_v hx.toHx (by decide +kernel)) (g_k (by decide +kernel)) (by rfl)) (by rfl) ag0)) (by rfl) ag0)))) gs0))
theorem ok_plain_pair {X : Cx} {k : Nat} {C : Orc} {E : OrcX} (hx : Hz X ⟨d_plain_pair.N, (defScope (top 5)).names, fs, xs⟩ k C E) : GS X C E (defBody (top 5)) d_plain_pair.body := (gs1 (st_ret (g_ife (g_call hx.toHx (by decide +kernel) (ag1 (g_v hx.toHx (by decide +kernel)) (by rfl) (ag1 (g_v hx.toHx (by decide +kernel)) (by rfl) ag0))) (g_v hx.toHx (by decide +kernel)) (g_tup (ag1 (g_v hx.toHx (by decide +kernel)) (by rfl) (ag1 (g_v hx.toHx (by decide +kernel)) (by rfl) ag0))))) gs0)
theorem ok_plain_count {X : Cx} {k : Nat} {C : Orc} {E : OrcX} (hx : Hz X ⟨d_plain_count.N, (defScope (top 6)).names, fs, xs⟩ k C E) : GS X C E (defBody (top 6)) d_plain_count.body := (gs1 (st_if (g_call hx.toHx (by decide +kernel) (ag1 (g_v hx.toHx (by decide +kernel)) (by rfl) ag0)) (gs1 (st_ret (g_v hx.toHx (by decide +kernel))) gs0) gs0) (gs1 (st_ret (g_call hx.toHx (by decide +kernel) (ag1 (g_ix (g_v hx.toHx (by decide +kernel)) (g_k (by decide +kernel)) (by rfl)) (by rfl) (ag1 (g_call hx.toHx (by decide +kernel) (ag1 (g_ix (g_v hx.toHx (by decide +kernel)) (g_k (by decide +kernel)) (by rfl)) (by rfl) ag0)) (by rfl) (ag1 (g_call hx.toHx (by decide +kernel) (ag1 (g_ix (g_v hx.toHx (by decide +kernel)) (g_k (by decide +kernel)) (by rfl)) (by rfl) ag0)) (by rfl) ag0))))) gs0))
theorem ok_plain_triple {X : Cx} {k : Nat} {C : Orc} {E : OrcX} (hx : Hz X ⟨d_plain_triple.N, (defScope (top 7)).names, fs, xs⟩ k C E) : GS X C E (defBody (top 7)) d_plain_triple.body := (gs1 (st_asg hx.toHs (g_blt hx.toHx .min (by decide +kernel) (ag1 (g_call hx.toHx (by decide +kernel) (ag1 (g_v hx.toHx (by decide +kernel)) (by rfl) ag0)) (by rfl) (ag1 (g_call hx.toHx (by decide +kernel) (ag1 (g_v hx.toHx (by decide +kernel)) (by rfl) ag0)) (by rfl) ag0))) (by decide +kernel) (by rfl) (by rfl) (by rfl)) (gs1 (st_if (g_call hx.toHx (by decide +kernel) (ag1 (g_v hx.toHx (by decide +kernel)) (by rfl) (ag1 (g_v hx.toHx (by decide +kernel)) (by rfl) ag0))) (gs1 (st_ret (g_bin (g_v hx.toHx (by decide +kernel)) (g_v hx.toHx (by decide +kernel)))) gs0) gs0) (gs1 (st_ret (g_tup (ag1 (g_bin (g_v hx.toHx (by decide +kernel)) (g_v hx.toHx (by decide +kernel))) (by rfl) (ag1 (g_call hx.toHx (by decide +kernel) (ag1 (g_v hx.toHx (by decide +kernel)) (by rfl) (ag1 (g_neg (g_v hx.toHx (by decide +kernel))) (by rfl) ag0))) (by rfl) (ag1 (g_call hx.toHx (by decide +kernel) (ag1 (g_v hx.toHx (by decide +kernel)) (by rfl) (ag1 (g_neg (g_v hx.toHx (by decide +kernel))) (by rfl) ag0))) (by rfl) ag0))))) gs0)))
theorem ok_front {X : Cx} {k : Nat} {C : Orc} {E : OrcX} (hx : Hz X ⟨d_front.N, (defScope (top 8)).names, fs, xs⟩ k C E) : GS X C E (defBody (top 8)) d_front.body := (gs1 (st_ret (g_ife (g_call hx.toHx (by decide +kernel) (ag1 (g_v hx.toHx (by decide +kernel)) (by rfl) ag0)) (g_v hx.toHx (by decide +kernel)) (g_ix (g_v hx.toHx (by decide +kernel)) (g_k (by decide +kernel)) (by rfl)))) gs0)
theorem ok_lifted {X : Cx} {k : Nat} {C : Orc} {E : OrcX} (hx : Hz X ⟨d_lifted.N, (defScope (top 9)).names, fs, xs⟩ k C E) : GS X C E (defBody (top 9)) d_lifted.body := (gs1 (st_if (g_call hx.toHx (by decide +kernel) (ag1 (g_v hx.toHx (by decide +kernel)) (by rfl) ag0)) (gs1 (st_ret (g_bin (g_v hx.toHx (by decide +kernel)) (g_v hx.toHx (by decide +kernel)))) gs0) gs0) (gs1 (st_ret (g_tup (ag1 (g_bin (g_ix (g_v hx.toHx (by decide +kernel)) (g_k (by decide +kernel)) (by rfl)) (g_v hx.toHx (by decide +kernel))) (by rfl) (ag1 (g_ix (g_v hx.toHx (by decide +kernel)) (g_k (by decide +kernel)) (by rfl)) (by rfl) (ag1 (g_ix (g_v hx.toHx (by decide +kernel)) (g_k (by decide +kernel)) (by rfl)) (by rfl) ag0))))) gs0))
theorem ok_are_same_number {X : Cx} {k : Nat} {C : Orc} {E : OrcX} (hx : Hz X ⟨d_are_same_number.N, (defScope (top 10)).names, fs, xs⟩ k C E) : GS X C E (defBody (top 10)) d_are_same_number.body := (gs1 (st_ret (g_and (g_call hx.toHx (by decide +kernel) (ag1 (g_v hx.toHx (by decide +kernel)) (by rfl) ag0)) (g_one (g_cmp hx.toHx (g_v hx.toHx (by decide +kernel)) (g_v hx.toHx (by decide +kernel)) (by rfl))))) gs0)
theorem ok_is_whole {X : Cx} {k : Nat} {C : Orc} {E : OrcX} (hx : Hz X ⟨d_is_whole.N, (defScope (top 11)).names, fs, xs⟩ k C E) : GS X C E (defBody (top 11)) d_is_whole.body := (gs1 (st_ret (g_and (g_isin hx.toHx .int (by decide +kernel) (g_v hx.toHx (by decide +kernel)) (by rfl)) (g_one (g_not (g_isin hx.toHx .bool (by decide +kernel) (g_v hx.toHx (by decide +kernel)) (by rfl)))))) gs0)
theorem ok_highest {X : Cx} {k : Nat} {C : Orc} {E : OrcX} (hx : Hz X ⟨d_highest.N, (defScope (top 13)).names, fs, xs⟩ k C E) : GS X C E (defBody (top 13)) d_highest.body := (gs1 (st_if (g_and (g_call hx.toHx (by decide +kernel) (ag1 (g_v hx.toHx (by decide +kernel)) (by rfl) ag0)) (g_one (g_call hx.toHx (by decide +kernel) (ag1 (g_v hx.toHx (by decide +kernel)) (by rfl) ag0)))) (gs1 (st_ret (g_blt hx.toHx .max (by decide +kernel) (ag1 (g_v hx.toHx (by decide +kernel)) (by rfl) (ag1 (g_v hx.toHx (by decide +kernel)) (by rfl) ag0)))) gs0) gs0) (gs1 (st_asg hx.toHs (g_blt hx.toHx .min (by decide +kernel) (ag1 (g_call hx.toHx (by decide +kernel) (ag1 (g_v hx.toHx (by decide +kernel)) (by rfl) ag0)) (by rfl) (ag1 (g_call hx.toHx (by decide +kernel) (ag1 (g_v hx.toHx (by decide +kernel)) (by rfl) ag0)) (by rfl) ag0))) (by decide +kernel) (by rfl) (by rfl) (by rfl)) (gs1 (st_asg hx.toHs (g_call hx.toHx (by decide +kernel) (ag1 (g_call hx.toHx (by decide +kernel) (ag1 (g_v hx.toHx (by decide +kernel)) (by rfl) (ag1 (g_k (by decide +kernel)) (by rfl) (ag1 (g_v hx.toHx (by decide +kernel)) (by rfl) ag0)))) (by rfl) (ag1 (g_call hx.toHx (by decide +kernel) (ag1 (g_v hx.toHx (by decide +kernel)) (by rfl) (ag1 (g_k (by decide +kernel)) (by rfl) (ag1 (g_v hx.toHx (by decide +kernel)) (by rfl) ag0)))) (by rfl) ag0))) (by decide +kernel) (by rfl) (by rfl) (by rfl)) (gs1 (st_asg hx.toHs (g_call hx.toHx (by decide +kernel) (ag1 (g_call hx.toHx (by decide +kernel) (ag1 (g_v hx.toHx (by decide +kernel)) (by rfl) (ag1 (g_k (by decide +kernel)) (by rfl) (ag1 (g_v hx.toHx (by decide +kernel)) (by rfl) ag0)))) (by rfl) (ag1 (g_call hx.toHx (by decide +kernel) (ag1 (g_v hx.toHx (by decide +kernel)) (by rfl) (ag1 (g_k (by decide +kernel)) (by rfl) (ag1 (g_v hx.toHx (by decide +kernel)) (by rfl) ag0)))) (by rfl) ag0))) (by decide +kernel) (by rfl) (by rfl) (by rfl)) (gs1 (st_ret (g_call hx.toHx (by decide +kernel) (ag1 (g_v hx.toHx (by decide +kernel)) (by rfl) (ag1 (g_v hx.toHx (by decide +kernel)) (by rfl) (ag1 (g_v hx.toHx (by decide +kernel)) (by rfl) ag0))))) gs0)))))
theorem ok_half_beyond {X : Cx} {k : Nat} {C : Orc} {E : OrcX} (hx : Hz X ⟨d_half_beyond.N, (defScope (top 14)).names, fs, xs⟩ k C E) : GS X C E (defBody (top 14)) d_half_beyond.body := (gs1 (st_asg hx.toHs (g_bin (g_call hx.toHx (by decide +kernel) (ag1 (g_v hx.toHx (by decide +kernel)) (by rfl) ag0)) (g_v hx.toHx (by decide +kernel))) (by decide +kernel) (by rfl) (by rfl) (by rfl)) (gs1 (st_ret (g_ife (g_call hx.toHx (by decide +kernel) (ag1 (g_v hx.toHx (by decide +kernel)) (by rfl) ag0)) (g_v hx.toHx (by decide +kernel)) (g_call hx.toHx (by decide +kernel) (ag1 (g_ix (g_v hx.toHx (by decide +kernel)) (g_v hx.toHx (by decide +kernel)) (by rfl)) (by rfl) (ag1 (g_v hx.toHx (by decide +kernel)) (by rfl) ag0))))) gs0))
theorem ok_raised {X : Cx} {k : Nat} {C : Orc} {E : OrcX} (hx : Hz X ⟨d_raised.N, (defScope (top 15)).names, fs, xs⟩ k C E) : GS X C E (defBody (top 15)) d_raised.body := (gs1 (st_asg hx.toHs (g_call hx.toHx (by decide +kernel) (ag1 (g_v hx.toHx (by decide +kernel)) (by rfl) ag0)) (by decide +kernel) (by rfl) (by rfl) (by rfl)) (gs1 (st_if (g_cmp hx.toHx (g_v hx.toHx (by decide +kernel)) (g_k (by decide +kernel)) (by rfl)) (gs1 st_raise gs0) gs0) (gs1 (st_asg hx.toHs (g_call hx.toHx (by decide +kernel) (ag1 (g_v hx.toHx (by decide +kernel)) (by rfl) ag0)) (by decide +kernel) (by rfl) (by rfl) (by rfl)) (gs1 (st_asg hx.toHs (g_call hx.toHx (by decide +kernel) (ag1 (g_v hx.toHx (by decide +kernel)) (by rfl) (ag1 (g_v hx.toHx (by decide +kernel)) (by rfl) ag0))) (by decide +kernel) (by rfl) (by rfl) (by rfl)) (gs1 (st_ret (g_ife (g_cmp hx.toHx (g_v hx.toHx (by decide +kernel)) (g_v hx.toHx (by decide +kernel)) (by rfl)) (g_v hx.toHx (by decide +kernel)) (g_ix (g_call hx.toHx (by decide +kernel) (ag1 (g_v hx.toHx (by decide +kernel)) (by rfl) (ag1 (g_v hx.toHx (by decide +kernel)) (by rfl) ag0))) (g_k (by decide +kernel)) (by rfl)))) gs0)))))
theorem ok_evened {X : Cx} {k : Nat} {C : Orc} {E : OrcX} (hx : Hz X ⟨d_evened.N, (defScope (top 16)).names, fs, xs⟩ k C E) : GS X C E (defBody (top 16)) d_evened.body := (gs1 (st_if (g_or (g_cmp hx.toHx (g_v hx.toHx (by decide +kernel)) (g_k (by decide +kernel)) (by rfl)) (g_one (g_call hx.toHx (by decide +kernel) (ag1 (g_v hx.toHx (by decide +kernel)) (by rfl) ag0)))) (gs1 (st_ret (g_v hx.toHx (by decide +kernel))) gs0) gs0) (gs1 (st_if (g_cmp hx.toHx (g_v hx.toHx (by decide +kernel)) (g_k (by decide +kernel)) (by rfl)) (gs1 (st_ret (g_call hx.toHx (by decide +kernel) (ag1 (g_v hx.toHx (by decide +kernel)) (by rfl) ag0))) gs0) gs0) (gs1 (st_asg hx.toHs (g_call hx.toHx (by decide +kernel) (ag1 (g_ix (g_v hx.toHx (by decide +kernel)) (g_k (by decide +kernel)) (by rfl)) (by rfl) (ag1 (g_ix (g_v hx.toHx (by decide +kernel)) (g_k (by decide +kernel)) (by rfl)) (by rfl) ag0))) (by decide +kernel) (by rfl) (by rfl) (by rfl)) (gs1 (st_asg hx.toHs (g_call hx.toHx (by decide +kernel) (ag1 (g_ix (g_v hx.toHx (by decide +kernel)) (g_k (by decide +kernel)) (by rfl)) (by rfl) (ag1 (g_ix (g_v hx.toHx (by decide +kernel)) (g_k (by decide +kernel)) (by rfl)) (by rfl) ag0))) (by decide +kernel) (by rfl) (by rfl) (by rfl)) (gs1 (st_if (g_cmp hx.toHx (g_ix (g_v hx.toHx (by decide +kernel)) (g_k (by decide +kernel)) (by rfl)) (g_k (by decide +kernel)) (by rfl)) (gs1 (st_asg hx.toHs (g_blt hx.toHx .max (by decide +kernel) (ag1 (g_v hx.toHx (by decide +kernel)) (by rfl) (ag1 (g_call hx.toHx (by decide +kernel) (ag1 (g_v hx.toHx (by decide +kernel)) (by rfl) ag0)) (by rfl) ag0))) (by decide +kernel) (by rfl) (by rfl) (by rfl)) gs0) gs0) (gs1 (st_if (g_cmp hx.toHx (g_ix (g_v hx.toHx (by decide +kernel)) (g_k (by decide +kernel)) (by rfl)) (g_k (by decide +kernel)) (by rfl)) (gs1 (st_asg hx.toHs (g_blt hx.toHx .max (by decide +kernel) (ag1 (g_v hx.toHx (by decide +kernel)) (by rfl) (ag1 (g_call hx.toHx (by decide +kernel) (ag1 (g_v hx.toHx (by decide +kernel)) (by rfl) ag0)) (by rfl) ag0))) (by decide +kernel) (by rfl) (by rfl) (by rfl)) gs0) gs0) (gs1 (st_ret (g_call hx.toHx (by decide +kernel) (ag1 (g_ix (g_v hx.toHx (by decide +kernel)) (g_k (by decide +kernel)) (by rfl)) (by rfl) (ag1 (g_v hx.toHx (by decide +kernel)) (by rfl) (ag1 (g_v hx.toHx (by decide +kernel)) (by rfl) ag0))))) gs0)))))))
theorem ok_peak {X : Cx} {k : Nat} {C : Orc} {E : OrcX} (hx : Hz X ⟨d_peak.N, (defScope (top 17)).names, fs, xs⟩ k C E) : GS X C E (defBody (top 17)) d_peak.body := (gs1 (st_if (g_call hx.toHx (by decide +kernel) (ag1 (g_v hx.toHx (by decide +kernel)) (by rfl) ag0)) (gs1 (st_ret (g_v hx.toHx (by decide +kernel))) gs0) gs0) (gs1 (st_ret (g_bin (g_ix (g_v hx.toHx (by decide +kernel)) (g_k (by decide +kernel)) (by rfl)) (g_blt hx.toHx .max (by decide +kernel) (ag1 (g_call hx.toHx (by decide +kernel) (ag1 (g_ix (g_v hx.toHx (by decide +kernel)) (g_k (by decide +kernel)) (by rfl)) (by rfl) ag0)) (by rfl) (ag1 (g_call hx.toHx (by decide +kernel) (ag1 (g_ix (g_v hx.toHx (by decide +kernel)) (g_k (by decide +kernel)) (by rfl)) (by rfl) ag0)) (by rfl) ag0))))) gs0))
theorem ok_grown {X : Cx} {k : Nat} {C : Orc} {E : OrcX} (hx : Hz X ⟨d_grown.N, (defScope (top 18)).names, fs, xs⟩ k C E) : GS X C E (defBody (top 18)) d_grown.body := (gs1 (st_if (g_cmp hx.toHx (g_v hx.toHx (by decide +kernel)) (g_k (by decide +kernel)) (by rfl)) (gs1 (st_ret (g_tup (ag1 (g_k (by decide +kernel)) (by rfl) (ag1 (g_call hx.toHx (by decide +kernel) (ag1 (g_v hx.toHx (by decide +kernel)) (by rfl) (ag1 (g_k (by decide +kernel)) (by rfl) ag0))) (by rfl) ag0)))) gs0) gs0) (gs1 (st_if (g_cmp hx.toHx (g_ix (g_v hx.toHx (by decide +kernel)) (g_k (by decide +kernel)) (by rfl)) (g_k (by decide +kernel)) (by rfl)) (gs1 (st_ret (g_call hx.toHx (by decide +kernel) (ag1 (g_v hx.toHx (by decide +kernel)) (by rfl) (ag1 (g_v hx.toHx (by decide +kernel)) (by rfl) (ag1 (g_k (by decide +kernel)) (by rfl) ag0))))) gs0) gs0) (gs1 (st_if (g_cmp hx.toHx (g_ix (g_v hx.toHx (by decide +kernel)) (g_k (by decide +kernel)) (by rfl)) (g_k (by decide +kernel)) (by rfl)) (gs1 (st_ret (g_call hx.toHx (by decide +kernel) (ag1 (g_v hx.toHx (by decide +kernel)) (by rfl) (ag1 (g_v hx.toHx (by decide +kernel)) (by rfl) (ag1 (g_k (by decide +kernel)) (by rfl) ag0))))) gs0) gs0) (gs1 (st_ret (g_mink hx.toHx (by decide +kernel) (by decide +kernel) (g_call hx.toHx (by decide +kernel) (ag1 (g_v hx.toHx (by decide +kernel)) (by rfl) (ag1 (g_v hx.toHx (by decide +kernel)) (by rfl) (ag1 (g_k (by decide +kernel)) (by rfl) ag0)))) (g_call hx.toHx (by decide +kernel) (ag1 (g_v hx.toHx (by decide +kernel)) (by rfl) (ag1 (g_v hx.toHx (by decide +kernel)) (by rfl) (ag1 (g_k (by decide +kernel)) (by rfl) ag0)))) (by rfl) (by rfl))) gs0))))
theorem ok_grown_half {X : Cx} {k : Nat} {C : Orc} {E : OrcX} (hx : Hz X ⟨d_grown_half.N, (defScope (top 19)).names, fs, xs⟩ k C E) : GS X C E (defBody (top 19)) d_grown_half.body := (gs1 (st_asg hx.toHs (g_ife (g_call hx.toHx (by decide +kernel) (ag1 (g_v hx.toHx (by decide +kernel)) (by rfl) ag0)) (g_k (by decide +kernel)) (g_k (by decide +kernel))) (by decide +kernel) (by rfl) (by rfl) (by rfl)) (gs1 (st_asg hx.toHs (g_ife (g_call hx.toHx (by decide +kernel) (ag1 (g_v hx.toHx (by decide +kernel)) (by rfl) ag0)) (g_tup (ag1 (g_v hx.toHx (by decide +kernel)) (by rfl) (ag1 (g_k (by decide +kernel)) (by rfl) (ag1 (g_k (by decide +kernel)) (by rfl) ag0)))) (g_v hx.toHx (by decide +kernel))) (by decide +kernel) (by rfl) (by rfl) (by rfl)) (gs1 (st_asg hx.toHs (g_call hx.toHx (by decide +kernel) (ag1 (g_ix (g_v hx.toHx (by decide +kernel)) (g_bin (g_v hx.toHx (by decide +kernel)) (g_k (by decide +kernel))) (by rfl)) (by rfl) (ag1 (g_ix (g_v hx.toHx (by decide +kernel)) (g_v hx.toHx (by decide +kernel)) (by rfl)) (by rfl) ag0))) (by decide +kernel) (by rfl) (by rfl) (by rfl)) (gs1 (st_asg hx.toHs (g_ife (g_cmp hx.toHx (g_v hx.toHx (by decide +kernel)) (g_k (by decide +kernel)) (by rfl)) (g_ix (g_v hx.toHx (by decide +kernel)) (g_k (by decide +kernel)) (by rfl)) (g_ix (g_v hx.toHx (by decide +kernel)) (g_k (by decide +kernel)) (by rfl))) (by decide +kernel) (by rfl) (by rfl) (by rfl)) (gs1 (st_asg hx.toHs (g_ife (g_cmp hx.toHx (g_v hx.toHx (by decide +kernel)) (g_k (by decide +kernel)) (by rfl)) (g_ix (g_v hx.toHx (by decide +kernel)) (g_k (by decide +kernel)) (by rfl)) (g_ix (g_v hx.toHx (by decide +kernel)) (g_k (by decide +kernel)) (by rfl))) (by decide +kernel) (by rfl) (by rfl) (by rfl)) (gs1 (st_ret (g_tup (ag1 (g_bin (g_ix (g_v hx.toHx (by decide +kernel)) (g_k (by decide +kernel)) (by rfl)) (g_v hx.toHx (by decide +kernel))) (by rfl) (ag1 (g_call hx.toHx (by decide +kernel) (ag1 (g_ix (g_v hx.toHx (by decide +kernel)) (g_k (by decide +kernel)) (by rfl)) (by rfl) (ag1 (g_v hx.toHx (by decide +kernel)) (by rfl) (ag1 (g_v hx.toHx (by decide +kernel)) (by rfl) ag0)))) (by rfl) ag0)))) gs0))))))
theorem ok_triples_added {X : Cx} {k : Nat} {C : Orc} {E : OrcX} (hx : Hz X ⟨d_triples_added.N, (defScope (top 20)).names, fs, xs⟩ k C E) : GS X C E (defBody (top 20)) d_triples_added.body := (gs1 (st_ret (g_ix (g_v hx.toHx (by decide +kernel)) (g_k (by decide +kernel)) (by rfl))) gs0)
theorem ok_are_apart {X : Cx} {k : Nat} {C : Orc} {E : OrcX} (hx : Hz X ⟨d_are_apart.N, (defScope (top 22)).names, fs, xs⟩ k C E) : GS X C E (defBody (top 22)) d_are_apart.body := (gs1 (st_if (g_or (g_cmp hx.toHx (g_v hx.toHx (by decide +kernel)) (g_k (by decide +kernel)) (by rfl)) (g_one (g_cmp hx.toHx (g_v hx.toHx (by decide +kernel)) (g_k (by decide +kernel)) (by rfl)))) (gs1 (st_ret (g_k (by decide +kernel))) gs0) gs0) (gs1 (st_if (g_and (g_cmp hx.toHx (g_v hx.toHx (by decide +kernel)) (g_k (by decide +kernel)) (by rfl)) (g_one (g_cmp hx.toHx (g_v hx.toHx (by decide +kernel)) (g_k (by decide +kernel)) (by rfl)))) (gs1 (st_ret (g_k (by decide +kernel))) gs0) gs0) (gs1 (st_ret (g_and (g_call hx.toHx (by decide +kernel) (ag1 (g_call hx.toHx (by decide +kernel) (ag1 (g_v hx.toHx (by decide +kernel)) (by rfl) (ag1 (g_k (by decide +kernel)) (by rfl) ag0))) (by rfl) (ag1 (g_call hx.toHx (by decide +kernel) (ag1 (g_v hx.toHx (by decide +kernel)) (by rfl) (ag1 (g_k (by decide +kernel)) (by rfl) ag0))) (by rfl) ag0))) (g_one (g_call hx.toHx (by decide +kernel) (ag1 (g_call hx.toHx (by decide +kernel) (ag1 (g_v hx.toHx (by decide +kernel)) (by rfl) (ag1 (g_k (by decide +kernel)) (by rfl) ag0))) (by rfl) (ag1 (g_call hx.toHx (by decide +kernel) (ag1 (g_v hx.toHx (by decide +kernel)) (by rfl) (ag1 (g_k (by decide +kernel)) (by rfl) ag0))) (by rfl) ag0)))))) gs0)))
theorem ok_together {X : Cx} {k : Nat} {C : Orc} {E : OrcX} (hx : Hz X ⟨d_together.N, (defScope (top 23)).names, fs, xs⟩ k C E) : GS X C E (defBody (top 23)) d_together.body := (gs1 (st_if (g_not (g_call hx.toHx (by decide +kernel) (ag1 (g_v hx.toHx (by decide +kernel)) (by rfl) (ag1 (g_v hx.toHx (by decide +kernel)) (by rfl) ag0)))) (gs1 st_raise gs0) gs0) (gs1 (st_ret (g_call hx.toHx (by decide +kernel) (ag1 (g_v hx.toHx (by decide +kernel)) (by rfl) (ag1 (g_v hx.toHx (by decide +kernel)) (by rfl) ag0)))) gs0))
theorem ok_joined {X : Cx} {k : Nat} {C : Orc} {E : OrcX} (hx : Hz X ⟨d_joined.N, (defScope (top 24)).names, fs, xs⟩ k C E) : GS X C E (defBody (top 24)) d_joined.body := (gs1 (st_if (g_and (g_call hx.toHx (by decide +kernel) (ag1 (g_v hx.toHx (by decide +kernel)) (by rfl) ag0)) (g_one (g_call hx.toHx (by decide +kernel) (ag1 (g_v hx.toHx (by decide +kernel)) (by rfl) ag0)))) (gs1 (st_ret (g_blt hx.toHx .max (by decide +kernel) (ag1 (g_v hx.toHx (by decide +kernel)) (by rfl) (ag1 (g_v hx.toHx (by decide +kernel)) (by rfl) ag0)))) gs0) gs0) (gs1 (st_ret (g_call hx.toHx (by decide +kernel) (ag1 (g_call hx.toHx (by decide +kernel) (ag1 (g_call hx.toHx (by decide +kernel) (ag1 (g_v hx.toHx (by decide +kernel)) (by rfl) (ag1 (g_k (by decide +kernel)) (by rfl) ag0))) (by rfl) (ag1 (g_call hx.toHx (by decide +kernel) (ag1 (g_v hx.toHx (by decide +kernel)) (by rfl) (ag1 (g_k (by decide +kernel)) (by rfl) ag0))) (by rfl) ag0))) (by rfl) (ag1 (g_call hx.toHx (by decide +kernel) (ag1 (g_call hx.toHx (by decide +kernel) (ag1 (g_v hx.toHx (by decide +kernel)) (by rfl) (ag1 (g_k (by decide +kernel)) (by rfl) ag0))) (by rfl) (ag1 (g_call hx.toHx (by decide +kernel) (ag1 (g_v hx.toHx (by decide +kernel)) (by rfl) (ag1 (g_k (by decide +kernel)) (by rfl) ag0))) (by rfl) ag0))) (by rfl) ag0)))) gs0))
theorem ok_half {X : Cx} {k : Nat} {C : Orc} {E : OrcX} (hx : Hz X ⟨d_half.N, (defScope (top 25)).names, fs, xs⟩ k C E) : GS X C E (defBody (top 25)) d_half.body := (gs1 (st_ret (g_ife (g_call hx.toHx (by decide +kernel) (ag1 (g_v hx.toHx (by decide +kernel)) (by rfl) ag0)) (g_v hx.toHx (by decide +kernel)) (g_ix (g_v hx.toHx (by decide +kernel)) (g_v hx.toHx (by decide +kernel)) (by rfl)))) gs0)
theorem ok_halves {X : Cx} {k : Nat} {C : Orc} {E : OrcX} (hx : Hz X ⟨d_halves.N, (defScope (top 26)).names, fs, xs⟩ k C E) : GS X C E (defBody (top 26)) d_halves.body := (gs1 (st_ret (g_call hx.toHx (by decide +kernel) (ag1 (g_call hx.toHx (by decide +kernel) (ag1 (g_v hx.toHx (by decide +kernel)) (by rfl) ag0)) (by rfl) ag0))) gs0)
theorem ok_parted_in_two {X : Cx} {k : Nat} {C : Orc} {E : OrcX} (hx : Hz X ⟨d_parted_in_two.N, (defScope (top 27)).names, fs, xs⟩ k C E) : GS X C E (defBody (top 27)) d_parted_in_two.body := (gs1 (st_if (g_cmp hx.toHx (g_v hx.toHx (by decide +kernel)) (g_k (by decide +kernel)) (by rfl)) (gs1 (st_ret (g_tup (ag1 (g_k (by decide +kernel)) (by rfl) (ag1 (g_k (by decide +kernel)) (by rfl) ag0)))) gs0) gs0) (gs1 (st_if (g_cmp hx.toHx (g_v hx.toHx (by decide +kernel)) (g_k (by decide +kernel)) (by rfl)) (gs1 (st_ret (g_tup (ag1 (g_tup (ag1 (g_k (by decide +kernel)) (by rfl) (ag1 (g_k (by decide +kernel)) (by rfl) ag0))) (by rfl) (ag1 (g_tup (ag1 (g_k (by decide +kernel)) (by rfl) (ag1 (g_k (by decide +kernel)) (by rfl) ag0))) (by rfl) ag0)))) gs0) gs0) (gs1 (st_if (g_cmp hx.toHx (g_ix (g_v hx.toHx (by decide +kernel)) (g_k (by decide +kernel)) (by rfl)) (g_k (by decide +kernel)) (by rfl)) (gs1 (st_asg hx.toHs (g_call hx.toHx (by decide +kernel) (ag1 (g_ix (g_v hx.toHx (by decide +kernel)) (g_k (by decide +kernel)) (by rfl)) (by rfl) ag0)) (by decide +kernel) (by rfl) (by rfl) (by rfl)) (gs1 (st_ret (g_tup (ag1 (g_tup (ag1 (g_k (by decide +kernel)) (by rfl) (ag1 (g_ix (g_v hx.toHx (by decide +kernel)) (g_k (by decide +kernel)) (by rfl)) (by rfl) ag0))) (by rfl) (ag1 (g_tup (ag1 (g_k (by decide +kernel)) (by rfl) (ag1 (g_ix (g_v hx.toHx (by decide +kernel)) (g_k (by decide +kernel)) (by rfl)) (by rfl) ag0))) (by rfl) ag0)))) gs0)) gs0) (gs1 (st_if (g_cmp hx.toHx (g_ix (g_v hx.toHx (by decide +kernel)) (g_k (by decide +kernel)) (by rfl)) (g_k (by decide +kernel)) (by rfl)) (gs1 (st_asg hx.toHs (g_call hx.toHx (by decide +kernel) (ag1 (g_ix (g_v hx.toHx (by decide +kernel)) (g_k (by decide +kernel)) (by rfl)) (by rfl) ag0)) (by decide +kernel) (by rfl) (by rfl) (by rfl)) (gs1 (st_ret (g_tup (ag1 (g_tup (ag1 (g_ix (g_v hx.toHx (by decide +kernel)) (g_k (by decide +kernel)) (by rfl)) (by rfl) (ag1 (g_k (by decide +kernel)) (by rfl) ag0))) (by rfl) (ag1 (g_tup (ag1 (g_ix (g_v hx.toHx (by decide +kernel)) (g_k (by decide +kernel)) (by rfl)) (by rfl) (ag1 (g_k (by decide +kernel)) (by rfl) ag0))) (by rfl) ag0)))) gs0)) gs0) (gs1 (st_ret (g_tup (ag1 (g_tup (ag1 (g_ix (g_v hx.toHx (by decide +kernel)) (g_k (by decide +kernel)) (by rfl)) (by rfl) (ag1 (g_k (by decide +kernel)) (by rfl) ag0))) (by rfl) (ag1 (g_tup (ag1 (g_k (by decide +kernel)) (by rfl) (ag1 (g_ix (g_v hx.toHx (by decide +kernel)) (g_k (by decide +kernel)) (by rfl)) (by rfl) ag0))) (by rfl) ag0)))) gs0)))))
theorem ok_first {X : Cx} {k : Nat} {C : Orc} {E : OrcX} (hx : Hz X ⟨d_first.N, (defScope (top 29)).names, fs, xs⟩ k C E) : GS X C E (defBody (top 29)) d_first.body := (gs1 (st_ret (g_tup (ag1 (g_k (by decide +kernel)) (by rfl) (ag1 (g_k (by decide +kernel)) (by rfl) ag0)))) gs0)
theorem ok_parted {X : Cx} {k : Nat} {C : Orc} {E : OrcX} (hx : Hz X ⟨d_parted.N, (defScope (top 30)).names, fs, xs⟩ k C E) : GS X C E (defBody (top 30)) d_parted.body := (gs1 (st_asg hx.toHs (g_call hx.toHx (by decide +kernel) (ag1 (g_ix (g_v hx.toHx (by decide +kernel)) (g_k (by decide +kernel)) (by rfl)) (by rfl) ag0)) (by decide +kernel) (by rfl) (by rfl) (by rfl)) (gs1 (st_ret (g_tup (ag1 (g_tup (ag1 (g_ix (g_v hx.toHx (by decide +kernel)) (g_k (by decide +kernel)) (by rfl)) (by rfl) (ag1 (g_ix (g_v hx.toHx (by decide +kernel)) (g_k (by decide +kernel)) (by rfl)) (by rfl) ag0))) (by rfl) (ag1 (g_tup (ag1 (g_ix (g_v hx.toHx (by decide +kernel)) (g_k (by decide +kernel)) (by rfl)) (by rfl) (ag1 (g_ix (g_v hx.toHx (by decide +kernel)) (g_k (by decide +kernel)) (by rfl)) (by rfl) ag0))) (by rfl) ag0)))) gs0))
theorem ok_done {X : Cx} {k : Nat} {C : Orc} {E : OrcX} (hx : Hz X ⟨d_done.N, (defScope (top 31)).names, fs, xs⟩ k C E) : GS X C E (defBody (top 31)) d_done.body := (gs1 (st_ret (g_tup (ag1 (g_ix (g_v hx.toHx (by decide +kernel)) (g_k (by decide +kernel)) (by rfl)) (by rfl) (ag1 (g_call hx.toHx (by decide +kernel) (ag1 (g_ix (g_v hx.toHx (by decide +kernel)) (g_k (by decide +kernel)) (by rfl)) (by rfl) (ag1 (g_ix (g_v hx.toHx (by decide +kernel)) (g_k (by decide +kernel)) (by rfl)) (by rfl) ag0))) (by rfl) ag0)))) gs0)
theorem ok_sent {X : Cx} {k : Nat} {C : Orc} {E : OrcX} (hx : Hz X ⟨d_sent.N, (defScope (top 32)).names, fs, xs⟩ k C E) : GS X C E (defBody (top 32)) d_sent.body := (gs1 (st_ret (g_tup (ag1 (g_k (by decide +kernel)) (by rfl) (ag1 (g_ix (g_v hx.toHx (by decide +kernel)) (g_k (by decide +kernel)) (by rfl)) (by rfl) ag0)))) gs0)
theorem ok_met {X : Cx} {k : Nat} {C : Orc} {E : OrcX} (hx : Hz X ⟨d_met.N, (defScope (top 33)).names, fs, xs⟩ k C E) : GS X C E (defBody (top 33)) d_met.body := (gs1 (st_ret (g_tup (ag1 (g_call hx.toHx (by decide +kernel) (ag1 (g_ix (g_v hx.toHx (by decide +kernel)) (g_k (by decide +kernel)) (by rfl)) (by rfl) (ag1 (g_ix (g_v hx.toHx (by decide +kernel)) (g_k (by decide +kernel)) (by rfl)) (by rfl) ag0))) (by rfl) (ag1 (g_call hx.toHx (by decide +kernel) (ag1 (g_ix (g_v hx.toHx (by decide +kernel)) (g_k (by decide +kernel)) (by rfl)) (by rfl) (ag1 (g_ix (g_v hx.toHx (by decide +kernel)) (g_k (by decide +kernel)) (by rfl)) (by rfl) ag0))) (by rfl) ag0)))) gs0)
theorem ok__law_cell_at {X : Cx} {k : Nat} {C : Orc} {E : OrcX} (hx : Hz X ⟨d__law_cell_at.N, (defScope (top 35)).names, fs, xs⟩ k C E) : GS X C E (defBody (top 35)) d__law_cell_at.body := (gs1 (st_if (g_cmp hx.toHx (g_v hx.toHx (by decide +kernel)) (g_blt hx.toHx .len (by decide +kernel) (ag1 (g_v hx.toHx (by decide +kernel)) (by rfl) ag0)) (by rfl)) (gs1 (st_ret (g_ix (g_v hx.toHx (by decide +kernel)) (g_v hx.toHx (by decide +kernel)) (by rfl))) gs0) gs0) (gs1 (st_ret (g_k (by decide +kernel))) gs0))
theorem ok__law_mixed {X : Cx} {k : Nat} {C : Orc} {E : OrcX} (hx : Hz X ⟨d__law_mixed.N, (defScope (top 36)).names, fs, xs⟩ k C E) : GS X C E (defBody (top 36)) d__law_mixed.body := (gs1 (st_asg hx.toHs (g_bin (g_bin (g_bin (g_bin (g_call hx.toHx (by decide +kernel) (ag1 (g_v hx.toHx (by decide +kernel)) (by rfl) (ag1 (g_v hx.toHx (by decide +kernel)) (by rfl) ag0))) (g_bin (g_k (by decide +kernel)) (g_v hx.toHx (by decide +kernel)))) (g_k (by decide +kernel))) (g_k (by decide +kernel))) (g_k (by decide +kernel))) (by decide +kernel) (by rfl) (by rfl) (by rfl)) (gs1 (st_ret (g_bin (g_bin (g_bin (g_bin (g_v hx.toHx (by decide +kernel)) (g_v hx.toHx (by decide +kernel))) (g_bin (g_k (by decide +kernel)) (g_v hx.toHx (by decide +kernel)))) (g_v hx.toHx (by decide +kernel))) (g_k (by decide +kernel)))) gs0))
theorem ok__law_paths {X : Cx} {k : Nat} {C : Orc} {E : OrcX} (hx : Hz X ⟨d__law_paths.N, (defScope (top 38)).names, fs, xs⟩ k C E) : GS X C E (defBody (top 38)) d__law_paths.body := (gs1 (st_if (g_not (g_isin hx.toHx .tuple (by decide +kernel) (g_v hx.toHx (by decide +kernel)) (by rfl))) (gs1 (st_ret (g_lst (ag1 (g_k (by decide +kernel)) (by rfl) ag0))) gs0) gs0) (gs1 (st_asg hx.toHs (g_sl (g_v hx.toHx (by decide +kernel)) (so1 (g_neg (g_k (by decide +kernel))) (by rfl)) so0) (by decide +kernel) (by rfl) (by rfl) (by rfl)) (gs1 (st_ret (g_bin (g_comp hx.toHx (by decide +kernel) (by decide +kernel) (ig_seq (g_call hx.toHx (by decide +kernel) (ag1 (g_v hx.toHx (by decide +kernel)) (by rfl) ag0)) (by rfl)) (fun _ h' => (g_bin (g_k (by decide +kernel)) (g_v h' (by decide +kernel))))) (g_comp hx.toHx (by decide +kernel) (by decide +kernel) (ig_seq (g_call hx.toHx (by decide +kernel) (ag1 (g_v hx.toHx (by decide +kernel)) (by rfl) ag0)) (by rfl)) (fun _ h' => (g_bin (g_k (by decide +kernel)) (g_v h' (by decide +kernel))))))) gs0)))
theorem ok__law_at {X : Cx} {k : Nat} {C : Orc} {E : OrcX} (hx : Hz X ⟨d__law_at.N, (defScope (top 39)).names, fs, xs⟩ k C E) : GS X C E (defBody (top 39)) d__law_at.body := (gs1 (st_asg hx.toHs (g_k (by decide +kernel)) (by decide +kernel) (by rfl) (by rfl) (by rfl)) (gs1 (st_asg hx.toHs (g_v hx.toHx (by decide +kernel)) (by decide +kernel) (by rfl) (by rfl) (by rfl)) (gs1 (st_for hx.toHs (by decide +kernel) (ig_seq (g_bin (g_v hx.toHx (by decide +kernel)) (g_bin (g_k (by decide +kernel)) (g_k (by decide +kernel)))) (by rfl)) (gs1 (st_if (g_not (g_isin hx.toHx .tuple (by decide +kernel) (g_v hx.toHx (by decide +kernel)) (by rfl))) (gs1 (st_ret (g_bin (g_v hx.toHx (by decide +kernel)) (g_v hx.toHx (by decide +kernel)))) gs0) gs0) (gs1 (st_if (g_cmp hx.toHx (g_blt hx.toHx .len (by decide +kernel) (ag1 (g_v hx.toHx (by decide +kernel)) (by rfl) ag0)) (g_k (by decide +kernel)) (by rfl)) (gs1 (st_asg hx.toHs (g_bin (g_v hx.toHx (by decide +kernel)) (g_ix (g_v hx.toHx (by decide +kernel)) (g_k (by decide +kernel)) (by rfl))) (by decide +kernel) (by rfl) (by rfl) (by rfl)) gs0) gs0) (gs1 (st_asg hx.toHs (g_ix (g_v hx.toHx (by decide +kernel)) (g_bin (g_bin (g_blt hx.toHx .len (by decide +kernel) (ag1 (g_v hx.toHx (by decide +kernel)) (by rfl) ag0)) (g_k (by decide +kernel))) (g_blt hx.toHx .int (by decide +kernel) (ag1 (g_cmp hx.toHx (g_v hx.toHx (by decide +kernel)) (g_k (by decide +kernel)) (by rfl)) (by rfl) ag0))) (by rfl)) (by decide +kernel) (by rfl) (by rfl) (by rfl)) gs0)))) (gs1 (st_ret (g_k (by decide +kernel))) gs0))))
theorem ok__law_plain_part {X : Cx} {k : Nat} {C : Orc} {E : OrcX} (hx : Hz X ⟨d__law_plain_part.N, (defScope (top 40)).names, fs, xs⟩ k C E) : GS X C E (defBody (top 40)) d__law_plain_part.body := (gs1 (st_if (g_not (g_isin hx.toHx .tuple (by decide +kernel) (g_v hx.toHx (by decide +kernel)) (by rfl))) (gs1 (st_ret (g_v hx.toHx (by decide +kernel))) gs0) gs0) (gs1 (st_asg hx.toHs (g_call hx.toHx (by decide +kernel) (ag1 (g_ix (g_v hx.toHx (by decide +kernel)) (g_k (by decide +kernel)) (by rfl)) (by rfl) ag0)) (by decide +kernel) (by rfl) (by rfl) (by rfl)) (gs1 (st_asg hx.toHs (g_call hx.toHx (by decide +kernel) (ag1 (g_ix (g_v hx.toHx (by decide +kernel)) (g_k (by decide +kernel)) (by rfl)) (by rfl) ag0)) (by decide +kernel) (by rfl) (by rfl) (by rfl)) (gs1 (st_if (g_and (g_cmp hx.toHx (g_v hx.toHx (by decide +kernel)) (g_v hx.toHx (by decide +kernel)) (by rfl)) (g_one (g_cmp hx.toHx (g_v hx.toHx (by decide +kernel)) (g_tup (ag1 (g_k (by decide +kernel)) (by rfl) (ag1 (g_k (by decide +kernel)) (by rfl) ag0))) (by rfl)))) (gs1 (st_ret (g_v hx.toHx (by decide +kernel))) gs0) gs0) (gs1 (st_ret (g_tup (ag1 (g_v hx.toHx (by decide +kernel)) (by rfl) (ag1 (g_v hx.toHx (by decide +kernel)) (by rfl) ag0)))) gs0)))))
theorem ok__law_more {X : Cx} {k : Nat} {C : Orc} {E : OrcX} (hx : Hz X ⟨d__law_more.N, (defScope (top 41)).names, fs, xs⟩ k C E) : GS X C E (defBody (top 41)) d__law_more.body := (gs1 (st_if (g_isin hx.toHx .tuple (by decide +kernel) (g_v hx.toHx (by decide +kernel)) (by rfl)) (gs1 (st_ret (g_tup (ag1 (g_bin (g_ix (g_v hx.toHx (by decide +kernel)) (g_k (by decide +kernel)) (by rfl)) (g_v hx.toHx (by decide +kernel))) (by rfl) (ag1 (g_ix (g_v hx.toHx (by decide +kernel)) (g_k (by decide +kernel)) (by rfl)) (by rfl) (ag1 (g_ix (g_v hx.toHx (by decide +kernel)) (g_k (by decide +kernel)) (by rfl)) (by rfl) ag0))))) gs0) gs0) (gs1 (st_ret (g_bin (g_v hx.toHx (by decide +kernel)) (g_v hx.toHx (by decide +kernel)))) gs0))
theorem ok__law_front {X : Cx} {k : Nat} {C : Orc} {E : OrcX} (hx : Hz X ⟨d__law_front.N, (defScope (top 42)).names, fs, xs⟩ k C E) : GS X C E (defBody (top 42)) d__law_front.body := (gs1 (st_if (g_isin hx.toHx .tuple (by decide +kernel) (g_v hx.toHx (by decide +kernel)) (by rfl)) (gs1 (st_ret (g_ix (g_v hx.toHx (by decide +kernel)) (g_k (by decide +kernel)) (by rfl))) gs0) gs0) (gs1 (st_ret (g_v hx.toHx (by decide +kernel))) gs0))
theorem ok__law_plain_count {X : Cx} {k : Nat} {C : Orc} {E : OrcX} (hx : Hz X ⟨d__law_plain_count.N, (defScope (top 43)).names, fs, xs⟩ k C E) : GS X C E (defBody (top 43)) d__law_plain_count.body := (gs1 (st_if (g_not (g_isin hx.toHx .tuple (by decide +kernel) (g_v hx.toHx (by decide +kernel)) (by rfl))) (gs1 (st_ret (g_v hx.toHx (by decide +kernel))) gs0) gs0) (gs1 (st_asg hx.toHs (g_call hx.toHx (by decide +kernel) (ag1 (g_ix (g_v hx.toHx (by decide +kernel)) (g_k (by decide +kernel)) (by rfl)) (by rfl) ag0)) (by decide +kernel) (by rfl) (by rfl) (by rfl)) (gs1 (st_asg hx.toHs (g_call hx.toHx (by decide +kernel) (ag1 (g_ix (g_v hx.toHx (by decide +kernel)) (g_k (by decide +kernel)) (by rfl)) (by rfl) ag0)) (by decide +kernel) (by rfl) (by rfl) (by rfl)) (gs1 (st_asg hx.toHs (g_blt hx.toHx .min (by decide +kernel) (ag1 (g_call hx.toHx (by decide +kernel) (ag1 (g_v hx.toHx (by decide +kernel)) (by rfl) ag0)) (by rfl) (ag1 (g_call hx.toHx (by decide +kernel) (ag1 (g_v hx.toHx (by decide +kernel)) (by rfl) ag0)) (by rfl) ag0))) (by decide +kernel) (by rfl) (by rfl) (by rfl)) (gs1 (st_if (g_and (g_cmp hx.toHx (g_v hx.toHx (by decide +kernel)) (g_v hx.toHx (by decide +kernel)) (by rfl)) (g_one (g_cmp hx.toHx (g_v hx.toHx (by decide +kernel)) (g_v hx.toHx (by decide +kernel)) (by rfl)))) (gs1 (st_ret (g_bin (g_ix (g_v hx.toHx (by decide +kernel)) (g_k (by decide +kernel)) (by rfl)) (g_v hx.toHx (by decide +kernel)))) gs0) gs0) (gs1 (st_ret (g_tup (ag1 (g_bin (g_ix (g_v hx.toHx (by decide +kernel)) (g_k (by decide +kernel)) (by rfl)) (g_v hx.toHx (by decide +kernel))) (by rfl) (ag1 (g_call hx.toHx (by decide +kernel) (ag1 (g_v hx.toHx (by decide +kernel)) (by rfl) (ag1 (g_neg (g_v hx.toHx (by decide +kernel))) (by rfl) ag0))) (by rfl) (ag1 (g_call hx.toHx (by decide +kernel) (ag1 (g_v hx.toHx (by decide +kernel)) (by rfl) (ag1 (g_neg (g_v hx.toHx (by decide +kernel))) (by rfl) ag0))) (by rfl) ag0))))) gs0))))))
theorem ok__law_whole {X : Cx} {k : Nat} {C : Orc} {E : OrcX} (hx : Hz X ⟨d__law_whole.N, (defScope (top 44)).names, fs, xs⟩ k C E) : GS X C E (defBody (top 44)) d__law_whole.body := (gs1 (st_ret (g_and (g_isin hx.toHx .int (by decide +kernel) (g_v hx.toHx (by decide +kernel)) (by rfl)) (g_and (g_not (g_isin hx.toHx .bool (by decide +kernel) (g_v hx.toHx (by decide +kernel)) (by rfl))) (g_one (g_cmp hx.toHx (g_v hx.toHx (by decide +kernel)) (g_k (by decide +kernel)) (by rfl)))))) gs0)
theorem ok__law_is_part {X : Cx} {k : Nat} {C : Orc} {E : OrcX} (hx : Hz X ⟨d__law_is_part.N, (defScope (top 45)).names, fs, xs⟩ k C E) : GS X C E (defBody (top 45)) d__law_is_part.body := (gs1 (st_if (g_call hx.toHx (by decide +kernel) (ag1 (g_v hx.toHx (by decide +kernel)) (by rfl) ag0)) (gs1 (st_ret (g_cmp hx.toHx (g_v hx.toHx (by decide +kernel)) (g_k (by decide +kernel)) (by rfl))) gs0) gs0) (gs1 (st_if (g_or (g_not (g_isin hx.toHx .tuple (by decide +kernel) (g_v hx.toHx (by decide +kernel)) (by rfl))) (g_one (g_cmp hx.toHx (g_blt hx.toHx .len (by decide +kernel) (ag1 (g_v hx.toHx (by decide +kernel)) (by rfl) ag0)) (g_k (by decide +kernel)) (by rfl)))) (gs1 (st_ret (g_k (by decide +kernel))) gs0) gs0) (gs1 (st_ret (g_and (g_call hx.toHx (by decide +kernel) (ag1 (g_ix (g_v hx.toHx (by decide +kernel)) (g_k (by decide +kernel)) (by rfl)) (by rfl) ag0)) (g_and (g_call hx.toHx (by decide +kernel) (ag1 (g_ix (g_v hx.toHx (by decide +kernel)) (g_k (by decide +kernel)) (by rfl)) (by rfl) ag0)) (g_one (g_cmp hx.toHx (g_call hx.toHx (by decide +kernel) (ag1 (g_v hx.toHx (by decide +kernel)) (by rfl) ag0)) (g_v hx.toHx (by decide +kernel)) (by rfl)))))) gs0)))
theorem ok__law_is_count {X : Cx} {k : Nat} {C : Orc} {E : OrcX} (hx : Hz X ⟨d__law_is_count.N, (defScope (top 46)).names, fs, xs⟩ k C E) : GS X C E (defBody (top 46)) d__law_is_count.body := (gs1 (st_if (g_call hx.toHx (by decide +kernel) (ag1 (g_v hx.toHx (by decide +kernel)) (by rfl) ag0)) (gs1 (st_ret (g_k (by decide +kernel))) gs0) gs0) (gs1 (st_if (g_or (g_not (g_isin hx.toHx .tuple (by decide +kernel) (g_v hx.toHx (by decide +kernel)) (by rfl))) (g_or (g_cmp hx.toHx (g_blt hx.toHx .len (by decide +kernel) (ag1 (g_v hx.toHx (by decide +kernel)) (by rfl) ag0)) (g_k (by decide +kernel)) (by rfl)) (g_one (g_not (g_call hx.toHx (by decide +kernel) (ag1 (g_ix (g_v hx.toHx (by decide +kernel)) (g_k (by decide +kernel)) (by rfl)) (by rfl) ag0)))))) (gs1 (st_ret (g_k (by decide +kernel))) gs0) gs0) (gs1 (st_ret (g_and (g_call hx.toHx (by decide +kernel) (ag1 (g_ix (g_v hx.toHx (by decide +kernel)) (g_k (by decide +kernel)) (by rfl)) (by rfl) ag0)) (g_and (g_call hx.toHx (by decide +kernel) (ag1 (g_ix (g_v hx.toHx (by decide +kernel)) (g_k (by decide +kernel)) (by rfl)) (by rfl) ag0)) (g_one (g_cmp hx.toHx (g_call hx.toHx (by decide +kernel) (ag1 (g_v hx.toHx (by decide +kernel)) (by rfl) ag0)) (g_v hx.toHx (by decide +kernel)) (by rfl)))))) gs0)))
theorem ok__law_is_clock {X : Cx} {k : Nat} {C : Orc} {E : OrcX} (hx : Hz X ⟨d__law_is_clock.N, (defScope (top 47)).names, fs, xs⟩ k C E) : GS X C E (defBody (top 47)) d__law_is_clock.body := (gs1 (st_if (g_or (g_not (g_isin hx.toHx .tuple (by decide +kernel) (g_v hx.toHx (by decide +kernel)) (by rfl))) (g_one (g_cmp hx.toHx (g_blt hx.toHx .len (by decide +kernel) (ag1 (g_v hx.toHx (by decide +kernel)) (by rfl) ag0)) (g_k (by decide +kernel)) (by rfl)))) (gs1 (st_ret (g_k (by decide +kernel))) gs0) gs0) (gs1 (st_ret (g_and (g_call hx.toHx (by decide +kernel) (ag1 (g_ix (g_v hx.toHx (by decide +kernel)) (g_k (by decide +kernel)) (by rfl)) (by rfl) ag0)) (g_one (g_call hx.toHx (by decide +kernel) (ag1 (g_ix (g_v hx.toHx (by decide +kernel)) (g_k (by decide +kernel)) (by rfl)) (by rfl) ag0))))) gs0))
theorem ok__law_deed {X : Cx} {k : Nat} {C : Orc} {E : OrcX} (hx : Hz X ⟨d__law_deed.N, (defScope (top 48)).names, fs, xs⟩ k C E) : GS X C E (defBody (top 48)) d__law_deed.body := (gs1 (st_asg hx.toHs (g_bin (g_bin (g_v hx.toHx (by decide +kernel)) (g_k (by decide +kernel))) (g_blt hx.toHx .len (by decide +kernel) (ag1 (g_v hx.toHx (by decide +kernel)) (by rfl) ag0))) (by decide +kernel) (by rfl) (by rfl) (by rfl)) (gs1 (st_asg hx.toHs (g_bin (g_bin (g_v hx.toHx (by decide +kernel)) (g_k (by decide +kernel))) (g_blt hx.toHx .len (by decide +kernel) (ag1 (g_v hx.toHx (by decide +kernel)) (by rfl) ag0))) (by decide +kernel) (by rfl) (by rfl) (by rfl)) (gs1 (st_asg hx.toHs (g_ix (g_v hx.toHx (by decide +kernel)) (g_v hx.toHx (by decide +kernel)) (by rfl)) (by decide +kernel) (by rfl) (by rfl) (by rfl)) (gs1 (st_if (g_and (g_cmp hx.toHx (g_bin (g_v hx.toHx (by decide +kernel)) (g_k (by decide +kernel))) (g_k (by decide +kernel)) (by rfl)) (g_one (g_cmp hx.toHx (g_blt hx.toHx .len (by decide +kernel) (ag1 (g_v hx.toHx (by decide +kernel)) (by rfl) ag0)) (g_k (by decide +kernel)) (by rfl)))) (gs1 (st_asg hx.toHs (g_call hx.toHx (by decide +kernel) (ag1 (g_v hx.toHx (by decide +kernel)) (by rfl) ag0)) (by decide +kernel) (by rfl) (by rfl) (by rfl)) (gs1 (st_ret (g_bin (g_bin (g_sl (g_v hx.toHx (by decide +kernel)) so0 (so1 (g_v hx.toHx (by decide +kernel)) (by rfl))) (g_lst (ag1 (g_tup (ag1 (g_v hx.toHx (by decide +kernel)) (by rfl) (ag1 (g_v hx.toHx (by decide +kernel)) (by rfl) ag0))) (by rfl) (ag1 (g_tup (ag1 (g_v hx.toHx (by decide +kernel)) (by rfl) (ag1 (g_v hx.toHx (by decide +kernel)) (by rfl) ag0))) (by rfl) ag0)))) (g_sl (g_v hx.toHx (by decide +kernel)) (so1 (g_bin (g_v hx.toHx (by decide +kernel)) (g_k (by decide +kernel))) (by rfl)) so0))) gs0)) gs0) (gs1 (st_if (g_or (g_cmp hx.toHx (g_bin (g_v hx.toHx (by decide +kernel)) (g_k (by decide +kernel))) (g_k (by decide +kernel)) (by rfl)) (g_one (g_cmp hx.toHx (g_v hx.toHx (by decide +kernel)) (g_v hx.toHx (by decide +kernel)) (by rfl)))) (gs1 (st_ret (g_bin (g_bin (g_sl (g_v hx.toHx (by decide +kernel)) so0 (so1 (g_v hx.toHx (by decide +kernel)) (by rfl))) (g_lst (ag1 (g_tup (ag1 (g_call hx.toHx (by decide +kernel) (ag1 (g_v hx.toHx (by decide +kernel)) (by rfl) ag0)) (by rfl) (ag1 (g_bin (g_v hx.toHx (by decide +kernel)) (g_tup (ag1 (g_v hx.toHx (by decide +kernel)) (by rfl) ag0))) (by rfl) ag0))) (by rfl) ag0))) (g_sl (g_v hx.toHx (by decide +kernel)) (so1 (g_bin (g_v hx.toHx (by decide +kernel)) (g_k (by decide +kernel))) (by rfl)) so0))) gs0) gs0) (gs1 (st_asg hx.toHs (g_ix (g_v hx.toHx (by decide +kernel)) (g_v hx.toHx (by decide +kernel)) (by rfl)) (by decide +kernel) (by rfl) (by rfl) (by rfl)) (gs1 (st_asg hx.toHs (g_blt hx.toHx .tuple (by decide +kernel) (ag1 (g_sset hx.toHx (by decide +kernel) (g_bin (g_v hx.toHx (by decide +kernel)) (g_v hx.toHx (by decide +kernel))) (by rfl)) (by rfl) ag0)) (by decide +kernel) (by rfl) (by rfl) (by rfl)) (gs1 (st_if (g_cmp hx.toHx (g_bin (g_v hx.toHx (by decide +kernel)) (g_k (by decide +kernel))) (g_k (by decide +kernel)) (by rfl)) (gs1 (st_ret (g_bin (g_bin (g_sl (g_v hx.toHx (by decide +kernel)) so0 (so1 (g_v hx.toHx (by decide +kernel)) (by rfl))) (g_lst (ag1 (g_tup (ag1 (g_call hx.toHx (by decide +kernel) (ag1 (g_v hx.toHx (by decide +kernel)) (by rfl) (ag1 (g_call hx.toHx (by decide +kernel) (ag1 (g_v hx.toHx (by decide +kernel)) (by rfl) ag0)) (by rfl) ag0))) (by rfl) (ag1 (g_v hx.toHx (by decide +kernel)) (by rfl) ag0))) (by rfl) ag0))) (g_sl (g_v hx.toHx (by decide +kernel)) (so1 (g_bin (g_v hx.toHx (by decide +kernel)) (g_k (by decide +kernel))) (by rfl)) so0))) gs0) gs0) (gs1 (st_compI hx.toHs (by decide +kernel) (by decide +kernel) (ig_enum hx.toHx (by decide +kernel) (g_v hx.toHx (by decide +kernel)) (by rfl)) (fun _ h' => (g_v h' (by decide +kernel))) (fun _ h' => (g_cmp h' (g_v h' (by decide +kernel)) (g_tup (ag1 (g_v h' (by decide +kernel)) (by rfl) (ag1 (g_v h' (by decide +kernel)) (by rfl) ag0))) (by rfl))) (by decide +kernel) (by decide +kernel)) (gs1 (st_ret (g_bin (g_v hx.toHx (by decide +kernel)) (g_lst (ag1 (g_tup (ag1 (g_call hx.toHx (by decide +kernel) (ag1 (g_v hx.toHx (by decide +kernel)) (by rfl) (ag1 (g_v hx.toHx (by decide +kernel)) (by rfl) ag0))) (by rfl) (ag1 (g_v hx.toHx (by decide +kernel)) (by rfl) ag0))) (by rfl) ag0)))) gs0))))))))))
theorem ok__law_run {X : Cx} {k : Nat} {C : Orc} {E : OrcX} (hx : Hz X ⟨d__law_run.N, (defScope (top 49)).names, fs, xs⟩ k C E) : GS X C E (defBody (top 49)) d__law_run.body := (gs1 (st_asg hx.toHs (g_lst (ag1 (g_tup (ag1 (g_call0 hx.toHx (by decide +kernel)) (by rfl) (ag1 (g_tup ag0) (by rfl) ag0))) (by rfl) ag0)) (by decide +kernel) (by rfl) (by rfl) (by rfl)) (gs1 (st_asg hx.toHs (g_blt hx.toHx .list (by decide +kernel) (ag1 (g_v hx.toHx (by decide +kernel)) (by rfl) ag0)) (by decide +kernel) (by rfl) (by rfl) (by rfl)) (gs1 (st_for hx.toHs (by decide +kernel) (ig_rng1 hx.toHx (by decide +kernel) (g_bin (g_call hx.toHx (by decide +kernel) (ag1 (g_v hx.toHx (by decide +kernel)) (by rfl) (ag1 (g_k (by decide +kernel)) (by rfl) ag0))) (g_bin (g_v hx.toHx (by decide +kernel)) (g_k (by decide +kernel)))) (by rfl)) (gs1 (st_asg hx.toHs (g_call hx.toHx (by decide +kernel) (ag1 (g_v hx.toHx (by decide +kernel)) (by rfl) (ag1 (g_call hx.toHx (by decide +kernel) (ag1 (g_v hx.toHx (by decide +kernel)) (by rfl) (ag1 (g_bin (g_k (by decide +kernel)) (g_v hx.toHx (by decide +kernel))) (by rfl) ag0))) (by rfl) (ag1 (g_v hx.toHx (by decide +kernel)) (by rfl) ag0)))) (by decide +kernel) (by rfl) (by rfl) (by rfl)) (gs1 (st_asg hx.toHs (g_bin (g_v hx.toHx (by decide +kernel)) (g_compI hx.toHx (by decide +kernel) (by decide +kernel) (ig_seq (g_v hx.toHx (by decide +kernel)) (by rfl)) (fun _ h' => (g_v h' (by decide +kernel))) (fun _ h' => (g_cmp h' (g_v h' (by decide +kernel)) (g_v h' (by decide +kernel)) (by rfl))))) (by decide +kernel) (by rfl) (by rfl) (by rfl)) gs0))) (gs1 (st_ret (g_tup (ag1 (g_v hx.toHx (by decide +kernel)) (by rfl) (ag1 (g_v hx.toHx (by decide +kernel)) (by rfl) ag0)))) gs0))))
theorem ok_law {X : Cx} {k : Nat} {C : Orc} {E : OrcX} (hx : Hz X ⟨d_law.N, (defScope (top 50)).names, fs, xs⟩ k C E) : GS X C E (defBody (top 50)) d_law.body := (gs1 (st_asg hx.toHs (g_call hx.toHx (by decide +kernel) (ag1 (g_v hx.toHx (by decide +kernel)) (by rfl) (ag1 (g_k (by decide +kernel)) (by rfl) ag0))) (by decide +kernel) (by rfl) (by rfl) (by rfl)) (gs1 (st_asg hx.toHs (g_lst ag0) (by decide +kernel) (by rfl) (by rfl) (by rfl)) (gs1 (st_for hx.toHs (by decide +kernel) (ig_seq (g_v hx.toHx (by decide +kernel)) (by rfl)) (gs1 (st_if (g_or (g_not (g_call hx.toHx (by decide +kernel) (ag1 (g_v hx.toHx (by decide +kernel)) (by rfl) ag0))) (g_one (g_cmp hx.toHx (g_ix (g_v hx.toHx (by decide +kernel)) (g_k (by decide +kernel)) (by rfl)) (g_k (by decide +kernel)) (by rfl)))) (gs1 (st_ret (g_k (by decide +kernel))) gs0) gs0) (gs1 (st_asg hx.toHs (g_bin (g_v hx.toHx (by decide +kernel)) (g_call hx.toHx (by decide +kernel) (ag1 (g_ix (g_v hx.toHx (by decide +kernel)) (g_k (by decide +kernel)) (by rfl)) (by rfl) ag0))) (by decide +kernel) (by rfl) (by rfl) (by rfl)) gs0))) (gs1 (st_for hx.toHs (by decide +kernel) (ig_seq (g_v hx.toHx (by decide +kernel)) (by rfl)) (gs1 (st_if (g_cmp hx.toHx (g_blt hx.toHx .sum (by decide +kernel) (ag1 (g_comp hx.toHx (by decide +kernel) (by decide +kernel) (ig_seq (g_v hx.toHx (by decide +kernel)) (by rfl)) (fun _ h' => (g_call h' (by decide +kernel) (ag1 (g_ix (g_v h' (by decide +kernel)) (g_k (by decide +kernel)) (by rfl)) (by rfl) (ag1 (g_v h' (by decide +kernel)) (by rfl) ag0))))) (by rfl) ag0)) (g_k (by decide +kernel)) (by rfl)) (gs1 (st_ret (g_k (by decide +kernel))) gs0) gs0) gs0)) (gs1 (st_ret (g_k (by decide +kernel))) gs0)))))
/-- a def stands behind the top as the text says -/
noncomputable def TxtOf (K : PySem.W.Frag) (x : Str) (ps : List Str) (st : Stmt) : Prop := ∃ f fd, PySem.W.nsIn K mainGlobals x = some (some (.ref f)) ∧ Fun K x x st f fd ∧ Binds K fd ps []
noncomputable def BindOk (x : Str) (ps : List Str) (st : Stmt) : Prop := ∀ (kV doc pm : Value) (an : Option Addr) (cdv ct : Value) (us : List Value), us.length = ps.length → bindArgs (PySem.W.fnOf x x (defArgs st) (defBody st) (defScope st) .none kV doc pm an cdv ct) ⟨us, []⟩ = pure (ps.zip us)
theorem bo0 {x : Str} {st : Stmt} (h : ∀ (kV doc pm : Value) (an : Option Addr) (cdv ct : Value), bindArgs (PySem.W.fnOf x x (defArgs st) (defBody st) (defScope st) .none kV doc pm an cdv ct) ⟨[], []⟩ = pure []) : BindOk x [] st := fun kV doc pm an cdv ct us hl => by
  obtain rfl := List.length_eq_zero_iff.mp hl
  exact h kV doc pm an cdv ct
theorem bo1 {x p : Str} {st : Stmt} (h : ∀ (kV doc pm : Value) (an : Option Addr) (cdv ct u : Value), bindArgs (PySem.W.fnOf x x (defArgs st) (defBody st) (defScope st) .none kV doc pm an cdv ct) ⟨[u], []⟩ = pure [(p, u)]) : BindOk x [p] st := fun kV doc pm an cdv ct us hl => by
  obtain ⟨u, rfl⟩ := List.length_eq_one_iff.mp hl
  exact h kV doc pm an cdv ct u
theorem bo2 {x p q : Str} {st : Stmt} (h : ∀ (kV doc pm : Value) (an : Option Addr) (cdv ct u v : Value), bindArgs (PySem.W.fnOf x x (defArgs st) (defBody st) (defScope st) .none kV doc pm an cdv ct) ⟨[u, v], []⟩ = pure [(p, u), (q, v)]) : BindOk x [p, q] st := fun kV doc pm an cdv ct us hl => by
  match us, hl with
  | [u, v], _ => exact h kV doc pm an cdv ct u v
theorem bo3 {x p q r : Str} {st : Stmt} (h : ∀ (kV doc pm : Value) (an : Option Addr) (cdv ct u v z : Value), bindArgs (PySem.W.fnOf x x (defArgs st) (defBody st) (defScope st) .none kV doc pm an cdv ct) ⟨[u, v, z], []⟩ = pure [(p, u), (q, v), (r, z)]) : BindOk x [p, q, r] st := fun kV doc pm an cdv ct us hl => by
  match us, hl with
  | [u, v, z], _ => exact h kV doc pm an cdv ct u v z
theorem mk {K : PySem.W.Frag} {f : Addr} {od an : Option Addr} {sl : Array (Option Value)} {oc kV dc pm cd ct : Value} {x : Str} {ps : List Str} {st : Stmt} (b : BindOk x ps st) (a : PySem.W.nsIn K mainGlobals x = some (some (.ref f)))
    (l : K.lookup f = some ⟨oc, od, .func (PySem.W.fnOf x x (defArgs st) (defBody st) (defScope st) .none kV dc pm an cd ct), sl⟩) (c : PySem.W.codeIn K cd x = true) (k : PySem.W.keepIn K (.ref f) = true) : TxtOf K x ps st :=
  have F := fun_mk (st := st) l c k
  ⟨f, _, a, F, F.binds (ps := ps) b⟩
theorem fc_cons {Q : Str → Prop} {a : Str} {l : List Str} (h : Q a) (t : ∀ f, l.contains f = true → Q f) (f : Str) (hf : (a :: l).contains f = true) : Q f := by
  rw [List.contains_cons] at hf
  rcases Bool.or_eq_true_iff.mp hf with z | z
  · rw [eq_of_beq z]; exact h
  · exact t f z
theorem fc_nil {Q : Str → Prop} (f : Str) (hf : ([] : List Str).contains f = true) : Q f := by simp at hf
theorem bd_plain_part : BindOk "plain_part" ["tree"] (top 4) := bo1 fun _ _ _ _ _ _ _ => rfl
theorem bd_plain_pair : BindOk "plain_pair" ["one", "other"] (top 5) := bo2 fun _ _ _ _ _ _ _ _ => rfl
theorem bd_plain_count : BindOk "plain_count" ["tree"] (top 6) := bo1 fun _ _ _ _ _ _ _ => rfl
theorem bd_plain_triple : BindOk "plain_triple" ["number", "one", "other"] (top 7) := bo3 fun _ _ _ _ _ _ _ _ _ => rfl
theorem bd_front : BindOk "front" ["count"] (top 8) := bo1 fun _ _ _ _ _ _ _ => rfl
theorem bd_lifted : BindOk "lifted" ["count", "by"] (top 9) := bo2 fun _ _ _ _ _ _ _ _ => rfl
theorem bd_are_same_number : BindOk "are_same_number" ["one", "other"] (top 10) := bo2 fun _ _ _ _ _ _ _ _ => rfl
theorem bd_is_whole : BindOk "is_whole" ["thing"] (top 11) := bo1 fun _ _ _ _ _ _ _ => rfl
theorem bd_highest : BindOk "highest" ["one", "other"] (top 13) := bo2 fun _ _ _ _ _ _ _ _ => rfl
theorem bd_half_beyond : BindOk "half_beyond" ["count", "side", "shared"] (top 14) := bo3 fun _ _ _ _ _ _ _ _ _ => rfl
theorem bd_raised : BindOk "raised" ["count", "part"] (top 15) := bo2 fun _ _ _ _ _ _ _ _ => rfl
theorem bd_evened : BindOk "evened" ["count", "part"] (top 16) := bo2 fun _ _ _ _ _ _ _ _ => rfl
theorem bd_peak : BindOk "peak" ["count"] (top 17) := bo1 fun _ _ _ _ _ _ _ => rfl
theorem bd_grown : BindOk "grown" ["count", "part"] (top 18) := bo2 fun _ _ _ _ _ _ _ _ => rfl
theorem bd_grown_half : BindOk "grown_half" ["count", "part", "side"] (top 19) := bo3 fun _ _ _ _ _ _ _ _ _ => rfl
theorem bd_triples_added : BindOk "triples_added" ["found"] (top 20) := bo1 fun _ _ _ _ _ _ _ => rfl
theorem bd_are_apart : BindOk "are_apart" ["one", "other"] (top 22) := bo2 fun _ _ _ _ _ _ _ _ => rfl
theorem bd_together : BindOk "together" ["one", "other"] (top 23) := bo2 fun _ _ _ _ _ _ _ _ => rfl
theorem bd_joined : BindOk "joined" ["one", "other"] (top 24) := bo2 fun _ _ _ _ _ _ _ _ => rfl
theorem bd_half : BindOk "half" ["part", "side"] (top 25) := bo2 fun _ _ _ _ _ _ _ _ => rfl
theorem bd_halves : BindOk "halves" ["part"] (top 26) := bo1 fun _ _ _ _ _ _ _ => rfl
theorem bd_parted_in_two : BindOk "parted_in_two" ["part"] (top 27) := bo1 fun _ _ _ _ _ _ _ => rfl
theorem bd_first : BindOk "first" [] (top 29) := bo0 fun _ _ _ _ _ _ => rfl
theorem bd_parted : BindOk "parted" ["clock"] (top 30) := bo1 fun _ _ _ _ _ _ _ => rfl
theorem bd_done : BindOk "done" ["clock"] (top 31) := bo1 fun _ _ _ _ _ _ _ => rfl
theorem bd_sent : BindOk "sent" ["clock"] (top 32) := bo1 fun _ _ _ _ _ _ _ => rfl
theorem bd_met : BindOk "met" ["one", "other"] (top 33) := bo2 fun _ _ _ _ _ _ _ _ => rfl
theorem bd__law_cell_at : BindOk "_law_cell_at" ["_law_script", "_law_k"] (top 35) := bo2 fun _ _ _ _ _ _ _ _ => rfl
theorem bd__law_mixed : BindOk "_law_mixed" ["_law_script", "_law_k"] (top 36) := bo2 fun _ _ _ _ _ _ _ _ => rfl
theorem bd__law_paths : BindOk "_law_paths" ["_law_tree"] (top 38) := bo1 fun _ _ _ _ _ _ _ => rfl
theorem bd__law_at : BindOk "_law_at" ["_law_tree", "_law_path"] (top 39) := bo2 fun _ _ _ _ _ _ _ _ => rfl
theorem bd__law_plain_part : BindOk "_law_plain_part" ["_law_tree"] (top 40) := bo1 fun _ _ _ _ _ _ _ => rfl
theorem bd__law_more : BindOk "_law_more" ["_law_count", "_law_by"] (top 41) := bo2 fun _ _ _ _ _ _ _ _ => rfl
theorem bd__law_front : BindOk "_law_front" ["_law_count"] (top 42) := bo1 fun _ _ _ _ _ _ _ => rfl
theorem bd__law_plain_count : BindOk "_law_plain_count" ["_law_tree"] (top 43) := bo1 fun _ _ _ _ _ _ _ => rfl
theorem bd__law_whole : BindOk "_law_whole" ["_law_thing"] (top 44) := bo1 fun _ _ _ _ _ _ _ => rfl
theorem bd__law_is_part : BindOk "_law_is_part" ["_law_thing"] (top 45) := bo1 fun _ _ _ _ _ _ _ => rfl
theorem bd__law_is_count : BindOk "_law_is_count" ["_law_thing"] (top 46) := bo1 fun _ _ _ _ _ _ _ => rfl
theorem bd__law_is_clock : BindOk "_law_is_clock" ["_law_thing"] (top 47) := bo1 fun _ _ _ _ _ _ _ => rfl
theorem bd__law_deed : BindOk "_law_deed" ["_law_hands", "_law_number", "_law_k"] (top 48) := bo3 fun _ _ _ _ _ _ _ _ _ => rfl
theorem bd__law_run : BindOk "_law_run" ["_law_script", "_law_most"] (top 49) := bo2 fun _ _ _ _ _ _ _ _ => rfl
theorem bd_law : BindOk "law" ["_law_script"] (top 50) := bo1 fun _ _ _ _ _ _ _ => rfl
structure TxtAll (K : PySem.W.Frag) : Prop where
  t_plain_part : TxtOf K "plain_part" d_plain_part.ps (top 4)
  t_plain_pair : TxtOf K "plain_pair" d_plain_pair.ps (top 5)
  t_plain_count : TxtOf K "plain_count" d_plain_count.ps (top 6)
  t_plain_triple : TxtOf K "plain_triple" d_plain_triple.ps (top 7)
  t_front : TxtOf K "front" d_front.ps (top 8)
  t_lifted : TxtOf K "lifted" d_lifted.ps (top 9)
  t_are_same_number : TxtOf K "are_same_number" d_are_same_number.ps (top 10)
  t_is_whole : TxtOf K "is_whole" d_is_whole.ps (top 11)
  t_highest : TxtOf K "highest" d_highest.ps (top 13)
  t_half_beyond : TxtOf K "half_beyond" d_half_beyond.ps (top 14)
  t_raised : TxtOf K "raised" d_raised.ps (top 15)
  t_evened : TxtOf K "evened" d_evened.ps (top 16)
  t_peak : TxtOf K "peak" d_peak.ps (top 17)
  t_grown : TxtOf K "grown" d_grown.ps (top 18)
  t_grown_half : TxtOf K "grown_half" d_grown_half.ps (top 19)
  t_triples_added : TxtOf K "triples_added" d_triples_added.ps (top 20)
  t_are_apart : TxtOf K "are_apart" d_are_apart.ps (top 22)
  t_together : TxtOf K "together" d_together.ps (top 23)
  t_joined : TxtOf K "joined" d_joined.ps (top 24)
  t_half : TxtOf K "half" d_half.ps (top 25)
  t_halves : TxtOf K "halves" d_halves.ps (top 26)
  t_parted_in_two : TxtOf K "parted_in_two" d_parted_in_two.ps (top 27)
  t_first : TxtOf K "first" d_first.ps (top 29)
  t_parted : TxtOf K "parted" d_parted.ps (top 30)
  t_done : TxtOf K "done" d_done.ps (top 31)
  t_sent : TxtOf K "sent" d_sent.ps (top 32)
  t_met : TxtOf K "met" d_met.ps (top 33)
  t__law_cell_at : TxtOf K "_law_cell_at" d__law_cell_at.ps (top 35)
  t__law_mixed : TxtOf K "_law_mixed" d__law_mixed.ps (top 36)
  t__law_paths : TxtOf K "_law_paths" d__law_paths.ps (top 38)
  t__law_at : TxtOf K "_law_at" d__law_at.ps (top 39)
  t__law_plain_part : TxtOf K "_law_plain_part" d__law_plain_part.ps (top 40)
  t__law_more : TxtOf K "_law_more" d__law_more.ps (top 41)
  t__law_front : TxtOf K "_law_front" d__law_front.ps (top 42)
  t__law_plain_count : TxtOf K "_law_plain_count" d__law_plain_count.ps (top 43)
  t__law_whole : TxtOf K "_law_whole" d__law_whole.ps (top 44)
  t__law_is_part : TxtOf K "_law_is_part" d__law_is_part.ps (top 45)
  t__law_is_count : TxtOf K "_law_is_count" d__law_is_count.ps (top 46)
  t__law_is_clock : TxtOf K "_law_is_clock" d__law_is_clock.ps (top 47)
  t__law_deed : TxtOf K "_law_deed" d__law_deed.ps (top 48)
  t__law_run : TxtOf K "_law_run" d__law_run.ps (top 49)
  t_law : TxtOf K "law" d_law.ps (top 50)
  blt : ∀ x ∈ bltNames, PySem.W.nsIn K mainGlobals x = some none
  xno : ∀ c ∈ xcNames, c ∉ xs → PySem.W.nsIn K mainGlobals c = some none
  xyes : ∃ ad : Str → Addr, ∀ c ∈ xs, PySem.W.nsIn K mainGlobals c = some (some (.ref (ad c))) ∧ ClsOk K (ad c) ∧ PySem.W.kitOne K (.ref (ad c)) (.type "ValueError") = some true ∧ ∀ d ∈ xs, PySem.W.exmOne K (.ref (ad c)) (.ref (ad d)) = some (subX c d) ∧ PySem.W.kitOne K (.ref (ad c)) (.ref (ad d)) = some (subX c d)
theorem xc_ok {K : PySem.W.Frag} {h : Heap} {mg : Str → Option Value} (X : K.In h) (G : h.Ns mainGlobals mg) (T : TxtAll K) : XcOk K mg ∧ ∀ c, xs.contains c = true → xcNames.contains c = true ∧ ∃ Ca, mg c = some (.ref Ca) := by
  obtain ⟨ad, hy⟩ := T.xyes
  have sub : ∀ c ∈ xs, c ∈ xcNames := by
    have h : xs.all (fun c => xcNames.contains c) = true := by decide +kernel
    intro c hc
    simpa using List.all_eq_true.mp h c hc
  have key : ∀ c Ca, xcNames.contains c = true → mg c = some (.ref Ca) → c ∈ xs ∧ Ca = ad c := fun c Ca hc hm => by
    have hc' : c ∈ xcNames := by simpa using hc
    by_cases hx : c ∈ xs
    · have e := hm.symm.trans (PySem.W.mg_of X G (hy c hx).1)
      injection e with e; injection e with e
      exact ⟨hx, e⟩
    · rw [PySem.W.mg_none_of X G (T.xno c hc' hx)] at hm; cases hm
  refine ⟨fun c Ca hc hm => ?_, fun c hc => ?_⟩
  · obtain ⟨hx, rfl⟩ := key c Ca hc hm
    obtain ⟨_, h2, h3, h4⟩ := hy c hx
    refine ⟨h2, h3, fun d Cd hd hmd => ?_⟩
    obtain ⟨hxd, rfl⟩ := key d Cd hd hmd
    exact h4 d hxd
  · have hx : c ∈ xs := by simpa using hc
    exact ⟨by simpa using sub c hx, ad c, PySem.W.mg_of X G (hy c hx).1⟩
noncomputable def AOk (P : Program) (w : World) (K : PySem.W.Frag) (mg : Str → Option Value) (base : Heap) (f : Str) : Prop := (∃ D st fa fd, tb.df f = some D ∧ D.name = f ∧ DOk K mg fs tb.xs (tb.dx f) D st fa fd) ∨ (tb.df f = none ∧ ∃ k g, tb.fo f = some (k, g) ∧ FOk2 P w K mg base f k g)
theorem aok {P : Program} {w : World} {K : PySem.W.Frag} {h : Heap} {mg : Str → Option Value} {base : Heap} (D : Df) (st : Stmt) (X : K.In h) (G : h.Ns mainGlobals mg) (t : TxtOf K D.name D.ps st) (sc : FnScope D.N D.ps (defScope st)) (hD : tb.df D.name = some D)
    (ok : ∀ {X : Cx} {k : Nat} {C : Orc} {E : OrcX}, Hz X ⟨D.N, (defScope st).names, fs, xs⟩ k C E → GS X C E (defBody st) D.body) (okx : tb.dx D.name = true → ∀ {X : Cx} {k : Nat} {C : Orc} {E : OrcX}, Hz X ⟨D.N, (defScope st).names, fs, xs⟩ k C E → GX X C E (defBody st) D.body) : AOk P w K mg base D.name := by
  obtain ⟨f, fd, a, F, b⟩ := t
  exact .inl ⟨D, st, f, fd, hD, rfl, F, PySem.W.mg_of X G a, b, sc, ok, okx⟩
theorem all_ok {P : Program} {w : World} {K : PySem.W.Frag} {h : Heap} {mg : Str → Option Value} {base : Heap} (X : K.In h) (G : h.Ns mainGlobals mg) (T : TxtAll K) : ∀ f, fs.contains f = true → AOk P w K mg base f :=
  fc_cons (aok d_plain_part (top 4) X G T.t_plain_part sc_plain_part rfl ok_plain_part (fun z => absurd z (by decide +kernel))) (fc_cons (aok d_plain_pair (top 5) X G T.t_plain_pair sc_plain_pair rfl ok_plain_pair (fun z => absurd z (by decide +kernel))) (fc_cons (aok d_plain_count (top 6) X G T.t_plain_count sc_plain_count rfl ok_plain_count (fun z => absurd z (by decide +kernel))) (fc_cons (aok d_plain_triple (top 7) X G T.t_plain_triple sc_plain_triple rfl ok_plain_triple (fun z => absurd z (by decide +kernel))) (fc_cons (aok d_front (top 8) X G T.t_front sc_front rfl ok_front (fun z => absurd z (by decide +kernel))) (fc_cons (aok d_lifted (top 9) X G T.t_lifted sc_lifted rfl ok_lifted (fun z => absurd z (by decide +kernel))) (fc_cons (aok d_are_same_number (top 10) X G T.t_are_same_number sc_are_same_number rfl ok_are_same_number (fun z => absurd z (by decide +kernel))) (fc_cons (aok d_is_whole (top 11) X G T.t_is_whole sc_is_whole rfl ok_is_whole (fun z => absurd z (by decide +kernel))) (fc_cons (aok d_highest (top 13) X G T.t_highest sc_highest rfl ok_highest (fun z => absurd z (by decide +kernel))) (fc_cons (aok d_half_beyond (top 14) X G T.t_half_beyond sc_half_beyond rfl ok_half_beyond (fun z => absurd z (by decide +kernel))) (fc_cons (aok d_raised (top 15) X G T.t_raised sc_raised rfl ok_raised (fun z => absurd z (by decide +kernel))) (fc_cons (aok d_evened (top 16) X G T.t_evened sc_evened rfl ok_evened (fun z => absurd z (by decide +kernel))) (fc_cons (aok d_peak (top 17) X G T.t_peak sc_peak rfl ok_peak (fun z => absurd z (by decide +kernel))) (fc_cons (aok d_grown (top 18) X G T.t_grown sc_grown rfl ok_grown (fun z => absurd z (by decide +kernel))) (fc_cons (aok d_grown_half (top 19) X G T.t_grown_half sc_grown_half rfl ok_grown_half (fun z => absurd z (by decide +kernel))) (fc_cons (aok d_triples_added (top 20) X G T.t_triples_added sc_triples_added rfl ok_triples_added (fun z => absurd z (by decide +kernel))) (fc_cons (aok d_are_apart (top 22) X G T.t_are_apart sc_are_apart rfl ok_are_apart (fun z => absurd z (by decide +kernel))) (fc_cons (aok d_together (top 23) X G T.t_together sc_together rfl ok_together (fun z => absurd z (by decide +kernel))) (fc_cons (aok d_joined (top 24) X G T.t_joined sc_joined rfl ok_joined (fun z => absurd z (by decide +kernel))) (fc_cons (aok d_half (top 25) X G T.t_half sc_half rfl ok_half (fun z => absurd z (by decide +kernel))) (fc_cons (aok d_halves (top 26) X G T.t_halves sc_halves rfl ok_halves (fun z => absurd z (by decide +kernel))) (fc_cons (aok d_parted_in_two (top 27) X G T.t_parted_in_two sc_parted_in_two rfl ok_parted_in_two (fun z => absurd z (by decide +kernel))) (fc_cons (aok d_first (top 29) X G T.t_first sc_first rfl ok_first (fun z => absurd z (by decide +kernel))) (fc_cons (aok d_parted (top 30) X G T.t_parted sc_parted rfl ok_parted (fun z => absurd z (by decide +kernel))) (fc_cons (aok d_done (top 31) X G T.t_done sc_done rfl ok_done (fun z => absurd z (by decide +kernel))) (fc_cons (aok d_sent (top 32) X G T.t_sent sc_sent rfl ok_sent (fun z => absurd z (by decide +kernel))) (fc_cons (aok d_met (top 33) X G T.t_met sc_met rfl ok_met (fun z => absurd z (by decide +kernel))) (fc_cons (aok d__law_cell_at (top 35) X G T.t__law_cell_at sc__law_cell_at rfl ok__law_cell_at (fun z => absurd z (by decide +kernel))) (fc_cons (aok d__law_mixed (top 36) X G T.t__law_mixed sc__law_mixed rfl ok__law_mixed (fun z => absurd z (by decide +kernel))) (fc_cons (aok d__law_paths (top 38) X G T.t__law_paths sc__law_paths rfl ok__law_paths (fun z => absurd z (by decide +kernel))) (fc_cons (aok d__law_at (top 39) X G T.t__law_at sc__law_at rfl ok__law_at (fun z => absurd z (by decide +kernel))) (fc_cons (aok d__law_plain_part (top 40) X G T.t__law_plain_part sc__law_plain_part rfl ok__law_plain_part (fun z => absurd z (by decide +kernel))) (fc_cons (aok d__law_more (top 41) X G T.t__law_more sc__law_more rfl ok__law_more (fun z => absurd z (by decide +kernel))) (fc_cons (aok d__law_front (top 42) X G T.t__law_front sc__law_front rfl ok__law_front (fun z => absurd z (by decide +kernel))) (fc_cons (aok d__law_plain_count (top 43) X G T.t__law_plain_count sc__law_plain_count rfl ok__law_plain_count (fun z => absurd z (by decide +kernel))) (fc_cons (aok d__law_whole (top 44) X G T.t__law_whole sc__law_whole rfl ok__law_whole (fun z => absurd z (by decide +kernel))) (fc_cons (aok d__law_is_part (top 45) X G T.t__law_is_part sc__law_is_part rfl ok__law_is_part (fun z => absurd z (by decide +kernel))) (fc_cons (aok d__law_is_count (top 46) X G T.t__law_is_count sc__law_is_count rfl ok__law_is_count (fun z => absurd z (by decide +kernel))) (fc_cons (aok d__law_is_clock (top 47) X G T.t__law_is_clock sc__law_is_clock rfl ok__law_is_clock (fun z => absurd z (by decide +kernel))) (fc_cons (aok d__law_deed (top 48) X G T.t__law_deed sc__law_deed rfl ok__law_deed (fun z => absurd z (by decide +kernel))) (fc_cons (aok d__law_run (top 49) X G T.t__law_run sc__law_run rfl ok__law_run (fun z => absurd z (by decide +kernel))) (fc_cons (aok d_law (top 50) X G T.t_law sc_law rfl ok_law (fun z => absurd z (by decide +kernel))) (fc_nil))))))))))))))))))))))))))))))))))))))))))
noncomputable def spLaw (K : PySem.W.Frag) : Sp := fun vs H Q _ => ∃ (a : Addr) (ns : List Int), vs = [.ref a] ∧ SqL K H a (ns.map V.int) ∧ ns.length ≤ 63 ∧ ∀ H', Q (.bl true) H'
theorem law_ok {P : Program} {w : World} {K : PySem.W.Frag} {h : Heap} {mg : Str → Option Value} {fa : Addr} (X : K.In h) (G : h.Ns mainGlobals mg) (hfa : mg "law" = some (.ref fa)) (T : TxtAll K) :
    ∃ fd : FuncData, (∀ (s : Shared) (v : Value), BindsTo s fd ⟨[v], []⟩ [("_law_script", v)]) ∧ ∀ base : Heap, K.In base → base.Ns mainGlobals mg → FnOk P w K mg base CX0 200 fa fd ["_law_script"] (spLaw K) := by
  obtain ⟨f, fd, a, F, b⟩ := T.t_law
  have e := hfa.symm.trans (PySem.W.mg_of X G a)
  cases e
  have hb : ∀ x ∈ bltNames, mg x = none := fun x hx => PySem.W.mg_none_of X G (T.blt x hx)
  obtain ⟨xk, xb⟩ := xc_ok X G T
  have okL : DOk K mg fs xs (tb.dx "law") d_law (top 50) fa fd := ⟨F, PySem.W.mg_of X G a, b, sc_law, ok_law, fun z => absurd z (by decide +kernel)⟩
  refine ⟨fd, ?_, fun base _ _ => ?_⟩
  · obtain ⟨oc, od, kV, doc, pm, an, cdv, ct, osl, e1, lk, hcd⟩ := F.ex
    intro s v
    rw [e1]
    exact .of_eq rfl
  · refine (fn_norm (funs_ok (P := P) (w := w) (base := base) tb fs htb hto hb xk xb (all_ok X G T) 100 "law" d_law (top 50) fa fd rfl rfl okL)).imp fun vs H Q E hq => ?_
    obtain ⟨r, ns, rfl, hS, hl, q⟩ := hq
    refine ⟨rfl, [.list (ns.map PyData.int)], .bool true, ?_, law_true ns hl, fun v H' _ bv => ?_⟩
    · simp only [Brs, Br]
      exact ⟨_, _, rfl, ⟨r, _, rfl, hS, brs_ints ns⟩, rfl⟩
    · simp only [Br] at bv
      subst bv
      exact q H'
theorem walk {l : PySem.W.OpenLaw} {q : Program} {loose : List Str} {XP : (Str → Option Value) → Heap → Prop} {YP : World → Heap → Prop} {d : DefRec} {K : Params → PySem.W.Frag} (hn : l.most = some 63) (hdf : d.params.defaults = [])
    (hY : ∀ (w : World) (h : Heap), YP w h → (K w.params).In h)
    (F : ∀ (w : World) (mg : Str → Option Value) (fa : Addr) (h : Heap), (K w.params).In h → h.Ns mainGlobals mg → mg d.name = some (.ref fa) →
      ∃ fd : FuncData, (∀ (s : Shared) (u : Value), BindsTo s fd ⟨[u], []⟩ [("_law_script", u)]) ∧ ∀ base : Heap, (K w.params).In base → base.Ns mainGlobals mg → FnOk l.prog w (K w.params) mg base CX0 200 fa fd ["_law_script"] (spLaw (K w.params))) :
    PySem.W.WalkO q loose XP YP l.row.toRowW d [] (fun f vs => PySem.call f vs) :=
  L2.walk_of (n := 63) (k := 200) (x := "_law_script") (CX := fun _ => CX0) (sp := fun w => spLaw (K w.params)) hn (by decide) hdf ⟨rfl, by decide, by decide⟩ hY F (fun _ _ a ns hl _ hS => ⟨a, ns, rfl, hS, hl, fun _ => rfl⟩) fun _ _ _ _ _ z => z
theorem kit_mk {K : PySem.W.Frag} {a b : Addr} {cd : ClassData} {v : Bool} (h1 : PySem.W.clsIn K b = some cd) (h2 : PySem.W.typeIn K (.ref b) = some (.type "type")) (h3 : PySem.W.subIn K (.ref a) (.ref b) = some v) : PySem.W.kitCls K (.ref a) (.ref b) = some v := by
  show (if ((PySem.W.clsIn K b).isSome && PySem.W.typeIn K (.ref b) == some (.type "type")) = true then PySem.W.subIn K (.ref a) (.ref b) else none) = some v
  rw [h1, h2, if_pos (show ((some cd).isSome && some (Value.type "type") == some (Value.type "type")) = true from (by decide : (true && some (Value.type "type") == some (Value.type "type")) = true))]
  exact h3
theorem kit_one {K : PySem.W.Frag} {a b : Addr} {v : Bool} (h : PySem.W.kitCls K (.ref a) (.ref b) = some v) (hd : (Value.ref a == Value.ref b) = false) : PySem.W.kitOne K (.ref a) (.ref b) = some v := by
  unfold PySem.W.kitOne
  rw [hd, if_neg Bool.false_ne_true]
  exact h
theorem kit_self {K : PySem.W.Frag} {a : Addr} : PySem.W.kitOne K (.ref a) (.ref a) = some true := by
  unfold PySem.W.kitOne
  rw [if_pos (beq_self_eq_true _)]
theorem kit_val {K : PySem.W.Frag} {a : Addr} (h : PySem.W.subIn K (.ref a) (.type "ValueError") = some true) : PySem.W.kitOne K (.ref a) (.type "ValueError") = some true := by
  have hz : (Value.ref a == Value.type "ValueError") = false := rfl
  have hm : PySem.W.kitMeta "ValueError" = true := by decide +kernel
  unfold PySem.W.kitOne PySem.W.kitCls
  rw [hz, if_neg Bool.false_ne_true]
  simp only
  rw [hm, if_pos rfl]
  exact h
theorem exm_mk {K : PySem.W.Frag} {a b : Addr} {v : Bool} (h : PySem.W.kitCls K (.ref a) (.ref b) = some v) (hs : PySem.W.subIn K (.ref b) (.type "BaseException") = some true) : PySem.W.exmOne K (.ref a) (.ref b) = some v := by
  unfold PySem.W.exmOne
  rw [hs, if_pos (by decide)]
  exact h
theorem xyes_mk {K : PySem.W.Frag} {a0 a1 : Addr} {c0 c1 : ClassData} (n0 : PySem.W.nsIn K mainGlobals "ClockError" = some (some (.ref a0))) (n1 : PySem.W.nsIn K mainGlobals "NotApart" = some (some (.ref a1))) (gs : PySem.W.specialIn K (.builtin "object.__class__") "__get__" = some (some (.builtin "getset_descriptor.__get__"))) (tk : PySem.W.takesIn K (.builtin "object.__class__") = some true) (ex0 : PySem.W.excIn K a0 veMro "ValueError.__new__" = true) (ga0 : PySem.W.findIn K (.ref a0) "__getattribute__" = some (some (.builtin "BaseException.__getattribute__"))) (nh0 : PySem.W.findIn K (.ref a0) "__getattr__" = some none) (cl0 : PySem.W.findIn K (.ref a0) "__class__" = some (some (.builtin "object.__class__"))) (mo0 : PySem.W.mroIn K a0 (.type "object") = some true) (mb0 : PySem.W.mroIn K a0 (.type "BaseException") = some true) (ci0 : PySem.W.clsIn K a0 = some c0) (ty0 : PySem.W.typeIn K (.ref a0) = some (.type "type")) (sb0 : PySem.W.subIn K (.ref a0) (.type "BaseException") = some true) (sv0 : PySem.W.subIn K (.ref a0) (.type "ValueError") = some true) (ex1 : PySem.W.excIn K a1 veMro "ValueError.__new__" = true) (ga1 : PySem.W.findIn K (.ref a1) "__getattribute__" = some (some (.builtin "BaseException.__getattribute__"))) (nh1 : PySem.W.findIn K (.ref a1) "__getattr__" = some none) (cl1 : PySem.W.findIn K (.ref a1) "__class__" = some (some (.builtin "object.__class__"))) (mo1 : PySem.W.mroIn K a1 (.type "object") = some true) (mb1 : PySem.W.mroIn K a1 (.type "BaseException") = some true) (ci1 : PySem.W.clsIn K a1 = some c1) (ty1 : PySem.W.typeIn K (.ref a1) = some (.type "type")) (sb1 : PySem.W.subIn K (.ref a1) (.type "BaseException") = some true) (sv1 : PySem.W.subIn K (.ref a1) (.type "ValueError") = some true) (s00 : PySem.W.subIn K (.ref a0) (.ref a0) = some true) (s01 : PySem.W.subIn K (.ref a0) (.ref a1) = some false) (s10 : PySem.W.subIn K (.ref a1) (.ref a0) = some true) (s11 : PySem.W.subIn K (.ref a1) (.ref a1) = some true) (d01 : (Value.ref a0 == Value.ref a1) = false) (d10 : (Value.ref a1 == Value.ref a0) = false) :
    ∃ ad : Str → Addr, ∀ c ∈ xs, PySem.W.nsIn K mainGlobals c = some (some (.ref (ad c))) ∧ ClsOk K (ad c) ∧ PySem.W.kitOne K (.ref (ad c)) (.type "ValueError") = some true ∧ ∀ d ∈ xs, PySem.W.exmOne K (.ref (ad c)) (.ref (ad d)) = some (subX c d) ∧ PySem.W.kitOne K (.ref (ad c)) (.ref (ad d)) = some (subX c d) := by
  refine ⟨fun c => if c == ("ClockError" : Str) then a0 else if c == ("NotApart" : Str) then a1 else 0, ?_⟩
  have two : ∀ (P : Str → Prop), P "ClockError" → P "NotApart" → ∀ c ∈ xs, P c := fun P p0 p1 c hc => by
    simp only [xs, List.mem_cons, List.not_mem_nil, or_false] at hc
    rcases hc with rfl | rfl
    · exact p0
    · exact p1
  refine two _ ?_ ?_
  · refine ⟨n0, ⟨ex0, ga0, nh0, cl0, mo0, mb0, gs, tk⟩, kit_val sv0, two _ ?_ ?_⟩
    · exact ⟨exm_mk (kit_mk ci0 ty0 s00) sb0, kit_self⟩
    · exact ⟨exm_mk (kit_mk ci1 ty1 s01) sb1, kit_one (kit_mk ci1 ty1 s01) d01⟩
  · refine ⟨n1, ⟨ex1, ga1, nh1, cl1, mo1, mb1, gs, tk⟩, kit_val sv1, two _ ?_ ?_⟩
    · exact ⟨exm_mk (kit_mk ci0 ty0 s10) sb0, kit_one (kit_mk ci0 ty0 s10) d10⟩
    · exact ⟨exm_mk (kit_mk ci1 ty1 s11) sb1, kit_self⟩

end My
open PySem PySem.W PyProof.Rows
set_option maxRecDepth 100000 in
set_option maxHeartbeats 0 in
theorem PySem.Challenge.cw_treeclock_k31_whole_parts_of_all_holds : PySem.Challenge.rw_treeclock_k31_whole_parts_of_all.Holds := by
  w_on; o_law; k_head; (case hw => w_witness2)
  k_fill
  refine My.walk (l := PySem.Challenge.rw_treeclock_k31_whole_parts_of_all) rfl rfl (fun w h Y => PySem.W.kIn_of Y) ?F
  case F =>
    intro w mg fa h KX G hmg
    have t_plain_part : My.TxtOf (L2.KOf KX) "plain_part" My.d_plain_part.ps (My.top 4) := by
      dsimp only [L2.KOf]
      refine' My.mk My.bd_plain_part ?a ?l ?c ?k
      (case a => k_is); (case l => k_is); (case c => k_is); (case k => k_is)
    have t_plain_pair : My.TxtOf (L2.KOf KX) "plain_pair" My.d_plain_pair.ps (My.top 5) := by
      dsimp only [L2.KOf]
      refine' My.mk My.bd_plain_pair ?a ?l ?c ?k
      (case a => k_is); (case l => k_is); (case c => k_is); (case k => k_is)
    have t_plain_count : My.TxtOf (L2.KOf KX) "plain_count" My.d_plain_count.ps (My.top 6) := by
      dsimp only [L2.KOf]
      refine' My.mk My.bd_plain_count ?a ?l ?c ?k
      (case a => k_is); (case l => k_is); (case c => k_is); (case k => k_is)
    have t_plain_triple : My.TxtOf (L2.KOf KX) "plain_triple" My.d_plain_triple.ps (My.top 7) := by
      dsimp only [L2.KOf]
      refine' My.mk My.bd_plain_triple ?a ?l ?c ?k
      (case a => k_is); (case l => k_is); (case c => k_is); (case k => k_is)
    have t_front : My.TxtOf (L2.KOf KX) "front" My.d_front.ps (My.top 8) := by
      dsimp only [L2.KOf]
      refine' My.mk My.bd_front ?a ?l ?c ?k
      (case a => k_is); (case l => k_is); (case c => k_is); (case k => k_is)
    have t_lifted : My.TxtOf (L2.KOf KX) "lifted" My.d_lifted.ps (My.top 9) := by
      dsimp only [L2.KOf]
      refine' My.mk My.bd_lifted ?a ?l ?c ?k
      (case a => k_is); (case l => k_is); (case c => k_is); (case k => k_is)
    have t_are_same_number : My.TxtOf (L2.KOf KX) "are_same_number" My.d_are_same_number.ps (My.top 10) := by
      dsimp only [L2.KOf]
      refine' My.mk My.bd_are_same_number ?a ?l ?c ?k
      (case a => k_is); (case l => k_is); (case c => k_is); (case k => k_is)
    have t_is_whole : My.TxtOf (L2.KOf KX) "is_whole" My.d_is_whole.ps (My.top 11) := by
      dsimp only [L2.KOf]
      refine' My.mk My.bd_is_whole ?a ?l ?c ?k
      (case a => k_is); (case l => k_is); (case c => k_is); (case k => k_is)
    have t_highest : My.TxtOf (L2.KOf KX) "highest" My.d_highest.ps (My.top 13) := by
      dsimp only [L2.KOf]
      refine' My.mk My.bd_highest ?a ?l ?c ?k
      (case a => k_is); (case l => k_is); (case c => k_is); (case k => k_is)
    have t_half_beyond : My.TxtOf (L2.KOf KX) "half_beyond" My.d_half_beyond.ps (My.top 14) := by
      dsimp only [L2.KOf]
      refine' My.mk My.bd_half_beyond ?a ?l ?c ?k
      (case a => k_is); (case l => k_is); (case c => k_is); (case k => k_is)
    have t_raised : My.TxtOf (L2.KOf KX) "raised" My.d_raised.ps (My.top 15) := by
      dsimp only [L2.KOf]
      refine' My.mk My.bd_raised ?a ?l ?c ?k
      (case a => k_is); (case l => k_is); (case c => k_is); (case k => k_is)
    have t_evened : My.TxtOf (L2.KOf KX) "evened" My.d_evened.ps (My.top 16) := by
      dsimp only [L2.KOf]
      refine' My.mk My.bd_evened ?a ?l ?c ?k
      (case a => k_is); (case l => k_is); (case c => k_is); (case k => k_is)
    have t_peak : My.TxtOf (L2.KOf KX) "peak" My.d_peak.ps (My.top 17) := by
      dsimp only [L2.KOf]
      refine' My.mk My.bd_peak ?a ?l ?c ?k
      (case a => k_is); (case l => k_is); (case c => k_is); (case k => k_is)
    have t_grown : My.TxtOf (L2.KOf KX) "grown" My.d_grown.ps (My.top 18) := by
      dsimp only [L2.KOf]
      refine' My.mk My.bd_grown ?a ?l ?c ?k
      (case a => k_is); (case l => k_is); (case c => k_is); (case k => k_is)
    have t_grown_half : My.TxtOf (L2.KOf KX) "grown_half" My.d_grown_half.ps (My.top 19) := by
      dsimp only [L2.KOf]
      refine' My.mk My.bd_grown_half ?a ?l ?c ?k
      (case a => k_is); (case l => k_is); (case c => k_is); (case k => k_is)
    have t_triples_added : My.TxtOf (L2.KOf KX) "triples_added" My.d_triples_added.ps (My.top 20) := by
      dsimp only [L2.KOf]
      refine' My.mk My.bd_triples_added ?a ?l ?c ?k
      (case a => k_is); (case l => k_is); (case c => k_is); (case k => k_is)
    have t_are_apart : My.TxtOf (L2.KOf KX) "are_apart" My.d_are_apart.ps (My.top 22) := by
      dsimp only [L2.KOf]
      refine' My.mk My.bd_are_apart ?a ?l ?c ?k
      (case a => k_is); (case l => k_is); (case c => k_is); (case k => k_is)
    have t_together : My.TxtOf (L2.KOf KX) "together" My.d_together.ps (My.top 23) := by
      dsimp only [L2.KOf]
      refine' My.mk My.bd_together ?a ?l ?c ?k
      (case a => k_is); (case l => k_is); (case c => k_is); (case k => k_is)
    have t_joined : My.TxtOf (L2.KOf KX) "joined" My.d_joined.ps (My.top 24) := by
      dsimp only [L2.KOf]
      refine' My.mk My.bd_joined ?a ?l ?c ?k
      (case a => k_is); (case l => k_is); (case c => k_is); (case k => k_is)
    have t_half : My.TxtOf (L2.KOf KX) "half" My.d_half.ps (My.top 25) := by
      dsimp only [L2.KOf]
      refine' My.mk My.bd_half ?a ?l ?c ?k
      (case a => k_is); (case l => k_is); (case c => k_is); (case k => k_is)
    have t_halves : My.TxtOf (L2.KOf KX) "halves" My.d_halves.ps (My.top 26) := by
      dsimp only [L2.KOf]
      refine' My.mk My.bd_halves ?a ?l ?c ?k
      (case a => k_is); (case l => k_is); (case c => k_is); (case k => k_is)
    have t_parted_in_two : My.TxtOf (L2.KOf KX) "parted_in_two" My.d_parted_in_two.ps (My.top 27) := by
      dsimp only [L2.KOf]
      refine' My.mk My.bd_parted_in_two ?a ?l ?c ?k
      (case a => k_is); (case l => k_is); (case c => k_is); (case k => k_is)
    have t_first : My.TxtOf (L2.KOf KX) "first" My.d_first.ps (My.top 29) := by
      dsimp only [L2.KOf]
      refine' My.mk My.bd_first ?a ?l ?c ?k
      (case a => k_is); (case l => k_is); (case c => k_is); (case k => k_is)
    have t_parted : My.TxtOf (L2.KOf KX) "parted" My.d_parted.ps (My.top 30) := by
      dsimp only [L2.KOf]
      refine' My.mk My.bd_parted ?a ?l ?c ?k
      (case a => k_is); (case l => k_is); (case c => k_is); (case k => k_is)
    have t_done : My.TxtOf (L2.KOf KX) "done" My.d_done.ps (My.top 31) := by
      dsimp only [L2.KOf]
      refine' My.mk My.bd_done ?a ?l ?c ?k
      (case a => k_is); (case l => k_is); (case c => k_is); (case k => k_is)
    have t_sent : My.TxtOf (L2.KOf KX) "sent" My.d_sent.ps (My.top 32) := by
      dsimp only [L2.KOf]
      refine' My.mk My.bd_sent ?a ?l ?c ?k
      (case a => k_is); (case l => k_is); (case c => k_is); (case k => k_is)
    have t_met : My.TxtOf (L2.KOf KX) "met" My.d_met.ps (My.top 33) := by
      dsimp only [L2.KOf]
      refine' My.mk My.bd_met ?a ?l ?c ?k
      (case a => k_is); (case l => k_is); (case c => k_is); (case k => k_is)
    have t__law_cell_at : My.TxtOf (L2.KOf KX) "_law_cell_at" My.d__law_cell_at.ps (My.top 35) := by
      dsimp only [L2.KOf]
      refine' My.mk My.bd__law_cell_at ?a ?l ?c ?k
      (case a => k_is); (case l => k_is); (case c => k_is); (case k => k_is)
    have t__law_mixed : My.TxtOf (L2.KOf KX) "_law_mixed" My.d__law_mixed.ps (My.top 36) := by
      dsimp only [L2.KOf]
      refine' My.mk My.bd__law_mixed ?a ?l ?c ?k
      (case a => k_is); (case l => k_is); (case c => k_is); (case k => k_is)
    have t__law_paths : My.TxtOf (L2.KOf KX) "_law_paths" My.d__law_paths.ps (My.top 38) := by
      dsimp only [L2.KOf]
      refine' My.mk My.bd__law_paths ?a ?l ?c ?k
      (case a => k_is); (case l => k_is); (case c => k_is); (case k => k_is)
    have t__law_at : My.TxtOf (L2.KOf KX) "_law_at" My.d__law_at.ps (My.top 39) := by
      dsimp only [L2.KOf]
      refine' My.mk My.bd__law_at ?a ?l ?c ?k
      (case a => k_is); (case l => k_is); (case c => k_is); (case k => k_is)
    have t__law_plain_part : My.TxtOf (L2.KOf KX) "_law_plain_part" My.d__law_plain_part.ps (My.top 40) := by
      dsimp only [L2.KOf]
      refine' My.mk My.bd__law_plain_part ?a ?l ?c ?k
      (case a => k_is); (case l => k_is); (case c => k_is); (case k => k_is)
    have t__law_more : My.TxtOf (L2.KOf KX) "_law_more" My.d__law_more.ps (My.top 41) := by
      dsimp only [L2.KOf]
      refine' My.mk My.bd__law_more ?a ?l ?c ?k
      (case a => k_is); (case l => k_is); (case c => k_is); (case k => k_is)
    have t__law_front : My.TxtOf (L2.KOf KX) "_law_front" My.d__law_front.ps (My.top 42) := by
      dsimp only [L2.KOf]
      refine' My.mk My.bd__law_front ?a ?l ?c ?k
      (case a => k_is); (case l => k_is); (case c => k_is); (case k => k_is)
    have t__law_plain_count : My.TxtOf (L2.KOf KX) "_law_plain_count" My.d__law_plain_count.ps (My.top 43) := by
      dsimp only [L2.KOf]
      refine' My.mk My.bd__law_plain_count ?a ?l ?c ?k
      (case a => k_is); (case l => k_is); (case c => k_is); (case k => k_is)
    have t__law_whole : My.TxtOf (L2.KOf KX) "_law_whole" My.d__law_whole.ps (My.top 44) := by
      dsimp only [L2.KOf]
      refine' My.mk My.bd__law_whole ?a ?l ?c ?k
      (case a => k_is); (case l => k_is); (case c => k_is); (case k => k_is)
    have t__law_is_part : My.TxtOf (L2.KOf KX) "_law_is_part" My.d__law_is_part.ps (My.top 45) := by
      dsimp only [L2.KOf]
      refine' My.mk My.bd__law_is_part ?a ?l ?c ?k
      (case a => k_is); (case l => k_is); (case c => k_is); (case k => k_is)
    have t__law_is_count : My.TxtOf (L2.KOf KX) "_law_is_count" My.d__law_is_count.ps (My.top 46) := by
      dsimp only [L2.KOf]
      refine' My.mk My.bd__law_is_count ?a ?l ?c ?k
      (case a => k_is); (case l => k_is); (case c => k_is); (case k => k_is)
    have t__law_is_clock : My.TxtOf (L2.KOf KX) "_law_is_clock" My.d__law_is_clock.ps (My.top 47) := by
      dsimp only [L2.KOf]
      refine' My.mk My.bd__law_is_clock ?a ?l ?c ?k
      (case a => k_is); (case l => k_is); (case c => k_is); (case k => k_is)
    have t__law_deed : My.TxtOf (L2.KOf KX) "_law_deed" My.d__law_deed.ps (My.top 48) := by
      dsimp only [L2.KOf]
      refine' My.mk My.bd__law_deed ?a ?l ?c ?k
      (case a => k_is); (case l => k_is); (case c => k_is); (case k => k_is)
    have t__law_run : My.TxtOf (L2.KOf KX) "_law_run" My.d__law_run.ps (My.top 49) := by
      dsimp only [L2.KOf]
      refine' My.mk My.bd__law_run ?a ?l ?c ?k
      (case a => k_is); (case l => k_is); (case c => k_is); (case k => k_is)
    have t_law : My.TxtOf (L2.KOf KX) "law" My.d_law.ps (My.top 50) := by
      dsimp only [L2.KOf]
      refine' My.mk My.bd_law ?a ?l ?c ?k
      (case a => k_is); (case l => k_is); (case c => k_is); (case k => k_is)
    have hb : ∀ x ∈ PL.bltNames, PySem.W.nsIn (L2.KOf KX) mainGlobals x = some none := by
      dsimp only [L2.KOf]
      intro x hx
      simp only [PL.bltNames, List.mem_cons, List.not_mem_nil, or_false] at hx
      rcases hx with rfl | rfl | rfl | rfl | rfl | rfl | rfl | rfl | rfl | rfl | rfl | rfl | rfl | rfl | rfl | rfl | rfl | rfl <;> k_is
    have xno : ∀ c ∈ PL.xcNames, c ∉ My.xs → PySem.W.nsIn (L2.KOf KX) mainGlobals c = some none := by
      dsimp only [L2.KOf]
      intro x hx hn
      simp only [PL.xcNames, List.mem_cons, List.not_mem_nil, or_false] at hx
      rcases hx with rfl | rfl | rfl | rfl <;> first | k_is | exact absurd (by decide +kernel) hn
    have xyes : ∃ ad : Str → Addr, ∀ c ∈ My.xs, PySem.W.nsIn (L2.KOf KX) mainGlobals c = some (some (.ref (ad c))) ∧ PL.ClsOk (L2.KOf KX) (ad c) ∧ PySem.W.kitOne (L2.KOf KX) (.ref (ad c)) (.type "ValueError") = some true ∧ ∀ d ∈ My.xs, PySem.W.exmOne (L2.KOf KX) (.ref (ad c)) (.ref (ad d)) = some (PL.subX c d) ∧ PySem.W.kitOne (L2.KOf KX) (.ref (ad c)) (.ref (ad d)) = some (PL.subX c d) := by
      dsimp only [L2.KOf]
      refine' My.xyes_mk ?n0 ?n1 ?gs ?tk ?ex0 ?ga0 ?nh0 ?cl0 ?mo0 ?mb0 ?ci0 ?ty0 ?sb0 ?sv0 ?ex1 ?ga1 ?nh1 ?cl1 ?mo1 ?mb1 ?ci1 ?ty1 ?sb1 ?sv1 ?s00 ?s01 ?s10 ?s11 ?d01 ?d10
      (case n0 => k_is)
      (case n1 => k_is)
      (case gs => k_is)
      (case tk => k_is)
      (case ex0 => kernel_rfl)
      (case ga0 => k_is)
      (case nh0 => k_is)
      (case cl0 => k_is)
      (case mo0 => k_is)
      (case mb0 => k_is)
      (case ci0 => k_is)
      (case ty0 => k_is)
      (case sb0 => k_is)
      (case sv0 => k_is)
      (case ex1 => kernel_rfl)
      (case ga1 => k_is)
      (case nh1 => k_is)
      (case cl1 => k_is)
      (case mo1 => k_is)
      (case mb1 => k_is)
      (case ci1 => k_is)
      (case ty1 => k_is)
      (case sb1 => k_is)
      (case sv1 => k_is)
      (case s00 => k_is)
      (case s01 => k_is)
      (case s10 => k_is)
      (case s11 => k_is)
      (case d01 => decide)
      (case d10 => decide)
    exact My.law_ok KX G hmg ⟨t_plain_part, t_plain_pair, t_plain_count, t_plain_triple, t_front, t_lifted, t_are_same_number, t_is_whole, t_highest, t_half_beyond, t_raised, t_evened, t_peak, t_grown, t_grown_half, t_triples_added, t_are_apart, t_together, t_joined, t_half, t_halves, t_parted_in_two, t_first, t_parted, t_done, t_sent, t_met, t__law_cell_at, t__law_mixed, t__law_paths, t__law_at, t__law_plain_part, t__law_more, t__law_front, t__law_plain_count, t__law_whole, t__law_is_part, t__law_is_count, t__law_is_clock, t__law_deed, t__law_run, t_law, hb, xno, xyes⟩


