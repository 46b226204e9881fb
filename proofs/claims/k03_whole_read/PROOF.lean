import PyProof.Rows.All
import KE.KTryMore
import KE.KIntText
import KE.KSort
import KE.KMinKey
import PyProof.ExcArgsOwn
import PyProof.ExcAttrAll.ValueError
import Wide.All
import OpenK.AllK
import Wide.FinOn
import Lean
import PyProof.EqAt
import PyProof.EqKinds
import PyProof.TupleCall
import PySem.Challenge.RW_treeclock_k03_whole_read
set_option Elab.async false
set_option linter.all false
set_option genSizeOf false
set_option bootstrap.genMatcherCode false
set_option maxRecDepth 100000
/-! THE HAND LAYER, for ints, bools, texts, own classes, LISTS and tuples (index, slices, in, append, pop ..), calls, loops. Paste it whole ahead of your own text; what your proof does not reach may be deleted. -/
namespace L2
open PySem PySem.Spec PyProof.Rows

/-- a key: an int or a str -/
noncomputable abbrev Key := Sum Int Str
noncomputable def keyIs : Key → Value → Bool
  | .inl k, v => Value.isInt k v
  | .inr x, v => Value.isStrOf x v
noncomputable def keyH (w : World) : Key → Int
  | .inl k => hashInt k
  | .inr x => hashStr w x
theorem keyIs_shape : ∀ {k : Key} {v : Value}, keyIs k v = true → (∃ i t, k = Sum.inl i ∧ v = Value.int i t) ∨ (∃ x t, k = Sum.inr x ∧ v = Value.str x t)
  | .inl i, v, h => by
    obtain ⟨t, e⟩ := Value.isInt_shape (k := i) (v := v) h
    exact .inl ⟨i, t, rfl, e⟩
  | .inr x, v, h => by
    obtain ⟨t, e⟩ := Value.isStrOf_shape (x := x) (v := v) h
    exact .inr ⟨x, t, rfl, e⟩
theorem key_ll (a b : Int) : decide ((Sum.inl a : Key) = Sum.inl b) = (a == b) := by
  by_cases e : a = b
  · subst e; simp
  · have h : ¬ (Sum.inl a : Key) = Sum.inl b := fun q => e (Sum.inl.inj q)
    rw [decide_eq_false h]
    exact (beq_eq_false_iff_ne.mpr e).symm
theorem key_rr (a b : Str) : decide ((Sum.inr a : Key) = Sum.inr b) = decide (a = b) := by
  by_cases e : a = b
  · subst e; simp
  · have h : ¬ (Sum.inr a : Key) = Sum.inr b := fun q => e (Sum.inr.inj q)
    rw [decide_eq_false h, decide_eq_false e]
theorem key_lr (a : Int) (b : Str) : decide ((Sum.inl a : Key) = Sum.inr b) = false := decide_eq_false (fun q => nomatch q)
theorem key_rl (a : Str) (b : Int) : decide ((Sum.inr a : Key) = Sum.inl b) = false := decide_eq_false (fun q => nomatch q)

noncomputable def mixKind (prog : Program) (w : World) : PySem.KeyKind prog w Key where
  is := keyIs
  hash := keyH w
  inj := fun v a b ha hb => by
    rcases keyIs_shape ha with ⟨i, t, rfl, rfl⟩ | ⟨x, t, rfl, rfl⟩
    · rcases keyIs_shape hb with ⟨j, u, rfl, e⟩ | ⟨y, u, rfl, e⟩
      · injection e with e1 _; rw [e1]
      · exact nomatch e
    · rcases keyIs_shape hb with ⟨j, u, rfl, e⟩ | ⟨y, u, rfl, e⟩
      · exact nomatch e
      · injection e with e1 _; rw [e1]
  byValue := fun k v h => by
    rcases keyIs_shape h with ⟨i, t, rfl, rfl⟩ | ⟨x, t, rfl, rfl⟩ <;> rfl
  pyHash := fun hv h => by
    rcases keyIs_shape hv with ⟨i, t, rfl, rfl⟩ | ⟨x, t, rfl, rfl⟩
    · exact wpAny_pyHash_int h
    · exact wpAny_pyHash_str h
  eqBool := fun hu hv h => by
    rcases keyIs_shape hu with ⟨i, t, rfl, rfl⟩ | ⟨x, t, rfl, rfl⟩
    · rcases keyIs_shape hv with ⟨j, u, rfl, rfl⟩ | ⟨y, u, rfl, rfl⟩
      · rw [key_ll] at h; exact wpAny_eqBool_int h
      · rw [key_lr] at h; exact SeqAt.EqAt.int_str i t y u _ _ _ _ h
    · rcases keyIs_shape hv with ⟨j, u, rfl, rfl⟩ | ⟨y, u, rfl, rfl⟩
      · rw [key_rl] at h; exact SeqAt.EqAt.str_int x t j u _ _ _ _ h
      · rw [key_rr] at h; exact wpAny_eqBool_str h
  «strs» := fun k x t v h => by
    rcases keyIs_shape h with ⟨i, u, rfl, e⟩ | ⟨y, u, rfl, e⟩
    · exact nomatch e
    · injection e with e1 _
      subst e1
      cases v <;> rfl

end L2

namespace L2
open PySem PySem.Spec PyProof.Rows

/-- a value, without the heap -/
inductive V where
  | non | bl (b : Bool) | int (i : Int) | str (x : Str) | byt (b : Array UInt8) | flt (b : UInt64) | ref (a : Addr) | ty (n : String)
  deriving DecidableEq

noncomputable def RelV : V → Value → Prop
  | .non, u => u = Value.none
  | .bl b, u => u = Value.bool b
  | .int i, u => ∃ t, u = Value.int i t
  | .str x, u => ∃ t, u = Value.str x t
  | .byt b, u => ∃ t, u = Value.bytes b t
  | .flt b, u => ∃ t, u = Value.float b t
  | .ref a, u => u = Value.ref a
  | .ty n, u => u = Value.type n

noncomputable abbrev Vals : List V → List Value → Prop := Paired RelV
theorem Vals.length {xs : List V} {us : List Value} (r : Vals xs us) : xs.length = us.length := Paired.length r
theorem Vals.get : ∀ {xs : List V} {us : List Value} {i : Nat} {x : V}, Vals xs us → xs[i]? = some x → ∃ u, us[i]? = some u ∧ RelV x u
  | _, _, _, _, .nil, e => by simp at e
  | _, _, 0, _, .cons r _, e => by simp at e; subst e; exact ⟨_, rfl, r⟩
  | _, _, i + 1, x, .cons _ t, e => by
    obtain ⟨u, h1, h2⟩ := Vals.get (i := i) (x := x) t (by simpa using e)
    exact ⟨u, by simpa using h1, h2⟩
theorem Vals.set {x : V} {u : Value} (r : RelV x u) : ∀ {xs : List V} {us : List Value} (i : Nat), Vals xs us → Vals (xs.set i x) (us.set i u)
  | _, _, _, .nil => .nil
  | _, _, 0, .cons _ t => .cons r t
  | _, _, i + 1, .cons q t => .cons q (Vals.set r i t)
theorem Vals.append : ∀ {xs ys : List V} {us ws : List Value}, Vals xs us → Vals ys ws → Vals (xs ++ ys) (us ++ ws)
  | _, _, _, _, .nil, s => s
  | _, _, _, _, .cons r t, s => .cons r (Vals.append t s)
theorem Vals.take : ∀ {xs : List V} {us : List Value} (n : Nat), Vals xs us → Vals (xs.take n) (us.take n)
  | _, _, 0, _ => .nil
  | _, _, _ + 1, .nil => .nil
  | _, _, n + 1, .cons r t => .cons r (Vals.take n t)
theorem Vals.drop : ∀ {xs : List V} {us : List Value} (n : Nat), Vals xs us → Vals (xs.drop n) (us.drop n)
  | _, _, 0, r => r
  | _, _, _ + 1, .nil => .nil
  | _, _, n + 1, .cons _ t => Vals.drop n t
noncomputable def RelO : Option V → Option Value → Prop
  | some v, some u => RelV v u
  | none, none => True
  | _, _ => False
noncomputable def KV {κ : Type} : List (κ × V) → List (κ × Value) → Prop := Paired fun (p : κ × V) (q : κ × Value) => p.1 = q.1 ∧ RelV p.2 q.2

/-- a key of a dict (00_mix): an int or a text -/
noncomputable def kV : Key → V
  | .inl i => .int i
  | .inr x => .str x

/-- what stands at a tracked address -/
inductive HO where
  /-- a list -/
  | lst (xs : List V)
  /-- a tuple (never changes) -/
  | tup (xs : List V)
  /-- a dict whose keys are ints and texts; one whose keys are tuples of ints and texts (the empty one is both) -/
  | dK (kvs : List (Key × V)) | dT (kvs : List (List Key × V))
  /-- a set of ints: its members, its size -/
  | set (S : Int → Bool) (n : Nat)
  /-- an instance of the class at C, its dict at dx, its attributes -/
  | ins (C dx : Addr) (fs : List (Str × V))
  /-- the dict of the instance at x -/
  | own (x : Addr)
  /-- the dict of an exception -/
  | xd (fs : List (Str × V))
  /-- a bound method, f of x -/
  | met (f x : Addr)
  /-- a range object lo, lo + 1, .. below hi -/
  | rng (lo hi : Int)
  /-- a thing that is known to the object (the script; a dict while a loop walks it): read, never written while it is so -/
  | frz (o : Obj) (u : HO)
  /-- a code object's table -/
  | tbl (ps : Array Value)
  /-- any other thing, by what is true of its one object (a def of one's own: SetO a S n := HO.ext fun h => ..) -/
  | ext (φ : Heap → Prop)

noncomputable abbrev Hp := Addr → Option HO
noncomputable def upd (H : Hp) (a : Addr) (o : HO) : Hp := fun b => if b = a then some o else H b
theorem upd_same {H : Hp} {a : Addr} {o : HO} : upd H a o a = some o := by unfold upd; rw [if_pos rfl]
theorem upd_ne {H : Hp} {a b : Addr} {o : HO} (h : b ≠ a) : upd H a o b = H b := by unfold upd; rw [if_neg h]
theorem ne_of_none {H : Hp} {a b : Addr} {o : HO} (h : H a = some o) (h' : H b = none) : a ≠ b := by
  intro e; subst e; rw [h] at h'; cases h'

section
variable (P : Program) (w : World)
noncomputable def ObjOk (H : Hp) (h : Heap) (a : Addr) : HO → Prop
  | .lst xs => xs.length ≤ sizeLine ∧ ∃ (its : List Value) (n : Nat), Vals xs its ∧ h.get? a = some { cls := .type "list", data := .seq its.toArray n }
  | .tup xs => xs.length ≤ sizeLine ∧ ∃ its : List Value, Vals xs its ∧ IsTup h a its.toArray
  | .dK kvs => kvs.length ≤ sizeLine ∧ (a == sysModules) = false ∧ ∃ vs, KV kvs vs ∧ h.DictOf (mixKind P w) a vs
  | .dT kvs => kvs.length ≤ sizeLine ∧ (a == sysModules) = false ∧ ∃ xs : List (List Key × Addr × Value),
      Paired (fun (p : List Key × V) (q : List Key × Addr × Value) => p.1 = q.1 ∧ H q.2.1 = some (.tup (p.1.map kV)) ∧ RelV p.2 q.2.2) kvs xs ∧
      ∃ o es ep, h.get? a = some o ∧ o.ExactDict ∧ o.data = .dict es ep ∧ es.toList = xs.map (entryOfKey (tupleKind (mixKind P w))) ∧ (xs.map (·.1)).Nodup
  | .set S n => h.SetOf (intKind P w) a S n
  | .ins C dx fs => H dx = some (.own a) ∧ fs.length ≤ 1000 ∧ dx ≠ a ∧ h.get? a = some (PySem.W.instObj C dx) ∧
      ∃ mA, h.Ns1 dx mA ∧ (∀ f, RelO (fs.lookup f) (mA f)) ∧ PySem.Within mA (fs.map (·.1))
  | .own _ => ∃ o, h.get? a = some o
  | .xd fs => ∃ mA, h.Ns1 a mA ∧ ∀ f, RelO (fs.lookup f) (mA f)
  | .rng lo hi => ∃ t u v, h.get? a = some { cls := .type "range", data := .fields #[.int lo t, .int hi u, .int 1 v] }
  | .frz o u => h.get? a = some o ∧ ObjOk H h a u
  | .tbl ps => h.get? a = some { cls := .none, data := .fields ps }
  | .met f x => h.get? a = some (PySem.W.methodObj (.ref f) (.ref x))
  | .ext φ => φ h ∧ (∃ o, h.get? a = some o) ∧ ∀ h1 h2 : Heap, φ h1 → (∀ o, h1.get? a = some o → h2.get? a = some o) → φ h2
/-- the abstract heap is held -/
noncomputable def HOk (H : Hp) (h : Heap) : Prop := ∀ a o, H a = some o → ObjOk P w H h a o
end

section
variable {P : Program} {w : World} {H H' : Hp} {h h' : Heap} {a : Addr} {o : HO}
theorem ObjOk.lt (x : ObjOk P w H h a o) : a < h.objs.size := by
  cases o with
  | lst xs => obtain ⟨_, _, _, _, e⟩ := x; exact Heap.lt_size e
  | tup xs => obtain ⟨_, _, _, p⟩ := x; exact p.lt
  | dK kvs => obtain ⟨_, _, _, _, o, _, _, e, _⟩ := x; exact Heap.lt_size e
  | dT kvs => obtain ⟨_, _, _, _, o, _, _, e, _⟩ := x; exact Heap.lt_size e
  | set S n => obtain ⟨o, _, _, _, e, _⟩ := x; exact Heap.lt_size e
  | ins C dx fs => obtain ⟨_, _, _, e, _⟩ := x; exact Heap.lt_size e
  | own y => obtain ⟨_, e⟩ := x; exact Heap.lt_size e
  | xd fs => obtain ⟨_, ⟨_, _, _, e, _⟩, _⟩ := x; exact Heap.lt_size e
  | rng lo hi => obtain ⟨_, _, _, e⟩ := x; exact Heap.lt_size e
  | frz ob u => obtain ⟨e, _⟩ := x; exact Heap.lt_size e
  | tbl ps => exact Heap.lt_size (show h.get? a = some _ from x)
  | met f y => exact Heap.lt_size (show h.get? a = some _ from x)
  | ext φ => obtain ⟨_, ⟨_, e⟩, _⟩ := x; exact Heap.lt_size e
theorem Paired.mapP {α β : Type} {F G : α → β → Prop} : ∀ {l₁ : List α} {l₂ : List β}, Paired F l₁ l₂ → (∀ a b, F a b → G a b) → Paired G l₁ l₂
  | _, _, .nil, _ => .nil
  | _, _, .cons r t, f => .cons (f _ _ r) (Paired.mapP t f)
/-- what an object's description leans on: its own object, its own dict, the tuples -/
theorem ObjOk.stay (x : ObjOk P w H h a o) (k : ∀ b u, (b = a ∨ H b = some (.own a)) → h.get? b = some u → h'.get? b = some u)
    (ho : ∀ b, H b = some (.own a) → H' b = some (.own a)) (ht : ∀ b xs, H b = some (.tup xs) → H' b = some (.tup xs)) : ObjOk P w H' h' a o := by
  induction o with
  | lst xs => obtain ⟨z, its, n, r, e⟩ := x; exact ⟨z, its, n, r, k _ _ (.inl rfl) e⟩
  | tup xs => obtain ⟨z, its, r, ob, e, c⟩ := x; exact ⟨z, its, r, ob, k _ _ (.inl rfl) e, c⟩
  | dK kvs => obtain ⟨z, y, vs, r, ob, es, ep, e, c⟩ := x; exact ⟨z, y, vs, r, ob, es, ep, k _ _ (.inl rfl) e, c⟩
  | dT kvs =>
    obtain ⟨z, y, xs, r, ob, es, ep, e, c⟩ := x
    exact ⟨z, y, xs, Paired.mapP r fun p q z => ⟨z.1, ht _ _ z.2.1, z.2.2⟩, ob, es, ep, k _ _ (.inl rfl) e, c⟩
  | set S n => obtain ⟨ob, es, ep, t, e, c⟩ := x; exact ⟨ob, es, ep, t, k _ _ (.inl rfl) e, c⟩
  | ins C dx fs =>
    obtain ⟨d, z, ne, e, mA, ⟨od, es, ep, e2, c⟩, r⟩ := x
    exact ⟨ho _ d, z, ne, k _ _ (.inl rfl) e, mA, ⟨od, es, ep, k _ _ (.inr d) e2, c⟩, r⟩
  | own y => obtain ⟨ob, e⟩ := x; exact ⟨ob, k _ _ (.inl rfl) e⟩
  | xd fs => obtain ⟨mA, ⟨od, es, ep, e, c⟩, r⟩ := x; exact ⟨mA, ⟨od, es, ep, k _ _ (.inl rfl) e, c⟩, r⟩
  | rng lo hi => obtain ⟨t, u, v, e⟩ := x; exact ⟨t, u, v, k _ _ (.inl rfl) e⟩
  | frz ob u ih => obtain ⟨e, q⟩ := x; exact ⟨k _ _ (.inl rfl) e, ih q⟩
  | tbl ps =>
    have e : h.get? a = some { cls := .none, data := .fields ps } := x
    show h'.get? a = some { cls := .none, data := .fields ps }
    exact k a _ (.inl rfl) e
  | met f y =>
    have e : h.get? a = some (PySem.W.methodObj (.ref f) (.ref y)) := x
    show h'.get? a = some (PySem.W.methodObj (.ref f) (.ref y))
    exact k a _ (.inl rfl) e
  | ext φ => obtain ⟨p, ⟨o, e⟩, st⟩ := x; exact ⟨st _ _ p fun o q => k _ _ (.inl rfl) q, ⟨o, k _ _ (.inl rfl) e⟩, st⟩
theorem HOk.lt (x : HOk P w H h) (e : H a = some o) : a < h.objs.size := (x a o e).lt
theorem HOk.fresh (x : HOk P w H h) (e : h.objs.size ≤ a) : H a = none := by
  cases q : H a with
  | none => rfl
  | some u => exact absurd (Nat.lt_of_lt_of_le (x.lt q) e) (Nat.lt_irrefl _)
/-- every object of the heap is kept -/
theorem HOk.kept (x : HOk P w H h) (k : ∀ b u, h.get? b = some u → h'.get? b = some u) : HOk P w H h' := fun a o e =>
  (x a o e).stay (fun b u _ q => k b u q) (fun _ q => q) fun _ _ q => q
/-- a new object is laid and tracked -/
theorem HOk.laid (x : HOk P w H h) (k : ∀ b u, h.get? b = some u → h'.get? b = some u) (hp : h.objs.size ≤ a) (new : ObjOk P w (upd H a o) h' a o) : HOk P w (upd H a o) h' := fun b u e => by
  have hn := x.fresh hp
  by_cases hb : b = a
  · subst hb; rw [upd_same] at e; cases e; exact new
  · rw [upd_ne hb] at e
    exact (x b u e).stay (fun c v _ q => k c v q) (fun c q => by rw [upd_ne (ne_of_none q hn)]; exact q) fun c xs q => by rw [upd_ne (ne_of_none q hn)]; exact q
end

/-- what may be read as u: it is u, or a known u -/
noncomputable def Rd (H : Hp) (a : Addr) (u : HO) : Prop := H a = some u ∨ ∃ o, H a = some (.frz o u)
theorem Rd.of {H : Hp} {a : Addr} {u : HO} (h : H a = some u) : Rd H a u := .inl h
theorem Rd.ok {P : Program} {w : World} {H : Hp} {h : Heap} {a : Addr} {u : HO} (r : Rd H a u) (x : HOk P w H h) : ObjOk P w H h a u := by
  rcases r with r | ⟨o, r⟩
  · exact x a u r
  · obtain ⟨_, q⟩ := x a _ r
    exact q
/-- what may be written -/
noncomputable def Mut : Option HO → Prop
  | some (.lst _) => True
  | some (.dK _) => True
  | some (.dT _) => True
  | some (.set _ _) => True
  | some (.ins _ _ _) => True
  | some (.ext _) => True
  | _ => False
section
variable {P : Program} {w : World} {H : Hp} {h h' : Heap} {x e : Addr} {o' : HO}
/-- the object at e is changed: x itself, or the dict of the instance x -/
theorem HOk.write (ok : HOk P w H h) (mu : Mut (H x)) (he : e = x ∨ H e = some (.own x)) (k : ∀ b u, b ≠ e → h.get? b = some u → h'.get? b = some u) (heo : ∃ u, h'.get? e = some u)
    (new : ObjOk P w (upd H x o') h' x o') : HOk P w (upd H x o') h' := fun b u q => by
  have nown : ∀ c y, H c = some (.own y) → c ≠ x := fun c y r z => by subst z; rw [r] at mu; exact mu
  have ntup : ∀ c xs, H c = some (.tup xs) → c ≠ x := fun c xs r z => by subst z; rw [r] at mu; exact mu
  by_cases hb : b = x
  · subst hb; rw [upd_same] at q; cases q; exact new
  · rw [upd_ne hb] at q
    by_cases hbe : b = e
    · have q' : H b = some (.own x) := by
        rcases he with z | z
        · exact absurd (hbe.trans z) hb
        · rw [hbe]; exact z
      rw [q] at q'; cases q'
      obtain ⟨v, hv⟩ := heo
      exact ⟨v, by rw [hbe]; exact hv⟩
    · refine (ok b u q).stay (fun c v hc r => k c v ?_ r) (fun c r => by rw [upd_ne (nown c b r)]; exact r) fun c xs r => by rw [upd_ne (ntup c xs r)]; exact r
      rcases hc with rfl | hc
      · exact hbe
      · rintro rfl
        rcases he with z | z
        · exact nown c b hc z
        · rw [hc] at z; cases z; exact hb rfl
end

/-! ### kept unless tracked; of the frames at fs (the callers') the slots may change (an exception that passes writes there); of the records at ex (iterators) nothing is said -/
structure Un (fs ex : List Addr) (H H' : Hp) (h h' : Heap) : Prop where
  keep : ∀ b o, h.get? b = some o → H b = none → b ∉ fs → b ∉ ex → h'.get? b = some o
  slot : ∀ b o, h.get? b = some o → H b = none → b ∈ fs → b ∉ ex → ∃ sl, h'.get? b = some { o with slots := sl }
  free : ∀ b o, h.get? b = some o → H b = none → b ∉ ex → H' b = none
  there : ∀ b o, h.get? b = some o → b ∉ ex → ∃ o', h'.get? b = some o'
  tups : ∀ b xs, H b = some (.tup xs) → H' b = some (.tup xs)
  frzs : ∀ b o u, H b = some (.frz o u) → H' b = some (.frz o u)
  tbls : ∀ b ps, H b = some (.tbl ps) → ∃ more, H' b = some (.tbl (ps ++ more))
section
variable {fs fs' ex ex' : List Addr} {H H1 H2 : Hp} {h h1 h2 h' : Heap} {a x e : Addr} {o : HO}
theorem Un.any (u : Un fs ex H H1 h h1) {b : Addr} {ob : Obj} (q : h.get? b = some ob) (n : H b = none) (hx : b ∉ ex) : ∃ sl, h1.get? b = some { ob with slots := sl } := by
  by_cases hb : b ∈ fs
  · exact u.slot b ob q n hb hx
  · exact ⟨ob.slots, u.keep b ob q n hb hx⟩
theorem Un.trans (a : Un fs ex H H1 h h1) (b : Un fs ex H1 H2 h1 h2) : Un fs ex H H2 h h2 where
  keep := fun c ob q n hc hx => b.keep c ob (a.keep c ob q n hc hx) (a.free c ob q n hx) hc hx
  slot := fun c ob q n hc hx => by
    obtain ⟨sl, e1⟩ := a.slot c ob q n hc hx
    obtain ⟨sl', e2⟩ := b.slot c _ e1 (a.free c ob q n hx) hc hx
    exact ⟨sl', e2⟩
  free := fun c ob q n hx => by
    obtain ⟨o', e1⟩ := a.there c ob q hx
    exact b.free c o' e1 (a.free c ob q n hx) hx
  there := fun c ob q hx => by
    obtain ⟨o', e1⟩ := a.there c ob q hx
    exact b.there c o' e1 hx
  tups := fun c xs q => b.tups c xs (a.tups c xs q)
  frzs := fun c ob xs q => b.frzs c ob xs (a.frzs c ob xs q)
  tbls := fun c ps q => by
    obtain ⟨m1, e1⟩ := a.tbls c ps q
    obtain ⟨m2, e2⟩ := b.tbls c _ e1
    exact ⟨m1 ++ m2, by rw [e2, Array.append_assoc]⟩
theorem Un.kept (k : ∀ b u, h.get? b = some u → h'.get? b = some u) : Un fs ex H H h h' :=
  ⟨fun b ob q _ _ _ => k b ob q, fun b ob q _ _ _ => ⟨ob.slots, k b ob q⟩, fun _ _ _ n _ => n, fun b ob q _ => ⟨ob, k b ob q⟩, fun _ _ q => q, fun _ _ _ q => q, fun _ ps q => ⟨#[], by rw [q]; simp⟩⟩
theorem Un.refl : Un fs ex H H h h := Un.kept fun _ _ q => q
theorem Un.laid (k : ∀ b u, h.get? b = some u → h'.get? b = some u) (hp : h.objs.size ≤ a) (hn : H a = none) : Un fs ex H (upd H a o) h h' where
  keep := fun b u q _ _ _ => k b u q
  slot := fun b u q _ _ _ => ⟨u.slots, k b u q⟩
  free := fun b u q n _ => by rw [upd_ne (Nat.ne_of_lt (Nat.lt_of_lt_of_le (Heap.lt_size q) hp))]; exact n
  there := fun b u q _ => ⟨u, k b u q⟩
  tups := fun b xs q => by rw [upd_ne (ne_of_none q hn)]; exact q
  frzs := fun b u xs q => by rw [upd_ne (ne_of_none q hn)]; exact q
  tbls := fun b ps q => ⟨#[], by rw [upd_ne (ne_of_none q hn), q]; simp⟩
theorem Un.write (mu : Mut (H x)) (he : e = x ∨ H e = some (.own x)) (k : ∀ b u, b ≠ e → h.get? b = some u → h'.get? b = some u) (heo : ∃ u, h'.get? e = some u) : Un fs ex H (upd H x o) h h' := by
  have hx : ∀ b, H b = none → b ≠ x := fun b n z => by subst z; rw [n] at mu; exact mu
  have hb : ∀ b, H b = none → b ≠ e := fun b n z => by
    subst z
    rcases he with r | r
    · exact hx b n r
    · rw [n] at r; cases r
  have hm : ∀ b u, H b = some u → ¬ Mut (some u) → b ≠ x := fun b u q nm z => by subst z; rw [q] at mu; exact nm mu
  refine ⟨fun b u q n _ _ => k b u (hb b n) q, fun b u q n _ _ => ⟨u.slots, k b u (hb b n) q⟩, fun b u q n _ => by rw [upd_ne (hx b n)]; exact n, fun b u q _ => ?_,
    fun b xs q => by rw [upd_ne (hm b _ q fun z => z)]; exact q, fun b u xs q => by rw [upd_ne (hm b _ q fun z => z)]; exact q, fun b ps q => ⟨#[], by rw [upd_ne (hm b _ q fun z => z), q]; simp⟩⟩
  by_cases hbe : b = e
  · subst hbe; exact heo
  · exact ⟨u, k b u hbe q⟩
theorem Un.mono (u : Un fs ex H H1 h h1) (hs : ∀ b ∈ fs, b ∈ fs') (hx : ∀ b ∈ ex, b ∈ ex') : Un fs' ex' H H1 h h1 :=
  ⟨fun b ob q n hb he => u.keep b ob q n (fun z => hb (hs b z)) fun z => he (hx b z), fun _ _ q n _ he => u.any q n fun z => he (hx _ z), fun b ob q n he => u.free b ob q n fun z => he (hx b z), fun b ob q he => u.there b ob q fun z => he (hx b z), u.tups, u.frzs, u.tbls⟩
end

/-! ### the heap without what is tracked -/
noncomputable def trk (h : Heap) (H : Hp) : List Addr := (List.range h.objs.size).filter fun a => (H a).isSome
noncomputable def hidT (h : Heap) (H : Hp) : Heap := PySem.W.hideAll h (trk h H)
theorem hidT_size (h : Heap) (H : Hp) : (hidT h H).objs.size = h.objs.size := PySem.W.hideAll_size _ _
theorem hidT_get {h : Heap} {H : Hp} {b : Addr} {o : Obj} (e : h.get? b = some o) (n : H b = none) : (hidT h H).get? b = some o :=
  PySem.W.hideAll_get _ e fun hm => by
    have q : (H b).isSome = true := (List.mem_filter.mp hm).2
    rw [n] at q; simp at q
theorem of_hidT {h : Heap} {H : Hp} {b : Addr} {o : Obj} (e : (hidT h H).get? b = some o) : h.get? b = some o ∧ H b = none := by
  have e' : h.get? b = some o := PySem.W.of_hideAll (trk h H) e
  refine ⟨e', ?_⟩
  cases q : H b with
  | none => rfl
  | some x =>
    have hm : b ∈ trk h H := List.mem_filter.mpr ⟨List.mem_range.mpr (Heap.lt_size e'), by simp [q]⟩
    have z : (hidT h H).get? b = none := PySem.W.hideAll_none (trk h H) hm
    rw [z] at e; cases e

/-! ### OpenK's ledger, filled with every new object but one -/
noncomputable def allNews (g h : Heap) (L : Addr) : List (Addr × Obj) := (List.range h.objs.size).filterMap fun a => if a = L ∨ (g.get? a).isSome = true then none else (h.get? a).map fun o => (a, o)
noncomputable def rest (g h : Heap) (L d : Addr) : List (Addr × Obj) := (allNews g h L).filter fun p => decide (p.1 ≠ d)
end L2

namespace L2
open PySem PySem.Spec PyProof.Rows

/-- the module's facts, over the base: the heap at the law's entry without what is tracked there -/
structure Mod (K : PySem.W.Frag) (mg : Str → Option Value) (base : Heap) : Prop where
  kin : K.In base
  glob : base.Ns mainGlobals mg
  blt : ∃ mb, base.Ns builtinsNs mb ∧ ∀ x : Str, x ≠ "__name__" → mb x = bootBuiltins x
  nolimit : base.NoLimit

/-- the context: a def's body (or a comprehension's block) running. base: fixed through the whole law; s₀, H₀: the entry; outer: the frames whose slots others may change (a def's callers); stack: all frames that run;
   ex: iterators that were made ahead of the entry and are walked here (a comprehension's); fn: the names whose cells were made at the entry (a def: all; a comprehension's block: its own); calm: not within an except suite; pn: pins that every state bears; xe: what is wanted of an exception that leaves the code -/
structure Cx where
  prog : Program
  w : World
  K : PySem.W.Frag
  mg : Str → Option Value
  base : Heap
  A : Around
  N : List Str
  s₀ : Shared
  H₀ : Hp
  env : Env
  outer : List Env
  stack : List Env
  ex : List Addr
  fn : Str → Bool
  calm : Bool
  pn : List (Addr × Obj)
  xe : Value → Shared → Prop
/-- the callers' frames -/
noncomputable def frs (l : List Env) : List Addr := l.filterMap (·.frame)
noncomputable abbrev Cx.fs (X : Cx) : List Addr := frs X.outer

noncomputable def Vis (sc : Scope) (x : Str) : Prop := sc.names.lookup x = some .local ∨ sc.names.lookup x = some .cell ∨ sc.names.lookup x = some .free
noncomputable def Loc (sc : Scope) (x : Str) : Prop := sc.names.lookup x = some .local ∨ sc.names.lookup x = some .cell
noncomputable def Look (env : Env) (h : Heap) (m : Str → Option Value) (x : Str) (u : Value) : Prop :=
  (env.kindOf x = some .local ∧ m x = some u) ∨ ((env.kindOf x = some .cell ∨ env.kindOf x = some .free) ∧ ∃ c, env.cells.lookup x = some c ∧ h.IsCell c (some u))

structure Cx.Ok (X : Cx) : Prop where
  mod : Mod X.K X.mg X.base
  kind : X.env.scope.kind = .function
  glob : X.env.globals = mainGlobals
  blt : X.env.builtins = builtinsNs
  above : X.s₀.heap.objs.size ≤ X.env.locals
  inj : ∀ x y c, X.env.cells.lookup x = some c → X.env.cells.lookup y = some c → x = y
  has : ∀ x, (X.env.kindOf x = some .cell ∨ X.env.kindOf x = some .free) → ∃ c, X.env.cells.lookup x = some c
  cab : ∀ x c, X.fn x = true → X.env.cells.lookup x = some c → X.s₀.heap.objs.size ≤ c
  hd : X.calm = true → X.A.handled = none
  frames : X.A.frames = some X.stack
  stk : X.stack = X.outer ∨ (X.stack = X.env :: X.outer ∧ X.env.frame = some X.env.locals)
  exf : ∀ b ∈ X.ex, b ≠ X.env.locals ∧ ∀ x c, X.env.cells.lookup x = some c → c ≠ b
  bs : ∀ b o, X.base.get? b = some o → X.s₀.heap.get? b = some o ∧ X.H₀ b = none
  bsz : X.base.objs.size ≤ X.s₀.heap.objs.size
  noex : ∀ b o, X.base.get? b = some o → b ∉ X.ex
  exfs : ∀ b ∈ X.ex, b ∉ X.fs
  funs : X.s₀.heap.FunFrames X.base X.outer
  frf : ∀ b ∈ X.fs, X.H₀ b = none

structure Inv (X : Cx) (pins : List (Addr × Obj)) (σ : List (Option V)) (H : Hp) (s : Shared) : Prop where
  ok : X.Ok
  os : s.os = X.s₀.os
  bare : AllBare s.gens
  base : Un X.fs X.ex X.H₀ H X.s₀.heap s.heap
  loc : ∃ m, s.heap.Ns X.env.locals m ∧ ∀ (i : Nat) (x : Str) (v : V), X.N[i]? = some x → σ[i]? = some (some v) → Vis X.env.scope x → ∃ u, RelV v u ∧ Look X.env s.heap m x u
  cell : ∀ x c, X.env.cells.lookup x = some c → ∃ v, s.heap.IsCell c v
  free : H X.env.locals = none
  freeC : ∀ x c, X.env.cells.lookup x = some c → H c = none
  pin : ∀ p ∈ X.pn ++ pins, s.heap.get? p.1 = some p.2 ∧ H p.1 = none ∧ p.1 ≠ X.env.locals ∧ p.1 ∉ X.fs ∧ ∀ v, p.2.data ≠ .cell v
  hok : HOk X.prog X.w H s.heap
  len : σ.length = X.N.length

section
variable {X : Cx} {pins : List (Addr × Obj)} {σ : List (Option V)} {H H' : Hp} {s : Shared} {h' : Heap}

theorem Cx.Ok.nofr (ok : X.Ok) {b : Addr} {o : Obj} (e : X.base.get? b = some o) : b ∉ X.fs := fun hb => by
  have := (ok.funs.mem hb).1
  rw [e] at this; cases this
theorem Inv.bs (I : Inv X pins σ H s) : ∀ b o, X.base.get? b = some o → s.heap.get? b = some o ∧ H b = none := fun b o e =>
  ⟨I.base.keep b o (I.ok.bs b o e).1 (I.ok.bs b o e).2 (I.ok.nofr e) (I.ok.noex b o e), I.base.free b o (I.ok.bs b o e).1 (I.ok.bs b o e).2 (I.ok.noex b o e)⟩
theorem Inv.bk (I : Inv X pins σ H s) : ∀ b o, X.base.get? b = some o → s.heap.get? b = some o := fun b o e => (I.bs b o e).1
theorem Inv.mod (I : Inv X pins σ H s) : Mod X.K X.mg X.base := I.ok.mod
theorem Inv.kIn (I : Inv X pins σ H s) : X.K.In s.heap := I.ok.mod.kin.keeps I.bk
theorem Inv.nolimit (I : Inv X pins σ H s) : s.heap.NoLimit := I.ok.mod.nolimit.keeps I.bk
/-- the frame over the base: for OpenK's rules (K.In X.base is I.mod.kin) -/
theorem Inv.fr (I : Inv X pins σ H s) : ∃ m, Fr X.base X.env.locals s.heap m :=
  let ⟨m, hn, _⟩ := I.loc
  ⟨m, hn, I.bk, Nat.le_trans I.ok.bsz I.ok.above⟩
theorem Inv.lt (I : Inv X pins σ H s) : X.env.locals < s.heap.objs.size := let ⟨_, hn, _⟩ := I.loc; hn.lt
theorem Inv.sz (I : Inv X pins σ H s) : X.s₀.heap.objs.size ≤ s.heap.objs.size := Nat.le_trans I.ok.above (Nat.le_of_lt I.lt)
theorem Inv.nofs (I : Inv X pins σ H s) {a : Addr} (h : s.heap.objs.size ≤ a) : a ∉ X.fs := fun hb => by
  obtain ⟨_, o, ho, _⟩ := I.ok.funs.mem hb
  exact absurd (Nat.lt_of_lt_of_le (Heap.lt_size ho) (Nat.le_trans I.sz h)) (Nat.lt_irrefl _)
theorem Inv.cne (I : Inv X pins σ H s) : ∀ x c, X.env.cells.lookup x = some c → c ≠ X.env.locals := fun x c e z => by
  obtain ⟨v, o, ho, hd⟩ := I.cell x c e
  obtain ⟨m, ⟨o', es, ep, ho', hd', _⟩, _⟩ := I.loc
  rw [z, ho'] at ho; cases ho; rw [hd'] at hd; cases hd
theorem Inv.funs (I : Inv X pins σ H s) : s.heap.FunFrames X.base X.outer := by
  have all : ∀ (l : List Env), (∀ b ∈ frs l, b ∈ X.fs) → X.s₀.heap.FunFrames X.base l → s.heap.FunFrames X.base l := by
    intro l
    induction l with
    | nil => intro _ _; trivial
    | cons env r ih =>
      intro hs hl
      obtain ⟨hk, ⟨L, o, hf, hn, ho, hd⟩, hr⟩ := hl
      have hL : L ∈ X.fs := hs L (by unfold frs; rw [List.filterMap_cons, hf]; exact List.mem_cons_self)
      obtain ⟨sl, e⟩ := I.base.slot L o ho (I.ok.frf L hL) hL fun z => I.ok.exfs L z hL
      exact ⟨hk, ⟨L, _, hf, hn, e, hd⟩, ih (fun b hb => hs b (by unfold frs; rw [List.filterMap_cons, hf]; exact List.mem_cons_of_mem _ hb)) hr⟩
  exact all X.outer (fun _ hb => hb) I.ok.funs

/-- the frames that run, for a call -/
theorem Inv.stack (I : Inv X pins σ H s) : s.heap.FunFrames X.base X.stack := by
  rcases I.ok.stk with e | ⟨e, hf⟩
  · rw [e]; exact I.funs
  · rw [e]
    obtain ⟨m, hn, _⟩ := I.loc
    refine .cons (by rw [I.ok.kind]; decide) hf hn ?_ I.funs
    exact Heap.get?_none_of_le (Nat.le_trans I.ok.bsz I.ok.above)
theorem Inv.stkSub (I : Inv X pins σ H s) : ∀ b ∈ frs X.stack, b ∈ X.env.locals :: X.fs := fun b hb => by
  rcases I.ok.stk with e | ⟨e, hf⟩
  · rw [e] at hb; exact List.mem_cons_of_mem _ hb
  · rw [e] at hb
    unfold frs at hb
    rw [List.filterMap_cons, hf] at hb
    exact hb
theorem Inv.stkFree (I : Inv X pins σ H s) : ∀ b ∈ frs X.stack, H b = none := fun b hb => by
  rcases List.mem_cons.mp (I.stkSub b hb) with e | hb
  · rw [e]; exact I.free
  · obtain ⟨_, o, ho, _⟩ := I.ok.funs.mem hb
    exact I.base.free b o ho (I.ok.frf b hb) fun z => I.ok.exfs b z hb

/-- THE STEP: the untracked objects but the frame and the records at ch are kept (the callers' frames up to slots), the frame's map is kept, the new abstract heap is held -/
theorem Inv.step {g' : Array GenState} {t' : Nat} {d' : Drawn} {ch : List Addr} (I : Inv X pins σ H s)
    (hch : ∀ b ∈ ch, (b ∈ X.ex ∨ X.s₀.heap.objs.size ≤ b) ∧ b ≠ X.env.locals ∧ (∀ x c, X.env.cells.lookup x = some c → c ≠ b) ∧ ∀ p ∈ X.pn ++ pins, p.1 ≠ b)
    (keep : ∀ b o, b ≠ X.env.locals → b ∉ X.fs → b ∉ ch → s.heap.get? b = some o → H b = none → h'.get? b = some o)
    (slot : ∀ b o, b ≠ X.env.locals → b ∈ X.fs → b ∉ ch → s.heap.get? b = some o → H b = none → ∃ sl, h'.get? b = some { o with slots := sl }) (free : ∀ b o, b ∉ ch → s.heap.get? b = some o → H b = none → H' b = none)
    (there : ∀ b o, b ∉ ch → s.heap.get? b = some o → ∃ o', h'.get? b = some o')
    (tups : ∀ b xs, H b = some (.tup xs) → H' b = some (.tup xs)) (frzs : ∀ b o u, H b = some (.frz o u) → H' b = some (.frz o u)) (tbls : ∀ b ps, H b = some (.tbl ps) → ∃ more, H' b = some (.tbl (ps ++ more)))
    (ns : ∀ m, s.heap.Ns X.env.locals m → h'.Ns X.env.locals m) (hok : HOk X.prog X.w H' h') (hg : AllBare g') :
    Inv X pins σ H' { s with heap := h', gens := g', drawn := d', toks := t' } := by
  have neL : ∀ b o, X.s₀.heap.get? b = some o → b ≠ X.env.locals := fun b o e => Nat.ne_of_lt (Nat.lt_of_lt_of_le (Heap.lt_size e) I.ok.above)
  have neC : ∀ b o, X.s₀.heap.get? b = some o → b ∉ X.ex → b ∉ ch := fun b o e hx hb => by
    rcases (hch b hb).1 with z | z
    · exact hx z
    · exact absurd (Nat.lt_of_lt_of_le (Heap.lt_size e) z) (Nat.lt_irrefl _)
  have cellK : ∀ x c, X.env.cells.lookup x = some c → ∀ v, s.heap.IsCell c v → h'.IsCell c v := fun x c e v ⟨o, ho, hd⟩ => by
    have nch : c ∉ ch := fun z => (hch c z).2.2.1 x c e rfl
    by_cases hc : c ∈ X.fs
    · obtain ⟨sl, q⟩ := slot c o (I.cne x c e) hc nch ho (I.freeC x c e)
      exact ⟨_, q, hd⟩
    · exact ⟨o, keep c o (I.cne x c e) hc nch ho (I.freeC x c e), hd⟩
  refine ⟨I.ok, I.os, hg, ⟨fun b o e n hb hx => ?_, fun b o e n hb hx => ?_, fun b o e n hx => ?_, fun b o e hx => ?_, fun b xs e => tups b xs (I.base.tups b xs e), fun b o xs e => frzs b o xs (I.base.frzs b o xs e), fun b ps e => ?_⟩, ?_, fun x c e => ?_, ?_, fun x c e => ?_, fun p hp => ?_, hok, I.len⟩
  · exact keep b o (neL b o e) hb (neC b o e hx) (I.base.keep b o e n hb hx) (I.base.free b o e n hx)
  · obtain ⟨sl, e1⟩ := I.base.slot b o e n hb hx
    obtain ⟨sl', e2⟩ := slot b _ (neL b o e) hb (neC b o e hx) e1 (I.base.free b o e n hx)
    exact ⟨sl', e2⟩
  · obtain ⟨o', e1⟩ := I.base.there b o e hx
    exact free b o' (neC b o e hx) e1 (I.base.free b o e n hx)
  · obtain ⟨o', e1⟩ := I.base.there b o e hx
    exact there b o' (neC b o e hx) e1
  · obtain ⟨m1, e1⟩ := I.base.tbls b ps e
    obtain ⟨m2, e2⟩ := tbls b _ e1
    exact ⟨m1 ++ m2, by rw [e2, Array.append_assoc]⟩
  · obtain ⟨m, hn, hl⟩ := I.loc
    refine ⟨m, ns m hn, fun i x v e1 e2 e3 => ?_⟩
    obtain ⟨u, r, l⟩ := hl i x v e1 e2 e3
    refine ⟨u, r, ?_⟩
    rcases l with l | ⟨k, c, e, z⟩
    · exact .inl l
    · exact .inr ⟨k, c, e, cellK x c e _ z⟩
  · obtain ⟨v, z⟩ := I.cell x c e
    exact ⟨v, cellK x c e v z⟩
  · obtain ⟨m, ⟨o, _, _, ho, _⟩, _⟩ := I.loc
    exact free _ o (fun z => (hch _ z).2.1 rfl) ho I.free
  · obtain ⟨v, o, ho, hd⟩ := I.cell x c e
    exact free c o (fun z => (hch c z).2.2.1 x c e rfl) ho (I.freeC x c e)
  · obtain ⟨e, n, ne, nf, d⟩ := I.pin p hp
    have nch : p.1 ∉ ch := fun z => (hch p.1 z).2.2.2 p hp rfl
    exact ⟨keep p.1 p.2 ne nf nch e n, free p.1 p.2 nch e n, ne, nf, d⟩
/-- .. where the frame's own object is kept too -/
theorem Inv.un {t' : Nat} (I : Inv X pins σ H s) (u : Un X.fs [] H H' s.heap h') (hok : HOk X.prog X.w H' h') : Inv X pins σ H' { s with heap := h', toks := t' } := by
  obtain ⟨m, ⟨o, es, ep, ho, r⟩, _⟩ := id I.loc
  obtain ⟨sl, hL⟩ := u.any ho I.free (by simp)
  exact I.step (g' := s.gens) (d' := s.drawn) (ch := []) (fun _ z => nomatch z) (fun b o _ hb _ e n => u.keep b o e n hb (by simp)) (fun b o _ hb _ e n => u.slot b o e n hb (by simp)) (fun b o _ e n => u.free b o e n (by simp)) (fun b o _ e => u.there b o e (by simp)) u.tups u.frzs u.tbls (fun m' hm => by
    obtain ⟨o', es', ep', ho', r'⟩ := hm
    rw [ho] at ho'; cases ho'
    exact ⟨_, es', ep', hL, r'⟩) hok I.bare
/-- behind a call (or a comprehension's block): the slots of this frame may have changed too, the records at ch may have turned -/
theorem Inv.call {g' : Array GenState} {t' : Nat} {d' : Drawn} {ch : List Addr} (I : Inv X pins σ H s) (u : Un (frs X.stack) ch H H' s.heap h') (hok : HOk X.prog X.w H' h') (hg : AllBare g')
    (hch : ∀ b ∈ ch, (b ∈ X.ex ∨ X.s₀.heap.objs.size ≤ b) ∧ b ≠ X.env.locals ∧ (∀ x c, X.env.cells.lookup x = some c → c ≠ b) ∧ ∀ p ∈ X.pn ++ pins, p.1 ≠ b) :
    Inv X pins σ H' { s with heap := h', gens := g', drawn := d', toks := t' } := by
  obtain ⟨m, ⟨o, es, ep, ho, r⟩, _⟩ := id I.loc
  obtain ⟨sl, hL⟩ := u.any ho I.free fun z => (hch _ z).2.1 rfl
  exact I.step (ch := ch) hch (fun b o hL hb hc e n => u.keep b o e n (fun z => (List.mem_cons.mp (I.stkSub b z)).elim hL hb) hc) (fun b o _ _ hc e n => u.any e n hc) (fun b o hc e n => u.free b o e n hc) (fun b o hc e => u.there b o e hc) u.tups u.frzs u.tbls (fun m' hm => by
    obtain ⟨o', es', ep', ho', r'⟩ := hm
    rw [ho] at ho'; cases ho'
    exact ⟨_, es', ep', hL, r'⟩) hok hg
/-- an untracked record of ours (an iterator) has turned -/
theorem Inv.turned {t' : Nat} {it : Addr} (I : Inv X pins σ H s) (k : ∀ b o, b ≠ it → s.heap.get? b = some o → h'.get? b = some o) (hn : H it = none) (hL : it ≠ X.env.locals)
    (h1 : it ∈ X.ex ∨ X.s₀.heap.objs.size ≤ it) (h2 : ∀ x c, X.env.cells.lookup x = some c → c ≠ it) (h3 : ∀ p ∈ X.pn ++ pins, p.1 ≠ it) : Inv X pins σ H { s with heap := h', toks := t' } := by
  have nit : ∀ b u, H b = some u → b ≠ it := fun b u e z => by rw [z, hn] at e; cases e
  refine I.step (g' := s.gens) (d' := s.drawn) (ch := [it]) (fun b hb => ?_) (fun b o _ _ hc e _ => k b o (fun z => hc (by simp [z])) e) (fun b o _ _ hc e _ => ⟨o.slots, k b o (fun z => hc (by simp [z])) e⟩) (fun _ _ _ _ n => n)
    (fun b o hc e => ⟨o, k b o (fun z => hc (by simp [z])) e⟩) (fun _ _ e => e) (fun _ _ _ e => e) (fun b ps e => ⟨#[], by rw [e]; simp⟩) (fun m hm => ?_) (fun b u e => ?_) I.bare
  · have e : b = it := by simpa using hb
    subst e
    exact ⟨h1, hL, h2, h3⟩
  · obtain ⟨o, es, ep, ho, r⟩ := hm
    exact ⟨o, es, ep, k _ o (Ne.symm hL) ho, r⟩
  · refine (I.hok b u e).stay (fun c v hc q => k c v ?_ q) (fun _ q => q) fun _ _ q => q
    rcases hc with z | z
    · rw [z]; exact nit b u e
    · exact nit c _ z
theorem Inv.tok (I : Inv X pins σ H s) (t : Nat) : Inv X pins σ H { s with toks := t } := I.un (h' := s.heap) (t' := t) Un.refl I.hok
/-- all objects kept -/
theorem Inv.kept {t' : Nat} (I : Inv X pins σ H s) (k : ∀ b u, s.heap.get? b = some u → h'.get? b = some u) : Inv X pins σ H { s with heap := h', toks := t' } := I.un (Un.kept k) (I.hok.kept k)
/-- a new object laid and tracked -/
theorem Inv.laid {a : Addr} {o : HO} {t' : Nat} (I : Inv X pins σ H s) (k : ∀ b u, s.heap.get? b = some u → h'.get? b = some u) (hp : s.heap.objs.size ≤ a) (new : ObjOk X.prog X.w (upd H a o) h' a o) :
    Inv X pins σ (upd H a o) { s with heap := h', toks := t' } := I.un (Un.laid k hp (I.hok.fresh hp)) (I.hok.laid k hp new)
/-- an object written -/
theorem Inv.write {x e : Addr} {o : HO} {t' : Nat} (I : Inv X pins σ H s) (mu : Mut (H x)) (he : e = x ∨ H e = some (.own x)) (k : ∀ b u, b ≠ e → s.heap.get? b = some u → h'.get? b = some u) (heo : ∃ u, h'.get? e = some u)
    (new : ObjOk X.prog X.w (upd H x o) h' x o) : Inv X pins σ (upd H x o) { s with heap := h', toks := t' } := I.un (Un.write mu he k heo) (I.hok.write mu he k heo new)
theorem Inv.pins_of {pins' : List (Addr × Obj)} (I : Inv X pins σ H s) (h : ∀ p ∈ pins', s.heap.get? p.1 = some p.2 ∧ H p.1 = none ∧ p.1 ≠ X.env.locals ∧ p.1 ∉ X.fs ∧ ∀ v, p.2.data ≠ .cell v) : Inv X pins' σ H s :=
  ⟨I.ok, I.os, I.bare, I.base, I.loc, I.cell, I.free, I.freeC, fun p hp => (List.mem_append.mp hp).elim (fun z => I.pin p (List.mem_append_left _ z)) (h p), I.hok, I.len⟩

theorem nodup_ix {N : List Str} (hN : N.Nodup) {i j : Nat} {x : Str} (a : N[i]? = some x) (b : N[j]? = some x) : i = j := by
  obtain ⟨h1, e1⟩ := List.getElem?_eq_some_iff.mp a
  obtain ⟨h2, e2⟩ := List.getElem?_eq_some_iff.mp b
  exact (List.getElem_inj hN).mp (e1.trans e2.symm)

/-- a name is stored; what changed -/
theorem store_ok2 {M : Model} {A : Around} {E : Value → Shared → Prop} {i : Nat} {x : Str} {v : V} {u : Value} {Q : Unit → Shared → Prop} (I : Inv X pins σ H s) (hN : X.N.Nodup) (hi : X.N[i]? = some x) (hx : Loc X.env.scope x) (r : RelV v u)
    (h : ∀ s', Inv X pins (σ.set i (some v)) H s' → (∃ a, Heap.SameBut a s.heap s'.heap ∧ (a = X.env.locals ∨ X.env.cells.lookup x = some a)) → Q () s') (hf : X.fn x = true ∨ X.env.scope.names.lookup x = some .local := by first | exact .inl rfl | exact .inr rfl | assumption) : wpAny M A (storeName X.env x u) Q E s := by
  obtain ⟨m, hn, hl⟩ := id I.loc
  have hcls : (X.env.scope.kind == .class || (X.env.scope.kind == .module && X.env.locals != X.env.globals)) = false := by rw [I.ok.kind]; rfl
  have hiσ : i < σ.length := by rw [I.len]; exact (List.getElem?_eq_some_iff.mp hi).1
  have cne := I.cne
  have tracked : ∀ {a : Addr} {h' : Heap}, (∃ o, s.heap.get? a = some o ∧ H a = none) → Heap.SameBut a s.heap h' → HOk X.prog X.w H h' := fun {a h'} ha hs b ob e => by
    obtain ⟨_, _, hfree⟩ := ha
    refine (I.hok b ob e).stay (fun c w' hc q => (hs.2 c ?_).trans q) (fun _ q => q) fun _ _ q => q
    rintro rfl
    rcases hc with rfl | hc
    · rw [hfree] at e; cases e
    · rw [hfree] at hc; cases hc
  rcases hx with hk | hk
  · refine wpAny_storeName_local hk hn (fun h' hn' hs => ?_) hcls
    obtain ⟨oL, _, _, hoL, _⟩ := id hn
    refine h _ ⟨I.ok, I.os, I.bare, ⟨fun b o e n hb hx => ?_, fun b o e n hb hx => ?_, I.base.free, fun b o e hx => ?_, I.base.tups, I.base.frzs, I.base.tbls⟩, ⟨_, hn', fun j y v' e1 e2 e3 => ?_⟩, fun y c e => ?_, I.free, I.freeC, fun p hp => ?_, tracked ⟨oL, hoL, I.free⟩ hs, by simpa using I.len⟩ ⟨_, hs, .inl rfl⟩
    · exact (hs.2 b (Nat.ne_of_lt (Nat.lt_of_lt_of_le (Heap.lt_size e) I.ok.above))).trans (I.base.keep b o e n hb hx)
    · obtain ⟨sl, e1⟩ := I.base.slot b o e n hb hx
      exact ⟨sl, (hs.2 b (Nat.ne_of_lt (Nat.lt_of_lt_of_le (Heap.lt_size e) I.ok.above))).trans e1⟩
    · obtain ⟨o', e1⟩ := I.base.there b o e hx
      exact ⟨o', (hs.2 b (Nat.ne_of_lt (Nat.lt_of_lt_of_le (Heap.lt_size e) I.ok.above))).trans e1⟩
    · by_cases hj : j = i
      · subst hj
        rw [hi] at e1; cases e1
        rw [List.getElem?_set_self hiσ] at e2
        cases e2
        exact ⟨u, r, .inl ⟨hk, by simp⟩⟩
      · rw [List.getElem?_set_ne (Ne.symm hj)] at e2
        obtain ⟨u', r', q⟩ := hl j y v' e1 e2 e3
        refine ⟨u', r', ?_⟩
        rcases q with ⟨k, e⟩ | ⟨k, c, e, z⟩
        · refine .inl ⟨k, ?_⟩
          have : y ≠ x := fun e => hj (nodup_ix hN e1 (e ▸ hi))
          simp [this, e]
        · exact .inr ⟨k, c, e, z.sameBut hs (cne y c e)⟩
    · obtain ⟨w', z⟩ := I.cell y c e
      exact ⟨w', z.sameBut hs (cne y c e)⟩
    · obtain ⟨e, n, ne, nf, d⟩ := I.pin p hp
      exact ⟨(hs.2 p.1 ne).trans e, n, ne, nf, d⟩
  · have hfn : X.fn x = true := by
      rcases hf with z | z
      · exact z
      · rw [z] at hk; cases hk
    obtain ⟨c, hc⟩ := I.ok.has x (.inl hk)
    obtain ⟨w', z⟩ := I.cell x c hc
    refine wpAny_storeName_cell I.ok.kind hk hc z (fun h' hc' hs => ?_)
    obtain ⟨oc, hoc, hocd⟩ := id z
    refine h { s with heap := h' } ⟨I.ok, I.os, I.bare, ⟨fun b o e n hb hx => ?_, fun b o e n hb hx => ?_, I.base.free, fun b o e hx => ?_, I.base.tups, I.base.frzs, I.base.tbls⟩, ⟨m, hn.sameBut hs (Ne.symm (cne x c hc)), fun j y v' e1 e2 e3 => ?_⟩, fun y c' e => ?_, I.free, I.freeC, fun p hp => ?_, tracked ⟨oc, hoc, I.freeC x c hc⟩ hs, by simpa using I.len⟩ ⟨c, hs, .inr hc⟩
    · exact (hs.2 b (Nat.ne_of_lt (Nat.lt_of_lt_of_le (Heap.lt_size e) (I.ok.cab x c hfn hc)))).trans (I.base.keep b o e n hb hx)
    · obtain ⟨sl, e1⟩ := I.base.slot b o e n hb hx
      exact ⟨sl, (hs.2 b (Nat.ne_of_lt (Nat.lt_of_lt_of_le (Heap.lt_size e) (I.ok.cab x c hfn hc)))).trans e1⟩
    · obtain ⟨o', e1⟩ := I.base.there b o e hx
      exact ⟨o', (hs.2 b (Nat.ne_of_lt (Nat.lt_of_lt_of_le (Heap.lt_size e) (I.ok.cab x c hfn hc)))).trans e1⟩
    · by_cases hj : j = i
      · subst hj
        rw [hi] at e1; cases e1
        rw [List.getElem?_set_self hiσ] at e2
        cases e2
        exact ⟨u, r, .inr ⟨.inl hk, c, hc, hc'⟩⟩
      · rw [List.getElem?_set_ne (Ne.symm hj)] at e2
        obtain ⟨u', r', q⟩ := hl j y v' e1 e2 e3
        refine ⟨u', r', ?_⟩
        rcases q with q | ⟨k, c', e, z'⟩
        · exact .inl q
        · refine .inr ⟨k, c', e, z'.sameBut hs ?_⟩
          rintro rfl
          exact hj (nodup_ix hN e1 (I.ok.inj _ _ _ e hc ▸ hi))
    · by_cases hcc : c' = c
      · subst hcc; exact ⟨_, hc'⟩
      · obtain ⟨w2, z2⟩ := I.cell y c' e
        exact ⟨w2, z2.sameBut hs hcc⟩
    · obtain ⟨e, n, ne, nf, d⟩ := I.pin p hp
      refine ⟨(hs.2 p.1 ?_).trans e, n, ne, nf, d⟩
      intro q
      rw [q, hoc] at e
      have q' : oc = p.2 := Option.some.inj e
      exact d w' (by rw [← q']; exact hocd)
theorem store_ok {M : Model} {A : Around} {E : Value → Shared → Prop} {i : Nat} {x : Str} {v : V} {u : Value} {Q : Unit → Shared → Prop} (I : Inv X pins σ H s) (hN : X.N.Nodup) (hi : X.N[i]? = some x) (hx : Loc X.env.scope x) (r : RelV v u)
    (h : ∀ s', Inv X pins (σ.set i (some v)) H s' → Q () s') (hf : X.fn x = true ∨ X.env.scope.names.lookup x = some .local := by first | exact .inl rfl | exact .inr rfl | assumption) : wpAny M A (storeName X.env x u) Q E s :=
  store_ok2 I hN hi hx r (fun s' I' _ => h s' I') hf
/-- behind a call or a block, the state as it is -/
theorem Inv.call' {s' : Shared} {ch : List Addr} (I : Inv X pins σ H s) (ho : s'.os = s.os) (u : Un (frs X.stack) ch H H' s.heap s'.heap) (hok : HOk X.prog X.w H' s'.heap) (hg : AllBare s'.gens)
    (hch : ∀ b ∈ ch, (b ∈ X.ex ∨ X.s₀.heap.objs.size ≤ b) ∧ b ≠ X.env.locals ∧ (∀ x c, X.env.cells.lookup x = some c → c ≠ b) ∧ ∀ p ∈ X.pn ++ pins, p.1 ≠ b) : Inv X pins σ H' s' := by
  obtain ⟨h', g', d', t', o'⟩ := s'
  have e : o' = s.os := ho
  subst e
  exact I.call (g' := g') (t' := t') (d' := d') u hok hg hch
end

/-! ### the judgements -/
/-- an exception: its class, its own dict's address (where it has one), the abstract heap behind it -/
noncomputable abbrev XK := Value → Option Addr → Hp → Prop
noncomputable abbrev St := List (Option V)
noncomputable abbrev VK := V → Hp → Prop
/-- an expression's reading; a test's; an argument list's -/
noncomputable abbrev TE := St → Hp → VK → Prop
noncomputable abbrev TT := St → Hp → (Bool → Hp → Prop) → Prop
noncomputable abbrev TA := St → Hp → (List V → Hp → Prop) → Prop
/-- what is wanted behind a statement -/
structure Ends where
  nx : St → Hp → Prop
  rt : VK
  bk : St → Hp → Prop := fun _ _ => False
  ct : St → Hp → Prop := fun _ _ => False
noncomputable abbrev TS := Ends → St → Hp → Prop

noncomputable def EP (X : Cx) (pins : List (Addr × Obj)) (σ : St) (Q : VK) (u : Value) (s' : Shared) : Prop := ∃ v H', Inv X pins σ H' s' ∧ RelV v u ∧ Q v H'
noncomputable def TP (X : Cx) (pins : List (Addr × Obj)) (σ : St) (Q : Bool → Hp → Prop) (b : Bool) (s' : Shared) : Prop := ∃ H', Inv X pins σ H' s' ∧ Q b H'
noncomputable def AP (X : Cx) (pins : List (Addr × Obj)) (σ : St) (Q : List V → Hp → Prop) (us : List Value) (s' : Shared) : Prop := ∃ vs H', Inv X pins σ H' s' ∧ Vals vs us ∧ Q vs H'
noncomputable def SP (X : Cx) (pins : List (Addr × Obj)) (D : Ends) (f : Flow) (s' : Shared) : Prop :=
  match f with
  | .next => ∃ σ' H', Inv X pins σ' H' s' ∧ D.nx σ' H'
  | .brk => ∃ σ' H', Inv X pins σ' H' s' ∧ D.bk σ' H'
  | .cont => ∃ σ' H', Inv X pins σ' H' s' ∧ D.ct σ' H'
  | .ret u => ∃ v σ' H', Inv X pins σ' H' s' ∧ RelV v u ∧ D.rt v H'

noncomputable def PE (X : Cx) (e : Expr) (t : TE) : Prop :=
  ∀ (pins : List (Addr × Obj)) (s : Shared) (σ : St) (H : Hp) (Q : VK), Inv X pins σ H s → t σ H Q → wpAny (model X.prog X.w) X.A (eval e X.env) (EP X pins σ Q) X.xe s
noncomputable def PT (X : Cx) (e : Expr) (t : TT) : Prop :=
  ∀ (pins : List (Addr × Obj)) (s : Shared) (σ : St) (H : Hp) (Q : Bool → Hp → Prop), Inv X pins σ H s → t σ H Q → wpAny (model X.prog X.w) X.A (isTrue e X.env (eval e X.env)) (TP X pins σ Q) X.xe s
/-- a test whatever its 'whole' is (and, or) -/
noncomputable def PW (X : Cx) (e : Expr) (t : TT) : Prop :=
  ∀ (whole : Sem Value) (pins : List (Addr × Obj)) (s : Shared) (σ : St) (H : Hp) (Q : Bool → Hp → Prop), Inv X pins σ H s → t σ H Q → wpAny (model X.prog X.w) X.A (isTrue e X.env whole) (TP X pins σ Q) X.xe s
theorem PW.pt {X : Cx} {e : Expr} {t : TT} (h : PW X e t) : PT X e t := h _
/-- an argument list (no star), from the left -/
noncomputable def PA (X : Cx) (es : List Expr) (t : TA) : Prop :=
  ∀ (pos : Pos) (pins : List (Addr × Obj)) (s : Shared) (σ : St) (H : Hp) (Q : List V → Hp → Prop), Inv X pins σ H s → t σ H Q → wpAny (model X.prog X.w) X.A (spliced (backTo pos (starEach es X.env))) (AP X pins σ Q) X.xe s
noncomputable def PS (X : Cx) (st : Stmt) (t : TS) : Prop :=
  ∀ (pins : List (Addr × Obj)) (s : Shared) (σ : St) (H : Hp) (D : Ends), Inv X pins σ H s → t D σ H → wpAny (model X.prog X.w) X.A (exec st X.env) (SP X pins D) X.xe s
noncomputable def PSs (X : Cx) (st : List Stmt) (t : TS) : Prop :=
  ∀ (pins : List (Addr × Obj)) (s : Shared) (σ : St) (H : Hp) (D : Ends), Inv X pins σ H s → t D σ H → wpAny (model X.prog X.w) X.A (execs st X.env) (SP X pins D) X.xe s
/-- weaken the end -/
theorem thn {α : Type} {t : Sem α} {Q Q' : α → Shared → Prop} {M : Model} {A : Around} {E : Value → Shared → Prop} {s : Shared} (h : wpAny M A t Q E s) (hQ : ∀ a s, Q a s → Q' a s) : wpAny M A t Q' E s := wpAny_mono h hQ fun _ _ x => x
end L2

namespace L2
open PySem PySem.Spec PyProof.Rows
section
variable {X : Cx}

/-- two expressions in a row -/
theorem bin {a b : Expr} {ta tb : TE} (ha : PE X a ta) (hb : PE X b tb) {pins : List (Addr × Obj)} {s : Shared} {σ : St} {H : Hp} {R : V → V → Hp → Prop} (I : Inv X pins σ H s) (h : ta σ H fun x H1 => tb σ H1 fun y H2 => R x y H2)
    {α : Type} {Q : α → Shared → Prop} {f : Value → Value → Sem α}
    (hf : ∀ v u s2 x y H2, Inv X pins σ H2 s2 → RelV x v → RelV y u → R x y H2 → wpAny (model X.prog X.w) X.A (f v u) Q X.xe s2) :
    wpAny (model X.prog X.w) X.A (eval a X.env) (fun v s₁ => wpAny (model X.prog X.w) X.A (eval b X.env) (fun u s₂ => wpAny (model X.prog X.w) X.A (f v u) Q X.xe s₂) X.xe s₁) X.xe s := by
  refine thn (ha pins s σ H _ I h) fun v s1 ⟨x, H1, I1, r1, q1⟩ => ?_
  refine thn (hb pins s1 σ H1 _ I1 q1) fun u s2 ⟨y, H2, I2, r2, q2⟩ => ?_
  exact hf v u s2 x y H2 I2 r1 r2 q2

/-! ### names and constants -/
noncomputable def tVar (i : Nat) : TE := fun σ H Q => ∃ v, σ[i]? = some (some v) ∧ Q v H
noncomputable def tC (v : V) : TE := fun _ H Q => Q v H
theorem pe_var {i : Nat} {x : Str} {pos : Pos} (hN : X.N[i]? = some x) (hv : Vis X.env.scope x) (hd : (x == ("__debug__" : Str)) = false := by decide) (hcd : (x == ("__classdict__" : Str)) = false := by decide) : PE X (.Name x pos) (tVar i) := by
  intro pins s σ H Q I h
  obtain ⟨v, e, h⟩ := h
  obtain ⟨m, hn, hl⟩ := I.loc
  obtain ⟨u, r, l⟩ := hl i x v hN e hv
  have fin : EP X pins σ Q u s := ⟨v, H, I, r, h⟩
  rcases l with ⟨hk, hm⟩ | ⟨hk, c, hc, hcell⟩
  · exact wpAny_Name (wpAny_loadName_local I.ok.kind hk hn hm fin) hd
  · rcases hk with hk | hk
    · exact wpAny_Name (wpAny_loadName_cell I.ok.kind hk hc hcell fin) hd
    · exact wpAny_Name (wpAny_loadName_free I.ok.kind hk hc hcell fin hcd) hd
theorem pe_int {i j pos} : PE X (.Constant (.int i) j pos) (tC (.int i)) := fun _ _ _ H _ I h => wpAny_Constant_int ⟨.int i, H, I.tok _, ⟨_, rfl⟩, h⟩
theorem pe_bl {b j pos} : PE X (.Constant (.bool b) j pos) (tC (.bl b)) := fun _ _ _ H _ I h => Constant_bool ⟨.bl b, H, I, rfl, h⟩
theorem pe_non {j pos} : PE X (.Constant .none j pos) (tC .non) := fun _ _ _ H _ I h => Constant_none ⟨.non, H, I, rfl, h⟩
theorem pe_str {x j pos} : PE X (.Constant (.str x) j pos) (tC (.str x)) := fun _ _ _ H _ I h => Calls.Constant_str ⟨.str x, H, I.tok _, ⟨_, rfl⟩, h⟩

/-- a global name of the def -/
noncomputable def Gl (X : Cx) (x : Str) : Prop := X.env.kindOf x = some .globalImplicit
theorem ld_glob {E : Value → Shared → Prop} {pins : List (Addr × Obj)} {s : Shared} {σ : St} {H : Hp} {x : Str} {u : Value} {pos : Pos} {Q : Value → Shared → Prop} (I : Inv X pins σ H s) (hg : Gl X x) (hm : X.mg x = some u) (h : Q u s)
    (hd : (x == ("__debug__" : Str)) = false := by decide) : wpAny (model X.prog X.w) X.A (eval (.Name x pos) X.env) Q E s :=
  Calls.Name_function_global I.ok.kind hg (Calls.loadGlobal_global (by rw [I.ok.glob]; exact I.mod.glob.keeps I.bk) hm h) hd
theorem ld_blt {E : Value → Shared → Prop} {pins : List (Addr × Obj)} {s : Shared} {σ : St} {H : Hp} {x : Str} {u : Value} {pos : Pos} {Q : Value → Shared → Prop} (I : Inv X pins σ H s) (hg : Gl X x) (hm : X.mg x = none) (hv : bootBuiltins x = some u) (h : Q u s)
    (hn : x ≠ "__name__" := by decide) (hd : (x == ("__debug__" : Str)) = false := by decide) : wpAny (model X.prog X.w) X.A (eval (.Name x pos) X.env) Q E s := by
  obtain ⟨mb, h1, h2⟩ := I.mod.blt
  exact Calls.Name_function_global I.ok.kind hg (Calls.loadGlobal_builtin (by rw [I.ok.glob]; exact I.mod.glob.keeps I.bk) hm (by rw [I.ok.blt]; exact h1.keeps I.bk) ((h2 x hn).trans hv) h) hd
/-- a module's constant, a class, a function, as a value -/
theorem pe_glob {x : Str} {v : V} {u : Value} {pos : Pos} (hg : Gl X x) (hm : X.mg x = some u) (r : RelV v u) (hd : (x == ("__debug__" : Str)) = false := by decide) : PE X (.Name x pos) (tC v) :=
  fun _ _ _ H _ I h => ld_glob I hg hm ⟨v, H, I, r, h⟩ hd
theorem pe_bltn {x : Str} {v : V} {u : Value} {pos : Pos} (hg : Gl X x) (hm : X.mg x = none) (hv : bootBuiltins x = some u) (r : RelV v u) (hn : x ≠ "__name__" := by decide) (hd : (x == ("__debug__" : Str)) = false := by decide) : PE X (.Name x pos) (tC v) :=
  fun _ _ _ H _ I h => ld_blt I hg hm hv ⟨v, H, I, r, h⟩ hn hd

/-! ### arithmetic -/
variable {a b : Expr} {ta tb : TE} {pos : Pos}
/-! ### comparisons -/
/-- a comparison as a value, as a test -/
noncomputable def tB (t : TE) : TT := fun σ H Q => t σ H fun x H1 => ∃ c, x = .bl c ∧ Q c H1
/-- an expression whose value is a bool, as a test -/
theorem pt_val {e : Expr} {t : TE} (h : PE X e t) (he : ∀ whole, isTrue e X.env whole = (do let v ← whole; standAt e.pos; holding [v] (truthy v)) := by intro _; rfl) : PT X e (tB t) := by
  intro pins s σ H Q I hw
  refine isTrue_plain (thn (h pins s σ H _ I hw) fun v s1 ⟨x, H1, I1, r1, q1⟩ => ?_) (he _)
  obtain ⟨d, rfl, q⟩ := q1
  cases r1
  exact wpAny_truthy_bool ⟨H1, I1, q⟩

/-! ### and, or, not -/
variable {tA tB' : TT} {rest : List Expr}
noncomputable def tAnd (t u : TT) : TT := fun σ H Q => t σ H fun c H1 => if c = true then u σ H1 Q else Q false H1
noncomputable def tOr (t u : TT) : TT := fun σ H Q => t σ H fun c H1 => if c = true then Q true H1 else u σ H1 Q
noncomputable def tNot (t : TT) : TT := fun σ H Q => t σ H fun c H1 => Q (!c) H1
theorem pw_and1 (ha : PT X a tA) : PW X (.BoolOp .And [a] pos) tA := by
  intro wh pins s σ H Q I h
  refine isTrue_and (thn (ha pins s σ H Q I h) fun c s1 e => ?_)
  cases c with
  | true => exact isTrue_and_nil e
  | false => exact e
theorem pw_or1 (ha : PT X a tA) : PW X (.BoolOp .Or [a] pos) tA := by
  intro wh pins s σ H Q I h
  refine isTrue_or (thn (ha pins s σ H Q I h) fun c s1 e => ?_)
  cases c with
  | false => exact isTrue_or_nil e
  | true => exact e
theorem pw_and (ha : PT X a tA) (hb : PW X (.BoolOp .And (b :: rest) pos) tB') : PW X (.BoolOp .And (a :: b :: rest) pos) (tAnd tA tB') := by
  intro wh pins s σ H Q I h
  refine isTrue_and (thn (ha pins s σ H _ I h) fun c s1 ⟨H1, I1, q1⟩ => ?_)
  cases c with
  | true => exact hb wh pins s1 σ H1 Q I1 q1
  | false => exact ⟨H1, I1, q1⟩
theorem pw_or (ha : PT X a tA) (hb : PW X (.BoolOp .Or (b :: rest) pos) tB') : PW X (.BoolOp .Or (a :: b :: rest) pos) (tOr tA tB') := by
  intro wh pins s σ H Q I h
  refine isTrue_or (thn (ha pins s σ H _ I h) fun c s1 ⟨H1, I1, q1⟩ => ?_)
  cases c with
  | true => exact ⟨H1, I1, q1⟩
  | false => exact hb wh pins s1 σ H1 Q I1 q1
theorem pt_not (ha : PT X a tA) : PT X (.UnaryOp .Not a pos) (tNot tA) := by
  intro pins s σ H Q I h
  exact isTrue_not (ha pins s σ H (fun c H1 => Q (!c) H1) I h)
/-- .. as values (bools) -/
noncomputable def tAndV (ta tb : TE) : TE := fun σ H Q => ta σ H fun x H1 => ∃ c, x = .bl c ∧ if c = true then tb σ H1 Q else Q (.bl false) H1
noncomputable def tOrV (ta tb : TE) : TE := fun σ H Q => ta σ H fun x H1 => ∃ c, x = .bl c ∧ if c = true then Q (.bl true) H1 else tb σ H1 Q
noncomputable def tNotV (ta : TE) : TE := fun σ H Q => ta σ H fun x H1 => ∃ c, x = .bl c ∧ Q (.bl (!c)) H1
theorem pe_one {op} {t : TE} (h : PE X a t) : PE X (.BoolOp op [a] pos) t := fun pins s σ H Q I hw => BoolOp_one (h pins s σ H Q I hw)
theorem pe_and (ha : PE X a ta) (hb : PE X (.BoolOp .And (b :: rest) pos) tb) : PE X (.BoolOp .And (a :: b :: rest) pos) (tAndV ta tb) := by
  intro pins s σ H Q I h
  refine BoolOp_and (thn (ha pins s σ H _ I h) fun v s1 ⟨x, H1, I1, r1, q1⟩ => ?_)
  obtain ⟨c, rfl, q1⟩ := q1
  cases r1
  refine wpAny_truthy_bool ?_
  cases c with
  | true => exact hb pins s1 σ H1 Q I1 q1
  | false => exact ⟨.bl false, H1, I1, rfl, q1⟩
theorem pe_or (ha : PE X a ta) (hb : PE X (.BoolOp .Or (b :: rest) pos) tb) : PE X (.BoolOp .Or (a :: b :: rest) pos) (tOrV ta tb) := by
  intro pins s σ H Q I h
  refine BoolOp_or (thn (ha pins s σ H _ I h) fun v s1 ⟨x, H1, I1, r1, q1⟩ => ?_)
  obtain ⟨c, rfl, q1⟩ := q1
  cases r1
  refine wpAny_truthy_bool ?_
  cases c with
  | false => exact hb pins s1 σ H1 Q I1 q1
  | true => exact ⟨.bl true, H1, I1, rfl, q1⟩
theorem pe_not (ha : PE X a ta) : PE X (.UnaryOp .Not a pos) (tNotV ta) := by
  intro pins s σ H Q I h
  refine UnaryOp_ (thn (ha pins s σ H _ I h) fun v s1 ⟨x, H1, I1, r1, q1⟩ => ?_)
  obtain ⟨c, rfl, q1⟩ := q1
  cases r1
  exact not_of (wpAny_truthy_bool ⟨.bl (!c), H1, I1, rfl, q1⟩)
/-- a if t else b -/
noncomputable def tIf (t : TT) (ta tb : TE) : TE := fun σ H Q => t σ H fun c H1 => if c = true then ta σ H1 Q else tb σ H1 Q
theorem pe_ifExp {c : Expr} (hc : PT X c tA) (ha : PE X a ta) (hb : PE X b tb) : PE X (.IfExp c a b pos) (tIf tA ta tb) := by
  intro pins s σ H Q I h
  refine wpAny_IfExp (thn (hc pins s σ H _ I h) fun d s1 ⟨H1, I1, q1⟩ => ?_)
  cases d with
  | true => exact ha pins s1 σ H1 Q I1 q1
  | false => exact hb pins s1 σ H1 Q I1 q1
end
end L2

namespace L2
open PySem PySem.Spec PyProof.Rows

/-! ### a list, a tuple that is read: tracked, frozen, or an object of the module -/
noncomputable def SqL (K : PySem.W.Frag) (H : Hp) (a : Addr) (xs : List V) : Prop :=
  Rd H a (.lst xs) ∨
    ∃ (o : Obj) (its : Array Value) (n : Nat), K.lookup a = some o ∧ o.cls = .type "list" ∧ o.dict = none ∧ o.data = .seq its n ∧ its.size ≤ sizeLine ∧ Vals xs its.toList
noncomputable def SqT (K : PySem.W.Frag) (H : Hp) (a : Addr) (xs : List V) : Prop :=
  Rd H a (.tup xs) ∨
    ∃ (o : Obj) (its : Array Value) (n : Nat), K.lookup a = some o ∧ o.cls = .type "tuple" ∧ o.data = .seq its n ∧ its.size ≤ sizeLine ∧ Vals xs its.toList
noncomputable def absV : Value → Option V
  | .none => some .non
  | .bool b => some (.bl b)
  | .int i _ => some (.int i)
  | .str x _ => some (.str x)
  | .bytes b _ => some (.byt b)
  | .float b _ => some (.flt b)
  | .ref a => some (.ref a)
  | .type n => some (.ty n)
  | _ => none
theorem RelV.abs {x : V} {u : Value} (r : RelV x u) : absV u = some x := by
  cases x with
  | non => cases r; rfl
  | bl _ => cases r; rfl
  | int _ => obtain ⟨t, rfl⟩ := r; rfl
  | str _ => obtain ⟨t, rfl⟩ := r; rfl
  | byt _ => obtain ⟨t, rfl⟩ := r; rfl
  | flt _ => obtain ⟨t, rfl⟩ := r; rfl
  | ref _ => cases r; rfl
  | ty _ => cases r; rfl
theorem RelV.inj {x y : V} {u : Value} (r : RelV x u) (q : RelV y u) : x = y := Option.some.inj (r.abs.symm.trans q.abs)
theorem Vals.inj : ∀ {xs ys : List V} {us : List Value}, Vals xs us → Vals ys us → xs = ys
  | _, _, _, .nil, .nil => rfl
  | _, _, _, .cons r t, .cons r' t' => by rw [r.inj r', Vals.inj t t']
section
variable {X : Cx} {pins : List (Addr × Obj)} {σ : St} {H : Hp} {s : Shared} {a : Addr} {xs ys : List V}
theorem SqL.of {K : PySem.W.Frag} (h : H a = some (.lst xs)) : SqL K H a xs := .inl (.inl h)
theorem SqT.of {K : PySem.W.Frag} (h : H a = some (.tup xs)) : SqT K H a xs := .inl (.inl h)
theorem Inv.list (I : Inv X pins σ H s) (h : SqL X.K H a xs) : ∃ its : List Value, Vals xs its ∧ PlainL s.heap a its.toArray ∧ xs.length ≤ sizeLine := by
  rcases h with h | ⟨o, its, n, hk, hc, hd, hs, hz, r⟩
  · obtain ⟨z, its, n, r, e⟩ := h.ok I.hok
    exact ⟨its, r, ⟨_, n, e, rfl, rfl, rfl⟩, z⟩
  · refine ⟨its.toList, r, ⟨o, n, I.kIn a o hk, hc, hd, by simpa using hs⟩, ?_⟩
    have e := r.length
    simp only [Array.length_toList] at e
    omega
theorem Inv.tuple (I : Inv X pins σ H s) (h : SqT X.K H a xs) : ∃ its : List Value, Vals xs its ∧ IsTup s.heap a its.toArray ∧ xs.length ≤ sizeLine := by
  rcases h with h | ⟨o, its, n, hk, hc, hs, hz, r⟩
  · obtain ⟨z, its, r, p⟩ := h.ok I.hok
    exact ⟨its, r, p, z⟩
  · refine ⟨its.toList, r, ⟨o, I.kIn a o hk, hc, n, by simpa using hs⟩, ?_⟩
    have e := r.length
    simp only [Array.length_toList] at e
    omega
theorem Inv.tuple_inj (I : Inv X pins σ H s) (h : SqT X.K H a xs) (h' : SqT X.K H a ys) : xs = ys := by
  obtain ⟨its, r, ⟨o, e, _, n, d⟩, _⟩ := I.tuple h
  obtain ⟨its', r', ⟨o', e', _, n', d'⟩, _⟩ := I.tuple h'
  rw [e] at e'; cases e'
  rw [d] at d'
  injection d' with d1 _
  have : its = its' := by simpa using congrArg Array.toList d1
  subst this
  exact r.inj r'
end

/-! ### another wish about exceptions -/
noncomputable abbrev Cx.wish (X : Cx) (E : Value → Shared → Prop) : Cx := { X with xe := E }
/-- no exception leaves -/
noncomputable abbrev Cx.nox (X : Cx) : Cx := X.wish fun _ _ => False
theorem Cx.Ok.wish {X : Cx} (ok : X.Ok) (E : Value → Shared → Prop) : (X.wish E).Ok :=
  ⟨ok.mod, ok.kind, ok.glob, ok.blt, ok.above, ok.inj, ok.has, ok.cab, ok.hd, ok.frames, ok.stk, ok.exf, ok.bs, ok.bsz, ok.noex, ok.exfs, ok.funs, ok.frf⟩
theorem Cx.Ok.unwish {X : Cx} {E : Value → Shared → Prop} (ok : (X.wish E).Ok) : X.Ok :=
  ⟨ok.mod, ok.kind, ok.glob, ok.blt, ok.above, ok.inj, ok.has, ok.cab, ok.hd, ok.frames, ok.stk, ok.exf, ok.bs, ok.bsz, ok.noex, ok.exfs, ok.funs, ok.frf⟩
section
variable {X : Cx} {pins : List (Addr × Obj)} {σ : St} {H : Hp} {s : Shared} {E : Value → Shared → Prop}
theorem Inv.wish (I : Inv X pins σ H s) (E : Value → Shared → Prop) : Inv (X.wish E) pins σ H s := ⟨I.ok.wish E, I.os, I.bare, I.base, I.loc, I.cell, I.free, I.freeC, I.pin, I.hok, I.len⟩
theorem Inv.unwish (I : Inv (X.wish E) pins σ H s) : Inv X pins σ H s := ⟨I.ok.unwish, I.os, I.bare, I.base, I.loc, I.cell, I.free, I.freeC, I.pin, I.hok, I.len⟩
theorem SP.unwish {D : Ends} {f : Flow} {s' : Shared} (h : SP (X.wish E) pins D f s') : SP X pins D f s' := by
  cases f with
  | next => obtain ⟨σ', H', I, q⟩ := h; exact ⟨σ', H', I.unwish, q⟩
  | brk => obtain ⟨σ', H', I, q⟩ := h; exact ⟨σ', H', I.unwish, q⟩
  | cont => obtain ⟨σ', H', I, q⟩ := h; exact ⟨σ', H', I.unwish, q⟩
  | ret u => obtain ⟨v, σ', H', I, r, q⟩ := h; exact ⟨v, σ', H', I.unwish, r, q⟩
theorem PE.nox {e : Expr} {t : TE} (h : PE X.nox e t) : PE X e t := fun pins s σ H Q I hw =>
  wpAny_mono (h pins s σ H Q (I.wish _) hw) (fun _ _ ⟨v, H', I', r, q⟩ => ⟨v, H', I'.unwish, r, q⟩) fun _ _ z => False.elim z
theorem PT.nox {e : Expr} {t : TT} (h : PT X.nox e t) : PT X e t := fun pins s σ H Q I hw =>
  wpAny_mono (h pins s σ H Q (I.wish _) hw) (fun _ _ ⟨H', I', q⟩ => ⟨H', I'.unwish, q⟩) fun _ _ z => False.elim z
theorem PSs.nox {st : List Stmt} {t : TS} (h : PSs X.nox st t) : PSs X st t := fun pins s σ H D I hw =>
  wpAny_mono (h pins s σ H D (I.wish _) hw) (fun _ _ q => q.unwish) fun _ _ z => False.elim z
end

/-! ### blocks and small statements -/
section
variable {X : Cx} {st : Stmt} {rest : List Stmt} {t u : TS} {e : Expr} {te : TE} {pos : Pos}
noncomputable def tNext : TS := fun D σ H => D.nx σ H
noncomputable def tSeq (t u : TS) : TS := fun D σ H => t { D with nx := u D } σ H
theorem pss_nil : PSs X [] tNext := fun _ _ σ H _ I h => wpAny_execs_nil ⟨σ, H, I, h⟩
theorem pss_cons (h1 : PS X st t) (h2 : PSs X rest u) : PSs X (st :: rest) (tSeq t u) := by
  intro pins s σ H D I h
  refine wpAny_execs_cons (thn (h1 pins s σ H { D with nx := u D } I h) fun f s1 q => ?_)
  cases f with
  | next =>
    obtain ⟨σ', H', I', q⟩ := q
    exact h2 pins s1 σ' H' D I' q
  | ret v => exact q
  | brk => exact q
  | cont => exact q
theorem pss_one (h1 : PS X st t) : PSs X [st] t := by
  intro pins s σ H D I h
  refine wpAny_execs_cons (thn (h1 pins s σ H D I h) fun f s1 q => ?_)
  cases f with
  | next => exact wpAny_execs_nil q
  | ret v => exact q
  | brk => exact q
  | cont => exact q
noncomputable def tBreak : TS := fun D σ H => D.bk σ H
theorem ps_break : PS X (.Break pos) tBreak := fun _ _ σ H _ I h => wpAny_Break ⟨σ, H, I, h⟩
/-- in a def's body nothing is shown -/
theorem Inv.quiet {pins : List (Addr × Obj)} {σ : St} {H : Hp} {s : Shared} (I : Inv X pins σ H s) : interactive X.env = false := by simp [interactive, I.ok.kind]
/-- an expression whose value is dropped -/
noncomputable def tDrop (te : TE) : TS := fun D σ H => te σ H fun _ H1 => D.nx σ H1
theorem ps_expr (he : PE X e te) (hs : swapsWith e none pos.line X.env = pure false := by rfl) : PS X (.Expr e pos) (tDrop te) := by
  intro pins s σ H D I h
  exact wpAny_Expr_any (thn (he pins s σ H _ I h) fun v s1 ⟨x, H1, I1, r1, q1⟩ => ⟨σ, H1, I1, q1⟩) I.quiet hs
noncomputable def tRet (te : TE) : TS := fun D σ H => te σ H D.rt
theorem ps_ret (he : PE X e te) : PS X (.Return (some e) pos) (tRet te) := by
  intro pins s σ H D I h
  exact wpAny_Return_some (thn (he pins s σ H _ I h) fun v s1 ⟨x, H1, I1, r1, q1⟩ => ⟨x, σ, H1, I1, r1, q1⟩)
noncomputable def tIfS (c : TT) (t u : TS) : TS := fun D σ H => c σ H fun b H1 => if b = true then t D σ H1 else u D σ H1
theorem ps_if {c : Expr} {a b : List Stmt} {tc : TT} (hc : PT X c tc) (ha : PSs X a t) (hb : PSs X b u) : PS X (.If c a b pos) (tIfS tc t u) := by
  intro pins s σ H D I h
  refine wpAny_If (thn (hc pins s σ H _ I h) fun d s1 ⟨H1, I1, q1⟩ => ?_)
  cases d with
  | true => exact ha pins s1 σ H1 D I1 q1
  | false => exact hb pins s1 σ H1 D I1 q1
/-- code that the proof never comes to -/
noncomputable def tNever : TS := fun _ _ _ => False
theorem ps_never : PS X st tNever := fun _ _ _ _ _ _ h => h.elim
end

/-! ### targets -/
noncomputable abbrev TG := V → St → Hp → (St → Hp → Prop) → Prop
noncomputable abbrev TGs := List V → St → Hp → (St → Hp → Prop) → Prop
noncomputable def PG (X : Cx) (target : Expr) (t : TG) : Prop :=
  ∀ (pins : List (Addr × Obj)) (s : Shared) (σ : St) (H : Hp) (v : V) (u : Value) (Q : St → Hp → Prop), Inv X pins σ H s → RelV v u → t v σ H Q →
    wpAny (model X.prog X.w) X.A (assign target X.env u) (fun _ s' => ∃ σ' H', Inv X pins σ' H' s' ∧ Q σ' H') X.xe s
/-- several targets, one after another -/
noncomputable def PGs (X : Cx) (ts : List Expr) (t : TGs) : Prop :=
  ∀ (pins : List (Addr × Obj)) (s : Shared) (σ : St) (H : Hp) (vs : List V) (us : List Value) (Q : St → Hp → Prop), Inv X pins σ H s → Vals vs us → t vs σ H Q →
    wpAny (model X.prog X.w) X.A (assignInOrder ((assignEach ts X.env).map (·.2)) us) (fun _ s' => ∃ σ' H', Inv X pins σ' H' s' ∧ Q σ' H') X.xe s
section
variable {X : Cx} {pos : Pos}
noncomputable def gName (i : Nat) : TG := fun v σ H Q => Q (σ.set i (some v)) H
theorem pg_name {i : Nat} {x : Str} (hN : X.N.Nodup) (hi : X.N[i]? = some x) (hx : Loc X.env.scope x) (hf : X.fn x = true ∨ X.env.scope.names.lookup x = some .local := by first | exact .inl rfl | exact .inr rfl | assumption) : PG X (.Name x pos) (gName i) := by
  intro pins s σ H v u Q I r h
  exact wpAny_assign_Name (store_ok I hN hi hx r (fun s' I' => ⟨_, H, I', h⟩) hf)
noncomputable def gNil : TGs := fun vs σ H Q => vs = [] ∧ Q σ H
noncomputable def gCons (t : TG) (u : TGs) : TGs := fun vs σ H Q => ∃ v r, vs = v :: r ∧ t v σ H fun σ' H' => u r σ' H' Q
theorem pgs_nil : PGs X [] gNil := by
  intro pins s σ H vs us Q I r h
  obtain ⟨e, h⟩ := h
  subst e
  cases r
  exact assignInOrder_nil ⟨σ, H, I, h⟩
theorem pgs_cons {e : Expr} {es : List Expr} {t : TG} {u : TGs} (h1 : PG X e t) (h2 : PGs X es u)
    (hs : (assignEach (e :: es) X.env).map (·.2) = assign e X.env :: (assignEach es X.env).map (·.2) := by rfl) : PGs X (e :: es) (gCons t u) := by
  intro pins s σ H vs us Q I r h
  obtain ⟨v, vr, e1, h⟩ := h
  subst e1
  cases r with
  | cons r rr =>
    rw [hs]
    refine assignInOrder_cons (thn (h1 pins s σ H _ _ _ I r h) fun _ s1 ⟨σ1, H1, I1, q1⟩ => ?_)
    exact h2 pins s1 σ1 H1 _ _ Q I1 rr q1
/-- (a, b, ..) = a tuple of that length -/
noncomputable def gTup (K : PySem.W.Frag) (n : Nat) (t : TGs) : TG := fun v σ H Q => ∃ a xs, v = .ref a ∧ SqT K H a xs ∧ xs.length = n ∧ t xs σ H Q
theorem pg_tup {es : List Expr} {k : Nat} {t : TGs} {n : Nat} (hc : X.calm = true) (h : PGs X es t)
    (hn : (assignEach es X.env).length = n := by rfl) (hst : (assignEach es X.env).findIdx? (·.1) = none := by rfl) : PG X (.Tuple es k pos) (gTup X.K n t) := by
  intro pins s σ H v u Q I r hw
  obtain ⟨a, xs, e1, hq, hl, hw⟩ := hw
  subst e1
  cases r
  obtain ⟨its, rv, ht, hz⟩ := I.tuple hq
  refine assign_Tuple_tuple (I.ok.hd hc) ht (by simp [hn, ← hl, rv.length]) hst fun h' hx => ?_
  have I1 : Inv X pins σ H { s with heap := h' } := I.kept (t' := s.toks) fun b o e => hx b o (Nat.ne_of_lt (Heap.lt_size e)) e
  exact h pins _ σ H xs _ Q I1 (by simpa using rv) hw
/-- target = value -/
noncomputable def tAsg (te : TE) (g : TG) : TS := fun D σ H => te σ H fun x H1 => g x σ H1 D.nx
theorem ps_asg {tg e : Expr} {te : TE} {g : TG} (he : PE X e te) (hg : PG X tg g) (hs : swapsWithSole [tg] e pos.line X.env = pure false := by rfl) (hw : swappedStores [tg] e X.env = pure none := by rfl)
    (h1 : (assignEach [tg] X.env).map (·.2) = [assign tg X.env] := by rfl) : PS X (.Assign [tg] e pos) (tAsg te g) := by
  intro pins s σ H D I h
  refine wpAny_Assign_stores (thn (he pins s σ H _ I h) fun v s1 ⟨x, H1, I1, r1, q1⟩ => ?_) hs hw
  rw [h1]
  exact thn (hg pins s1 σ H1 x v _ I1 r1 q1) fun _ s2 q => q
/-- name = value -/
theorem ps_set {i : Nat} {x : Str} {e : Expr} {te : TE} {pos' : Pos} (hN : X.N.Nodup) (hi : X.N[i]? = some x) (hx : Loc X.env.scope x) (he : PE X e te) (hs : swapsWith e (some (.Name x pos')) pos.line X.env = pure false := by rfl) (hf : X.fn x = true ∨ X.env.scope.names.lookup x = some .local := by first | exact .inl rfl | exact .inr rfl | assumption) :
    PS X (.Assign [.Name x pos'] e pos) (tAsg te (gName i)) := by
  intro pins s σ H D I h
  refine wpAny_Assign_Name (thn (he pins s σ H _ I h) fun v s1 ⟨y, H1, I1, r1, q1⟩ => ?_) hs
  exact store_ok I1 hN hi hx r1 (fun s2 I2 => ⟨_, H1, I2, q1⟩) hf
end

/-! ### while -/
section
variable {X : Cx} {pos : Pos}
/-- the invariant W with its measure -/
noncomputable def tWhile (c : TT) (tb : TS) : TS := fun D σ H => ∃ W : Nat → St → Hp → Prop, (∃ m, W m σ H) ∧ ∀ m σ H, W m σ H →
  c σ H fun b H1 => if b = true then ∃ N : St → Hp → Prop, (∀ σ' H', N σ' H' → ∃ m', m' < m ∧ W m' σ' H') ∧ tb { D with nx := N, ct := N, bk := D.nx } σ H1 else D.nx σ H1
theorem ps_while {c : Expr} {body : List Stmt} {tc : TT} {tb : TS} (hp : PassesOwn (model X.prog X.w) X.A X.env X.xe) (hc : PT X c tc) (hb : PSs X body tb) : PS X (.While c body [] pos) (tWhile tc tb) := by
  intro pins s σ H D I h
  obtain ⟨W, ⟨m0, w0⟩, turn⟩ := h
  refine wpAny_While (codeAny_whileLoop (fun n s' => ∃ σ' H', Inv X pins σ' H' s' ∧ W n σ' H') ?_ m0 ⟨σ, H, I, w0⟩)
  rintro n s1 ⟨σ1, H1, I1, w1⟩
  refine wpAny_passesOwn hp (thn (hc pins s1 σ1 H1 _ I1 (turn n σ1 H1 w1)) fun b s2 ⟨H2, I2, q2⟩ => ?_)
  cases b with
  | true =>
    obtain ⟨N, hN, q2⟩ := q2
    rw [if_pos rfl]
    refine wpAny_passesOwn hp (thn (hb pins s2 σ1 H2 _ I2 q2) fun f s3 q3 => ?_)
    cases f with
    | next =>
      obtain ⟨σ3, H3, I3, n3⟩ := q3
      obtain ⟨m', hm, w3⟩ := hN σ3 H3 n3
      exact ⟨m', hm, σ3, H3, I3, w3⟩
    | cont =>
      obtain ⟨σ3, H3, I3, n3⟩ := q3
      obtain ⟨m', hm, w3⟩ := hN σ3 H3 n3
      exact ⟨m', hm, σ3, H3, I3, w3⟩
    | brk => exact q3
    | ret v => exact q3
  | false =>
    rw [if_neg Bool.false_ne_true]
    exact wpAny_execs_nil ⟨σ1, H2, I2, q2⟩
end

/-! ### what a loop or a comprehension walks -/
/-- at turn i: it yields x (the heap may grow), or it stops -/
structure It where
  go : Nat → Hp → Prop
  yld : Nat → Hp → V → Hp → Prop
  stop : Nat → Hp → Prop
/-- the iterator's own objects may turn: they are not the frame's, not pinned, younger than the entry (or a comprehension's own) -/
noncomputable def FpOk (X : Cx) (pins : List (Addr × Obj)) (H : Hp) (b : Addr) : Prop :=
  H b = none ∧ b ≠ X.env.locals ∧ b ∉ X.fs ∧ (b ∈ X.ex ∨ X.s₀.heap.objs.size ≤ b) ∧ (∀ x c, X.env.cells.lookup x = some c → c ≠ b) ∧ ∀ p ∈ X.pn ++ pins, p.1 ≠ b
theorem Inv.fpOk {X : Cx} {pins : List (Addr × Obj)} {σ : St} {H H' : Hp} {s : Shared} {b : Addr} (I : Inv X pins σ H s) (hb : s.heap.objs.size ≤ b) (hn : H' b = none) : FpOk X pins H' b := by
  refine ⟨hn, Nat.ne_of_gt (Nat.lt_of_lt_of_le I.lt hb), I.nofs hb, .inr (Nat.le_trans I.sz hb), fun x c e z => ?_, fun p hp z => ?_⟩
  · obtain ⟨v, q⟩ := I.cell x c e
    exact absurd (Nat.lt_of_lt_of_le q.lt (by rw [z]; exact hb)) (Nat.lt_irrefl _)
  · exact absurd (Nat.lt_of_lt_of_le (Heap.lt_size (I.pin p hp).1) (by rw [z]; exact hb)) (Nat.lt_irrefl _)
structure Turn (P : Program) (w : World) (K : PySem.W.Frag) (tg : Expr) (J : It) (fp : List Addr) (it : Addr) (tn : Nat → Heap → Prop) : Prop where
  mem : it ∈ fp
  obj : ∀ i h, tn i h → ∀ b ∈ fp, ∃ o, h.get? b = some o ∧ ∀ v, o.data ≠ .cell v
  keep : ∀ i h h', tn i h → (∀ b ∈ fp, ∀ o, h.get? b = some o → h'.get? b = some o) → tn i h'
  item : ∀ (X : Cx), X.prog = P → X.w = w → X.K = K → X.calm = true → ∀ (i : Nat) (pins : List (Addr × Obj)) (s : Shared) (σ : St) (H : Hp) (E : Value → Shared → Prop), Inv X pins σ H s → (∀ b ∈ fp, FpOk X pins H b) → tn i s.heap → J.go i H →
    wpAny (model P w) X.A (pyNext (.ref it)) (fun r s1 => ∃ u, r = some u ∧
      wpAny (model P w) X.A (letOwnedTupleGo tg (.ref it) u) (fun _ s2 => ∃ x H', Inv X pins σ H' s2 ∧ RelV x u ∧ J.yld i H x H' ∧ tn (i + 1) s2.heap ∧ ∀ b ∈ fp, H' b = none) E s1) E s
  done : ∀ (X : Cx), X.prog = P → X.w = w → X.K = K → X.calm = true → ∀ (i : Nat) (pins : List (Addr × Obj)) (s : Shared) (σ : St) (H : Hp) (E : Value → Shared → Prop), Inv X pins σ H s → (∀ b ∈ fp, FpOk X pins H b) → tn i s.heap → J.stop i H →
    wpAny (model P w) X.A (pyNext (.ref it)) (fun r s1 => r = none ∧ Inv X pins σ H s1) E s
  self : ∀ (A : Around) (i : Nat) (s : Shared) (Q : Value → Shared → Prop) (E : Value → Shared → Prop), tn i s.heap → Q (.ref it) s → wpAny (model P w) A (pyIter (.ref it)) Q E s
noncomputable abbrev TI := St → Hp → (It → Hp → Prop) → Prop
/-- an iterator has come -/
noncomputable def PIE (X : Cx) (pins : List (Addr × Obj)) (σ : St) (tg : Expr) (R : It → Hp → Prop) (itv : Value) (s2 : Shared) : Prop :=
  ∃ (it : Addr) (fp : List Addr) (tn : Nat → Heap → Prop) (J : It) (H' : Hp), itv = .ref it ∧ Inv X pins σ H' s2 ∧ Turn X.prog X.w X.K tg J fp it tn ∧ tn 0 s2.heap ∧ (∀ b ∈ fp, FpOk X pins H' b) ∧ R J H'
noncomputable def PI (X : Cx) (tg iter : Expr) (wi : TI) : Prop :=
  ∀ (pins : List (Addr × Obj)) (s : Shared) (σ : St) (H : Hp) (R : It → Hp → Prop), Inv X pins σ H s → wi σ H R →
    wpAny (model X.prog X.w) X.A (eval iter X.env) (fun v s1 => wpAny (model X.prog X.w) X.A (pyIter v) (PIE X pins σ tg R) X.xe s1) X.xe s

/-- the step ahead of the store is nothing for an iterator that keeps no tuple -/
theorem go_of {M : Model} {A : Around} {E : Value → Shared → Prop} {s : Shared} {tg : Expr} {it : Addr} {u : Value} {o : Obj} {n : String} {vs : Array Value} {Q : Unit → Shared → Prop} (ho : s.heap.get? it = some o) (hc : o.cls = .type n) (hd : o.data = .fields vs)
    (hn : ["enumerate", "zip", "dict_itemiterator", "dict_reverseitemiterator", "odict_iterator", "itertools.zip_longest", "itertools.pairwise"].contains n = false) (hQ : Q () s) : wpAny M A (letOwnedTupleGo tg (.ref it) u) Q E s := by
  unfold letOwnedTupleGo
  cases tg <;> first
    | exact wpAny_pure hQ
    | (cases u <;> first
        | exact wpAny_pure hQ
        | (refine wpAny_bind (wpAny_load ho ?_)
           rw [hc, hd]
           show wpAny M A (if (["enumerate", "zip", "dict_itemiterator", "dict_reverseitemiterator", "odict_iterator", "itertools.zip_longest", "itertools.pairwise"].contains n && vs[0]? == some (rawInt _)) = true then _ else _) Q E s
           rw [if_neg (by intro h; rw [hn, Bool.false_and] at h; cases h)]
           exact wpAny_pure hQ))

noncomputable def Itt (K : PySem.W.Frag) (a : Addr) : It :=
  ⟨fun i H => ∃ xs x, SqT K H a xs ∧ xs[i]? = some x, fun i H x H' => H' = H ∧ ∀ xs, SqT K H a xs → xs[i]? = some x, fun i H => ∃ xs, SqT K H a xs ∧ xs.length ≤ i⟩
/-- lo, lo + 1, .. (n of them) -/
noncomputable def Itr (lo : Int) (n : Nat) : It := ⟨fun i _ => i < n, fun i H x H' => H' = H ∧ x = .int (lo + i), fun i _ => n ≤ i⟩
theorem turn_tuple {P : Program} {w : World} {K : PySem.W.Frag} {tg : Expr} (a it : Addr) : Turn P w K tg (Itt K a) [it] it (fun i h => h.IsTupleIter it a i) where
  mem := by simp
  obj := fun i h st b hb => by
    have e : b = it := by simpa using hb
    subst e
    obtain ⟨o, e, c, d⟩ := st
    exact ⟨o, e, fun v z => by rw [d] at z; cases z⟩
  keep := fun i h h' st k => st.at fun o e => k it (by simp) o e
  item := by
    intro X hP hw hK hc i pins s σ H E I hf st hg
    subst hP hw hK
    obtain ⟨xs, x, hq, hx⟩ := hg
    obtain ⟨its, rv, p, hz⟩ := I.tuple hq
    obtain ⟨u, hu, ru⟩ := rv.get hx
    obtain ⟨f0, f1, f2, f3, f4, f5⟩ := hf it (by simp)
    refine wpAny_pyNext_tuple_item st (show s.heap.IsTuple a its.toArray from p) (x := u) (by simpa using hu) fun h' st' sb => ?_
    have I1 : Inv X pins σ H { s with heap := h' } := I.turned (t' := s.toks) (fun b o hb e => (sb.2 b hb).trans e) f0 f1 f3 f4 f5
    obtain ⟨o, e, c, d⟩ := id st'
    exact ⟨u, rfl, go_of (s := { s with heap := h' }) e c d (by decide) ⟨x, H, I1, ru, ⟨rfl, fun ys hy => by rw [I.tuple_inj hy hq]; exact hx⟩, st', fun b hb => (hf b hb).1⟩⟩
  done := by
    intro X hP hw hK hc i pins s σ H E I hf st hg
    subst hP hw hK
    obtain ⟨xs, hq, hx⟩ := hg
    obtain ⟨its, rv, p, hz⟩ := I.tuple hq
    obtain ⟨f0, f1, f2, f3, f4, f5⟩ := hf it (by simp)
    have hl := rv.length
    exact wpAny_pyNext_tuple_end (I.ok.hd hc) st (show s.heap.IsTuple a its.toArray from p) (by simp; omega) fun h' eb => ⟨rfl, I.turned (t' := s.toks) (fun b o hb e => eb b o hb e) f0 f1 f3 f4 f5⟩
  self := fun _ _ _ _ _ st h => wpAny_pyIter_tupleiter st h
theorem turn_range {P : Program} {w : World} {K : PySem.W.Frag} {tg : Expr} (it : Addr) (lo : Int) (n : Nat) : Turn P w K tg (Itr lo n) [it] it (fun i h => IsRangeIter h it (lo + (i : Nat) * 1) ((n : Int) - (i : Nat)) 1) where
  mem := by simp
  obj := fun i h st b hb => by
    have e : b = it := by simpa using hb
    subst e
    exact ⟨_, st, fun v z => by
      have z' : Data.fields _ = Data.cell v := z
      cases z'⟩
  keep := fun i h h' st k => k it (by simp) _ st
  item := by
    intro X hP hw hK hc i pins s σ H E I hf st hg
    subst hP hw hK
    obtain ⟨f0, f1, f2, f3, f4, f5⟩ := hf it (by simp)
    have W := Walks.range (prog := X.prog) (w := X.w) (I.ok.hd hc) it lo 1 n
    refine W.item i s _ _ hg st fun v h' tk hv st' kk => ?_
    obtain ⟨t, rfl⟩ := hv
    have I1 : Inv X pins σ H { s with heap := h', toks := tk } := I.turned (fun b o hb e => kk b o (by simpa using hb) e) f0 f1 f3 f4 f5
    refine ⟨_, rfl, go_of (s := { s with heap := h', toks := tk }) (n := "range_iterator") st' rfl rfl (by decide) ⟨.int (lo + i), H, I1, ⟨t, ?_⟩, ⟨rfl, rfl⟩, st', fun b hb => (hf b hb).1⟩⟩
    rw [Int.mul_one]
  done := by
    intro X hP hw hK hc i pins s σ H E I hf st hg
    subst hP hw hK
    obtain ⟨f0, f1, f2, f3, f4, f5⟩ := hf it (by simp)
    exact wpAny_pyNext_range_end (I.ok.hd hc) st (by have : n ≤ i := hg; omega) fun h' eb => ⟨rfl, I.turned (t' := s.toks) (fun b o hb e => eb b o hb e) f0 f1 f3 f4 f5⟩
  self := fun _ _ _ _ _ st h => wpAny_pyIter_rangeiter st h
end L2

namespace L2
open PySem PySem.Spec PyProof.Rows
section
variable {X : Cx} {tg : Expr}
/-- a range object just made, walked -/
theorem range_it {pins : List (Addr × Obj)} {σ : St} {H : Hp} {s : Shared} {R : It → Hp → Prop} {E : Value → Shared → Prop} {lo hi : Int} {t u v : Tok} {tk : Nat} (I : Inv X pins σ H s) (h1 : -(2 ^ 62) ≤ lo) (h2 : lo < 2 ^ 62) (h3 : -(2 ^ 62) ≤ hi) (h4 : hi < 2 ^ 62)
    (q : R (Itr lo (hi - lo).toNat) H) : wpAny (model X.prog X.w) X.A (pyIter (.ref s.heap.objs.size)) (PIE X pins σ tg R) E { s with heap := s.heap.push { cls := .type "range", data := .fields #[.int lo t, .int hi u, .int 1 v] }, toks := tk } := by
  refine wpAny_pyIter_range (IsRange.new ..) (small_one h1 h2 h3 h4) ?_
  have I1 : Inv X pins σ H { s with heap := s.heap.push { cls := .type "range", data := .fields #[.int lo t, .int hi u, .int 1 v] }, toks := tk } := I.kept fun b o e => Heap.get?_push_of_some _ e
  refine ⟨(s.heap.push { cls := .type "range", data := .fields #[.int lo t, .int hi u, .int 1 v] }).objs.size, [(s.heap.push { cls := .type "range", data := .fields #[.int lo t, .int hi u, .int 1 v] }).objs.size], _, _, H, rfl,
    I1.kept (t' := tk) fun b o e => Heap.get?_push_of_some _ e, turn_range _ lo (hi - lo).toNat, ?_, fun b hb => ?_, q⟩
  · have e1 : lo + ((0 : Nat) : Int) * 1 = lo := by simp
    have e2 : (((hi - lo).toNat : Nat) : Int) - ((0 : Nat) : Int) = Builtin.Range.rangeSize lo hi 1 := by rw [rangeSize_one]; split <;> omega
    show IsRangeIter _ _ (lo + ((0 : Nat) : Int) * 1) ((((hi - lo).toNat : Nat) : Int) - ((0 : Nat) : Int)) 1
    rw [e1, e2]
    exact Heap.get?_push_size _ rfl
  · have e : b = (s.heap.push { cls := .type "range", data := .fields #[.int lo t, .int hi u, .int 1 v] }).objs.size := by simpa using hb
    subst e
    exact I1.fpOk (Nat.le_refl _) (I1.hok.fresh (Nat.le_refl _))
noncomputable def iRng1 (ta : TA) : TI := fun σ H R => ta σ H fun vs H1 => ∃ j : Int, vs = [.int j] ∧ -(2 ^ 62) ≤ j ∧ j < 2 ^ 62 ∧ R (Itr 0 j.toNat) H1
theorem pi_range1 {a : Expr} {ta : TA} {p pos : Pos} (hg : Gl X "range") (hm : X.mg "range" = none) (ha : PA X [a] ta) (hs : starEach [a] X.env = [(false, eval a X.env)] := by rfl) : PI X tg (.Call (.Name "range" p) [a] [] pos) (iRng1 ta) := by
  intro pins s σ H R I h
  refine Call_ (ld_blt I hg hm boot_range (PyProof.Rows.callWith_type1 (thn (ha pos pins s σ H _ I h) fun us s1 ⟨vs, H1, I1, r1, q1⟩ => ?_) hs rfl))
  obtain ⟨j, e, q1, q2, q⟩ := q1
  subst e
  cases r1 with
  | cons r rr =>
    cases rr
    obtain ⟨t, rfl⟩ := r
    exact call_range_1 (range_it I1 (by omega) (by omega) q1 q2 (by simpa using q))
/-! ### for -/
/-- W: the invariant by the turn and a measure; N: what the body is to reach -/
noncomputable def tFor (wi : TI) (g : TG) (tb : TS) : TS := fun D σ H => wi σ H fun J H1 => ∃ W : Nat → Nat → St → Hp → Prop, (∃ m, W 0 m σ H1) ∧ ∀ i m σ H, W i m σ H →
  (J.stop i H ∧ D.nx σ H) ∨ (J.go i H ∧ ∃ N : St → Hp → Prop, (∀ σ' H', N σ' H' → ∃ m', m' < m ∧ W (i + 1) m' σ' H') ∧ ∀ x H', J.yld i H x H' → g x σ H' fun σ2 H2 => tb { D with nx := N, ct := N, bk := D.nx } σ2 H2)
/-- the records at fp as they stand -/
noncomputable def pinsAt (fp : List Addr) (h : Heap) : List (Addr × Obj) := fp.filterMap fun b => (h.get? b).map fun o => (b, o)
theorem mem_pinsAt {fp : List Addr} {h : Heap} {b : Addr} {o : Obj} (hb : b ∈ fp) (e : h.get? b = some o) : (b, o) ∈ pinsAt fp h := List.mem_filterMap.mpr ⟨b, hb, by rw [e]; rfl⟩
theorem of_pinsAt {fp : List Addr} {h : Heap} {p : Addr × Obj} (hp : p ∈ pinsAt fp h) : p.1 ∈ fp ∧ h.get? p.1 = some p.2 := by
  obtain ⟨b, hb, e⟩ := List.mem_filterMap.mp hp
  cases q : h.get? b with
  | none => rw [q] at e; cases e
  | some o =>
    rw [q] at e
    have e' : (b, o) = p := Option.some.inj e
    subst e'
    exact ⟨hb, q⟩
theorem Inv.pinned {pins : List (Addr × Obj)} {σ : St} {H : Hp} {s : Shared} {fp : List Addr} (I : Inv X pins σ H s) (hf : ∀ b ∈ fp, FpOk X pins H b) (ho : ∀ b ∈ fp, ∃ o, s.heap.get? b = some o ∧ ∀ v, o.data ≠ .cell v) : Inv X (pins ++ pinsAt fp s.heap) σ H s :=
  I.pins_of fun p hp => (List.mem_append.mp hp).elim (fun z => I.pin p (List.mem_append_right _ z)) fun z => by
    obtain ⟨hb, e⟩ := of_pinsAt z
    obtain ⟨f0, f1, f2, _⟩ := hf p.1 hb
    obtain ⟨o, e', d⟩ := ho p.1 hb
    rw [e] at e'; cases e'
    exact ⟨e, f0, f1, f2, d⟩
theorem Inv.unpinned {pins pl : List (Addr × Obj)} {σ : St} {H : Hp} {s : Shared} (I : Inv X (pins ++ pl) σ H s) : Inv X pins σ H s := I.pins_of fun p hp => I.pin p (List.mem_append_right _ (List.mem_append_left _ hp))
theorem ps_for {iter : Expr} {body : List Stmt} {wi : TI} {g : TG} {tb : TS} {pos : Pos} (hp : PassesOwn (model X.prog X.w) X.A X.env X.xe) (hc : X.calm = true) (hi : PI X tg iter wi) (hg : PG X tg g) (hb : PSs X body tb)
    (hs : ∀ x, foldedSetIterable iter X.env x = pure x := by intro _; rfl) : PS X (.For tg iter body [] pos) (tFor wi g tb) := by
  intro pins s σ H D I h
  refine wpAny_For (thn (hi pins s σ H _ I h) fun v s1 h1 => thn h1 fun itv s2 h2 => ?_) hs
  obtain ⟨it, fp, tn, J, H2, e, I2, T, st2, f2, W, ⟨m0, w0⟩, turn⟩ := h2
  subst e
  -- what stays true of the iterator's objects through the loop
  have stat : ∀ {H' : Hp}, (∀ b ∈ fp, H' b = none) → ∀ b ∈ fp, FpOk X pins H' b := fun hn b hb => ⟨hn b hb, (f2 b hb).2⟩
  refine codeAny_forLoop_any (fun n s' => ∃ i σ' H', Inv X pins σ' H' s' ∧ tn i s'.heap ∧ (∀ b ∈ fp, H' b = none) ∧ W i n σ' H') ?_ m0 ⟨0, σ, H2, I2, st2, fun b hb => (f2 b hb).1, w0⟩
  rintro n s3 ⟨i, σ3, H3, I3, st3, fr3, w3⟩
  rcases turn i n σ3 H3 w3 with ⟨stop, qn⟩ | ⟨go, N, hN, step⟩
  · refine wpAny_passesOwn hp (thn (T.done X rfl rfl rfl hc i pins s3 σ3 H3 X.xe I3 (stat fr3) st3 stop) fun r s4 ⟨hr, I4⟩ => ?_)
    subst hr
    exact wpAny_execs_nil ⟨σ3, H3, I4, qn⟩
  · refine wpAny_passesOwn hp (thn (T.item X rfl rfl rfl hc i pins s3 σ3 H3 X.xe I3 (stat fr3) st3 go) fun r s4 ⟨u, hr, h4⟩ => ?_)
    subst hr
    refine wpAny_passesOwn hp (thn h4 fun _ s5 ⟨x, H5, I5, r5, y5, st5, fr5⟩ => ?_)
    have I5' := I5.pinned (stat fr5) (T.obj _ _ st5)
    refine wpAny_passesOwn hp (thn (hg _ s5 σ3 H5 x u _ I5' r5 (step x H5 y5)) fun _ s6 ⟨σ6, H6, I6, q6⟩ => ?_)
    refine wpAny_passesOwn hp (thn (hb _ s6 σ6 H6 _ I6 q6) fun f s7 q7 => ?_)
    have again : ∀ {σ7 : St} {H7 : Hp}, Inv X (pins ++ pinsAt fp s5.heap) σ7 H7 s7 → N σ7 H7 → ∃ m, m < n ∧ ∃ i σ' H', Inv X pins σ' H' s7 ∧ tn i s7.heap ∧ (∀ b ∈ fp, H' b = none) ∧ W i m σ' H' := fun {σ7 H7} I7 n7 => by
      obtain ⟨m', hm, w7⟩ := hN σ7 H7 n7
      refine ⟨m', hm, i + 1, σ7, H7, I7.unpinned, T.keep _ _ _ st5 fun b hb o e => (I7.pin (b, o) (List.mem_append_right _ (List.mem_append_right _ (mem_pinsAt hb e)))).1, fun b hb => ?_, w7⟩
      obtain ⟨o, e, d⟩ := T.obj _ _ st5 b hb
      exact (I7.pin (b, o) (List.mem_append_right _ (List.mem_append_right _ (mem_pinsAt hb e)))).2.1
    cases f with
    | next => obtain ⟨σ7, H7, I7, n7⟩ := q7; exact again I7 n7
    | cont => obtain ⟨σ7, H7, I7, n7⟩ := q7; exact again I7 n7
    | brk => obtain ⟨σ7, H7, I7, q7⟩ := q7; exact ⟨σ7, H7, I7.unpinned, q7⟩
    | ret v => obtain ⟨x7, σ7, H7, I7, r7, q7⟩ := q7; exact ⟨x7, σ7, H7, I7.unpinned, r7, q7⟩
end

/-! ### the forms one uses -/
end L2

namespace L2
open PySem PySem.Spec PyProof.Rows

noncomputable abbrev R2 := V → V → Hp → VK → Prop
/-- a two-place operation on values: f is binaryOp op, inplaceOp op or compareOp op -/
noncomputable def OpR (X : Cx) (f : Value → Value → Sem Value) (r : R2) : Prop :=
  ∀ (pins : List (Addr × Obj)) (s : Shared) (σ : St) (H : Hp) (x y : V) (v u : Value) (Q : VK), Inv X pins σ H s → RelV x v → RelV y u → r x y H Q →
    wpAny (model X.prog X.w) X.A (f v u) (EP X pins σ Q) X.xe s
/-- a one-place operation -/
noncomputable def UnR (X : Cx) (f : Value → Sem Value) (r : V → Hp → VK → Prop) : Prop :=
  ∀ (pins : List (Addr × Obj)) (s : Shared) (σ : St) (H : Hp) (x : V) (v : Value) (Q : VK), Inv X pins σ H s → RelV x v → r x H Q →
    wpAny (model X.prog X.w) X.A (f v) (EP X pins σ Q) X.xe s
/-- a call of a value that is known (a builtin, a type) with values -/
noncomputable def CallR (X : Cx) (f : Value) (r : List V → Hp → VK → Prop) : Prop :=
  ∀ (pins : List (Addr × Obj)) (s : Shared) (σ : St) (H : Hp) (xs : List V) (us : List Value) (Q : VK), Inv X pins σ H s → Vals xs us → r xs H Q →
    wpAny (model X.prog X.w) X.A (call f us) (EP X pins σ Q) X.xe s
/-- a value's truth -/
noncomputable def TruR (X : Cx) (r : V → Hp → (Bool → Hp → Prop) → Prop) : Prop :=
  ∀ (pins : List (Addr × Obj)) (s : Shared) (σ : St) (H : Hp) (x : V) (v : Value) (Q : Bool → Hp → Prop), Inv X pins σ H s → RelV x v → r x H Q →
    wpAny (model X.prog X.w) X.A (truthy v) (TP X pins σ Q) X.xe s

noncomputable def tOp (r : R2) (ta tb : TE) : TE := fun σ H Q => ta σ H fun x H1 => tb σ H1 fun y H2 => r x y H2 Q
noncomputable def tUn (r : V → Hp → VK → Prop) (ta : TE) : TE := fun σ H Q => ta σ H fun x H1 => r x H1 Q
/-- ints in, under C, and a value out -/
noncomputable def rI (C : Int → Int → Prop) (g : Int → Int → V) : R2 := fun x y H Q => ∃ i j, x = .int i ∧ y = .int j ∧ C i j ∧ Q (g i j) H
noncomputable def rI0 (g : Int → Int → V) : R2 := fun x y H Q => ∃ i j, x = .int i ∧ y = .int j ∧ Q (g i j) H
noncomputable def rU (g : Int → V) : V → Hp → VK → Prop := fun x H Q => ∃ i, x = .int i ∧ Q (g i) H

section
variable {X : Cx} {a b c : Expr} {ta tb tc : TE} {pos : Pos}

theorem binT (ha : PE X a ta) (hb : PE X b tb) {pins : List (Addr × Obj)} {s : Shared} {σ : St} {H : Hp} {R : V → V → Hp → Prop} (I : Inv X pins σ H s)
    (h : ta σ H fun x H1 => tb σ H1 fun y H2 => R x y H2) {Q : Value → Shared → Prop} {f : Value → Value → Sem Value}
    (hf : ∀ v u s2 x y H2, Inv X pins σ H2 s2 → RelV x v → RelV y u → R x y H2 → wpAny (model X.prog X.w) X.A (f v u) Q X.xe s2) :
    wpAny (model X.prog X.w) X.A (eval a X.env) (fun v s₁ => wpAny (model X.prog X.w) X.A (eval b X.env) (fun u s₂ => wpAny (model X.prog X.w) X.A (f v u) Q X.xe s₂) X.xe s₁) X.xe s := by
  refine thn (ha pins s σ H _ I h) fun v s1 ⟨x, H1, I1, r1, q1⟩ => ?_
  refine thn (hb pins s1 σ H1 _ I1 q1) fun u s2 ⟨y, H2, I2, r2, q2⟩ => ?_
  exact hf v u s2 x y H2 I2 r1 r2 q2

theorem pe_op {op : Operator} {r : R2} (ho : OpR X (binaryOp op) r) (ha : PE X a ta) (hb : PE X b tb) : PE X (.BinOp a op b pos) (tOp r ta tb) := by
  intro pins s σ H Q I h
  exact wpAny_BinOp (binT ha hb I h fun v u s2 x y H2 I2 rx ry q => ho pins s2 σ H2 x y v u Q I2 rx ry q)
theorem pe_un {op : UnaryOp} {r : V → Hp → VK → Prop} (ho : UnR X (unaryOp op) r) (ha : PE X a ta) : PE X (.UnaryOp op a pos) (tUn r ta) := by
  intro pins s σ H Q I h
  exact UnaryOp_ (thn (ha pins s σ H _ I h) fun v s1 ⟨x, H1, I1, r1, q1⟩ => ho pins s1 σ H1 x v Q I1 r1 q1)
/-! ### ints -/
theorem opI {f : Value → Value → Sem Value} {C : Int → Int → Prop} {g : Int → Int → Int}
    (rule : ∀ (i j : Int) (t u : Tok) (s : Shared) (Q : Value → Shared → Prop) (E : Value → Shared → Prop), C i j → Q (.int (g i j) s.toks) { s with toks := s.toks + 1 } → wpAny (model X.prog X.w) X.A (f (.int i t) (.int j u)) Q E s) :
    OpR X f (rI C fun i j => .int (g i j)) := by
  intro pins s σ H x y v u Q I rx ry h
  obtain ⟨i, j, rfl, rfl, hc, q⟩ := h
  obtain ⟨t, rfl⟩ := rx
  obtain ⟨t', rfl⟩ := ry
  exact rule i j t t' s _ _ hc ⟨.int (g i j), H, I.tok _, ⟨_, rfl⟩, q⟩
theorem opI0 {f : Value → Value → Sem Value} {g : Int → Int → Int}
    (rule : ∀ (i j : Int) (t u : Tok) (s : Shared) (Q : Value → Shared → Prop) (E : Value → Shared → Prop), Q (.int (g i j) s.toks) { s with toks := s.toks + 1 } → wpAny (model X.prog X.w) X.A (f (.int i t) (.int j u)) Q E s) :
    OpR X f (rI0 fun i j => .int (g i j)) := by
  intro pins s σ H x y v u Q I rx ry h
  obtain ⟨i, j, rfl, rfl, q⟩ := h
  obtain ⟨t, rfl⟩ := rx
  obtain ⟨t', rfl⟩ := ry
  exact rule i j t t' s _ _ ⟨.int (g i j), H, I.tok _, ⟨_, rfl⟩, q⟩
theorem opB0 {f : Value → Value → Sem Value} {g : Int → Int → Bool}
    (rule : ∀ (i j : Int) (t u : Tok) (s : Shared) (Q : Value → Shared → Prop) (E : Value → Shared → Prop), Q (.bool (g i j)) s → wpAny (model X.prog X.w) X.A (f (.int i t) (.int j u)) Q E s) :
    OpR X f (rI0 fun i j => .bl (g i j)) := by
  intro pins s σ H x y v u Q I rx ry h
  obtain ⟨i, j, rfl, rfl, q⟩ := h
  obtain ⟨t, rfl⟩ := rx
  obtain ⟨t', rfl⟩ := ry
  exact rule i j t t' s _ _ ⟨.bl (g i j), H, I, rfl, q⟩

noncomputable def CDiv (i j : Int) : Prop := 0 < j ∧ j < 1073741824
noncomputable def CPow (i j : Int) : Prop := 0 ≤ j ∧ j ≤ 1000000 ∧ i.natAbs < 2 ^ 64
noncomputable def CMul (i j : Int) : Prop := (-(2 ^ 64) < i ∧ i < 2 ^ 64) ∨ (-(2 ^ 64) < j ∧ j < 2 ^ 64)
theorem CMul.ok {i j : Int} (h : CMul i j) : IntMulOk i j := by
  rcases h with ⟨h1, h2⟩ | ⟨h1, h2⟩
  · exact .of_left (intBits_le_64 h1 h2)
  · exact .of_right (intBits_le_64 h1 h2)
theorem op_add : OpR X (binaryOp .Add) (rI0 fun i j => .int (i + j)) := opI0 fun _ _ _ _ _ _ _ q => add_int q
theorem op_sub : OpR X (binaryOp .Sub) (rI0 fun i j => .int (i - j)) := opI0 fun _ _ _ _ _ _ _ q => sub_int q
/-- // by a positive divisor -/
theorem op_fdiv : OpR X (binaryOp .FloorDiv) (rI CDiv fun i j => .int (i / j)) := opI fun i j _ _ _ _ _ hc q => by
  have h1 : (0 : Int) < j := hc.1
  have h2 : j < 1073741824 := hc.2
  exact floordiv_int (by omega) (by rw [Int.fdiv_eq_ediv_of_nonneg i (by omega)]; exact q) (.inl (PyProof.noPylong_small (by omega)))
/-- % by a positive divisor of any size -/
theorem op_mod : OpR X (binaryOp .Mod) (rI (fun _ j => 0 < j) fun i j => .int (i % j)) := opI fun i j _ _ _ _ _ hc q => by
  have h1 : (0 : Int) < j := hc
  exact mod_int' (by omega) (by rw [Int.fmod_eq_emod_of_nonneg i (by omega)]; exact q)
theorem op_pow : OpR X (binaryOp .Pow) (rI CPow fun i j => .int (i ^ j.toNat)) := opI fun _ _ _ _ _ _ _ hc q => pow_int_small hc.1 hc.2.1 hc.2.2 q
theorem unI {f : Value → Sem Value} {g : Int → Int}
    (rule : ∀ (i : Int) (t : Tok) (s : Shared) (Q : Value → Shared → Prop) (E : Value → Shared → Prop), Q (.int (g i) s.toks) { s with toks := s.toks + 1 } → wpAny (model X.prog X.w) X.A (f (.int i t)) Q E s) :
    UnR X f (rU fun i => .int (g i)) := by
  intro pins s σ H x v Q I rx h
  obtain ⟨i, rfl, q⟩ := h
  obtain ⟨t, rfl⟩ := rx
  exact rule i t s _ _ ⟨.int (g i), H, I.tok _, ⟨_, rfl⟩, q⟩
theorem un_neg : UnR X (unaryOp .USub) (rU fun i => .int (-i)) := unI fun _ _ _ _ _ q => neg_int q
/-! ### bools among ints: n += (a < b) -/
end

/-! ### comparisons -/
section
variable {X : Cx} {a b c : Expr} {ta tb tc : TE} {pos : Pos}
theorem fin_bl {pins : List (Addr × Obj)} {σ : St} {H : Hp} {s : Shared} {Q : VK} {k k' : Bool} (I : Inv X pins σ H s) (q : Q (.bl k) H) (e : k = k') : EP X pins σ Q (.bool k') s := by
  subst e
  exact ⟨.bl k, H, I, rfl, q⟩
theorem op_lt : OpR X (compareOp .Lt) (rI0 fun i j => .bl (decide (i < j))) := opB0 fun _ _ _ _ _ _ _ q => lt_int q
theorem op_le : OpR X (compareOp .LtE) (rI0 fun i j => .bl (decide (i ≤ j))) := opB0 fun _ _ _ _ _ _ _ q => le_int q
theorem op_gt : OpR X (compareOp .Gt) (rI0 fun i j => .bl (decide (j < i))) := opB0 fun _ _ _ _ _ _ _ q => gt_int q
theorem op_ge : OpR X (compareOp .GtE) (rI0 fun i j => .bl (decide (j ≤ i))) := opB0 fun _ _ _ _ _ _ _ q => ge_int q
/-- the one string within the other -/
theorem op_in_str : OpR X (compareOp .In) (fun x y H Q => ∃ i j, x = .str i ∧ y = .str j ∧ Q (.bl (!(Builtin.Str.occurrences j i 0 j.length 1).isEmpty)) H) := by
  intro pins s σ H x y v u Q I rx ry h
  obtain ⟨i, j, rfl, rfl, q⟩ := h
  obtain ⟨t, rfl⟩ := rx
  obtain ⟨t', rfl⟩ := ry
  exact in_str (fin_bl I q rfl)

/-- is None, is not None: the right side a value none -/
theorem op_isN : OpR X (compareOp .Is) (fun x y H Q => y = .non ∧ Q (.bl (decide (x = .non))) H) := by
  intro pins s σ H x y v u Q I rx ry h
  obtain ⟨rfl, q⟩ := h
  cases ry
  refine is_none_gen (fin_bl I q ?_)
  cases x <;> first
    | (cases rx; rfl)
    | (obtain ⟨t, rfl⟩ := rx; rfl)
/-- two rules for one operation: by cases -/
theorem OpR.or {f : Value → Value → Sem Value} {r r' : R2} (h : OpR X f r) (h' : OpR X f r') : OpR X f (fun x y H Q => r x y H Q ∨ r' x y H Q) := by
  intro pins s σ H x y v u Q I rx ry q
  rcases q with q | q
  · exact h pins s σ H x y v u Q I rx ry q
  · exact h' pins s σ H x y v u Q I rx ry q

/-- a comparison as a value; hm: nomark b, or (for in, not in) by with_unfolding_all rfl -/
theorem pe_cmpR {op : CmpOp} {r : R2} (ho : OpR X (compareOp op) r) (ha : PE X a ta) (hb : PE X b tb) (hm : behindInMarks op b = false) : PE X (.Compare a [op] [b] pos) (tOp r ta tb) := by
  intro pins s σ H Q I h
  exact wpAny_Compare1 (binT ha hb I h fun v u s2 x y H2 I2 rx ry q => ho pins s2 σ H2 x y v u Q I2 rx ry q) hm
/-- a reading of a value as a test -/
noncomputable def tTest (t : TE) : TT := fun σ H Q => t σ H fun x H' => ∃ k, x = .bl k ∧ Q k H'
theorem pt_cmpR {op : CmpOp} {r : R2} (ho : OpR X (compareOp op) r) (ha : PE X a ta) (hb : PE X b tb) (hm : behindInMarks op b = false) : PT X (.Compare a [op] [b] pos) (tTest (tOp r ta tb)) := by
  intro pins s σ H Q I h
  refine wpAny_isTrue_Compare1 (thn (ha pins s σ H _ I h) fun v s1 ⟨x, H1, I1, r1, q1⟩ => thn (hb pins s1 σ H1 _ I1 q1) fun u s2 ⟨y, H2, I2, r2, q2⟩ =>
    thn (ho pins s2 σ H2 x y v u _ I2 r1 r2 q2) fun c s3 ⟨z, H3, I3, r3, k, e, q3⟩ => ?_) hm
  subst e
  cases r3
  exact wpAny_truthy_bool ⟨H3, I3, q3⟩
/-! ### truth -/
/-- a value's truth by the abstract heap -/
noncomputable def TruV (K : PySem.W.Frag) (x : V) (H : Hp) (k : Bool) : Prop :=
  match x with
  | .non => k = false
  | .bl b => k = b
  | .int i => k = (i != 0)
  | .str y => y.length ≤ sizeLine ∧ k = ((y.length : Int) != 0)
  | .byt y => y.size ≤ sizeLine ∧ k = ((y.size : Int) != 0)
  | .ref p => (∃ xs, SqL K H p xs ∧ k = !xs.isEmpty) ∨ (∃ xs, SqT K H p xs ∧ k = !xs.isEmpty) ∨ ∃ kvs, H p = some (.dK kvs) ∧ k = !kvs.isEmpty
  | _ => False
theorem isEmpty_kv {κ : Type} {kvs : List (κ × V)} {vs : List (κ × Value)} (r : KV kvs vs) : (!vs.isEmpty) = !kvs.isEmpty := by
  cases r <;> rfl
theorem isEmpty_of {xs : List V} {its : List Value} (r : Vals xs its) : (!its.toArray.isEmpty) = !xs.isEmpty := by
  cases r <;> simp
theorem line63 : (sizeLine : Nat) < 2 ^ 63 := by rw [sizeLine_eq]; decide
theorem tru_ok : TruR X (fun x H Q => ∃ k, TruV X.K x H k ∧ Q k H) := by
  intro pins s σ H x v Q I rx h
  obtain ⟨k, e, q⟩ := h
  have hl := line63
  have hs : sizeLine = 16777216 := sizeLine_eq
  cases x with
  | non =>
    cases rx
    have e' : k = false := e
    subst e'
    exact truthy_none ⟨H, I, q⟩
  | bl b =>
    cases rx
    have e' : k = b := e
    subst e'
    exact wpAny_truthy_bool ⟨H, I, q⟩
  | int i =>
    obtain ⟨t, rfl⟩ := rx
    have e' : k = (i != 0) := e
    subst e'
    exact PySem.P.truthy_int ⟨H, I, q⟩
  | str y =>
    obtain ⟨t, rfl⟩ := rx
    obtain ⟨hy, e'⟩ : y.length ≤ sizeLine ∧ k = ((y.length : Int) != 0) := e
    subst e'
    exact PySem.P.truthy_str (by omega) ⟨H, I.tok _, q⟩
  | byt y =>
    obtain ⟨t, rfl⟩ := rx
    obtain ⟨hy, e'⟩ : y.size ≤ sizeLine ∧ k = ((y.size : Int) != 0) := e
    subst e'
    exact PySem.W.truthy_bytes (by omega) ⟨H, I.tok _, q⟩
  | ref p =>
    cases rx
    have e' : (∃ xs, SqL X.K H p xs ∧ k = !xs.isEmpty) ∨ (∃ xs, SqT X.K H p xs ∧ k = !xs.isEmpty) ∨ ∃ kvs, H p = some (.dK kvs) ∧ k = !kvs.isEmpty := e
    rcases e' with ⟨xs, hx, e'⟩ | ⟨xs, hx, e'⟩ | ⟨kvs, hx, e'⟩
    · subst e'
      obtain ⟨its, r, pl, hz⟩ := I.list hx
      have hlen := r.length
      exact wpAny_truthy_list pl.isList (by simp only [List.size_toArray]; omega) ⟨H, I.tok _, by rw [isEmpty_of r]; exact q⟩
    · subst e'
      obtain ⟨its, r, pl, hz⟩ := I.tuple hx
      have hlen := r.length
      exact truthy_tuple pl (by simp only [List.size_toArray]; omega) ⟨H, I.tok _, by rw [isEmpty_of r]; exact q⟩
    · subst e'
      obtain ⟨hz, hS, vs, r, m⟩ : kvs.length ≤ sizeLine ∧ (p == sysModules) = false ∧ ∃ vs, KV kvs vs ∧ s.heap.DictOf (mixKind X.prog X.w) p vs := I.hok p _ hx
      have hlen : kvs.length = vs.length := Paired.length r
      exact wpAny_truthy_dict hS m (by omega) ⟨H, I.tok _, by rw [isEmpty_kv r]; exact q⟩
  | _ => exact (show False from e).elim
/-- any expression whose test is its value's truth (a name, a call, a subscript, a field ..: he by fun _ => rfl) -/
theorem pt_truth (ha : PE X a ta) (he : ∀ whole, isTrue a X.env whole = (do let v ← whole; standAt a.pos; holding [v] (truthy v))) :
    PT X a (fun σ H Q => ta σ H fun x H' => ∃ k, TruV X.K x H' k ∧ Q k H') := by
  intro pins s σ H Q I h
  exact isTrue_plain (thn (ha pins s σ H _ I h) fun v s1 ⟨x, H1, I1, r1, q1⟩ => tru_ok pins s1 σ H1 x v Q I1 r1 q1) (he _)

/-! ### strs and bytes -/
theorem op_add_str : OpR X (binaryOp .Add) (fun x y H Q => ∃ i j, x = .str i ∧ y = .str j ∧ i.length + j.length ≤ sizeLine ∧ Q (.str (i ++ j)) H) := by
  intro pins s σ H x y v u Q I rx ry h
  obtain ⟨i, j, rfl, rfl, hz, q⟩ := h
  obtain ⟨t, rfl⟩ := rx
  obtain ⟨t', rfl⟩ := ry
  exact add_str (fun t' tk => ⟨.str (i ++ j), H, I.tok _, ⟨_, rfl⟩, q⟩) hz
/-! ### scalar builtins, by CallR -/
theorem vals1 {x : V} {us : List Value} (r : Vals [x] us) : ∃ u, us = [u] ∧ RelV x u := by
  cases r with
  | cons r1 r2 => cases r2; exact ⟨_, rfl, r1⟩
theorem vals2 {x y : V} {us : List Value} (r : Vals [x, y] us) : ∃ u w', us = [u, w'] ∧ RelV x u ∧ RelV y w' := by
  cases r with
  | cons r1 r2 =>
    cases r2 with
    | cons r3 r4 => cases r4; exact ⟨_, _, rfl, r1, r3⟩
theorem call_min2 (hc : X.calm = true) : CallR X (.builtin "min") (fun xs H Q => ∃ i j, xs = [.int i, .int j] ∧ Q (.int (if j < i then j else i)) H) := by
  intro pins s σ H xs us Q I r h
  obtain ⟨i, j, rfl, q⟩ := h
  obtain ⟨u, w', rfl, ⟨t, rfl⟩, ⟨t', rfl⟩⟩ := vals2 r
  refine min_two_ints (I.ok.hd hc) fun h' tk k => ⟨_, H, I.kept k, ?_, q⟩
  by_cases hj : j < i
  · rw [if_pos hj, if_pos hj]; exact ⟨_, rfl⟩
  · rw [if_neg hj, if_neg hj]; exact ⟨_, rfl⟩
theorem call_int1 : CallR X (.type "int") (fun xs H Q => (∃ i, xs = [.int i] ∧ Q (.int i) H) ∨ ∃ k, xs = [.bl k] ∧ Q (.int (if k then 1 else 0)) H) := by
  intro pins s σ H xs us Q I r h
  rcases h with ⟨i, rfl, q⟩ | ⟨k, rfl, q⟩
  · obtain ⟨u, rfl, t, rfl⟩ := vals1 r
    exact call_int_int ⟨.int i, H, I, ⟨_, rfl⟩, q⟩
  · obtain ⟨u, rfl, r1⟩ := vals1 r
    cases r1
    exact call_int_bool ⟨.int (if k then 1 else 0), H, I.tok _, ⟨_, rfl⟩, q⟩
theorem call_str_int : CallR X (.type "str") (fun xs H Q => ∃ i, xs = [.int i] ∧ i.natAbs.log2 < 1920 ∧ Q (.str (toString i)) H) := by
  intro pins s σ H xs us Q I r h
  obtain ⟨i, rfl, hz, q⟩ := h
  obtain ⟨u, rfl, t, rfl⟩ := vals1 r
  exact PySem.P.str_of_int hz ⟨.str _, H, I.tok _, ⟨_, rfl⟩, q⟩
end
end L2

namespace L2
open PySem PySem.Spec PyProof.Rows

/-! ### an instance, its attributes a map -/
structure ObjM (h : Heap) (x dx C : Addr) (mA : Str → Option Value) : Prop where
  obj : h.get? x = some (PySem.W.instObj C dx)
  ns : h.Ns1 dx mA
  ne : dx ≠ x

theorem lookIn_ns {h : Heap} {dx : Addr} {mA : Str → Option Value} (n : h.Ns1 dx mA) : ∃ od, h.get? dx = some od ∧ ∀ name, PySem.W.lookIn name od = some (mA name) := by
  obtain ⟨o, es, ep, ho, hd, hk, _, hm⟩ := n
  refine ⟨o, ho, fun name => ?_⟩
  have e := hm name
  unfold nsFind findBy at e
  rw [← Array.find?_toList] at e
  unfold PySem.W.lookIn
  rw [hd]
  dsimp only
  split
  · rename_i y q
    rw [q] at e
    exact congrArg some e
  · rename_i q
    rw [q] at e
    have a : es.toList.any (·.refKey) = false := by
      rw [List.any_eq_false]
      intro y hy
      obtain ⟨z, t, hkey⟩ := hk y (Array.mem_toList_iff.mp hy)
      simp [DictEntry.refKey, hkey]
    have a' : ¬ es.toList.any (·.refKey) = true := by rw [a]; exact Bool.false_ne_true
    rw [if_neg a']
    exact congrArg some e

theorem ObjM.look {h : Heap} {x dx C : Addr} {mA : Str → Option Value} (I : ObjM h x dx C mA) : ∃ od, PySem.W.InstAt h x (PySem.W.instObj C dx) C (some od) ∧ ∀ name, PySem.W.lookIn name od = some (mA name) :=
  let ⟨od, ho, hl⟩ := lookIn_ns I.ns
  ⟨od, ⟨I.obj, rfl, rfl, ho⟩, hl⟩

section
variable {prog : Program} {w : World} {A : Around} {E : Value → Shared → Prop} {s : Shared} {K : PySem.W.Frag} {x dx C f : Addr} {mA : Str → Option Value} {name : Str} {v : Value}

end

/-! ### the attributes as a list of pairs -/
section
variable {P : Program} {w : World} {H H' : Hp} {h h' : Heap} {a C dx : Addr} {fs fs' : List (Str × V)}
end

/-! ### what of the text a class must have -/
structure Cls (K : PySem.W.Frag) (C : Addr) : Prop where
  pg : PySem.W.plainGet K C Str.empty = true
  hd : PySem.W.hasDictIn K C = true
  po : PySem.W.plainOver K C = true
  sa : PySem.W.findIn K (.ref C) "__setattr__" = some (some (.builtin "object.__setattr__"))
theorem Cls.get {K : PySem.W.Frag} {C : Addr} (c : Cls K C) (f : Str) : PySem.W.plainGet K C f = true := c.pg
/-- a constant of the class -/
structure Con (K : PySem.W.Frag) (C : Addr) (f : Str) (v : V) (u : Value) : Prop where
  at_ : PySem.W.findIn K (.ref C) f = some (some u)
  rel : RelV v u
  get : PySem.W.specialIn K u "__get__" = some none
  cp : PySem.W.copiedNames.contains f = false
/-- a method: a plain def of the class or of one above it -/
structure Meth (K : PySem.W.Frag) (C : Addr) (m : Str) (f : Addr) : Prop where
  at_ : PySem.W.findIn K (.ref C) m = some (some (.ref f))
  fn : PySem.W.isFn K (.ref f) = true
  kp : PySem.W.keepIn K (.ref f) = true

section
variable {X : Cx} {pins : List (Addr × Obj)} {σ : St} {H : Hp} {s : Shared} {a C dx : Addr} {fs : List (Str × V)} {f : Str} {v : V} {A : Around} {E : Value → Shared → Prop}

/-- a new instance, tracked, without attributes -/
theorem Inv.made (I : Inv X pins σ H s) : Inv X pins σ (upd (upd H s.heap.objs.size (.own (s.heap.objs.size + 1))) (s.heap.objs.size + 1) (.ins C s.heap.objs.size []))
    { s with heap := (s.heap.push PySem.W.emptyDict).push (PySem.W.instObj C s.heap.objs.size) } := by
  have e1 : (s.heap.push PySem.W.emptyDict).get? s.heap.objs.size = some PySem.W.emptyDict := Heap.get?_push_size s.heap rfl
  have e2 : ((s.heap.push PySem.W.emptyDict).push (PySem.W.instObj C s.heap.objs.size)).get? (s.heap.objs.size + 1) = some (PySem.W.instObj C s.heap.objs.size) := by
    have := Heap.get?_push_size (s.heap.push PySem.W.emptyDict) (o := PySem.W.instObj C s.heap.objs.size) rfl
    rwa [Heap.size_push] at this
  have e3 : (s.heap.push PySem.W.emptyDict).Ns s.heap.objs.size (fun _ => none) := ⟨PySem.W.emptyDict, #[], _, e1, rfl, (fun e he => absurd he (by simp)), fun _ => rfl⟩
  have I1 := I.laid (a := s.heap.objs.size) (o := .own (s.heap.objs.size + 1)) (h' := s.heap.push PySem.W.emptyDict) (t' := s.toks) (fun b u q => Heap.get?_push_of_some _ q) (Nat.le_refl _) ⟨_, e1⟩
  refine I1.laid (a := s.heap.objs.size + 1) (o := .ins C s.heap.objs.size []) (t' := s.toks) (fun b u q => Heap.get?_push_of_some _ q) (Nat.le_of_eq (Heap.size_push _ _)) ?_
  have ne : s.heap.objs.size ≠ s.heap.objs.size + 1 := Nat.ne_of_lt (Nat.lt_succ_self _)
  refine ⟨by rw [upd_ne ne, upd_same], Nat.zero_le _, ne, e2, fun _ => none, (Heap.Ns1.of_empty e3).at fun o q => Heap.get?_push_of_some _ q, fun _ => True.intro, fun y hy => absurd rfl hy⟩

end

/-! ### readings and rules -/
section
variable {X : Cx} {o e value : Expr} {f : Str} {pos pos' tpos : Pos} {ta tv : TE}
end

/-! ### isinstance -/
section
variable {X : Cx} {pins : List (Addr × Obj)} {σ : St} {H : Hp} {s : Shared} {A : Around} {E : Value → Shared → Prop} {Q : Value → Shared → Prop} {c : Value} {b : Bool}
/-- the type of a value, as the fragment's deciders take it; for an instance its class -/
inductive TyOf (K : PySem.W.Frag) (H : Hp) : V → Value → Prop where
  | non : TyOf K H .non (.type "NoneType")
  | bl (x : Bool) : TyOf K H (.bl x) (.type "bool")
  | int (i : Int) : TyOf K H (.int i) (.type "int")
  | str (x : Str) : TyOf K H (.str x) (.type "str")
  | flt (x : UInt64) : TyOf K H (.flt x) (.type "float")
  | lst {a : Addr} {xs : List V} (e : H a = some (.lst xs)) : TyOf K H (.ref a) (.type "list")
  | frz {a : Addr} {o : Obj} {xs : List V} (e : H a = some (.frz o (.lst xs))) : TyOf K H (.ref a) (.type "list")
  | tup {a : Addr} {xs : List V} (e : H a = some (.tup xs)) : TyOf K H (.ref a) (.type "tuple")
  | dK {a : Addr} {kvs : List (Key × V)} (e : H a = some (.dK kvs)) : TyOf K H (.ref a) (.type "dict")
  | dT {a : Addr} {kvs : List (List Key × V)} (e : H a = some (.dT kvs)) : TyOf K H (.ref a) (.type "dict")
  | ins {a C dx : Addr} {fs : List (Str × V)} (e : H a = some (.ins C dx fs)) (cl : Cls K C) (ha : PySem.W.findIn K (.ref C) "__class__" = some (some (.builtin "object.__class__")))
      (hn : PySem.W.specialIn K (.builtin "object.__class__") "__get__" = some (some (.builtin "getset_descriptor.__get__"))) (htk : PySem.W.takesIn K (.builtin "object.__class__") = some true)
      (hm : PySem.W.mroIn K C (.type "object") = some true) : TyOf K H (.ref a) (.ref C)
end
end L2

namespace L2
open PySem PySem.Spec PyProof.Rows

/-! ### room -/
structure Room (k : Nat) (A : Around) : Prop where
  hd : A.handled = none
  dp : A.depth + 3 * k + 5 < recursionLimit
  un : A.units + 16 * k + 200 < cLine
theorem Room.mono {j k : Nat} {A : Around} (r : Room k A) (h : j ≤ k) : Room j A := ⟨r.hd, by have := r.dp; omega, by have := r.un; omega⟩
theorem Room.deeper {k : Nat} {A : Around} (r : Room (k + 1) A) (env : Env) : Room k (A.deeper env) :=
  ⟨r.hd, by have := r.dp; show A.depth + 1 + 3 * k + 5 < _; omega, by have := r.un; show A.units + 3 + 16 * k + 200 < _; omega⟩
theorem Room.in1 {k : Nat} {A : Around} (r : Room (k + 1) A) : Room k A.in1 :=
  ⟨r.hd, by have := r.dp; show A.depth + 3 * k + 5 < _; omega, by have := r.un; show A.units + 1 + 16 * k + 200 < _; omega⟩
theorem Room.depth {k : Nat} {A : Around} (r : Room k A) : A.depth < recursionLimit := by have := r.dp; omega
theorem Room.units {k : Nat} {A : Around} (r : Room k A) : A.units + 64 < cLine := by have := r.un; omega
/-! ### argument lists and displays -/
noncomputable def tNil : TA := fun _ H Q => Q [] H
noncomputable def tCons (ta : TE) (tr : TA) : TA := fun σ H Q => ta σ H fun x H1 => tr σ H1 fun xs H2 => Q (x :: xs) H2
section
variable {X : Cx} {e : Expr} {es : List Expr} {te : TE} {t : TA} {pos : Pos}
theorem pa_nil : PA X [] tNil := fun _ _ _ _ H Q I h => Calls.spliced_nil ⟨[], H, I, .nil, h⟩
theorem pa_cons (ha : PE X e te) (hr : PA X es t) (hs : starEach (e :: es) X.env = (false, eval e X.env) :: starEach es X.env := by rfl) : PA X (e :: es) (tCons te t) := by
  intro pos pins s σ H Q I h
  rw [hs]
  show wpAny _ _ (spliced ((false, eval e X.env) :: backTo pos (starEach es X.env))) _ _ s
  refine Calls.spliced_cons (thn (ha pins s σ H _ I h) fun u s1 ⟨x, H1, I1, r1, q1⟩ => ?_)
  exact thn (hr pos pins s1 σ H1 _ I1 q1) fun us s2 ⟨xs, H2, I2, r2, q2⟩ => ⟨x :: xs, H2, I2, .cons r1 r2, q2⟩

/-- a tuple, a list of written items -/
noncomputable def tTup (t : TA) : TE := fun σ H Q => t σ H fun xs H1 => xs.length ≤ sizeLine ∧ ∀ p, H1 p = none → Q (.ref p) (upd H1 p (.tup xs))
noncomputable def tLst (t : TA) : TE := fun σ H Q => t σ H fun xs H1 => xs.length ≤ sizeLine ∧ ∀ p, H1 p = none → Q (.ref p) (upd H1 p (.lst xs))
theorem pe_tup {x1} (h : PA X es t) : PE X (.Tuple es x1 pos) (tTup t) := by
  intro pins s σ H Q I hq
  refine wpAny_Tuple_spliced (thn (h pos pins s σ H _ I hq) fun us s1 ⟨xs, H1, I1, r, z, q⟩ => ⟨by rw [← r.length]; exact z, ?_⟩)
  have hf : H1 s1.heap.objs.size = none := I1.hok.fresh (Nat.le_refl _)
  refine ⟨.ref s1.heap.objs.size, upd H1 s1.heap.objs.size (.tup xs), I1.laid (t' := s1.toks) (fun b u e => Heap.get?_push_of_some _ e) (Nat.le_refl _) ?_, rfl, q _ hf⟩
  exact ⟨z, us, r, ⟨_, Heap.get?_push_size _ rfl, rfl, _, rfl⟩⟩
theorem pe_lst (h : PA X es t) : PE X (.List es pos) (tLst t) := by
  intro pins s σ H Q I hq
  refine wpAny_List_spliced (thn (h pos pins s σ H _ I hq) fun us s1 ⟨xs, H1, I1, r, z, q⟩ => ⟨by rw [← r.length]; exact z, ?_⟩)
  have hf : H1 s1.heap.objs.size = none := I1.hok.fresh (Nat.le_refl _)
  refine ⟨.ref s1.heap.objs.size, upd H1 s1.heap.objs.size (.lst xs), I1.laid (t' := s1.toks) (fun b u e => Heap.get?_push_of_some _ e) (Nat.le_refl _) ?_, rfl, q _ hf⟩
  exact ⟨z, us, 0, r, Heap.get?_push_size _ rfl⟩
end

/-! ### what a def promises -/
/-- a def's promise: the bound arguments in the parameters' order, the heap, the wanted end, the wanted exception -/
noncomputable abbrev Sp := List V → Hp → VK → XK → Prop
/-- how an exception lies behind a call (file 08 gives it): the callers' frames, abstract heap and state ahead of the call, the wish, the exception, the state -/
noncomputable abbrev CXT := List Env → Hp → Shared → XK → Value → Shared → Prop

/-- the state at a call -/
structure Env0 (P : Program) (w : World) (K : PySem.W.Frag) (mg : Str → Option Value) (base : Heap) (A : Around) (outer : List Env) (s : Shared) (H : Hp) : Prop where
  frames : A.frames = some outer
  mod : Mod K mg base
  bs : ∀ b o, base.get? b = some o → s.heap.get? b = some o ∧ H b = none
  bsz : base.objs.size ≤ s.heap.objs.size
  funs : s.heap.FunFrames base outer
  frf : ∀ b ∈ frs outer, H b = none
  hok : HOk P w H s.heap
  bare : AllBare s.gens
/-- a call's end -/
noncomputable def CE (outer : List Env) (P : Program) (w : World) (H : Hp) (s : Shared) (Q : VK) (u : Value) (s' : Shared) : Prop :=
  ∃ v H', s'.os = s.os ∧ AllBare s'.gens ∧ Un (frs outer) [] H H' s.heap s'.heap ∧ HOk P w H' s'.heap ∧ RelV v u ∧ Q v H'
noncomputable def CR (CX : CXT) (outer : List Env) (P : Program) (w : World) (H : Hp) (s : Shared) (Q : VK) (E : XK) (r : Result) (s' : Shared) : Prop :=
  match r with
  | .ok (.ret u) => CE outer P w H s Q u s'
  | .ok _ => False
  | .error e => CX outer H s E e s'
structure FnOk (P : Program) (w : World) (K : PySem.W.Frag) (mg : Str → Option Value) (base : Heap) (CX : CXT) (k : Nat) (f : Addr) (fd : FuncData) (ps : List Str) (sp : Sp) : Prop where
  len : ∀ vs H Q E, sp vs H Q E → vs.length = ps.length
  run : ∀ (A : Around) (outer : List Env) (s : Shared) (H : Hp) (args : Args) (us : List Value) (vs : List V) (Q : VK) (E : XK), Room k A → Env0 P w K mg base A outer s H → BindsTo s fd args (ps.zip us) → Vals vs us → sp vs H Q E →
    codeAny (model P w) A (.call (.ref f) args) (CR CX outer P w H s Q E) s
theorem FnOk.mono {P : Program} {w : World} {K : PySem.W.Frag} {mg : Str → Option Value} {base : Heap} {CX : CXT} {j k : Nat} {f : Addr} {fd : FuncData} {ps : List Str} {sp : Sp} (F : FnOk P w K mg base CX j f fd ps sp) (h : j ≤ k) :
    FnOk P w K mg base CX k f fd ps sp := ⟨F.len, fun A outer s H args us vs Q E hr => F.run A outer s H args us vs Q E (hr.mono h)⟩
/-- a weaker promise -/
theorem FnOk.imp {P : Program} {w : World} {K : PySem.W.Frag} {mg : Str → Option Value} {base : Heap} {CX : CXT} {k : Nat} {f : Addr} {fd : FuncData} {ps : List Str} {sp sp' : Sp} (F : FnOk P w K mg base CX k f fd ps sp)
    (h : ∀ vs H Q E, sp' vs H Q E → sp vs H Q E) : FnOk P w K mg base CX k f fd ps sp' :=
  ⟨fun vs H Q E q => F.len vs H Q E (h _ _ _ _ q), fun A outer s H args us vs Q E hr he hb hv hs => F.run A outer s H args us vs Q E hr he hb hv (h _ _ _ _ hs)⟩

theorem Env0.in1 {P : Program} {w : World} {K : PySem.W.Frag} {mg : Str → Option Value} {base : Heap} {A : Around} {outer : List Env} {s : Shared} {H : Hp} (e : Env0 P w K mg base A outer s H) :
    Env0 P w K mg base A.in1 outer s H := ⟨e.frames, e.mod, e.bs, e.bsz, e.funs, e.frf, e.hok, e.bare⟩

section
variable {X : Cx} {pins : List (Addr × Obj)} {σ : St} {H : Hp} {s s' : Shared}
/-- from a body: what a callee wants -/
theorem Inv.env0 (I : Inv X pins σ H s) : Env0 X.prog X.w X.K X.mg X.base X.A X.stack s H :=
  ⟨I.ok.frames, I.ok.mod, I.bs, Nat.le_trans I.ok.bsz I.sz, I.stack, I.stkFree, I.hok, I.bare⟩
/-- behind a call -/
theorem Inv.after {Q : VK} {u : Value} (I : Inv X pins σ H s) (h : CE X.stack X.prog X.w H s Q u s') : EP X pins σ Q u s' := by
  obtain ⟨v, H', os, bare, un, hok, r, q⟩ := h
  obtain ⟨hh, g, d, t, os'⟩ := s'
  obtain rfl : os' = s.os := os
  exact ⟨v, H', I.call (h' := hh) (g' := g) (d' := d) (t' := t) (ch := []) un hok bare (fun b z => absurd z (by simp)), r, q⟩
end

/-! ### calls -/
/-- f(..): the written arguments, then the defaults dvs; E: what is wanted of an exception -/
noncomputable def tCall (sp : Sp) (dvs : List V) (E : XK) (t : TA) : TE := fun σ H Q => t σ H fun vs H1 => sp (vs ++ dvs) H1 Q E
/-- how the parameters are bound: us the positional arguments, kw the keywords' values by name, ds the defaults that fill up -/
noncomputable def Binds (K : PySem.W.Frag) (fd : FuncData) (ps : List Str) (ds : List Value) : Prop :=
  ∀ (s : Shared) (us : List Value), K.In s.heap → (us ++ ds).length = ps.length → BindsTo s fd ⟨us, []⟩ (ps.zip (us ++ ds))
/-- every parameter is given -/
theorem Binds.all {K : PySem.W.Frag} {fd : FuncData} {ps : List Str} (h : ∀ us : List Value, us.length = ps.length → bindArgs fd ⟨us, []⟩ = pure (ps.zip us)) : Binds K fd ps [] := fun s us _ hl => by
  rw [List.append_nil] at hl ⊢
  exact .of_eq (h us hl)

/-- an exception of a callee reaches what this body wants of exceptions -/
noncomputable def Passes (CX : CXT) (X : Cx) (E : XK) : Prop := ∀ (pins : List (Addr × Obj)) (σ : St) (H : Hp) (s : Shared) (e : Value) (s' : Shared), Inv X pins σ H s → CX X.stack H s E e s' → X.xe e s'

section
variable {X : Cx} {CX : CXT} {k : Nat} {f C : Addr} {fd : FuncData} {ps : List Str} {sp : Sp} {dvs : List V} {ds : List Value} {E : XK} {x m : Str} {p pos apos : Pos} {e o : Expr} {es : List Expr} {ta : TE} {t : TA}

/-- the callee runs -/
theorem run_fn {pins : List (Addr × Obj)} {σ : St} {H : Hp} {s : Shared} {Q : VK} {us : List Value} {vs : List V} (F : FnOk X.prog X.w X.K X.mg X.base CX k f fd ps sp) (hr : Room k X.A) (hb : Binds X.K fd ps ds) (hd : Vals dvs ds) (hx : Passes CX X E)
    (I : Inv X pins σ H s) (r : Vals vs us) (h : sp (vs ++ dvs) H Q E) : wpAny (model X.prog X.w) X.A (call (.ref f) us) (EP X pins σ Q) X.xe s := by
  have r2 : Vals (vs ++ dvs) (us ++ ds) := r.append hd
  have hl : (us ++ ds).length = ps.length := by rw [← r2.length]; exact F.len _ _ _ _ h
  refine wpAny_call (codeAny_mono (F.run X.A X.stack s H ⟨us, []⟩ (us ++ ds) (vs ++ dvs) Q E hr I.env0 (hb s us I.kIn hl) r2 h) fun r s' hq => ?_)
  cases r with
  | error e => exact hx pins σ H s e s' I hq
  | ok fl =>
    cases fl with
    | ret u => exact I.after hq
    | next => exact False.elim hq
    | brk => exact False.elim hq
    | cont => exact False.elim hq

theorem pe_call (F : FnOk X.prog X.w X.K X.mg X.base CX k f fd ps sp) (hr : Room k X.A) (hg : Gl X x) (hm : X.mg x = some (.ref f)) (hk : PySem.W.keepIn X.K (.ref f) = true) (hb : Binds X.K fd ps ds) (hd : Vals dvs ds) (hx : Passes CX X E)
    (ha : PA X (e :: es) t) (hdb : (x == ("__debug__" : Str)) = false := by decide) (he : starEach (e :: es) X.env = (false, eval e X.env) :: starEach es X.env := by rfl) (hpl : (backTo pos (starEach es X.env)).any (·.1) = false := by rfl) :
    PE X (.Call (.Name x p) (e :: es) [] pos) (tCall sp dvs E t) := by
  intro pins s σ H Q I h
  refine wpAny_Call_Name_kw (ld_glob I hg hm ?_ hdb)
  refine PySem.W.callWith_K (h₀ := X.base) I.ok.mod.kin hk (thn (ha pos pins s σ H _ I h) fun us s1 ⟨vs, H1, I1, r, q⟩ => ⟨I1.kIn, ?_⟩) he hpl
  exact run_fn F hr hb hd hx I1 r q
/-- what a class must have to be made -/
structure Mk (K : PySem.W.Frag) (C f : Addr) : Prop where
  makes : PySem.W.makesIn K C = true
  init : PySem.W.findIn K (.ref C) "__init__" = some (some (.ref f))
  fn : PySem.W.isFn K (.ref f) = true
  kp : PySem.W.keepIn K (.ref C) = true

end

/-! ### keywords -/
section
variable {X : Cx} {CX : CXT} {k : Nat} {f C : Addr} {fd : FuncData} {ps ks : List Str} {sp : Sp} {E : XK} {x m : Str} {p pos apos kpos : Pos} {e o : Expr} {es : List Expr} {kws : List Keyword} {te ta : TE} {t tk : TA} {nm : Option Str}
/-- how a call with keywords binds: g puts the positional values us and the keywords' values ws (names ks) in the parameters' order, defaults among them -/
structure KBinds (K : PySem.W.Frag) (fd : FuncData) (ps ks : List Str) (g : List Value → List Value → List Value) (gV : List V → List V → List V) : Prop where
  to : ∀ (s : Shared) (us ws : List Value), K.In s.heap → (g us ws).length = ps.length → BindsTo s fd ⟨us, ks.zip ws⟩ (ps.zip (g us ws))
  rel : ∀ {vs : List V} {us : List Value} {zs : List V} {ws : List Value}, Vals vs us → Vals zs ws → Vals (gV vs zs) (g us ws)
variable {g : List Value → List Value → List Value} {gV : List V → List V → List V}
end

/-! ### a def's body keeps its promise -/
/-- names: the parameters first -/
structure FnScope (N P : List Str) (sc : Scope) : Prop where
  kind : sc.kind = .function
  co : sc.isCoroutine = false
  gen : sc.isGenerator = false
  nd : N.Nodup
  pre : N.take P.length = P
  par : ∀ x ∈ P, sc.names.lookup x = some .local ∨ sc.names.lookup x = some .cell
  nofree : ∀ y ∈ sc.names, y.2 ≠ .free

theorem bindL_out {kindOf : Str → Option NameKind} {x : Str} : ∀ {binds : List (Str × Value)} {m : Str → Option Value}, (∀ v, (x, v) ∉ binds) → bindL kindOf binds m x = m x
  | [], _, _ => rfl
  | (n, v) :: r, m, h => by
    unfold bindL
    rw [bindL_out fun w hw => h w (List.mem_cons_of_mem _ hw)]
    split
    · have : x ≠ n := by rintro rfl; exact h v List.mem_cons_self
      simp [this]
    · rfl
theorem bindC_out {kindOf : Str → Option NameKind} {x : Str} : ∀ {binds : List (Str × Value)} {m : Str → Option Value}, (∀ v, (x, v) ∉ binds) → bindC kindOf binds m x = m x
  | [], _, _ => rfl
  | (n, v) :: r, m, h => by
    unfold bindC
    rw [bindC_out fun w hw => h w (List.mem_cons_of_mem _ hw)]
    split
    · rfl
    · have : x ≠ n := by rintro rfl; exact h v List.mem_cons_self
      simp [this]
theorem bindL_get {kindOf : Str → Option NameKind} {x : Str} {v : Value} : ∀ {P : List Str} {vs : List Value} {i : Nat} {m : Str → Option Value}, P.Nodup → P[i]? = some x → vs[i]? = some v → kindOf x = some .local →
    bindL kindOf (P.zip vs) m x = some v
  | [], _, _, _, _, h, _, _ => by simp at h
  | _ :: _, [], _, _, _, _, h, _ => by simp at h
  | p :: P, w :: vs, 0, m, nd, h1, h2, hk => by
    simp at h1 h2; subst h1; subst h2
    show bindL kindOf ((p, w) :: P.zip vs) m p = _
    unfold bindL
    rw [bindL_out fun v hv => (List.nodup_cons.mp nd).1 (List.of_mem_zip hv).1, if_pos hk]
    simp
  | p :: P, w :: vs, i + 1, m, nd, h1, h2, hk => by
    show bindL kindOf ((p, w) :: P.zip vs) m x = _
    unfold bindL
    exact bindL_get (i := i) (List.nodup_cons.mp nd).2 (by simpa using h1) (by simpa using h2) hk
theorem bindC_get {kindOf : Str → Option NameKind} {x : Str} {v : Value} : ∀ {P : List Str} {vs : List Value} {i : Nat} {m : Str → Option Value}, P.Nodup → P[i]? = some x → vs[i]? = some v → kindOf x ≠ some .local →
    bindC kindOf (P.zip vs) m x = some v
  | [], _, _, _, _, h, _, _ => by simp at h
  | _ :: _, [], _, _, _, _, h, _ => by simp at h
  | p :: P, w :: vs, 0, m, nd, h1, h2, hk => by
    simp at h1 h2; subst h1; subst h2
    show bindC kindOf ((p, w) :: P.zip vs) m p = _
    unfold bindC
    rw [bindC_out fun v hv => (List.nodup_cons.mp nd).1 (List.of_mem_zip hv).1, if_neg hk]
    simp
  | p :: P, w :: vs, i + 1, m, nd, h1, h2, hk => by
    show bindC kindOf ((p, w) :: P.zip vs) m x = _
    unfold bindC
    exact bindC_get (i := i) (List.nodup_cons.mp nd).2 (by simpa using h1) (by simpa using h2) hk

/-- the names' values at the entry -/
noncomputable def start (N : List Str) (vs : List V) : St := vs.map some ++ List.replicate (N.length - vs.length) none

/-- the context of a def's body, at its entry; an exception leaves the frame, then lies as CX says -/
noncomputable def cxOf (CX : CXT) (P : Program) (w : World) (K : PySem.W.Frag) (mg : Str → Option Value) (base : Heap) (N : List Str) (qual : Str) (scope : Scope) (f : Addr) (cd : Value) (A : Around) (outer : List Env) (s : Shared) (H : Hp) (E : XK) : Cx where
  prog := P
  w := w
  K := K
  mg := mg
  base := base
  A := A.deeper (envOfC qual scope s.heap.objs.size f cd)
  N := N
  s₀ := s
  H₀ := H
  env := envOfC qual scope s.heap.objs.size f cd
  outer := outer
  stack := envOfC qual scope s.heap.objs.size f cd :: outer
  ex := []
  calm := true
  fn := fun _ => true
  pn := []
  xe := fun e s' => wpAny (model P w) (A.deeper (envOfC qual scope s.heap.objs.size f cd)) (leaving (envOfC qual scope s.heap.objs.size f cd) e) (fun _ s'' => CX outer H s E e s'') (fun e' s'' => CX outer H s E e' s'') s'

theorem cell_has {sc : Scope} {n : Nat} {x : Str} (h : sc.names.lookup x = some .cell) : ∃ c, (cellsFrom n sc.names []).lookup x = some c := by
  have q := PySem.W.cellsFrom_some sc.names n [] (.inl h)
  exact Option.isSome_iff_exists.mp q

theorem inv_start {CX : CXT} {P : Program} {w : World} {K : PySem.W.Frag} {mg : Str → Option Value} {base : Heap} {N ps : List Str} {qual : Str} {scope : Scope} {f : Addr} {cd : Value} {A : Around} {outer : List Env} {s s1 : Shared} {H : Hp} {E : XK} {us : List Value} {vs : List V}
    (S : FnScope N ps scope) (hd : A.handled = none) (e0 : Env0 P w K mg base A outer s H) (hl : vs.length = ps.length) (r : Vals vs us)
    (x : InCallC s s.heap.objs.size (bindL (envOfC qual scope s.heap.objs.size f cd).kindOf (ps.zip us) fun _ => none) (cellsFrom (s.heap.objs.size + 1) scope.names []) (bindC (envOfC qual scope s.heap.objs.size f cd).kindOf (ps.zip us) fun _ => none) s1) :
    Inv (cxOf CX P w K mg base N qual scope f cd A outer s H E) [] (start N vs) H s1 := by
  have hpl : ps.length ≤ N.length := by have := congrArg List.length S.pre; rw [List.length_take] at this; omega
  obtain ⟨h1, tk, rfl, hk⟩ := x.done
  have noA : ∀ b : Addr, b ∉ (cxOf CX P w K mg base N qual scope f cd A outer s H E).ex := fun b z => absurd (show b ∈ ([] : List Addr) from z) (by simp)
  refine ⟨⟨e0.mod, S.kind, rfl, rfl, Nat.le_refl _, fun y z c h1 h2 => ?_, fun y hy => ?_, fun y c _ h => ?_, fun _ => hd, Around.frames_deeper e0.frames, .inr ⟨rfl, rfl⟩, fun b z => absurd z (noA b), e0.bs, e0.bsz, fun b _ _ => noA b, fun b z => absurd z (noA b), e0.funs, e0.frf⟩,
    rfl, e0.bare, Un.kept hk, ⟨_, x.toInCall.ns, fun i y v h1 h2 h3 => ?_⟩, fun y c h => ⟨_, x.cell y c h⟩, e0.hok.fresh (Nat.le_refl _), fun y c h => ?_, fun p hp => absurd (show p ∈ ([] : List (Addr × Obj)) from hp) (by simp), e0.hok.kept hk, ?_⟩
  · exact name_of_addr x.apart (PySem.mem_of_lookup h1) (PySem.mem_of_lookup h2)
  · have hy : scope.names.lookup y = some .cell ∨ scope.names.lookup y = some .free := hy
    rcases hy with hy | hy
    · exact cell_has hy
    · exact absurd rfl (S.nofree _ (PySem.mem_of_lookup hy))
  · exact Nat.le_of_lt (x.above y c (PySem.mem_of_lookup h))
  · have hi : i < vs.length := by
      unfold start at h2
      by_cases hi : i < vs.length
      · exact hi
      · rw [List.getElem?_append_right (by simpa using hi)] at h2
        rw [List.getElem?_replicate] at h2
        split at h2 <;> cases h2
    have ha : vs[i]? = some v := by
      unfold start at h2
      rw [List.getElem?_append_left (by simpa using hi), List.getElem?_map] at h2
      cases e : vs[i]? with
      | none => rw [e] at h2; cases h2
      | some a => rw [e] at h2; cases h2; rfl
    obtain ⟨u, hu, rv⟩ := r.get ha
    have hp : ps[i]? = some y := by
      rw [← S.pre, List.getElem?_take_of_lt (by omega)]; exact h1
    have ndP : ps.Nodup := by rw [← S.pre]; exact S.nd.sublist (List.take_sublist _ _)
    refine ⟨u, rv, ?_⟩
    rcases S.par y (List.mem_of_getElem? hp) with k | k
    · exact .inl ⟨k, bindL_get ndP hp hu k⟩
    · obtain ⟨c, e⟩ := cell_has (n := s.heap.objs.size + 1) k
      refine .inr ⟨.inl k, c, e, ?_⟩
      have q := x.cell y c e
      rw [bindC_get ndP hp hu (by show scope.names.lookup y ≠ _; rw [k]; decide)] at q
      exact q
  · exact e0.hok.fresh (Nat.le_of_lt (x.above y c (PySem.mem_of_lookup h)))
  · unfold start
    show _ = N.length
    rw [List.length_append, List.length_map, List.length_replicate]
    omega

/-- THE RULE: a def (or a method) of the text, by its body. The body's reading t is chosen for each entry; it is run at the parameters' values -/
theorem fn_of {CX : CXT} {P : Program} {w : World} {K : PySem.W.Frag} {mg : Str → Option Value} {base : Heap} {k : Nat} {f : Addr} {name qual : Str} {params : Arguments} {body : List Stmt} {scope : Scope} {dV kV doc pm cdv ct oc : Value} {an od : Option Addr}
    {osl : Array (Option Value)} {N ps : List Str} {sp : Sp} (lk : K.lookup f = some ⟨oc, od, .func (PySem.W.fnOf name qual params body scope dV kV doc pm an cdv ct), osl⟩) (hcd : PySem.W.codeIn K cdv qual = true) (S : FnScope N ps scope)
    (len : ∀ vs H Q E, sp vs H Q E → vs.length = ps.length)
    (hbody : ∀ (A : Around) (outer : List Env) (s : Shared) (H : Hp) (vs : List V) (Q : VK) (E : XK), Room k (A.deeper (envOfC qual scope s.heap.objs.size f cdv)) → sp vs H Q E →
      ∃ t, PSs (cxOf CX P w K mg base N qual scope f cdv A outer s H E) body t ∧ t { nx := fun _ H' => Q .non H', rt := Q } (start N vs) H) :
    FnOk P w K mg base CX (k + 1) f (PySem.W.fnOf name qual params body scope dV kV doc pm an cdv ct) ps sp := by
  refine ⟨len, fun A outer s H args us vs Q E hr e0 hb r hsp => ?_⟩
  have hl := len _ _ _ _ hsp
  have KX : K.In s.heap := e0.mod.kin.keeps fun b o e => (e0.bs b o e).1
  have lim : s.heap.NoLimit := e0.mod.nolimit.keeps fun b o e => (e0.bs b o e).1
  have hkind : ∀ y ∈ ps.zip us, scope.names.lookup y.1 = some .local ∨ (scope.names.lookup y.1 = some .cell ∧ ((cellsFrom (s.heap.objs.size + 1) scope.names []).lookup y.1).isSome = true) := fun ⟨n, v⟩ hy => by
    rcases S.par n (List.of_mem_zip hy).1 with q | q
    · exact .inl q
    · exact .inr ⟨q, PySem.W.cellsFrom_some _ _ _ (.inl q)⟩
  refine codeAny_call_function hr.depth (KX _ _ lk) rfl S.co S.gen rfl (PySem.W.codeRec_of KX hcd) (hb _ _ _ _ ?_)
  refine wpAny_newFunctionEnv_cells S.kind hkind fun env he s1 x => ?_
  subst he
  refine ⟨lim.keeps x.toInCall.keep, codeAny_func ?_⟩
  obtain ⟨t, ht, hq⟩ := hbody A outer s H vs Q E (hr.deeper _) hsp
  have I : Inv (cxOf CX P w K mg base N qual scope f cdv A outer s H E) [] (start N vs) H s1 := inv_start S hr.hd e0 hl r x
  refine wpAny_mono (ht [] s1 (start N vs) H _ I hq) (fun fl s' hs => ?_) fun e s' hs => hs
  have fin : ∀ {σ' : St} {H' : Hp} {v : V} {u : Value}, Inv (cxOf CX P w K mg base N qual scope f cdv A outer s H E) [] σ' H' s' → RelV v u → Q v H' → CE outer P w H s Q u s' :=
    fun {σ' H' v u} J rv q => ⟨v, H', J.os, J.bare, J.base, J.hok, rv, q⟩
  cases fl with
  | ret u =>
    obtain ⟨v, σ', H', J, rv, q⟩ := hs
    exact fin J rv q
  | next =>
    obtain ⟨σ', H', J, q⟩ := hs
    exact fin (v := V.non) (u := Value.none) J rfl q
  | brk =>
    obtain ⟨_, _, _, q⟩ := hs
    exact False.elim q
  | cont =>
    obtain ⟨_, _, _, q⟩ := hs
    exact False.elim q
end L2

namespace L2
open PySem PySem.Spec PyProof.Rows
section
variable {X : Cx} {x : Str} {p pos : Pos} {e : Expr} {es : List Expr} {t : TA} {id T : String} {r : List V → Hp → VK → Prop}

noncomputable def tCB (r : List V → Hp → VK → Prop) (t : TA) : TE := fun σ H Q => t σ H fun vs H1 => r vs H1 Q
/-- f(e, ..), f a built-in function -/
theorem pe_callB (hc : CallR X (.builtin id) r) (hg : Gl X x) (hm : X.mg x = none) (hv : bootBuiltins x = some (.builtin id)) (ha : PA X (e :: es) t) (hn : x ≠ "__name__" := by decide) (hdb : (x == ("__debug__" : Str)) = false := by decide)
    (he : starEach (e :: es) X.env = (false, eval e X.env) :: starEach es X.env := by rfl) (hpl : (backTo pos (starEach es X.env)).any (·.1) = false := by rfl) : PE X (.Call (.Name x p) (e :: es) [] pos) (tCB r t) := by
  intro pins s σ H Q I h
  refine wpAny_Call_Name_kw (ld_blt I hg hm hv ?_ hn hdb)
  exact PyProof.Rows.callWith_builtin1 (thn (ha pos pins s σ H _ I h) fun us s1 ⟨vs, H1, I1, r1, q1⟩ => hc pins s1 σ H1 vs us Q I1 r1 q1) he hpl
/-- T(e, ..), T a built-in type -/
theorem pe_callTy (hc : CallR X (.type T) r) (hg : Gl X x) (hm : X.mg x = none) (hv : bootBuiltins x = some (.type T)) (ha : PA X (e :: es) t) (hn : x ≠ "__name__" := by decide) (hdb : (x == ("__debug__" : Str)) = false := by decide)
    (he : starEach (e :: es) X.env = (false, eval e X.env) :: starEach es X.env := by rfl) (hpl : (backTo pos (starEach es X.env)).any (·.1) = false := by rfl) : PE X (.Call (.Name x p) (e :: es) [] pos) (tCB r t) := by
  intro pins s σ H Q I h
  refine wpAny_Call_Name_kw (ld_blt I hg hm hv ?_ hn hdb)
  exact PyProof.Rows.callWith_type1 (thn (ha pos pins s σ H _ I h) fun us s1 ⟨vs, H1, I1, r1, q1⟩ => hc pins s1 σ H1 vs us Q I1 r1 q1) he hpl
end
end L2

namespace HT
open PySem PyProof.Rows

section
open PySem.SeqAt
open PySem.AutoSeq1 (wpAny_loadPart')
open PySem.MeetsSeq PySem.MeetsSeq2 PySem.MeetsSeq3

end

section
variable {prog : Program} {w : World} {A : Around} {E : Value → Shared → Prop} {s : Shared}

/-- t + u, t not empty -/
theorem cat_tup {t b : Addr} {vs ws : List Value} {Q : Value → Shared → Prop} (ht : IsTup s.heap t vs.toArray) (hb : IsTup s.heap b ws.toArray) (hv : vs ≠ [])
    (h1 : ws = [] → Q (.ref t) s) (h2 : ws ≠ [] → Q (.ref s.heap.objs.size) { s with heap := s.heap.push { cls := .type "tuple", data := .seq (vs ++ ws).toArray } })
    (hsz : vs.length + ws.length ≤ sizeLine) : wpAny (model prog w) A (binaryOp .Add (.ref t) (.ref b)) Q E s := by
  obtain ⟨⟨cls, dd, data, sl⟩, ho, hc, n, hd⟩ := id ht
  obtain ⟨⟨cls2, dd2, data2, sl2⟩, ho2, hc2, n2, hd2⟩ := id hb
  simp only at hc hd hc2 hd2
  subst hc hd hc2 hd2
  have e : vs.toArray ++ ws.toArray = (vs ++ ws).toArray := by simp
  by_cases hw : ws = []
  · exact concat_meets ⟨_, ho, rfl⟩ ⟨_, ho2, rfl⟩ noFill_tuple_add seq_tuple_add PySem.F.slot_tuple_add PySem.F.entry_tuple_add (PySem.F.args_tuple_add_2 _ _)
      (tuple_addW1 t b vs.toArray ws.toArray n n2 dd dd2 sl sl2 (by simpa using hv) (by simp [hw])) ⟨ho, ho2, h1 hw⟩
  · refine concat_meets ⟨_, ho, rfl⟩ ⟨_, ho2, rfl⟩ noFill_tuple_add seq_tuple_add PySem.F.slot_tuple_add PySem.F.entry_tuple_add (PySem.F.args_tuple_add_2 _ _)
      (tuple_addW2 t b vs.toArray ws.toArray n n2 dd dd2 sl sl2 (by simpa using hv) (by simpa using hw) (by rw [List.size_toArray, List.size_toArray]; exact hsz)) ⟨ho, ho2, ?_⟩
    rw [e]
    exact h2 hw

/-! ### t[a:b], not the whole -/
end
end HT

namespace L2
open PySem PySem.Spec PyProof.Rows

/-! ### the parts of a slice -/
noncomputable abbrev TO := St → Hp → (Option Int → Hp → Prop) → Prop
/-- a slice's part (left out, or an int) -/
noncomputable def PO (X : Cx) (e : Option Expr) (t : TO) : Prop :=
  ∀ (pins : List (Addr × Obj)) (s : Shared) (σ : St) (H : Hp) (Q : Option Int → Hp → Prop), Inv X pins σ H s → t σ H Q →
    wpAny (model X.prog X.w) X.A (evalPart e X.env) (fun u s' => ∃ o H', Inv X pins σ H' s' ∧ IsPart u o ∧ Q o H') X.xe s
noncomputable def tNoPart : TO := fun _ H Q => Q none H
noncomputable def tPart (t : TE) : TO := fun σ H Q => t σ H fun x H1 => ∃ i, x = .int i ∧ Q (some i) H1

section
variable {X : Cx} {e : Expr} {te : TE} {lo hi : Option Expr} {tl th : TO} {pos p2 : Pos}

theorem po_none : PO X none tNoPart := by
  intro pins s σ H Q I h
  rw [evalPart_none]
  exact wpAny_pure ⟨none, H, I, .none, h⟩
theorem po_some (h : PE X e te) : PO X (some e) (tPart te) := by
  intro pins s σ H Q I hw
  rw [evalPart_some]
  refine thn (h pins s σ H _ I hw) fun u s1 ⟨x, H1, I1, r1, q1⟩ => ?_
  obtain ⟨i, rfl, q⟩ := q1
  obtain ⟨t, rfl⟩ := r1
  exact ⟨some i, H1, I1, .int i t, q⟩

/-- what a slice of a value is, by values: the slice object stands at sl -/
noncomputable def SlR (X : Cx) (r : V → Option Int → Option Int → Hp → VK → Prop) : Prop :=
  ∀ (pins : List (Addr × Obj)) (s : Shared) (σ : St) (H : Hp) (x : V) (v vl vu : Value) (lo hi : Option Int) (sl : Addr) (Q : VK), Inv X pins σ H s → RelV x v → s.heap.IsSliceOf sl vl vu .none → IsPart vl lo → IsPart vu hi → r x lo hi H Q →
    ∃ T id, typeLookup (.type T) "__getitem__" = pure (some (.builtin id)) ∧ s.TypeIs v T ∧ wpAny (model X.prog X.w) X.A (getItem v (.ref sl)) (EP X pins σ Q) X.xe s
theorem SlR.or {r r' : V → Option Int → Option Int → Hp → VK → Prop} (h : SlR X r) (h' : SlR X r') : SlR X (fun x lo hi H Q => r x lo hi H Q ∨ r' x lo hi H Q) := by
  intro pins s σ H x v vl vu lo hi sl Q I rx hs pl pu q
  rcases q with q | q
  · exact h pins s σ H x v vl vu lo hi sl Q I rx hs pl pu q
  · exact h' pins s σ H x v vl vu lo hi sl Q I rx hs pl pu q
noncomputable def tSl (r : V → Option Int → Option Int → Hp → VK → Prop) (te : TE) (tl th : TO) : TE := fun σ H Q => te σ H fun x H1 => tl σ H1 fun l H2 => th σ H2 fun u H3 => r x l u H3 Q
/-- a[lo:hi], any a -/
theorem pe_slice {r : V → Option Int → Option Int → Hp → VK → Prop} (hr : SlR X r) (he : PE X e te) (hl : PO X lo tl) (hu : PO X hi th) : PE X (.Subscript e (.Slice lo hi none p2) pos) (tSl r te tl th) := by
  intro pins s σ H Q I h
  refine Subscript_ (thn (he pins s σ H _ I h) fun v s1 ⟨x, H1, I1, r1, q1⟩ => ?_)
  refine wpAny_Slice (thn (hl pins s1 σ H1 _ I1 q1) fun vl s2 ⟨l, H2, I2, pl, q2⟩ => thn (hu pins s2 σ H2 _ I2 q2) fun vu s3 ⟨u, H3, I3, pu, q3⟩ => ?_)
  rw [evalPart_none]
  refine wpAny_pure ?_
  have I4 : Inv X pins σ H3 { s3 with heap := s3.heap.push { cls := .type "slice", data := .fields #[vl, vu, .none] } } := I3.kept (t' := s3.toks) fun b ob q => Heap.get?_push_of_some _ q
  obtain ⟨T, id, hT, ht, hg⟩ := hr pins { s3 with heap := s3.heap.push { cls := .type "slice", data := .fields #[vl, vu, .none] } } σ H3 x v vl vu l u s3.heap.objs.size Q I4 r1 (Heap.IsSliceOf.new ..) pl pu q3
  show wpAny (model X.prog X.w) X.A (subscriptTail e (.Slice lo hi none p2) v (.ref s3.heap.objs.size)) (EP X pins σ Q) X.xe { s3 with heap := s3.heap.push { cls := .type "slice", data := .fields #[vl, vu, .none] } }
  exact tail_any (ops := [.ref s3.heap.objs.size, v]) ht hT hg (by with_unfolding_all rfl)

/-! ### t < u, t + u -/
/-- t + u, t not empty: u empty gives t itself -/
noncomputable def rCatT (K : PySem.W.Frag) : R2 := fun x y H Q => ∃ a b xs ys, x = .ref a ∧ y = .ref b ∧ SqT K H a xs ∧ SqT K H b ys ∧ xs ≠ [] ∧ xs.length + ys.length ≤ sizeLine ∧
  (ys = [] → Q (.ref a) H) ∧ (ys ≠ [] → ∀ p, H p = none → Q (.ref p) (upd H p (.tup (xs ++ ys))))
theorem Vals.nil_iff {xs : List V} {us : List Value} (r : Vals xs us) : us = [] ↔ xs = [] := by
  cases r with
  | nil => simp
  | cons _ _ => simp
theorem op_catT : OpR X (binaryOp .Add) (rCatT X.K) := by
  intro pins s σ H x y v u Q I rx ry h
  obtain ⟨a, b, xs, ys, rfl, rfl, ha, hb, hx, hz, q1, q2⟩ := h
  cases rx
  cases ry
  obtain ⟨its, r1, p1, _⟩ := I.tuple ha
  obtain ⟨its2, r2, p2, _⟩ := I.tuple hb
  refine HT.cat_tup p1 p2 (fun z => hx (r1.nil_iff.mp z)) (fun z => ⟨.ref a, H, I, rfl, q1 (r2.nil_iff.mp z)⟩) (fun z => ?_) (by rw [← r1.length, ← r2.length]; exact hz)
  refine ⟨.ref s.heap.objs.size, _, I.laid (t' := s.toks) (o := .tup (xs ++ ys)) (fun b ob q => Heap.get?_push_of_some _ q) (Nat.le_refl _) ?_, rfl, q2 (fun w => z (r2.nil_iff.mpr w)) _ (I.hok.fresh (Nat.le_refl _))⟩
  exact ⟨by rw [List.length_append]; exact hz, _, r1.append r2, IsTup.new _ _⟩
end
end L2

namespace L2
open PySem PySem.Spec PyProof.Rows

/-! ### places -/
/-- the place that an index of any sign means -/
noncomputable def ixN (n : Nat) (i : Int) : Option Nat := if 0 ≤ i then (if i < n then some i.toNat else none) else if -(n : Int) ≤ i then some (i + n).toNat else none
noncomputable def atI {α : Type} (xs : List α) (i : Int) : Option α := (ixN xs.length i).bind fun j => xs[j]?
theorem ixN_seq {n : Nat} {i : Int} {j : Nat} (h : ixN n i = some j) : seqIndex? i n = some j ∧ j < n ∧ -(n : Int) ≤ i ∧ i < n := by
  unfold ixN at h
  by_cases h0 : 0 ≤ i
  · rw [if_pos h0] at h
    by_cases h1 : i < n
    · rw [if_pos h1] at h
      have e : i.toNat = j := Option.some.inj h
      exact ⟨by rw [seqIndex_of h0 h1, e], by omega, by omega, h1⟩
    · rw [if_neg h1] at h; cases h
  · rw [if_neg h0] at h
    by_cases h1 : -(n : Int) ≤ i
    · rw [if_pos h1] at h
      have e : (i + n).toNat = j := Option.some.inj h
      exact ⟨by rw [seqIndex_neg (by omega) h1, e], by omega, h1, by omega⟩
    · rw [if_neg h1] at h; cases h
theorem atI_get {α : Type} {xs : List α} {i : Int} {v : α} (h : atI xs i = some v) : ∃ j, seqIndex? i xs.length = some j ∧ xs[j]? = some v ∧ j < xs.length ∧ -(xs.length : Int) ≤ i ∧ i < xs.length := by
  unfold atI at h
  cases e : ixN xs.length i with
  | none => rw [e] at h; cases h
  | some j =>
    rw [e] at h
    obtain ⟨h1, h2, h3, h4⟩ := ixN_seq e
    exact ⟨j, h1, h, h2, h3, h4⟩
theorem atI_nat {α : Type} {xs : List α} {j : Nat} {v : α} (h : xs[j]? = some v) : atI xs (j : Int) = some v := by
  have hj : j < xs.length := (List.getElem?_eq_some_iff.mp h).1
  have e : ixN xs.length (j : Int) = some j := by
    unfold ixN
    rw [if_pos (by omega), if_pos (by omega)]; simp
  unfold atI; rw [e]; exact h
/-! ### what may be subscripted -/
/-- what stands as an index of a plain subscript -/
noncomputable def PlainIx (b : Expr) : Prop := ∀ o i, subscripted b false o i = operate [o, i] (getItem o i)
/-- a subscript by values -/
noncomputable def IxR (X : Cx) (r : R2) : Prop :=
  ∀ (value slice : Expr) (pins : List (Addr × Obj)) (s : Shared) (σ : St) (H : Hp) (x y : V) (v u : Value) (Q : VK), Inv X pins σ H s → RelV x v → RelV y u → r x y H Q →
    subscripted slice false v u = operate [v, u] (getItem v u) → wpAny (model X.prog X.w) X.A (subscriptTail value slice v u) (EP X pins σ Q) X.xe s
/-- a call of a builtin's method by values: the receiver, the arguments -/
noncomputable def MtR (X : Cx) (id : String) (r : V → List V → Hp → VK → Prop) : Prop :=
  ∀ (pins : List (Addr × Obj)) (s : Shared) (σ : St) (H : Hp) (x : V) (xs : List V) (v : Value) (us : List Value) (Q : VK), Inv X pins σ H s → RelV x v → Vals xs us → r x xs H Q →
    wpAny (model X.prog X.w) X.A (call (.builtin id) (v :: us)) (EP X pins σ Q) X.xe s
section
variable {X : Cx} {a b : Expr} {ta tb : TE} {pos : Pos}
theorem IxR.or {r r' : R2} (h : IxR X r) (h' : IxR X r') : IxR X (fun x y H Q => r x y H Q ∨ r' x y H Q) := by
  intro value slice pins s σ H x y v u Q I rx ry q hs
  rcases q with q | q
  · exact h value slice pins s σ H x y v u Q I rx ry q hs
  · exact h' value slice pins s σ H x y v u Q I rx ry q hs
theorem MtR.or {id : String} {r r' : V → List V → Hp → VK → Prop} (h : MtR X id r) (h' : MtR X id r') : MtR X id (fun x xs H Q => r x xs H Q ∨ r' x xs H Q) := by
  intro pins s σ H x xs v us Q I rx rs q
  rcases q with q | q
  · exact h pins s σ H x xs v us Q I rx rs q
  · exact h' pins s σ H x xs v us Q I rx rs q
/-- a[b] -/
theorem pe_ix {r : R2} (hr : IxR X r) (ha : PE X a ta) (hb : PE X b tb) (hs : PlainIx b) : PE X (.Subscript a b pos) (tOp r ta tb) := by
  intro pins s σ H Q I h
  exact Subscript_ (binT ha hb I h fun v u s2 x y H2 I2 rx ry q => hr a b pins s2 σ H2 x y v u Q I2 rx ry q (hs _ _))

noncomputable def rIxL (K : PySem.W.Frag) : R2 := fun x y H Q => ∃ p xs i v, x = .ref p ∧ y = .int i ∧ SqL K H p xs ∧ atI xs i = some v ∧ Q v H
noncomputable def rIxT (K : PySem.W.Frag) : R2 := fun x y H Q => ∃ p xs i v, x = .ref p ∧ y = .int i ∧ SqT K H p xs ∧ atI xs i = some v ∧ Q v H
noncomputable def rIxS : R2 := fun x y H Q => ∃ z i c, x = .str z ∧ y = .int i ∧ z.length ≤ sizeLine ∧ atI z.cps.toList i = some c ∧ Q (.str ⟨#[c]⟩) H
theorem ix_list : IxR X (rIxL X.K) := by
  intro value slice pins s σ H x y v u Q I rx ry h hs
  obtain ⟨p, xs, i, z, rfl, rfl, hq, he, q⟩ := h
  cases rx
  obtain ⟨t, rfl⟩ := ry
  obtain ⟨its, r, pl, hz⟩ := I.list hq
  obtain ⟨j, h1, h2, h3, h4, h5⟩ := atI_get he
  obtain ⟨w, ew, rw'⟩ := r.get h2
  have hl := r.length
  have hn := line63
  have fin : EP X pins σ Q w s := ⟨z, H, I, rw', q⟩
  by_cases h0 : 0 ≤ i
  · have hj : i.toNat = j := by
      rw [seqIndex_of h0 h5] at h1
      exact Option.some.inj h1
    exact item_listR pl.isList h0 (by omega) (by rw [hj]; simpa using ew) fin hs
  · have hj : (i + (its.toArray.size : Int)).toNat = j := by
      rw [seqIndex_neg (by omega) h4] at h1
      rw [List.size_toArray, ← hl]
      exact Option.some.inj h1
    exact subscriptTail_builtinR (x := w) pl.isList.typeIs slot_list_getitem.lookup
      (wpAny_getItem_list_neg (Q := fun r s' => r = w ∧ EP X pins σ Q r s') pl.isList (by omega) (by rw [List.size_toArray] <;> omega) (by omega) (by rw [hj]; simpa using ew) ⟨rfl, fin⟩) hs
theorem ix_tup : IxR X (rIxT X.K) := by
  intro value slice pins s σ H x y v u Q I rx ry h hs
  obtain ⟨p, xs, i, z, rfl, rfl, hq, he, q⟩ := h
  cases rx
  obtain ⟨t, rfl⟩ := ry
  obtain ⟨its, r, pl, hz⟩ := I.tuple hq
  obtain ⟨j, h1, h2, h3, h4, h5⟩ := atI_get he
  obtain ⟨w, ew, rw'⟩ := r.get h2
  have hl := r.length
  have hn := line63
  have fin : EP X pins σ Q w s := ⟨z, H, I, rw', q⟩
  exact subscriptTail_builtinR (x := w) pl.typeIs slot_tuple_getitem.lookup
    (getItem_tuple (j := j) (Q := fun r s' => r = w ∧ EP X pins σ Q r s') pl (by omega) (by omega) (by rw [List.size_toArray, ← hl]; exact h1) (by simpa using ew) ⟨rfl, fin⟩) hs
theorem ix_str : IxR X rIxS := by
  intro value slice pins s σ H x y v u Q I rx ry h hs
  obtain ⟨z, i, c, rfl, rfl, hz, he, q⟩ := h
  obtain ⟨t, rfl⟩ := rx
  obtain ⟨t', rfl⟩ := ry
  obtain ⟨j, h1, h2, h3, h4, h5⟩ := atI_get he
  have hl : z.cps.toList.length = z.length := by simp [Str.length]
  rw [hl] at h1 h4 h5
  have hn := line63
  exact tail_any (typeIs_str s z t) slot_str_getitem.lookup (getItem_str (c := c) (by
    have e1 : decide (i < -(2 ^ 63 : Int)) = false := decide_eq_false (by omega)
    have e2 : decide (i ≥ 2 ^ 63) = false := decide_eq_false (by omega)
    rw [e1, e2, Bool.or_false]) (by rw [h1]; simpa using h2) ⟨.str ⟨#[c]⟩, H, I.tok _, ⟨_, rfl⟩, q⟩) hs
/-! ### xs[i] = v, any sign -/
theorem Inv.lst {pins : List (Addr × Obj)} {σ : St} {H : Hp} {s : Shared} {p : Addr} {xs : List V} (I : Inv X pins σ H s) (h : H p = some (.lst xs)) :
    ∃ (its : List Value) (n : Nat), Vals xs its ∧ s.heap.get? p = some { cls := .type "list", data := .seq its.toArray n } ∧ xs.length ≤ sizeLine := by
  obtain ⟨z, its, n, r, e⟩ := I.hok p _ h
  exact ⟨its, n, r, e, z⟩
/-! ### slices -/
/-! ### in, not in: flat items -/
/-! ### len, list(x), tuple(x) of any list or tuple that is read -/
theorem call_len_seq : CallR X (.builtin "len") (fun xs H Q => ∃ p ys, xs = [.ref p] ∧ (SqL X.K H p ys ∨ SqT X.K H p ys) ∧ Q (.int ys.length) H) := by
  intro pins s σ H xs us Q I r h
  obtain ⟨p, ys, rfl, hq, q⟩ := h
  obtain ⟨u, rfl, rx⟩ := vals1 r
  cases rx
  have hn := line63
  rcases hq with hq | hq
  · obtain ⟨its, r', pl, hz⟩ := I.list hq
    have hlen := r'.length
    exact Calls.call_len_list pl.isList (by simp only [List.size_toArray] <;> omega) ⟨.int ys.length, H, I.tok _, ⟨s.toks + 1, by rw [List.size_toArray, hlen]⟩, q⟩
  · obtain ⟨its, r', pl, hz⟩ := I.tuple hq
    have hlen := r'.length
    exact len_tuple pl (by simp only [List.size_toArray] <;> omega) ⟨.int ys.length, H, I.tok _, ⟨s.toks + 1, by rw [List.size_toArray, hlen]⟩, q⟩
theorem call_len_str : CallR X (.builtin "len") (fun xs H Q => ∃ z, xs = [.str z] ∧ z.length ≤ sizeLine ∧ Q (.int z.length) H) := by
  intro pins s σ H xs us Q I r h
  obtain ⟨z, rfl, hz, q⟩ := h
  obtain ⟨u, rfl, t, rfl⟩ := vals1 r
  have hn := line63
  exact len_str (by omega) ⟨.int z.length, H, I.tok _, ⟨_, rfl⟩, q⟩
theorem CallR.or {f : Value} {r r' : List V → Hp → VK → Prop} (h : CallR X f r) (h' : CallR X f r') : CallR X f (fun xs H Q => r xs H Q ∨ r' xs H Q) := by
  intro pins s σ H xs us Q I rs q
  rcases q with q | q
  · exact h pins s σ H xs us Q I rs q
  · exact h' pins s σ H xs us Q I rs q
theorem call_tuple_of : CallR X (.type "tuple") (fun xs H Q => ∃ p ys, xs = [.ref p] ∧ ((SqL X.K H p ys ∧ ∀ l, H l = none → Q (.ref l) (upd H l (.tup ys))) ∨ (SqT X.K H p ys ∧ Q (.ref p) H))) := by
  intro pins s σ H xs us Q I r h
  obtain ⟨p, ys, rfl, h⟩ := h
  obtain ⟨u, rfl, rx⟩ := vals1 r
  cases rx
  rcases h with ⟨hq, q⟩ | ⟨hq, q⟩
  · obtain ⟨its, r', pl, hz⟩ := I.list hq
    have hlen := r'.length
    refine call_tuple_list pl.isList (fun h' kp => ?_) (by simp only [List.size_toArray] <;> omega)
    have I1 : Inv X pins σ H { s with heap := h' } := I.kept (t' := s.toks) kp
    have I2 : Inv X pins σ (upd H h'.objs.size (.tup ys)) { s with heap := h'.push { cls := .type "tuple", data := .seq its.toArray } } :=
      I1.laid (t' := s.toks) (fun b o e => Heap.get?_push_of_some _ e) (Nat.le_refl _) (show ObjOk X.prog X.w _ _ _ (.tup ys) from ⟨hz, its, r', IsTup.new _ _⟩)
    exact ⟨.ref h'.objs.size, _, I2, rfl, q _ (I1.hok.fresh (Nat.le_refl _))⟩
  · obtain ⟨its, r', pl, hz⟩ := I.tuple hq
    exact call_tuple_same pl ⟨.ref p, H, I, rfl, q⟩

/-! ### the call of a builtin's method: o.m(..) -/
/-- the value is of that builtin type -/
noncomputable def tyV (K : PySem.W.Frag) (T : String) (x : V) (H : Hp) : Prop := match x with
  | .str _ => T = "str"
  | .int _ => T = "int"
  | .ref p => (T = "list" ∧ ∃ xs, SqL K H p xs) ∨ (T = "tuple" ∧ ∃ o, K.lookup p = some o ∧ o.cls = .type "tuple" ∧ o.dict = none) ∨
      (T = "dict" ∧ ((∃ kvs, H p = some (.dK kvs)) ∨ ∃ kvs, H p = some (.dT kvs))) ∨ (T = "set" ∧ ∃ S n, H p = some (.set S n))
  | _ => False
theorem tyV_is {pins : List (Addr × Obj)} {σ : St} {H : Hp} {s : Shared} {T : String} {x : V} {v : Value} (I : Inv X pins σ H s) (r : RelV x v) (ty : tyV X.K T x H) :
    s.TypeIs v T ∧ ∀ a, v = .ref a → ∃ ob, s.heap.get? a = some ob ∧ ob.dict = none := by
  cases x with
  | str z =>
    obtain ⟨t, rfl⟩ := r
    cases (show T = "str" from ty)
    exact ⟨typeIs_str s z t, fun _ e => nomatch e⟩
  | int i =>
    obtain ⟨t, rfl⟩ := r
    cases (show T = "int" from ty)
    exact ⟨typeIs_int s i t, fun _ e => nomatch e⟩
  | ref p =>
    cases r
    rcases ty with ⟨rfl, xs, hq⟩ | ⟨rfl, o, hk, hc, hd⟩ | ⟨rfl, hk⟩ | ⟨rfl, S, n, hk⟩
    · obtain ⟨its, _, pl, _⟩ := I.list hq
      refine ⟨pl.isList.typeIs, fun a e => ?_⟩
      cases e
      obtain ⟨o, n, e, c, hd, _⟩ := pl
      exact ⟨o, e, hd⟩
    · refine ⟨⟨o, I.kIn p o hk, hc⟩, fun a e => ?_⟩
      cases e
      exact ⟨o, I.kIn _ o hk, hd⟩
    · have z : ∃ o, s.heap.get? p = some o ∧ o.ExactDict := by
        rcases hk with ⟨kvs, hk⟩ | ⟨kvs, hk⟩
        · obtain ⟨_, _, _, _, o, _, _, e, ex, _⟩ := I.hok p _ hk
          exact ⟨o, e, ex⟩
        · obtain ⟨_, _, _, _, o, _, _, e, ex, _⟩ := I.hok p _ hk
          exact ⟨o, e, ex⟩
      obtain ⟨o, e, ex⟩ := z
      refine ⟨⟨o, e, ex.1⟩, fun a e2 => ?_⟩
      cases e2
      exact ⟨o, e, ex.2.1⟩
    · obtain ⟨o, _, _, _, e, ex, _⟩ := I.hok p _ hk
      refine ⟨⟨o, e, ex.1⟩, fun a e2 => ?_⟩
      cases e2
      exact ⟨o, e, ex.2.1⟩
  | _ => exact False.elim ty
noncomputable def tBM0 (K : PySem.W.Frag) (T : String) (r : V → List V → Hp → VK → Prop) (to : TE) : TE := fun σ H Q => to σ H fun x H1 => tyV K T x H1 ∧ r x [] H1 Q
noncomputable def tBM (K : PySem.W.Frag) (T : String) (r : V → List V → Hp → VK → Prop) (to : TE) (t : TA) : TE := fun σ H Q => to σ H fun x H1 => tyV K T x H1 ∧ t σ H1 fun xs H2 => r x xs H2 Q
variable {o e : Expr} {es : List Expr} {to : TE} {t : TA} {name : Str} {apos cpos : Pos} {T id : String} {r : V → List V → Hp → VK → Prop}
theorem pe_bm0 (pa : PlainAttrs T) (slot : Slot T name id) (hty : typeOf (.builtin id) = pure (.type "method_descriptor")) (hm : MtR X id r) (ho : PE X o to)
    (hbase : attributeBase o name X.env (eval o X.env) = eval o X.env := by rfl) (hline : (apos.endLine == cpos.line) = true := by rfl) : PE X (.Call (.Attribute o name apos) [] [] cpos) (tBM0 X.K T r to) := by
  intro pins s σ H Q I h
  refine wpAny_Call_method0_late hbase hline (thn (ho pins s σ H _ I h) fun v s1 ⟨x, H1, I1, r1, ty, q1⟩ => ?_)
  obtain ⟨h1, h2⟩ := tyV_is I1 r1 ty
  exact ⟨T, id, pa, slot, hty, h1, h2, Calls.callWith_builtin rfl (PySem.evalArgs_none (hm pins s1 σ H1 x [] v [] Q I1 r1 .nil q1))⟩
theorem pe_bm (pa : PlainAttrs T) (slot : Slot T name id) (hty : typeOf (.builtin id) = pure (.type "method_descriptor")) (hm : MtR X id r) (ho : PE X o to) (ha : PA X (e :: es) t)
    (hbase : attributeBase o name X.env (eval o X.env) = eval o X.env := by rfl)
    (hfew : ((backTo cpos (starEach (e :: es) X.env)).all (fun x => !x.1) && (backToKw cpos (keywordEach [] X.env)).all (fun x => x.1.isSome)
      && decide ((e :: es).length + ([] : List Keyword).length + (if ([] : List Keyword).isEmpty then 0 else 1) < 30)) = true := by rfl)
    (hline : (apos.endLine == cpos.line) = true := by rfl) (hs : starEach (e :: es) X.env = (false, eval e X.env) :: starEach es X.env := by rfl) (hplain : (backTo cpos (starEach es X.env)).any (·.1) = false := by rfl) :
    PE X (.Call (.Attribute o name apos) (e :: es) [] cpos) (tBM X.K T r to t) := by
  intro pins s σ H Q I h
  refine wpAny_Call_method_late hbase hfew hline rfl (thn (ho pins s σ H _ I h) fun v s1 ⟨x, H1, I1, r1, ty, q1⟩ => ?_)
  obtain ⟨h1, h2⟩ := tyV_is I1 r1 ty
  refine ⟨T, id, pa, slot, hty, h1, h2, ?_⟩
  have hA := ha cpos pins s1 σ H1 _ I1 q1
  rw [hs] at hA ⊢
  refine Calls.callWith_builtin (by show (false || (backTo cpos (starEach es X.env)).any (·.1)) = false; rw [hplain] <;> rfl) (Calls.evalArgs_plain ?_)
  exact thn hA fun us s2 ⟨vs, H2, I2, r2, q2⟩ => hm pins s2 σ H2 x vs v us Q I2 r1 r2 q2
/- xs.append(e), list.index on a module's tuple .. are MtR facts of 06m -/
end
end L2

namespace L2
open PySem PySem.Spec PyProof.Rows

noncomputable def MtM (X : Cx) (id : String) (r : V → List V → Hp → VK → Prop) : Prop :=
  ∀ (pins : List (Addr × Obj)) (s : Shared) (σ : St) (H : Hp) (x : V) (xs : List V) (v : Value) (us : List Value) (Q : VK), Inv X pins σ H s → RelV x v → Vals xs us → r x xs H Q →
    wpAny (model X.prog X.w) X.A (call (.builtin id) (v :: us)) (EP X pins σ Q) X.xe s

/-! ### lists of values -/
theorem Vals.one : ∀ {x : V} {us : List Value}, Vals [x] us → ∃ u, us = [u] ∧ RelV x u
  | x, us, h => by cases h with | cons r t => cases t; exact ⟨_, rfl, r⟩
theorem Vals.two : ∀ {x y : V} {us : List Value}, Vals [x, y] us → ∃ u v, us = [u, v] ∧ RelV x u ∧ RelV y v
  | x, y, us, h => by cases h with | cons r t => cases t with | cons q t => cases t; exact ⟨_, _, rfl, r, q⟩
theorem Vals.zero : ∀ {us : List Value}, Vals [] us → us = []
  | _, .nil => rfl
theorem Vals.dropLast {xs : List V} {us : List Value} (h : Vals xs us) : Vals xs.dropLast us.dropLast := by
  induction h with
  | nil => exact .nil
  | cons r t ih =>
    cases t with
    | nil => exact .nil
    | cons q t' => exact .cons r ih
theorem Vals.eraseIdx : ∀ {xs : List V} {us : List Value} (i : Nat), Vals xs us → Vals (xs.eraseIdx i) (us.eraseIdx i)
  | _, _, _, .nil => .nil
  | _, _, 0, .cons _ t => t
  | _, _, i + 1, .cons r t => .cons r (Vals.eraseIdx i t)
theorem Vals.reverse {xs : List V} {us : List Value} (h : Vals xs us) : Vals xs.reverse us.reverse := by
  induction h with
  | nil => exact .nil
  | cons r t ih => rw [List.reverse_cons, List.reverse_cons]; exact Vals.append ih (.cons r .nil)
theorem erase_last {α : Type} (l : List α) : l.eraseIdx (l.length - 1) = l.dropLast := by
  induction l with
  | nil => rfl
  | cons a r ih =>
    cases r with
    | nil => rfl
    | cons b r =>
      have e : (a :: b :: r).length - 1 = ((b :: r).length - 1) + 1 := by
        have h1 : (a :: b :: r).length = r.length + 2 := rfl
        have h2 : (b :: r).length = r.length + 1 := rfl
        omega
      rw [e, List.eraseIdx_cons_succ, ih]
      all_goals rfl
section
variable {X : Cx} {pins : List (Addr × Obj)} {σ : St} {H : Hp} {s : Shared} {l b : Addr} {xs ys zs : List V}

/-! ### the two steps: a tracked list is rewritten, a new list is laid -/
theorem Inv.lset {its its' : List Value} {n : Nat} {f : Array Value → Array Value} {t' : Nat} (I : Inv X pins σ H s) (hH : H l = some (.lst xs))
    (e : s.heap.get? l = some { cls := .type "list", data := .seq its.toArray n }) (hf : f its.toArray = its'.toArray) (hv : Vals ys its') (hz : ys.length ≤ sizeLine) :
    Inv X pins σ (upd H l (.lst ys)) { s with heap := s.heap.update l (Obj.mapSeq f), toks := t' } := by
  have q := PySem.IsL.update e f
  rw [hf] at q
  refine I.write (x := l) (e := l) (by rw [hH]; exact trivial) (.inl rfl) (fun b' u hb hu => (Heap.get?_update_other s.heap (Obj.mapSeq f) (Ne.symm hb)).trans hu) ⟨_, q⟩ ?_
  exact ⟨hz, its', _, hv, q⟩
theorem Inv.lnew {its : List Value} {t' : Nat} (I : Inv X pins σ H s) (hv : Vals ys its) (hz : ys.length ≤ sizeLine) :
    Inv X pins σ (upd H s.heap.objs.size (.lst ys)) { s with heap := s.heap.push { cls := .type "list", data := .seq its.toArray }, toks := t' } :=
  I.laid (fun _ _ q => Heap.get?_push_of_some _ q) (Nat.le_refl _) ⟨hz, its, 0, hv, Heap.get?_push_size _ rfl⟩
theorem Inv.fresh (I : Inv X pins σ H s) : H s.heap.objs.size = none := I.hok.fresh (Nat.le_refl _)
theorem Inv.lstM (I : Inv X pins σ H s) (hH : H l = some (.lst xs)) : xs.length ≤ sizeLine ∧ ∃ (its : List Value) (n : Nat), Vals xs its ∧ xs.length = its.length ∧ s.heap.get? l = some { cls := .type "list", data := .seq its.toArray n } := by
  obtain ⟨z, its, n, r, e⟩ := I.hok l _ hH
  exact ⟨z, its, n, r, r.length, e⟩

end

section
variable {X : Cx}

/-! ### methods -/
noncomputable def rAppend : V → List V → Hp → VK → Prop := fun x vs H Q => ∃ l xs y, x = .ref l ∧ vs = [y] ∧ H l = some (.lst xs) ∧ xs.length < sizeLine ∧ Q .non (upd H l (.lst (xs ++ [y])))
theorem mt_append : MtM X "list.append" rAppend := by
  intro pins s σ H x vs v us Q I rx rv h
  obtain ⟨l, xs, y, rfl, rfl, hH, hz, q⟩ := h
  cases rx
  obtain ⟨u, rfl, ru⟩ := rv.one
  obtain ⟨z, its, n, r, hl, e⟩ := I.lstM hH
  refine call_meets F.slot_list_append ⟨_, e, rfl⟩ F.entry_list_append (F.args_list_append_2 _ _) (PySem.list_append l its.toArray n u (by rw [List.size_toArray]; omega)) ⟨e, ?_⟩
  refine ⟨.non, _, I.lset (its' := its ++ [u]) hH e (by simp) (r.append (.cons ru .nil)) ?_, rfl, q⟩
  rw [List.length_append, List.length_singleton]
  omega

noncomputable def rPop : V → List V → Hp → VK → Prop := fun x vs H Q => ∃ l xs y, x = .ref l ∧ vs = [] ∧ H l = some (.lst xs) ∧ xs[xs.length - 1]? = some y ∧ Q y (upd H l (.lst xs.dropLast))
theorem mt_pop : MtM X "list.pop" rPop := by
  intro pins s σ H x vs v us Q I rx rv h
  obtain ⟨l, xs, y, rfl, rfl, hH, hy, q⟩ := h
  cases rx
  have hus := rv.zero
  subst hus
  obtain ⟨z, its, n, r, hl, e⟩ := I.lstM hH
  obtain ⟨u, hu, ru⟩ := r.get hy
  have hy' : its.toArray[its.toArray.size - 1]? = some u := by
    show its.toArray[its.length - 1]? = some u
    rw [← Array.getElem?_toList, ← hl]
    exact hu
  refine call_meets F.slot_list_pop ⟨_, e, rfl⟩ F.entry_list_pop (F.args_list_pop_1 _) (MeetsSeq.list_pop_last l its.toArray n u hy' (by rw [List.size_toArray]; omega)) ⟨e, ?_⟩
  refine ⟨y, _, I.lset (its' := its.dropLast) hH e ?_ r.dropLast ?_, ru, q⟩
  · show its.toArray.eraseIdxIfInBounds (its.toArray.size - 1) = its.dropLast.toArray
    rw [List.size_toArray, List.eraseIdxIfInBounds_toArray, erase_last]
  · rw [List.length_dropLast]
    omega

/-! ### list + list, list += list, list * int -/
noncomputable def rCat : R2 := fun x y H Q => ∃ l b xs zs, x = .ref l ∧ y = .ref b ∧ H l = some (.lst xs) ∧ H b = some (.lst zs) ∧ xs.length + zs.length ≤ sizeLine ∧ ∀ p, H p = none → Q (.ref p) (upd H p (.lst (xs ++ zs)))
theorem op_cat : OpR X (binaryOp .Add) rCat := by
  intro pins s σ H x y v u Q I rx ry h
  obtain ⟨l, b, xs, zs, rfl, rfl, hH, hB, hz, q⟩ := h
  cases rx
  cases ry
  obtain ⟨z, its, n, r, hl, e⟩ := I.lstM hH
  obtain ⟨z2, its2, n2, r2, hl2, e2⟩ := I.lstM hB
  refine PySem.P.add_list e e2 ?_ (by rw [List.size_toArray, List.size_toArray]; omega)
  have ea : its.toArray ++ its2.toArray = (its ++ its2).toArray := by simp
  rw [ea]
  exact ⟨.ref _, _, I.lnew (t' := s.toks) (r.append r2) (by rw [List.length_append]; omega), rfl, q _ I.fresh⟩
/-! ### del xs[i] -/
end

/-! ### xs[a:b] = ys -/
section
variable {prog : Program} {w : World} {A : Around} {E : Value → Shared → Prop} {s : Shared}
end

section
variable {X : Cx}
end
end L2

namespace Att
open PySem PySem.W PySem.Calls PyProof.Rows

/-! ### the script -/
theorem ints_of_wellAll {P : Params} {h : Heap} : ∀ (ns : List Int) (vs : List Value), WellAll P h vs (ns.map WData.int) → IntsAre vs ns := by
  intro ns
  induction ns with
  | nil =>
    intro vs w
    rw [List.map_nil] at w
    cases w
    exact .nil
  | cons n ns ih =>
    intro vs w
    rw [List.map_cons] at w
    cases w with
    | cons a b =>
      cases a
      exact .cons _ _ (ih _ b)

theorem script_of {l : OpenLaw} {n : Nat} (hn : l.most = some n) {P : Params} {h : Heap} {args : List WData} {vals : List Value}
    (hpre : l.row.toRowW.claim.pre args = true) (hwl : WellAll P h vals args) :
    ∃ a vs ns, vals = [Value.ref a] ∧ args = [WData.list (ns.map WData.int)] ∧ h.get? a = some { cls := .type "list", data := .seq vs.toArray } ∧ IntsAre vs ns ∧ ns.length ≤ n := by
  have hsh : WShape.hasAll [] args [.list .int] = true := (pre_splitW hpre).1
  have hc : l.pre.holds [] { args := args } = true := (pre_splitW hpre).2
  obtain ⟨d, r, rfl, h1, h2⟩ := hasAllW_cons hsh
  obtain rfl := hasAllW_nil h2
  obtain ⟨xs, rfl, h3⟩ := hasW_list h1
  obtain ⟨ns, rfl⟩ := items_int h3
  have hlen : ns.length ≤ n := by
    unfold OpenLaw.pre at hc
    have h4 : (WTm.not (.lt (.lit (.int (n : Int))) (.len (.arg 0)))).holds [] { args := [.list (ns.map .int)] } = true := by
      have h4 := (holds_andW hc).1
      rw [hn] at h4
      exact h4
    have h5 := condW_of h4 (w_not (w_lt w_lit (w_len_list (w_arg rfl))))
    rw [List.length_map] at h5
    refine Nat.le_of_not_lt fun q => ?_
    have q' : (n : Int) < ((ns.length : Nat) : Int) := by omega
    first
      | (rw [decide_eq_true q'] at h5; exact absurd h5 (by decide))
      | (simp at h5; omega)
  cases hwl with
  | cons w1 w2 =>
    cases w2
    cases w1 with
    | list ho hall => exact ⟨_, _, ns, rfl, rfl, ho, ints_of_wellAll ns _ hall, hlen⟩

theorem post_true (l : OpenLaw) (args : List WData) : l.row.toRowW.claim.post args (.bool true) args = true :=
  postW_of (r := l.row.toRowW) (X := (true == true))
    (show WShape.has [] (.bool true) .bool = true by first | rfl | decide | simp [WShape.has, WShape.arms, WShape.armsAll])
    (show (WTm.eq .res (.lit (.bool true))).value [] { args := args, res := some (.bool true), after := args } = some (.bool (true == true)) from w_eq_bool (w_res rfl) w_lit) rfl

/-! ### the attachment: holds_open's last premise (the goal 'hc' behind k_head) from a wpAny of the law's body -/
/-- the same from a codeAny of the CALL (for a layer whose function contracts speak of calls) -/
theorem attach_call {l : OpenLaw} {n : Nat} {q : Program} {loose : List Str} {XP : (Str → Option Value) → Heap → Prop} {YP : World → Heap → Prop} {d : DefRec}
    (hn : l.most = some n) (hdf : d.params.defaults = [])
    (call : ∀ (w : World) (s₀ s₁ : Shared) (mg mb : Str → Option Value) (fa : Addr) (o : Obj) (pm cd doc : Value) (a : Addr) (vs : List Value) (ns : List Int),
      Ground q loose [] XP w s₀ mg mb s₁.heap → YP w s₁.heap →
      s₁.heap.get? fa = some o → o.data = .func (docDef d.name d.params d.body d.scope pm cd doc) → s₁.heap.CodeRec cd d.name → mg d.name = some (.ref fa) →
      s₁.heap.get? a = some { cls := .type "list", data := .seq vs.toArray } → IntsAre vs ns → ns.length ≤ n → s₁.gens = #[] →
      codeAny (model l.prog w) callerA (.call (.ref fa) ⟨[.ref a], []⟩) (fun r s' => r = .ok (.ret (.bool true)) ∧ OldK s₁.heap s'.heap ∧ s'.os = s₁.os ∧ AllBare s'.gens) s₁) :
    WalkO q loose XP YP l.row.toRowW d [] (fun f vs => PySem.call f vs) := by
  intro w s₀ s₁ mg mb G Y fa o pm cd doc dV kV ho hd hcd hD hmg hg args vals as hpre hlay hrd hwl hlo
  obtain rfl : dV = .none := Dflts.none hD hdf
  obtain rfl : kV = .none := Dflts.noKw hD
  obtain ⟨a, vs, ns, rfl, rfl, hobj, hints, hlen⟩ := script_of hn hpre hwl
  refine enter_call (codeAny_mono (call w s₀ s₁ mg mb fa o pm cd doc a vs ns G Y ho (fd_plain hd) hcd hmg hobj hints hlen hg) fun r s' hq => ?_)
  obtain ⟨rfl, h2, h3, h4⟩ := hq
  exact ⟨.inl ⟨.bool true, .bool true, [], rfl, fun _ => rfl, .bool true, post_true l _, fun _ => ⟨List.Pairwise.nil, fun _ hm => (nomatch hm)⟩⟩, h2, h3, h4⟩

/-! ### rules over ANY heap (no ledger) from facts about the written part K: the library's own take a ledger (News) for what they write -/
section
variable {prog : Program} {w : World} {A : Around} {E : Value → Shared → Prop} {s : Shared} {K : Frag}

/-! the whole heap as the ledger: makes every rule that writes through a ledger a rule over any heap -/
end
end Att

namespace L2
open PySem PySem.Spec PyProof.Rows

theorem vals_ints : ∀ {vs : List Value} {ns : List Int}, IntsAre vs ns → Vals (ns.map V.int) vs
  | _, _, .nil => .nil
  | _, _, .cons n t h => .cons ⟨t, rfl⟩ (vals_ints h)

/-- nothing is tracked but the script, known to the object (or it is an object of the module) -/
noncomputable def Only (H : Hp) : Prop := ∀ b, H b = none ∨ ∃ o xs, H b = some (.frz o (.lst xs))

/-- THE HEAD: the law's promise, at the heap behind the top. F, the promise of the law's def, may use that base is part of the heap (so K.In base, base.Ns mainGlobals mg stand in Mod) -/
theorem law_call {P : Program} {w : World} {K : PySem.W.Frag} {mg mb : Str → Option Value} {CX : CXT} {k : Nat} {fa a : Addr} {fd : FuncData} {x : Str} {sp : Sp} {s₁ : Shared} {vs : List Value} {ns : List Int}
    (KX : K.In s₁.heap) (hns : s₁.heap.Ns mainGlobals mg) (hb : s₁.heap.Ns builtinsNs mb) (hbb : ∀ x : Str, x ≠ "__name__" → mb x = bootBuiltins x) (hlim : s₁.heap.NoLimit) (hg : s₁.gens = #[])
    (ha : s₁.heap.get? a = some { cls := .type "list", data := .seq vs.toArray }) (hi : IntsAre vs ns) (hl : ns.length ≤ sizeLine) (hr : Room k callerA)
    (F : ∀ base : Heap, K.In base → base.Ns mainGlobals mg → FnOk P w K mg base CX k fa fd [x] sp) (hbind : ∀ (s : Shared) (u : Value), BindsTo s fd ⟨[u], []⟩ [(x, u)])
    (hsp : ∀ H : Hp, Only H → SqL K H a (ns.map V.int) → sp [.ref a] H (fun v _ => v = .bl true) fun _ _ _ => False)
    (hCX : ∀ H e s', CX [] H s₁ (fun _ _ _ => False) e s' → False) :
    codeAny (model P w) callerA (.call (.ref fa) ⟨[.ref a], []⟩) (fun r s' => r = .ok (.ret (.bool true)) ∧ OldK s₁.heap s'.heap ∧ s'.os = s₁.os ∧ AllBare s'.gens) s₁ := by
  have rv := vals_ints hi
  have lenV := hi.length
  -- from an abstract heap in which nothing but the script may be tracked
  have core : ∀ H : Hp, Only H → SqL K H a (ns.map V.int) → HOk P w H s₁.heap → (∀ b, H b ≠ none → b = a) → (H a ≠ none → K.lookup a = none) →
      codeAny (model P w) callerA (.call (.ref fa) ⟨[.ref a], []⟩) (fun r s' => r = .ok (.ret (.bool true)) ∧ OldK s₁.heap s'.heap ∧ s'.os = s₁.os ∧ AllBare s'.gens) s₁ := by
    intro H hO hS hok hA hK
    have base_of : ∀ {b : Addr} {o : Obj}, s₁.heap.get? b = some o → H b = none → (hidT s₁.heap H).get? b = some o := fun e n => hidT_get e n
    have noA : ∀ {b : Addr} {o : Obj} {es : Array DictEntry} {ep : Nat}, s₁.heap.get? b = some o → o.data = .dict es ep → H b = none := fun {b o es ep} e d => by
      cases q : H b with
      | none => rfl
      | some u =>
        have e' : b = a := hA b (by rw [q]; simp)
        subst e'
        rw [ha] at e; cases e
        have d' : Data.seq vs.toArray _ = Data.dict es ep := d
        cases d'
    have nsK : ∀ {b : Addr} {m : Str → Option Value}, s₁.heap.Ns b m → (hidT s₁.heap H).Ns b m := fun {b m} ⟨o, es, ep, e, d, r⟩ => ⟨o, es, ep, base_of e (noA e d), d, r⟩
    have hKb : K.In (hidT s₁.heap H) := fun b o e => base_of (KX b o e) (by
      cases q : H b with
      | none => rfl
      | some u =>
        have e' : b = a := hA b (by rw [q]; simp)
        subst e'
        rw [hK (by rw [q]; simp)] at e; cases e)
    have hM : Mod K mg (hidT s₁.heap H) := ⟨hKb, nsK hns, ⟨mb, nsK hb, hbb⟩, let ⟨mc, h1, h2⟩ := hlim; ⟨mc, nsK h1, h2⟩⟩
    have e0 : Env0 P w K mg (hidT s₁.heap H) callerA [] s₁ H := ⟨rfl, hM, fun b o e => of_hidT e, Nat.le_of_eq (hidT_size _ _), trivial, fun b hb => absurd (show b ∈ ([] : List Addr) from hb) (by simp), hok, .of_eq hg⟩
    refine codeAny_mono ((F _ hKb (nsK hns)).run callerA [] s₁ H ⟨[.ref a], []⟩ [.ref a] [.ref a] _ _ hr e0 (hbind s₁ (.ref a)) (.cons rfl .nil) (hsp H hO hS)) fun r s' h => ?_
    cases r with
    | error e => exact (hCX H e s' h).elim
    | ok fl =>
      cases fl with
      | next => exact False.elim h
      | brk => exact False.elim h
      | cont => exact False.elim h
      | ret u =>
        obtain ⟨v, H', os, bare, un, hok', r', q⟩ := h
        have q' : v = .bl true := q
        subst q'
        obtain rfl : u = Value.bool true := r'
        refine ⟨rfl, OldK.of_keep fun b o e => ?_, os, bare⟩
        cases q : H b with
        | none => exact un.keep b o e q (by intro z; exact absurd (show b ∈ ([] : List Addr) from z) (by simp)) (by simp)
        | some u =>
          rcases hO b with z | ⟨ob, xs, z⟩
          · rw [q] at z; cases z
          · have z2 := un.frzs b ob _ z
            obtain ⟨e1, _⟩ := hok b _ z
            obtain ⟨e2, _⟩ := hok' b _ z2
            rw [e] at e1; cases e1
            exact e2
  cases hk : K.lookup a with
  | some o =>
    -- the script is one of the module's own objects
    have e := KX a o hk
    rw [ha] at e
    cases e
    refine core (fun _ => none) (fun _ => .inl rfl) (.inr ⟨_, vs.toArray, _, hk, rfl, rfl, rfl, by rw [List.size_toArray, lenV]; exact hl, by simpa using rv⟩) (fun b u z => by have z' : (none : Option HO) = some u := z; cases z') (fun b z => absurd rfl z) fun z => absurd rfl z
  | none =>
    refine core (fun b => if b = a then some (.frz { cls := .type "list", data := .seq vs.toArray } (.lst (ns.map V.int))) else none) (fun b => ?_) (.inl (.inr ⟨{ cls := .type "list", data := .seq vs.toArray }, if_pos rfl⟩)) (fun b u z => ?_) (fun b z => ?_) fun _ => hk
    · by_cases hb : b = a
      · exact .inr ⟨_, _, if_pos hb⟩
      · exact .inl (if_neg hb)
    · by_cases hb : b = a
      · have z' := (if_pos hb).symm.trans z
        cases z'
        subst hb
        exact ⟨ha, by rw [List.length_map]; exact hl, vs, _, rv, ha⟩
      · have z' := (if_neg hb).symm.trans z
        cases z'
    · by_cases hb : b = a
      · exact hb
      · exact absurd (if_neg hb) z
end L2

namespace L2
open PySem PySem.Spec PyProof.Rows

noncomputable abbrev KOf {K : PySem.W.Frag} {h : Heap} (_ : K.In h) : PySem.W.Frag := K

/-- the goal that k_head leaves (case hc), from the law's promise. F gives the function object fd (K's own) once, then the promise over every base -/
theorem walk_of {l : PySem.W.OpenLaw} {n k : Nat} {q : Program} {loose : List Str} {XP : (Str → Option Value) → Heap → Prop} {YP : World → Heap → Prop} {d : DefRec} {K : Params → PySem.W.Frag} {CX : World → CXT} {sp : World → Sp} {x : Str}
    (hn : l.most = some n) (hn2 : n ≤ sizeLine) (hdf : d.params.defaults = []) (hr : Room k callerA)
    (hY : ∀ (w : World) (h : Heap), YP w h → (K w.params).In h)
    (F : ∀ (w : World) (mg : Str → Option Value) (fa : Addr) (h : Heap), (K w.params).In h → h.Ns mainGlobals mg → mg d.name = some (.ref fa) →
      ∃ fd : FuncData, (∀ (s : Shared) (u : Value), BindsTo s fd ⟨[u], []⟩ [(x, u)]) ∧
        ∀ base : Heap, (K w.params).In base → base.Ns mainGlobals mg → FnOk l.prog w (K w.params) mg base (CX w) k fa fd [x] (sp w))
    (hsp : ∀ (w : World) (H : Hp) (a : Addr) (ns : List Int), ns.length ≤ n → Only H → SqL (K w.params) H a (ns.map V.int) → sp w [.ref a] H (fun v _ => v = .bl true) fun _ _ _ => False)
    (hCX : ∀ (w : World) (H : Hp) (s : Shared) (e : Value) (s' : Shared), CX w [] H s (fun _ _ _ => False) e s' → False) :
    PySem.W.WalkO q loose XP YP l.row.toRowW d [] (fun f vs => PySem.call f vs) := by
  refine Att.attach_call hn hdf fun w s₀ s₁ mg mb fa o pm cd doc a vs ns G Y ho hd hcd hmg hobj hints hlen hg => ?_
  have KX := hY w _ Y
  obtain ⟨fd, hb, hF⟩ := F w mg fa _ KX G.T.g hmg
  exact law_call KX G.T.g G.T.b G.T.builtins G.T.nolimit hg hobj hints (Nat.le_trans hlen hn2) hr hF hb (fun H hO hS => hsp w H a ns hlen hO hS) fun H e s' => hCX w H s₁ e s'
end L2



/-! SHORT WORDS over the layer: a def of the text, its body, what a loop and a test want. -/
namespace L2
open PySem PySem.Spec PyProof.Rows

/-! ### the text by places -/
noncomputable def defArgs (s : Stmt) : Arguments := match s with
  | .FunctionDef _ a _ _ _ _ _ _ _ _ => a
  | _ => { posonlyargs := [], args := [], vararg := none, kwonlyargs := [], kw_defaults := [], kwarg := none, defaults := [] }
noncomputable def defBody (s : Stmt) : List Stmt := match s with
  | .FunctionDef _ _ b _ _ _ _ _ _ _ => b
  | _ => []
noncomputable def defScope (s : Stmt) : Scope := match s with
  | .FunctionDef _ _ _ _ _ _ sc _ _ _ => sc
  | _ => { kind := .function, names := [], isGenerator := false, isCoroutine := false }

/-! ### no exception leaves a def -/
noncomputable abbrev CX0 : CXT := fun _ _ _ _ _ _ => False
noncomputable abbrev E0 : XK := fun _ _ _ => False
theorem pass0 {X : Cx} : Passes CX0 X E0 := fun _ _ _ _ _ _ _ h => h.elim

/-! ### a def (or method) of the text as it stands behind the top -/
structure Fun (K : PySem.W.Frag) (x qual : Str) (st : Stmt) (f : Addr) (fd : FuncData) : Prop where
  ex : ∃ (oc : Value) (od : Option Addr) (kV doc pm : Value) (an : Option Addr) (cdv ct : Value) (osl : Array (Option Value)),
    fd = PySem.W.fnOf x qual (defArgs st) (defBody st) (defScope st) .none kV doc pm an cdv ct ∧ K.lookup f = some ⟨oc, od, .func fd, osl⟩ ∧ PySem.W.codeIn K cdv qual = true
  kp : PySem.W.keepIn K (.ref f) = true
section
variable {P : Program} {w : World} {K : PySem.W.Frag} {mg : Str → Option Value} {base : Heap}
/-- THE RULE for a def: its body as a term of rules, and the reading of that term -/
theorem Fun.ok {x qual : Str} {st : Stmt} {f : Addr} {fd : FuncData} {N ps : List Str} {k : Nat} {sp : Sp} (F : Fun K x qual st f fd) (S : FnScope N ps (defScope st)) (len : ∀ vs H Q E, sp vs H Q E → vs.length = ps.length)
    (hbody : ∀ (cdv : Value) (A : Around) (outer : List Env) (s : Shared) (H : Hp) (vs : List V) (Q : VK) (E : XK), Room k (A.deeper (envOfC qual (defScope st) s.heap.objs.size f cdv)) → sp vs H Q E →
      ∃ t, PSs (cxOf CX0 P w K mg base N qual (defScope st) f cdv A outer s H E).nox (defBody st) t ∧ t { nx := fun _ H' => Q .non H', rt := Q } (start N vs) H) : FnOk P w K mg base CX0 (k + 1) f fd ps sp := by
  obtain ⟨oc, od, kV, doc, pm, an, cdv, ct, osl, rfl, lk, hcd⟩ := F.ex
  refine fn_of lk hcd S len fun A outer s H vs Q E hr hsp => ?_
  obtain ⟨t, h, q⟩ := hbody cdv A outer s H vs Q E hr hsp
  exact ⟨t, h.nox, q⟩
/-- how its arguments bind (no defaults): h is «fun _ _ _ _ _ _ us hl => match us, hl with | [_, _], _ => rfl», one _ a parameter -/
theorem Fun.binds {x qual : Str} {st : Stmt} {f : Addr} {fd : FuncData} {ps : List Str} (F : Fun K x qual st f fd)
    (h : ∀ (kV doc pm : Value) (an : Option Addr) (cdv ct : Value) (us : List Value), us.length = ps.length → bindArgs (PySem.W.fnOf x qual (defArgs st) (defBody st) (defScope st) .none kV doc pm an cdv ct) ⟨us, []⟩ = pure (ps.zip us)) : Binds K fd ps [] := by
  obtain ⟨oc, od, kV, doc, pm, an, cdv, ct, osl, rfl, lk, hcd⟩ := F.ex
  exact .all (h kV doc pm an cdv ct)
theorem fun_mk {x qual : Str} {st : Stmt} {f : Addr} {oc : Value} {od an : Option Addr} {osl : Array (Option Value)} {kV doc pm cdv ct : Value} (l : K.lookup f = some ⟨oc, od, .func (PySem.W.fnOf x qual (defArgs st) (defBody st) (defScope st) .none kV doc pm an cdv ct), osl⟩)
    (c : PySem.W.codeIn K cdv qual = true) (k : PySem.W.keepIn K (.ref f) = true) : Fun K x qual st f (PySem.W.fnOf x qual (defArgs st) (defBody st) (defScope st) .none kV doc pm an cdv ct) := ⟨⟨oc, od, kV, doc, pm, an, cdv, ct, osl, rfl, l, c⟩, k⟩
end
/-! ### expressions in short: the name that stands in the i-th slot -/
section
variable {X : Cx}
end

/-! ### tests -/
theorem iteF {A B : Prop} (h : B) : if false = true then A else B := by
  rw [if_neg Bool.false_ne_true]
  exact h
theorem iteT {A B : Prop} (h : A) : if true = true then A else B := by
  rw [if_pos rfl]
  exact h
/-! ### heaps -/
/-- all that was tracked is as it was -/
noncomputable def Same (H H' : Hp) : Prop := ∀ b o, H b = some o → H' b = some o
theorem Same.refl (H : Hp) : Same H H := fun _ _ h => h
theorem Same.trans {H H1 H2 : Hp} (a : Same H H1) (b : Same H1 H2) : Same H H2 := fun c o h => b c o (a c o h)
theorem Same.free {H H' : Hp} (e : Same H H') {l : Addr} (h : H' l = Option.none) : H l = Option.none := by
  cases q : H l with
  | none => rfl
  | some o =>
    rw [e l o q] at h
    cases h
theorem Same.seq {K : PySem.W.Frag} {H H' : Hp} {a : Addr} {xs : List V} (e : Same H H') (h : SqL K H a xs) : SqL K H' a xs := by
  rcases h with (h | ⟨o, h⟩) | h
  · exact .inl (.inl (e _ _ h))
  · exact .inl (.inr ⟨o, e _ _ h⟩)
  · exact .inr h

end L2

set_option Elab.async false
set_option linter.all false
set_option maxRecDepth 100000
namespace PL
open PySem PySem.Spec PyProof.Rows L2

/-- a def as a datum -/
noncomputable def fnD (x : Str) : PyData := .dict [(.none, .str x)]
/-- an exception of the class c as a datum -/
noncomputable def excD (c : Str) : PyData := .dict [(.str c, .none)]
/-- the program's own error classes -/
noncomputable def xcNames : List Str := ["ClockError", "NoClock", "NoText", "NotApart"]
noncomputable def excP (a C : Addr) (h : Heap) : Prop := ∃ o, h.get? a = some o ∧ o.cls = .ref C

section
variable (K : PySem.W.Frag) (mg : Str → Option Value)
mutual
noncomputable def Br (H : Hp) : PyData → V → Prop
  | .none, v => v = .non
  | .bool b, v => v = .bl b
  | .int i, v => v = .int i
  | .str x, v => v = .str x
  | .list ds, v => ∃ a vs, v = .ref a ∧ SqL K H a vs ∧ Brs H ds vs
  | .tuple ds, v => ∃ a vs, v = .ref a ∧ SqT K H a vs ∧ Brs H ds vs
  | .dict kvs, v => (∃ x f, kvs = [(.none, .str x)] ∧ v = .ref f ∧ mg x = some (.ref f)) ∨ ∃ c a C, kvs = [(.str c, .none)] ∧ v = .ref a ∧ xcNames.contains c = true ∧ mg c = some (.ref C) ∧ H a = some (.ext (excP a C))
noncomputable def Brs (H : Hp) : List PyData → List V → Prop
  | [], vs => vs = []
  | d :: ds, vs => ∃ v r, vs = v :: r ∧ Br H d v ∧ Brs H ds r
end
end

theorem sqt_same {K : PySem.W.Frag} {H H' : Hp} {a : Addr} {xs : List V} (e : Same H H') (h : SqT K H a xs) : SqT K H' a xs := by
  rcases h with (h | ⟨o, h⟩) | h
  · exact .inl (.inl (e _ _ h))
  · exact .inl (.inr ⟨o, e _ _ h⟩)
  · exact .inr h
theorem same_new {H : Hp} {p : Addr} (h : H p = none) (o : HO) : Same H (upd H p o) := fun b u q => by rw [upd_ne (ne_of_none q h)]; exact q

section
variable {K : PySem.W.Frag} {mg : Str → Option Value} {H H' : Hp}
mutual
theorem br_mono (e : Same H H') : ∀ (d : PyData) (v : V), Br K mg H d v → Br K mg H' d v
  | .none, v, h => by simp only [Br] at h ⊢; exact h
  | .bool b, v, h => by simp only [Br] at h ⊢; exact h
  | .int i, v, h => by simp only [Br] at h ⊢; exact h
  | .str x, v, h => by simp only [Br] at h ⊢; exact h
  | .list ds, v, h => by
    simp only [Br] at h ⊢
    obtain ⟨a, vs, e1, h1, h2⟩ := h
    exact ⟨a, vs, e1, e.seq h1, brs_mono e ds vs h2⟩
  | .tuple ds, v, h => by
    simp only [Br] at h ⊢
    obtain ⟨a, vs, e1, h1, h2⟩ := h
    exact ⟨a, vs, e1, sqt_same e h1, brs_mono e ds vs h2⟩
  | .dict kvs, v, h => by
    simp only [Br] at h ⊢
    rcases h with h | ⟨c, a, C, h1, h2, h0, h3, h4⟩
    · exact .inl h
    · exact .inr ⟨c, a, C, h1, h2, h0, h3, e _ _ h4⟩
theorem brs_mono (e : Same H H') : ∀ (ds : List PyData) (vs : List V), Brs K mg H ds vs → Brs K mg H' ds vs
  | [], vs, h => by simp only [Brs] at h ⊢; exact h
  | d :: ds, vs, h => by
    simp only [Brs] at h ⊢
    obtain ⟨v, r, e1, h1, h2⟩ := h
    exact ⟨v, r, e1, br_mono e d v h1, brs_mono e ds r h2⟩
end
theorem brs_length : ∀ (ds : List PyData) (vs : List V), Brs K mg H ds vs → ds.length = vs.length
  | [], vs, h => by simp only [Brs] at h; subst h; rfl
  | d :: ds, vs, h => by
    simp only [Brs] at h
    obtain ⟨v, r, rfl, h1, h2⟩ := h
    simp [brs_length ds r h2]
theorem brs_get : ∀ (ds : List PyData) (vs : List V) (i : Nat) (d : PyData), Brs K mg H ds vs → ds[i]? = some d → ∃ v, vs[i]? = some v ∧ Br K mg H d v
  | [], vs, i, d, h, e => by simp at e
  | d' :: ds, vs, 0, d, h, e => by
    simp only [Brs] at h
    obtain ⟨v, r, rfl, h1, h2⟩ := h
    simp at e; subst e
    exact ⟨v, rfl, h1⟩
  | d' :: ds, vs, i + 1, d, h, e => by
    simp only [Brs] at h
    obtain ⟨v, r, rfl, h1, h2⟩ := h
    obtain ⟨w, e1, h3⟩ := brs_get ds r i d h2 (by simpa using e)
    exact ⟨w, by simpa using e1, h3⟩
theorem brs_append : ∀ (ds es : List PyData) (vs ws : List V), Brs K mg H ds vs → Brs K mg H es ws → Brs K mg H (ds ++ es) (vs ++ ws)
  | [], es, vs, ws, h, q => by simp only [Brs] at h; subst h; exact q
  | d :: ds, es, vs, ws, h, q => by
    simp only [Brs] at h
    obtain ⟨v, r, rfl, h1, h2⟩ := h
    show Brs K mg H (d :: (ds ++ es)) (v :: (r ++ ws))
    simp only [Brs]
    exact ⟨v, _, rfl, h1, brs_append ds es r ws h2 q⟩
theorem brs_ints (ns : List Int) : Brs K mg H (ns.map PyData.int) (ns.map V.int) := by
  induction ns with
  | nil => simp only [List.map_nil, Brs]
  | cons n r ih => simp only [List.map_cons, Brs]; exact ⟨_, _, rfl, by simp only [Br], ih⟩
end

section
variable {X : Cx} {pins : List (Addr × Obj)} {σ : L2.St} {H : Hp} {s : Shared}
mutual
theorem reads_of (I : Inv X pins σ H s) : ∀ (d : PyData) (v : V) (u : Value), d.canLay0 = true → Br X.K X.mg H d v → RelV v u → ∃ as, Reads s.heap u d as
  | .none, v, u, c, h, r => by simp only [Br] at h; subst h; cases r; exact ⟨_, .none⟩
  | .bool b, v, u, c, h, r => by simp only [Br] at h; subst h; cases r; exact ⟨_, .bool b⟩
  | .int i, v, u, c, h, r => by simp only [Br] at h; subst h; obtain ⟨t, rfl⟩ := r; exact ⟨_, .int i t⟩
  | .str x, v, u, c, h, r => by simp only [Br] at h; subst h; obtain ⟨t, rfl⟩ := r; exact ⟨_, .str x t⟩
  | .list ds, v, u, c, h, r => by
    simp only [Br] at h
    obtain ⟨a, vs, rfl, h1, h2⟩ := h
    cases r
    obtain ⟨its, rv, ⟨o, n, e1, e2, e3, e4⟩, hz⟩ := I.list h1
    obtain ⟨as, q⟩ := readsAll_of I ds vs its c h2 rv
    exact ⟨_, .list e1 e2 e4 q⟩
  | .tuple ds, v, u, c, h, r => by
    simp only [Br] at h
    obtain ⟨a, vs, rfl, h1, h2⟩ := h
    cases r
    obtain ⟨its, rv, ⟨o, e1, e2, n, e4⟩, hz⟩ := I.tuple h1
    obtain ⟨as, q⟩ := readsAll_of I ds vs its c h2 rv
    exact ⟨_, .tuple e1 e2 e4 q⟩
  | .dict kvs, v, u, c, h, r => nomatch c
theorem readsAll_of (I : Inv X pins σ H s) : ∀ (ds : List PyData) (vs : List V) (us : List Value), PyData.canLayAll0 ds = true → Brs X.K X.mg H ds vs → Vals vs us → ∃ as, ReadsAll s.heap us ds as
  | [], vs, us, c, h, r => by simp only [Brs] at h; subst h; cases r; exact ⟨_, .nil⟩
  | d :: ds, vs, us, c, h, r => by
    simp only [Brs] at h
    obtain ⟨v, rr, rfl, h1, h2⟩ := h
    have c' : d.canLay0 = true ∧ PyData.canLayAll0 ds = true := by simpa [PyData.canLayAll0] using c
    cases r with
    | cons r1 r2 =>
      obtain ⟨as, q1⟩ := reads_of I d v _ c'.1 h1 r1
      obtain ⟨bs, q2⟩ := readsAll_of I ds rr _ c'.2 h2 r2
      exact ⟨_, .cons q1 q2⟩
end
end
end PL

set_option Elab.async false
set_option linter.all false
set_option maxRecDepth 100000
namespace PL
open PySem PySem.Spec PyProof.Rows L2

noncomputable abbrev Rho := List (Option PyData)
noncomputable def EnvOk (K : PySem.W.Frag) (mg : Str → Option Value) (H : Hp) (r : Rho) (σ : L2.St) : Prop :=
  r.length = σ.length ∧ ∀ (i : Nat) (d : PyData), r[i]? = some (some d) → ∃ v, σ[i]? = some (some v) ∧ Br K mg H d v
theorem envOk_mono {K : PySem.W.Frag} {mg : Str → Option Value} {H H' : Hp} {r : Rho} {σ : L2.St} (e : Same H H') (h : EnvOk K mg H r σ) : EnvOk K mg H' r σ :=
  ⟨h.1, fun i d q => let ⟨v, a, b⟩ := h.2 i d q; ⟨v, a, br_mono e d v b⟩⟩
theorem envOk_set {K : PySem.W.Frag} {mg : Str → Option Value} {H : Hp} {r : Rho} {σ : L2.St} {d : PyData} {v : V} (i : Nat) (h : EnvOk K mg H r σ) (b : Br K mg H d v) : EnvOk K mg H (r.set i (some d)) (σ.set i (some v)) := by
  refine ⟨by rw [List.length_set, List.length_set]; exact h.1, fun j d' q => ?_⟩
  rw [List.getElem?_set] at q
  by_cases e : i = j
  · subst e
    rw [if_pos rfl] at q
    by_cases l : i < r.length
    · rw [if_pos l] at q
      have q' : d = d' := by injection q with q1; injection q1
      subst q'
      refine ⟨v, ?_, b⟩
      rw [List.getElem?_set, if_pos rfl, if_pos (by rw [← h.1]; exact l)]
    · rw [if_neg l] at q; cases q
  · rw [if_neg e] at q
    obtain ⟨w, a, c⟩ := h.2 j d' q
    refine ⟨w, ?_, c⟩
    rw [List.getElem?_set, if_neg e]; exact a

inductive Fl where
  | nx (r : Rho) | rt (d : PyData) | bk (r : Rho) | ct (r : Rho)

section
variable (K : PySem.W.Frag) (mg : Str → Option Value)
noncomputable def tP (g : Rho → Option PyData) : TE := fun σ H Q => ∃ r d, EnvOk K mg H r σ ∧ g r = some d ∧ ∀ v H', Same H H' → Br K mg H' d v → Q v H'
noncomputable def tPT (g : Rho → Option PyData) : TT := fun σ H Q => ∃ r b, EnvOk K mg H r σ ∧ g r = some (.bool b) ∧ ∀ H', Same H H' → Q b H'
noncomputable def tPA (g : Rho → Option (List PyData)) : TA := fun σ H Q => ∃ r ds, EnvOk K mg H r σ ∧ g r = some ds ∧ ∀ vs H', Same H H' → Brs K mg H' ds vs → Q vs H'
noncomputable def FlOk (D : Ends) (H : Hp) : Fl → Prop
  | .nx r' => ∀ σ' H', Same H H' → EnvOk K mg H' r' σ' → D.nx σ' H'
  | .rt d => ∀ v H', Same H H' → Br K mg H' d v → D.rt v H'
  | .bk r' => ∀ σ' H', Same H H' → EnvOk K mg H' r' σ' → D.bk σ' H'
  | .ct r' => ∀ σ' H', Same H H' → EnvOk K mg H' r' σ' → D.ct σ' H'
noncomputable def tPS (g : Rho → Option Fl) : TS := fun D σ H => ∃ r fl, EnvOk K mg H r σ ∧ g r = some fl ∧ FlOk K mg D H fl
noncomputable def rD (f : PyData → PyData → Option PyData) : R2 := fun v u H Q => ∃ x y d, Br K mg H x v ∧ Br K mg H y u ∧ f x y = some d ∧ ∀ w H', Same H H' → Br K mg H' d w → Q w H'
noncomputable def rDU (f : PyData → Option PyData) : V → Hp → VK → Prop := fun v H Q => ∃ x d, Br K mg H x v ∧ f x = some d ∧ ∀ w H', Same H H' → Br K mg H' d w → Q w H'
noncomputable def rDC (f : List PyData → Option PyData) : List V → Hp → VK → Prop := fun vs H Q => ∃ xs d, Brs K mg H xs vs ∧ f xs = some d ∧ ∀ w H', Same H H' → Br K mg H' d w → Q w H'
end

section
variable {X : Cx}
theorem pe_imp {e : Expr} {t t' : TE} (h : PE X e t) (i : ∀ σ H Q, t' σ H Q → t σ H Q) : PE X e t' := fun pins s σ H Q I q => h pins s σ H Q I (i σ H Q q)
theorem pt_imp {e : Expr} {t t' : TT} (h : PT X e t) (i : ∀ σ H Q, t' σ H Q → t σ H Q) : PT X e t' := fun pins s σ H Q I q => h pins s σ H Q I (i σ H Q q)
theorem pa_imp {e : List Expr} {t t' : TA} (h : PA X e t) (i : ∀ σ H Q, t' σ H Q → t σ H Q) : PA X e t' := fun pos pins s σ H Q I q => h pos pins s σ H Q I (i σ H Q q)
theorem ps_imp {e : Stmt} {t t' : TS} (h : PS X e t) (i : ∀ σ H D, t' D σ H → t D σ H) : PS X e t' := fun pins s σ H D I q => h pins s σ H D I (i σ H D q)
theorem pss_imp {e : List Stmt} {t t' : TS} (h : PSs X e t) (i : ∀ σ H D, t' D σ H → t D σ H) : PSs X e t' := fun pins s σ H D I q => h pins s σ H D I (i σ H D q)

noncomputable abbrev E1 (X : Cx) (e : Expr) (g : Rho → Option PyData) : Prop := PE X e (tP X.K X.mg g)
noncomputable abbrev T1 (X : Cx) (e : Expr) (g : Rho → Option PyData) : Prop := PT X e (tPT X.K X.mg g)
noncomputable abbrev A1 (X : Cx) (es : List Expr) (g : Rho → Option (List PyData)) : Prop := PA X es (tPA X.K X.mg g)
noncomputable abbrev S1 (X : Cx) (st : Stmt) (g : Rho → Option Fl) : Prop := PS X st (tPS X.K X.mg g)
noncomputable abbrev SS1 (X : Cx) (st : List Stmt) (g : Rho → Option Fl) : Prop := PSs X st (tPS X.K X.mg g)

noncomputable def bin2 (f : PyData → PyData → Option PyData) (ga gb : Rho → Option PyData) (r : Rho) : Option PyData :=
  match ga r with
  | some x => match gb r with
    | some y => f x y
    | none => none
  | none => none
theorem bin2_some {f : PyData → PyData → Option PyData} {ga gb : Rho → Option PyData} {r : Rho} {d : PyData} (h : bin2 f ga gb r = some d) : ∃ x y, ga r = some x ∧ gb r = some y ∧ f x y = some d := by
  unfold bin2 at h
  cases ha : ga r with
  | none => rw [ha] at h; cases h
  | some x =>
    rw [ha] at h
    cases hb : gb r with
    | none => rw [hb] at h; cases h
    | some y => rw [hb] at h; exact ⟨x, y, rfl, rfl, h⟩
theorem tOp_of {K : PySem.W.Frag} {mg : Str → Option Value} {f : PyData → PyData → Option PyData} {ga gb : Rho → Option PyData} (σ : L2.St) (H : Hp) (Q : VK) (h : tP K mg (bin2 f ga gb) σ H Q) :
    tOp (rD K mg f) (tP K mg ga) (tP K mg gb) σ H Q := by
  obtain ⟨r, d, env, hg, q⟩ := h
  obtain ⟨x, y, ha, hb, hf⟩ := bin2_some hg
  refine ⟨r, x, env, ha, fun v H1 s1 b1 => ⟨r, y, envOk_mono s1 env, hb, fun u H2 s2 b2 => ?_⟩⟩
  exact ⟨x, y, d, br_mono s2 x v b1, b2, hf, fun w H' s3 b3 => q w H' (s1.trans (s2.trans s3)) b3⟩
theorem e_bin {op : Operator} {f : PyData → PyData → Option PyData} {a b : Expr} {pos : Pos} {ga gb : Rho → Option PyData} (ho : OpR X (binaryOp op) (rD X.K X.mg f)) (ha : E1 X a ga) (hb : E1 X b gb) :
    E1 X (.BinOp a op b pos) (bin2 f ga gb) := pe_imp (pe_op ho ha hb) tOp_of
theorem e_cmp {op : CmpOp} {f : PyData → PyData → Option PyData} {a b : Expr} {pos : Pos} {ga gb : Rho → Option PyData} (ho : OpR X (compareOp op) (rD X.K X.mg f)) (ha : E1 X a ga) (hb : E1 X b gb) (hm : behindInMarks op b = false) :
    E1 X (.Compare a [op] [b] pos) (bin2 f ga gb) := pe_imp (pe_cmpR ho ha hb hm) tOp_of
theorem tTest_of {K : PySem.W.Frag} {mg : Str → Option Value} {t : TE} {g : Rho → Option PyData} (i : ∀ σ H Q, tP K mg g σ H Q → t σ H Q) (σ : L2.St) (H : Hp) (Q : Bool → Hp → Prop) (h : tPT K mg g σ H Q) :
    tTest t σ H Q := by
  obtain ⟨r, b, env, hg, q⟩ := h
  refine i σ H _ ⟨r, _, env, hg, fun v H' s1 b1 => ?_⟩
  simp only [Br] at b1
  exact ⟨b, b1, q H' s1⟩
theorem t_cmp {op : CmpOp} {f : PyData → PyData → Option PyData} {a b : Expr} {pos : Pos} {ga gb : Rho → Option PyData} (ho : OpR X (compareOp op) (rD X.K X.mg f)) (ha : E1 X a ga) (hb : E1 X b gb) (hm : behindInMarks op b = false) :
    T1 X (.Compare a [op] [b] pos) (bin2 f ga gb) := pt_imp (pt_cmpR ho ha hb hm) (tTest_of tOp_of)
theorem t_val {e : Expr} {g : Rho → Option PyData} (h : E1 X e g) (he : ∀ whole, isTrue e X.env whole = (do let v ← whole; standAt e.pos; holding [v] (truthy v))) : T1 X e g :=
  pt_imp (pt_val h he) fun σ H Q ⟨r, b, env, hg, q⟩ => ⟨r, _, env, hg, fun v H' s1 b1 => by simp only [Br] at b1; exact ⟨b, b1, q H' s1⟩⟩

/-! names, constants -/
noncomputable def vr (i : Nat) (r : Rho) : Option PyData := match r[i]? with
  | some (some d) => some d
  | _ => none
theorem vr_some {i : Nat} {r : Rho} {d : PyData} (h : vr i r = some d) : r[i]? = some (some d) := by
  unfold vr at h
  split at h
  · rename_i e; rw [e, h]
  · cases h
theorem e_var {i : Nat} {x : Str} {pos : Pos} (hN : X.N[i]? = some x) (hv : Vis X.env.scope x) (hd : (x == ("__debug__" : Str)) = false) (hcd : (x == ("__classdict__" : Str)) = false) : E1 X (.Name x pos) (vr i) :=
  pe_imp (pe_var hN hv hd hcd) fun σ H Q ⟨r, d, env, hg, q⟩ => by
    obtain ⟨v, e1, b⟩ := env.2 i d (vr_some hg)
    exact ⟨v, e1, q v H (Same.refl H) b⟩
theorem tC_of {K : PySem.W.Frag} {mg : Str → Option Value} {d : PyData} {v : V} (b : ∀ H, Br K mg H d v) (σ : L2.St) (H : Hp) (Q : VK) (h : tP K mg (fun _ => some d) σ H Q) : tC v σ H Q := by
  obtain ⟨r, d', env, hg, q⟩ := h
  injection hg with e; subst e
  exact q v H (Same.refl H) (b H)
theorem e_int {i : Int} {j : Nat} {pos : Pos} : E1 X (.Constant (.int i) j pos) (fun _ => some (.int i)) := pe_imp pe_int (tC_of fun _ => by simp only [Br])
theorem e_bl {b : Bool} {j : Nat} {pos : Pos} : E1 X (.Constant (.bool b) j pos) (fun _ => some (.bool b)) := pe_imp pe_bl (tC_of fun _ => by simp only [Br])
theorem e_non {j : Nat} {pos : Pos} : E1 X (.Constant .none j pos) (fun _ => some .none) := pe_imp pe_non (tC_of fun _ => by simp only [Br])
theorem e_str {x : Str} {j : Nat} {pos : Pos} : E1 X (.Constant (.str x) j pos) (fun _ => some (.str x)) := pe_imp pe_str (tC_of fun _ => by simp only [Br])
theorem e_fn {x : Str} {f : Addr} {pos : Pos} (hg : Gl X x) (hm : X.mg x = some (.ref f)) (hd : (x == ("__debug__" : Str)) = false) : E1 X (.Name x pos) (fun _ => some (fnD x)) :=
  pe_imp (pe_glob (v := .ref f) hg hm rfl hd) (tC_of fun _ => by simp only [fnD, Br]; exact .inl ⟨x, f, rfl, rfl, hm⟩)

/-! and, or, not, if-else -/
noncomputable def andD (ga gb : Rho → Option PyData) (r : Rho) : Option PyData := match ga r with
  | some (.bool true) => gb r
  | some (.bool false) => some (.bool false)
  | _ => none
noncomputable def orD (ga gb : Rho → Option PyData) (r : Rho) : Option PyData := match ga r with
  | some (.bool true) => some (.bool true)
  | some (.bool false) => gb r
  | _ => none
noncomputable def notD (ga : Rho → Option PyData) (r : Rho) : Option PyData := match ga r with
  | some (.bool b) => some (.bool (!b))
  | _ => none
noncomputable def ifD (gc ga gb : Rho → Option PyData) (r : Rho) : Option PyData := match gc r with
  | some (.bool true) => ga r
  | some (.bool false) => gb r
  | _ => none
theorem andD_some {ga gb : Rho → Option PyData} {r : Rho} {d : PyData} (h : andD ga gb r = some d) : ∃ b, ga r = some (.bool b) ∧ (if b = true then gb r else some (.bool false)) = some d := by
  unfold andD at h
  split at h
  · rename_i e; exact ⟨true, e, h⟩
  · rename_i e; exact ⟨false, e, h⟩
  · cases h
theorem orD_some {ga gb : Rho → Option PyData} {r : Rho} {d : PyData} (h : orD ga gb r = some d) : ∃ b, ga r = some (.bool b) ∧ (if b = true then some (.bool true) else gb r) = some d := by
  unfold orD at h
  split at h
  · rename_i e; exact ⟨true, e, h⟩
  · rename_i e; exact ⟨false, e, h⟩
  · cases h
theorem notD_some {ga : Rho → Option PyData} {r : Rho} {d : PyData} (h : notD ga r = some d) : ∃ b, ga r = some (.bool b) ∧ d = .bool (!b) := by
  unfold notD at h
  split at h
  · rename_i b e; exact ⟨b, e, by injection h with h; exact h.symm⟩
  · cases h
theorem ifD_some {gc ga gb : Rho → Option PyData} {r : Rho} {d : PyData} (h : ifD gc ga gb r = some d) : ∃ b, gc r = some (.bool b) ∧ (if b = true then ga r else gb r) = some d := by
  unfold ifD at h
  split at h
  · rename_i e; exact ⟨true, e, h⟩
  · rename_i e; exact ⟨false, e, h⟩
  · cases h
variable {a b c : Expr} {rest : List Expr} {pos : Pos} {ga gb gc : Rho → Option PyData}
theorem e_and (ha : E1 X a ga) (hb : E1 X (.BoolOp .And (b :: rest) pos) gb) : E1 X (.BoolOp .And (a :: b :: rest) pos) (andD ga gb) :=
  pe_imp (pe_and ha hb) fun σ H Q ⟨r, d, env, hg, q⟩ => by
    obtain ⟨k, h1, h2⟩ := andD_some hg
    refine ⟨r, _, env, h1, fun v H1 s1 b1 => ?_⟩
    simp only [Br] at b1
    refine ⟨k, b1, ?_⟩
    cases k with
    | true => exact ⟨r, d, envOk_mono s1 env, h2, fun w H' s2 b2 => q w H' (s1.trans s2) b2⟩
    | false =>
      have h3 : some (PyData.bool false) = some d := h2
      injection h3 with h3; subst h3
      exact q _ H1 s1 (by simp only [Br])
theorem e_or (ha : E1 X a ga) (hb : E1 X (.BoolOp .Or (b :: rest) pos) gb) : E1 X (.BoolOp .Or (a :: b :: rest) pos) (orD ga gb) :=
  pe_imp (pe_or ha hb) fun σ H Q ⟨r, d, env, hg, q⟩ => by
    obtain ⟨k, h1, h2⟩ := orD_some hg
    refine ⟨r, _, env, h1, fun v H1 s1 b1 => ?_⟩
    simp only [Br] at b1
    refine ⟨k, b1, ?_⟩
    cases k with
    | false => exact ⟨r, d, envOk_mono s1 env, h2, fun w H' s2 b2 => q w H' (s1.trans s2) b2⟩
    | true =>
      have h3 : some (PyData.bool true) = some d := h2
      injection h3 with h3; subst h3
      exact q _ H1 s1 (by simp only [Br])
theorem e_not (ha : E1 X a ga) : E1 X (.UnaryOp .Not a pos) (notD ga) :=
  pe_imp (pe_not ha) fun σ H Q ⟨r, d, env, hg, q⟩ => by
    obtain ⟨k, h1, h2⟩ := notD_some hg
    subst h2
    refine ⟨r, _, env, h1, fun v H1 s1 b1 => ?_⟩
    simp only [Br] at b1
    exact ⟨k, b1, q _ H1 s1 (by simp only [Br])⟩
noncomputable def PW1 (X : Cx) (e : Expr) (g : Rho → Option PyData) : Prop := PW X e (tPT X.K X.mg g)
theorem w_and1 (ha : T1 X a ga) : PW1 X (.BoolOp .And [a] pos) ga := pw_and1 ha
theorem w_or1 (ha : T1 X a ga) : PW1 X (.BoolOp .Or [a] pos) ga := pw_or1 ha
theorem w_and (ha : T1 X a ga) (hb : PW1 X (.BoolOp .And (b :: rest) pos) gb) : PW1 X (.BoolOp .And (a :: b :: rest) pos) (andD ga gb) := by
  intro wh pins s σ H Q I ⟨r, k, env, hg, q⟩
  refine pw_and ha hb wh pins s σ H Q I ?_
  obtain ⟨k', h1, h2⟩ := andD_some hg
  refine ⟨r, k', env, h1, fun H1 s1 => ?_⟩
  cases k' with
  | true => exact ⟨r, k, envOk_mono s1 env, h2, fun H2 s2 => q H2 (s1.trans s2)⟩
  | false =>
    have h3 : some (PyData.bool false) = some (PyData.bool k) := h2
    injection h3 with h3; injection h3 with h3; subst h3
    exact q H1 s1
theorem w_or (ha : T1 X a ga) (hb : PW1 X (.BoolOp .Or (b :: rest) pos) gb) : PW1 X (.BoolOp .Or (a :: b :: rest) pos) (orD ga gb) := by
  intro wh pins s σ H Q I ⟨r, k, env, hg, q⟩
  refine pw_or ha hb wh pins s σ H Q I ?_
  obtain ⟨k', h1, h2⟩ := orD_some hg
  refine ⟨r, k', env, h1, fun H1 s1 => ?_⟩
  cases k' with
  | false => exact ⟨r, k, envOk_mono s1 env, h2, fun H2 s2 => q H2 (s1.trans s2)⟩
  | true =>
    have h3 : some (PyData.bool true) = some (PyData.bool k) := h2
    injection h3 with h3; injection h3 with h3; subst h3
    exact q H1 s1
theorem t_not (ha : T1 X a ga) : T1 X (.UnaryOp .Not a pos) (notD ga) :=
  pt_imp (pt_not ha) fun σ H Q ⟨r, k, env, hg, q⟩ => by
    obtain ⟨k', h1, h2⟩ := notD_some hg
    injection h2 with h2; subst h2
    exact ⟨r, k', env, h1, fun H1 s1 => q H1 s1⟩
theorem e_if (hc : T1 X c gc) (ha : E1 X a ga) (hb : E1 X b gb) : E1 X (.IfExp c a b pos) (ifD gc ga gb) :=
  pe_imp (pe_ifExp hc ha hb) fun σ H Q ⟨r, d, env, hg, q⟩ => by
    obtain ⟨k, h1, h2⟩ := ifD_some hg
    refine ⟨r, k, env, h1, fun H1 s1 => ?_⟩
    cases k with
    | true => exact ⟨r, d, envOk_mono s1 env, h2, fun w H' s2 b2 => q w H' (s1.trans s2) b2⟩
    | false => exact ⟨r, d, envOk_mono s1 env, h2, fun w H' s2 b2 => q w H' (s1.trans s2) b2⟩

/-! argument lists, displays -/
noncomputable def nilD (_ : Rho) : Option (List PyData) := some []
noncomputable def consD (ga : Rho → Option PyData) (gr : Rho → Option (List PyData)) (r : Rho) : Option (List PyData) := match ga r with
  | some x => match gr r with
    | some xs => some (x :: xs)
    | none => none
  | none => none
theorem consD_some {ga : Rho → Option PyData} {gr : Rho → Option (List PyData)} {r : Rho} {ds : List PyData} (h : consD ga gr r = some ds) : ∃ x xs, ga r = some x ∧ gr r = some xs ∧ ds = x :: xs := by
  unfold consD at h
  cases ha : ga r with
  | none => rw [ha] at h; cases h
  | some x =>
    rw [ha] at h
    cases hb : gr r with
    | none => rw [hb] at h; cases h
    | some y => rw [hb] at h; injection h with h; exact ⟨x, y, rfl, rfl, h.symm⟩
theorem a_nil : A1 X [] nilD := pa_imp pa_nil fun σ H Q ⟨r, ds, env, hg, q⟩ => by
  injection hg with e; subst e
  exact q [] H (Same.refl H) (by simp only [Brs])
theorem a_cons {e : Expr} {es : List Expr} {g : Rho → Option (List PyData)} (ha : E1 X e ga) (hr : A1 X es g) (hs : starEach (e :: es) X.env = (false, eval e X.env) :: starEach es X.env) : A1 X (e :: es) (consD ga g) :=
  pa_imp (pa_cons ha hr hs) fun σ H Q ⟨r, ds, env, hg, q⟩ => by
    obtain ⟨x, xs, h1, h2, rfl⟩ := consD_some hg
    refine ⟨r, x, env, h1, fun v H1 s1 b1 => ⟨r, xs, envOk_mono s1 env, h2, fun vs H2 s2 b2 => ?_⟩⟩
    refine q _ H2 (s1.trans s2) ?_
    simp only [Brs]
    exact ⟨v, vs, rfl, br_mono s2 x v b1, b2⟩
noncomputable def okLen (n : Nat) : Bool := decide (n ≤ 1000000)
theorem okLen_size {n : Nat} (h : okLen n = true) : n ≤ sizeLine := Nat.le_trans (of_decide_eq_true h) (by rw [sizeLine_eq]; decide)
noncomputable def tupD (g : Rho → Option (List PyData)) (r : Rho) : Option PyData := match g r with
  | some xs => if okLen xs.length = true then some (.tuple xs) else none
  | none => none
noncomputable def lstD (g : Rho → Option (List PyData)) (r : Rho) : Option PyData := match g r with
  | some xs => if okLen xs.length = true then some (.list xs) else none
  | none => none
theorem tupD_some {g : Rho → Option (List PyData)} {r : Rho} {d : PyData} (h : tupD g r = some d) : ∃ xs, g r = some xs ∧ okLen xs.length = true ∧ d = .tuple xs := by
  unfold tupD at h
  cases ha : g r with
  | none => rw [ha] at h; cases h
  | some x =>
    rw [ha] at h
    simp only at h
    split at h
    · rename_i e; injection h with h; exact ⟨x, rfl, e, h.symm⟩
    · cases h
theorem lstD_some {g : Rho → Option (List PyData)} {r : Rho} {d : PyData} (h : lstD g r = some d) : ∃ xs, g r = some xs ∧ okLen xs.length = true ∧ d = .list xs := by
  unfold lstD at h
  cases ha : g r with
  | none => rw [ha] at h; cases h
  | some x =>
    rw [ha] at h
    simp only at h
    split at h
    · rename_i e; injection h with h; exact ⟨x, rfl, e, h.symm⟩
    · cases h
theorem e_tup {es : List Expr} {x1 : Nat} {g : Rho → Option (List PyData)} (h : A1 X es g) : E1 X (.Tuple es x1 pos) (tupD g) :=
  pe_imp (pe_tup h) fun σ H Q ⟨r, d, env, hg, q⟩ => by
    obtain ⟨xs, h1, h2, rfl⟩ := tupD_some hg
    refine ⟨r, xs, env, h1, fun vs H1 s1 b1 => ⟨?_, fun p hp => ?_⟩⟩
    · rw [← brs_length xs vs b1]; exact okLen_size h2
    · refine q _ _ (s1.trans (same_new hp _)) ?_
      simp only [Br]
      exact ⟨p, vs, rfl, SqT.of upd_same, brs_mono (same_new hp _) xs vs b1⟩
theorem e_lst {es : List Expr} {g : Rho → Option (List PyData)} (h : A1 X es g) : E1 X (.List es pos) (lstD g) :=
  pe_imp (pe_lst h) fun σ H Q ⟨r, d, env, hg, q⟩ => by
    obtain ⟨xs, h1, h2, rfl⟩ := lstD_some hg
    refine ⟨r, xs, env, h1, fun vs H1 s1 b1 => ⟨?_, fun p hp => ?_⟩⟩
    · rw [← brs_length xs vs b1]; exact okLen_size h2
    · refine q _ _ (s1.trans (same_new hp _)) ?_
      simp only [Br]
      exact ⟨p, vs, rfl, SqL.of upd_same, brs_mono (same_new hp _) xs vs b1⟩

/-! calls -/
noncomputable def appD (f : List PyData → Option PyData) (g : Rho → Option (List PyData)) (r : Rho) : Option PyData := match g r with
  | some xs => f xs
  | none => none
theorem appD_some {f : List PyData → Option PyData} {g : Rho → Option (List PyData)} {r : Rho} {d : PyData} (h : appD f g r = some d) : ∃ xs, g r = some xs ∧ f xs = some d := by
  unfold appD at h
  cases ha : g r with
  | none => rw [ha] at h; cases h
  | some x => rw [ha] at h; exact ⟨x, rfl, h⟩
theorem tCB_of {K : PySem.W.Frag} {mg : Str → Option Value} {f : List PyData → Option PyData} {g : Rho → Option (List PyData)} (σ : L2.St) (H : Hp) (Q : VK) (h : tP K mg (appD f g) σ H Q) : tCB (rDC K mg f) (tPA K mg g) σ H Q := by
  obtain ⟨r, d, env, hg, q⟩ := h
  obtain ⟨xs, h1, h2⟩ := appD_some hg
  exact ⟨r, xs, env, h1, fun vs H1 s1 b1 => ⟨xs, d, b1, h2, fun w H' s2 b2 => q w H' (s1.trans s2) b2⟩⟩
/-- what a def promises -/
noncomputable def spP (K : PySem.W.Frag) (mg : Str → Option Value) (n : Nat) (f : List PyData → Option PyData) : Sp := fun vs H Q _ => vs.length = n ∧ rDC K mg f vs H Q
theorem tCall_of {K : PySem.W.Frag} {mg : Str → Option Value} {n : Nat} {f : List PyData → Option PyData} {g : Rho → Option (List PyData)} (hl : ∀ ds d, f ds = some d → ds.length = n) (σ : L2.St) (H : Hp) (Q : VK) (h : tP K mg (appD f g) σ H Q) : tCall (spP K mg n f) [] E0 (tPA K mg g) σ H Q := by
  obtain ⟨r, d, env, hg, q⟩ := h
  obtain ⟨xs, h1, h2⟩ := appD_some hg
  refine ⟨r, xs, env, h1, fun vs H1 s1 b1 => ?_⟩
  show spP K mg n f (vs ++ []) H1 Q E0
  rw [List.append_nil]
  exact ⟨by rw [← brs_length xs vs b1]; exact hl xs d h2, xs, d, b1, h2, fun w H' s2 b2 => q w H' (s1.trans s2) b2⟩
end
end PL

set_option Elab.async false
set_option linter.all false
set_option maxRecDepth 100000
namespace PL
open PySem PySem.Spec PyProof.Rows L2

/-! ### tuples: the whole slice, the turned one -/
section
variable {prog : Program} {w : World} {A : Around} {E : Value → Shared → Prop} {s : Shared}
/-- () + t -/
theorem cat_tup0 {t b : Addr} {vs ws : List Value} {Q : Value → Shared → Prop} (ht : IsTup s.heap t vs.toArray) (hb : IsTup s.heap b ws.toArray) (hv : vs = [])
    (h1 : Q (.ref b) s) : wpAny (model prog w) A (binaryOp .Add (.ref t) (.ref b)) Q E s := by
  obtain ⟨⟨cls, dd, data, sl⟩, ho, hc, n, hd⟩ := id ht
  obtain ⟨⟨cls2, dd2, data2, sl2⟩, ho2, hc2, n2, hd2⟩ := id hb
  simp only at hc hd hc2 hd2
  subst hc hd hc2 hd2
  exact concat_meets ⟨_, ho, rfl⟩ ⟨_, ho2, rfl⟩ noFill_tuple_add seq_tuple_add PySem.F.slot_tuple_add PySem.F.entry_tuple_add (PySem.F.args_tuple_add_2 _ _)
      (tuple_addW0 t b vs.toArray ws.toArray n n2 dd dd2 sl sl2 (by simp [hv])) ⟨ho, ho2, h1⟩
end

/-! ### the operators on data -/
noncomputable def okMul (i j : Int) : Bool := decide ((-(2 ^ 64) < i ∧ i < 2 ^ 64) ∨ (-(2 ^ 64) < j ∧ j < 2 ^ 64) ∨ (i.natAbs.log2 < 3000 ∧ j.natAbs.log2 < 3000))
noncomputable def okDiv (j : Int) : Bool := decide (0 < j ∧ j < 1073741824)
noncomputable def b01 (k : Bool) : Int := if k = true then 1 else 0
noncomputable def addD : PyData → PyData → Option PyData
  | .int i, .int j => some (.int (i + j))
  | .str x, .str y => if okLen (x.length + y.length) = true then some (.str (x ++ y)) else none
  | .tuple xs, .tuple ys => if okLen (xs.length + ys.length) = true then some (.tuple (xs ++ ys)) else none
  | _, _ => none
noncomputable def intOp (g : Int → Int → Option PyData) : PyData → PyData → Option PyData
  | .int i, .int j => g i j
  | _, _ => none
theorem intOp_some {g : Int → Int → Option PyData} {x y d : PyData} (h : intOp g x y = some d) : ∃ i j, x = .int i ∧ y = .int j ∧ g i j = some d := by
  unfold intOp at h
  split at h
  · exact ⟨_, _, rfl, rfl, h⟩
  · cases h
noncomputable def subD : PyData → PyData → Option PyData := intOp fun i j => some (.int (i - j))
noncomputable def mulD : PyData → PyData → Option PyData
  | .int i, .int j => if okMul i j = true then some (.int (i * j)) else none
  | _, _ => none
noncomputable def divD : PyData → PyData → Option PyData := intOp fun i j => if okDiv j = true then some (.int (i / j)) else none
noncomputable def modD : PyData → PyData → Option PyData := intOp fun i j => if decide (0 < j) = true then some (.int (i % j)) else none
noncomputable def okPow (i j : Int) : Bool := decide (0 ≤ j ∧ j ≤ 1000000 ∧ i.natAbs < 2 ^ 64)
noncomputable def powD : PyData → PyData → Option PyData := intOp fun i j => if okPow i j = true then some (.int (i ^ j.toNat)) else none
noncomputable def binD : Operator → PyData → PyData → Option PyData
  | .Add => addD
  | .Sub => subD
  | .Mult => mulD
  | .FloorDiv => divD
  | .Mod => modD
  | .Pow => powD
  | _ => fun _ _ => none
noncomputable def okEq (a b : PyData) : Bool := a.canLay0 && b.canLay0 && decide (min a.depth b.depth ≤ 100)
noncomputable def eqD (a b : PyData) : Option PyData := if okEq a b = true then some (.bool (PyData.eqv a b)) else none
noncomputable def neD (a b : PyData) : Option PyData := if okEq a b = true then some (.bool (!PyData.eqv a b)) else none
noncomputable def ltD : PyData → PyData → Option PyData := intOp fun i j => some (.bool (decide (i < j)))
noncomputable def leD : PyData → PyData → Option PyData := intOp fun i j => some (.bool (decide (i ≤ j)))
noncomputable def gtD : PyData → PyData → Option PyData := intOp fun i j => some (.bool (decide (j < i)))
noncomputable def geD : PyData → PyData → Option PyData := intOp fun i j => some (.bool (decide (j ≤ i)))
noncomputable def inD (a : PyData) : PyData → Option PyData
  | .tuple ys => if (PyData.canLayAll0 ys && a.canLay0 && decide (a.depth ≤ 100)) = true then some (.bool (ys.any fun y => PyData.eqv y a)) else none
  | .list ys => if (PyData.canLayAll0 ys && a.canLay0 && decide (a.depth ≤ 100)) = true then some (.bool (ys.any fun y => PyData.eqv y a)) else none
  | _ => none
noncomputable def notInD : PyData → PyData → Option PyData := fun _ _ => none
noncomputable def isNon : PyData → Bool
  | .none => true
  | _ => false
noncomputable def isD (a : PyData) : PyData → Option PyData
  | .none => some (.bool (isNon a))
  | _ => none
noncomputable def isNotD : PyData → PyData → Option PyData := fun _ _ => none
noncomputable def cmpD : CmpOp → PyData → PyData → Option PyData
  | .Eq => eqD
  | .NotEq => neD
  | .Lt => ltD
  | .LtE => leD
  | .Gt => gtD
  | .GtE => geD
  | .In => inD
  | .NotIn => notInD
  | .Is => isD
  | .IsNot => isNotD

section
variable {X : Cx}
theorem ite_some {α : Type} {c : Prop} [Decidable c] {a d : α} (h : (if c then some a else none) = some d) : c ∧ a = d := by
  split at h
  · rename_i hc; injection h with h; exact ⟨hc, h⟩
  · cases h
theorem i_add : OpR X (binaryOp .Add) (rD X.K X.mg addD) := by
  intro pins s σ H v u vv uu Q I rv ru h
  obtain ⟨x, y, d, bx, bY, hf, q⟩ := h
  cases x with
  | int i =>
    cases y with
    | int j =>
      injection hf with e; subst e
      simp only [Br] at bx bY
      exact op_add pins s σ H v u vv uu Q I rv ru ⟨i, j, bx, bY, q _ H (Same.refl H) (by simp only [Br])⟩
    | _ => cases hf
  | str i =>
    cases y with
    | str j =>
      · obtain ⟨hz, e⟩ := ite_some hf
        subst e
        simp only [Br] at bx bY
        exact op_add_str pins s σ H v u vv uu Q I rv ru ⟨i, j, bx, bY, okLen_size hz, q _ H (Same.refl H) (by simp only [Br])⟩
    | _ => cases hf
  | tuple xs =>
    cases y with
    | tuple ys =>
      · obtain ⟨hz, e⟩ := ite_some hf
        subst e
        simp only [Br] at bx bY
        obtain ⟨a, vs, rfl, ha, hvs⟩ := bx
        obtain ⟨b, ws, rfl, hb, hws⟩ := bY
        by_cases hxs : vs = []
        · cases rv; cases ru
          obtain ⟨its, r1, p1, _⟩ := I.tuple ha
          obtain ⟨its2, r2, p2, _⟩ := I.tuple hb
          refine cat_tup0 p1 p2 (r1.nil_iff.mpr hxs) ⟨.ref b, H, I, rfl, q _ H (Same.refl H) ?_⟩
          subst hxs
          have e0 : xs = [] := List.length_eq_zero_iff.mp (by rw [brs_length xs [] hvs]; rfl)
          subst e0
          simp only [List.nil_append, Br]
          exact ⟨b, ws, rfl, hb, hws⟩
        · refine op_catT pins s σ H _ _ vv uu Q I rv ru ⟨a, b, vs, ws, rfl, rfl, ha, hb, hxs, ?_, fun e => ?_, fun e p hp => ?_⟩
          · rw [← brs_length xs vs hvs, ← brs_length ys ws hws]; exact okLen_size hz
          · subst e
            have e0 : ys = [] := List.length_eq_zero_iff.mp (by rw [brs_length ys [] hws]; rfl)
            subst e0
            refine q _ H (Same.refl H) ?_
            simp only [List.append_nil, Br]
            exact ⟨a, vs, rfl, ha, hvs⟩
          · refine q _ _ (same_new hp _) ?_
            simp only [Br]
            exact ⟨p, vs ++ ws, rfl, SqT.of upd_same, brs_mono (same_new hp _) _ _ (brs_append xs ys vs ws hvs hws)⟩
    | _ => cases hf
  | _ => cases hf
theorem int_op {f : Value → Value → Sem Value} {C : Int → Int → Prop} {g : Int → Int → V} {F : PyData → PyData → Option PyData} (h : OpR X f (rI C g))
    (hF : ∀ x y d, F x y = some d → ∃ i j, x = .int i ∧ y = .int j ∧ C i j ∧ ∀ H, Br X.K X.mg H d (g i j)) : OpR X f (rD X.K X.mg F) := by
  intro pins s σ H v u vv uu Q I rv ru ⟨x, y, d, bx, bY, hf, q⟩
  obtain ⟨i, j, rfl, rfl, c, b⟩ := hF x y d hf
  simp only [Br] at bx bY
  exact h pins s σ H v u vv uu Q I rv ru ⟨i, j, bx, bY, c, q _ H (Same.refl H) (b H)⟩
theorem int_op0 {f : Value → Value → Sem Value} {g : Int → Int → V} {F : PyData → PyData → Option PyData} (h : OpR X f (rI0 g))
    (hF : ∀ x y d, F x y = some d → ∃ i j, x = .int i ∧ y = .int j ∧ ∀ H, Br X.K X.mg H d (g i j)) : OpR X f (rD X.K X.mg F) := by
  intro pins s σ H v u vv uu Q I rv ru ⟨x, y, d, bx, bY, hf, q⟩
  obtain ⟨i, j, rfl, rfl, b⟩ := hF x y d hf
  simp only [Br] at bx bY
  exact h pins s σ H v u vv uu Q I rv ru ⟨i, j, bx, bY, q _ H (Same.refl H) (b H)⟩
theorem i_sub : OpR X (binaryOp .Sub) (rD X.K X.mg subD) := int_op0 op_sub fun x y d h => by
  obtain ⟨i, j, rfl, rfl, e⟩ := intOp_some h
  injection e with e
  subst e
  exact ⟨_, _, rfl, rfl, fun H => by simp only [Br]⟩
theorem i_lt : OpR X (compareOp .Lt) (rD X.K X.mg ltD) := int_op0 op_lt fun x y d h => by
  obtain ⟨i, j, rfl, rfl, e⟩ := intOp_some h
  injection e with e
  subst e
  exact ⟨_, _, rfl, rfl, fun H => by simp only [Br]⟩
theorem i_le : OpR X (compareOp .LtE) (rD X.K X.mg leD) := int_op0 op_le fun x y d h => by
  obtain ⟨i, j, rfl, rfl, e⟩ := intOp_some h
  injection e with e
  subst e
  exact ⟨_, _, rfl, rfl, fun H => by simp only [Br]⟩
theorem i_gt : OpR X (compareOp .Gt) (rD X.K X.mg gtD) := int_op0 op_gt fun x y d h => by
  obtain ⟨i, j, rfl, rfl, e⟩ := intOp_some h
  injection e with e
  subst e
  exact ⟨_, _, rfl, rfl, fun H => by simp only [Br]⟩
theorem i_ge : OpR X (compareOp .GtE) (rD X.K X.mg geD) := int_op0 op_ge fun x y d h => by
  obtain ⟨i, j, rfl, rfl, e⟩ := intOp_some h
  injection e with e
  subst e
  exact ⟨_, _, rfl, rfl, fun H => by simp only [Br]⟩
theorem bits_le {i : Int} (h : i.natAbs.log2 < 3000) : Builtin.Int.intBits i ≤ 3000 := by
  unfold Builtin.Int.intBits
  split <;> omega
theorem okMul_c {i j : Int} (h : okMul i j = true) : IntMulOk i j := by
  unfold okMul at h
  rcases of_decide_eq_true h with h | h | h
  · exact CMul.ok (.inl h)
  · exact CMul.ok (.inr h)
  · have h1 := bits_le h.1
    have h2 := bits_le h.2
    have h3 : 6000 ≤ bitsLine := by decide
    have h4 : ¬ ((Builtin.Int.intBits i : Int) + (Builtin.Int.intBits j : Int) > (bitsLine : Int)) := by omega
    unfold IntMulOk Builtin.Int.intTooBig
    rw [decide_eq_false h4, Bool.and_false]
    exact Bool.false_ne_true
theorem op_mulB : OpR X (binaryOp .Mult) (rI IntMulOk fun i j => .int (i * j)) := opI fun _ _ _ _ _ _ _ hc q => mul_int q hc
theorem okDiv_c {i j : Int} (h : okDiv j = true) : CDiv i j := by unfold okDiv at h; have h' := of_decide_eq_true h; exact h'
theorem i_mul : OpR X (binaryOp .Mult) (rD X.K X.mg mulD) := by
  intro pins s σ H v u vv uu Q I rv ru ⟨x, y, d, bx, bY, hf, q⟩
  cases x with
  | int i =>
    cases y with
    | int j =>
      obtain ⟨hc, e⟩ := ite_some hf
      subst e
      simp only [Br] at bx bY
      exact op_mulB pins s σ H v u vv uu Q I rv ru ⟨i, j, bx, bY, okMul_c hc, q _ H (Same.refl H) (by simp only [Br])⟩
    | _ => cases hf
  | _ => cases hf
theorem i_div : OpR X (binaryOp .FloorDiv) (rD X.K X.mg divD) := int_op op_fdiv fun x y d h => by
  obtain ⟨i, j, rfl, rfl, e⟩ := intOp_some h
  obtain ⟨hc, e⟩ := ite_some e
  subst e
  exact ⟨_, _, rfl, rfl, okDiv_c hc, fun H => by simp only [Br]⟩
theorem i_mod : OpR X (binaryOp .Mod) (rD X.K X.mg modD) := int_op op_mod fun x y d h => by
  obtain ⟨i, j, rfl, rfl, e⟩ := intOp_some h
  obtain ⟨hc, e⟩ := ite_some e
  subst e
  exact ⟨_, _, rfl, rfl, of_decide_eq_true hc, fun H => by simp only [Br]⟩
theorem okPow_c {i j : Int} (h : okPow i j = true) : CPow i j := by unfold okPow at h; have h' := of_decide_eq_true h; exact h'
theorem i_pow : OpR X (binaryOp .Pow) (rD X.K X.mg powD) := int_op op_pow fun x y d h => by
  obtain ⟨i, j, rfl, rfl, e⟩ := intOp_some h
  obtain ⟨hc, e⟩ := ite_some e
  subst e
  exact ⟨_, _, rfl, rfl, okPow_c hc, fun H => by simp only [Br]⟩
theorem none_op {f : Value → Value → Sem Value} : OpR X f (rD X.K X.mg fun _ _ => none) := by
  intro pins s σ H v u vv uu Q I rv ru ⟨x, y, d, bx, bY, hf, q⟩
  cases hf
theorem i_bin (op : Operator) : OpR X (binaryOp op) (rD X.K X.mg (binD op)) := by
  cases op with
  | Add => exact i_add
  | Sub => exact i_sub
  | Mult => exact i_mul
  | FloorDiv => exact i_div
  | Mod => exact i_mod
  | Pow => exact i_pow
  | _ => exact none_op
theorem okEq_parts {a b : PyData} (h : okEq a b = true) : a.canLay0 = true ∧ b.canLay0 = true ∧ min a.depth b.depth ≤ 100 := by
  unfold okEq at h
  rw [Bool.and_eq_true, Bool.and_eq_true] at h
  exact ⟨h.1.1, h.1.2, of_decide_eq_true h.2⟩
theorem i_eq (hu : X.A.units + 110 < cLine) : OpR X (compareOp .Eq) (rD X.K X.mg eqD) := by
  intro pins s σ H v u vv uu Q I rv ru ⟨x, y, d, bx, bY, hf, q⟩
  obtain ⟨hc, e⟩ := ite_some hf
  subst e
  obtain ⟨h1, h2, h3⟩ := okEq_parts hc
  obtain ⟨as, r1⟩ := reads_of I x v vv h1 bx rv
  obtain ⟨bs, r2⟩ := reads_of I y u uu h2 bY ru
  exact PySem.SeqAt.compareEq_reads r1 r2 h1 h2 (by omega) ⟨.bl _, H, I, rfl, q _ H (Same.refl H) (by simp only [Br])⟩
theorem i_ne (hu : X.A.units + 110 < cLine) : OpR X (compareOp .NotEq) (rD X.K X.mg neD) := by
  intro pins s σ H v u vv uu Q I rv ru ⟨x, y, d, bx, bY, hf, q⟩
  obtain ⟨hc, e⟩ := ite_some hf
  subst e
  obtain ⟨h1, h2, h3⟩ := okEq_parts hc
  obtain ⟨as, r1⟩ := reads_of I x v vv h1 bx rv
  obtain ⟨bs, r2⟩ := reads_of I y u uu h2 bY ru
  exact PySem.SeqAt.compareNe_reads r1 r2 h1 h2 (by omega) ⟨.bl _, H, I, rfl, q _ H (Same.refl H) (by simp only [Br])⟩
end
end PL

set_option Elab.async false
set_option linter.all false
set_option maxRecDepth 100000
namespace PL
open PySem PySem.Spec PyProof.Rows L2
section
variable {X : Cx}
open Classical in
theorem any_reads {h : Heap} {x : PyData} : ∀ (ys : List PyData) (us : List Value) (as : List Addr), PyData.canLayAll0 ys = true → ReadsAll h us ys as →
    us.any (fun u => decide (∃ d as, d.canLay0 = true ∧ Reads h u d as ∧ PyData.eqv d x = true)) = ys.any (fun y => PyData.eqv y x) ∧
    ∀ u ∈ us, ∃ d as, d.canLay0 = true ∧ Reads h u d as ∧ (decide (∃ d as, d.canLay0 = true ∧ Reads h u d as ∧ PyData.eqv d x = true)) = PyData.eqv d x
  | [], us, as, c, r => by cases r; simp
  | y :: ys, us, as, c, r => by
    have c' : y.canLay0 = true ∧ PyData.canLayAll0 ys = true := by simpa [PyData.canLayAll0] using c
    cases r with
    | @cons v vs _ _ as bs r1 r2 =>
      obtain ⟨ih1, ih2⟩ := any_reads ys vs bs c'.2 r2
      have key : (decide (∃ d as, d.canLay0 = true ∧ Reads h v d as ∧ PyData.eqv d x = true)) = PyData.eqv y x := by
        by_cases e : PyData.eqv y x = true
        · rw [e]; exact decide_eq_true ⟨y, as, c'.1, r1, e⟩
        · rw [Bool.eq_false_iff.mpr e]
          refine decide_eq_false fun ⟨d, as', cd, rd, ed⟩ => ?_
          have := PySem.SeqAt.Reads.unique d y v as' as cd rd r1
          rw [this] at ed
          exact e ed
      refine ⟨?_, fun u hu => ?_⟩
      · rw [List.any_cons, List.any_cons, key, ih1]
      · rcases List.mem_cons.mp hu with rfl | hu
        · exact ⟨y, as, c'.1, r1, key⟩
        · exact ih2 u hu
open Classical in
theorem in_core {neg : Bool} (hu : X.A.units + 110 < cLine) {op : CmpOp} (hop : op = if neg then .NotIn else .In) {F : PyData → PyData → Option PyData} (hF : ∀ a b d, F a b = some d → ∃ ys, (b = .tuple ys ∨ b = .list ys) ∧ PyData.canLayAll0 ys = true ∧ a.canLay0 = true ∧ a.depth ≤ 100 ∧ d = .bool (if neg then !(ys.any fun y => PyData.eqv y a) else ys.any fun y => PyData.eqv y a)) :
    OpR X (compareOp op) (rD X.K X.mg F) := by
  intro pins s σ H v u vv uu Q I rv ru ⟨x, y, d, bx, bY, hf, q⟩
  obtain ⟨ys, hb, c1, c2, c3, rfl⟩ := hF x y d hf
  obtain ⟨as, r1⟩ := reads_of I x v vv c2 bx rv
  have eqs : ∀ (us : List Value) (bs : List Addr), ReadsAll s.heap us ys bs → ∀ z, z ∈ us.toArray → PySem.SeqAt.EqAt X.A.in1 s z vv (decide (∃ d as, d.canLay0 = true ∧ Reads s.heap z d as ∧ PyData.eqv d x = true)) := fun us bs r z hz => by
    obtain ⟨_, h2⟩ := any_reads (x := x) ys us bs c1 r
    obtain ⟨d, as', cd, rd, ed⟩ := h2 z (by simpa using hz)
    rw [ed]
    refine PySem.SeqAt.eqAt_reads d x X.A.in1 s z vv as' as rd r1 cd c2 ?_
    show X.A.units + 1 + min d.depth x.depth < cLine
    have : min d.depth x.depth ≤ x.depth := Nat.min_le_right _ _
    omega
  rcases hb with rfl | rfl
  · simp only [Br] at bY
    obtain ⟨a, ws, rfl, ha, hws⟩ := bY
    cases ru
    obtain ⟨its, r2, p, _⟩ := I.tuple ha
    obtain ⟨bs, r3⟩ := readsAll_of I ys ws its c1 hws r2
    have k := (any_reads (x := x) ys its bs c1 r3).1
    have k' : its.toArray.any (fun u => decide (∃ d as, d.canLay0 = true ∧ Reads s.heap u d as ∧ PyData.eqv d x = true)) = ys.any (fun y => PyData.eqv y x) := by rw [← k]; simp
    cases neg with
    | true =>
      subst hop
      refine PySem.SeqAt.notIn_tupleAt _ p (eqs its bs r3) ?_
      rw [k']
      exact ⟨.bl _, H, I, rfl, q _ H (Same.refl H) (by simp [Br])⟩
    | false =>
      subst hop
      refine PySem.SeqAt.in_tupleAt _ p (eqs its bs r3) ?_
      rw [k']
      exact ⟨.bl _, H, I, rfl, q _ H (Same.refl H) (by simp [Br])⟩
  · simp only [Br] at bY
    obtain ⟨a, ws, rfl, ha, hws⟩ := bY
    cases ru
    obtain ⟨its, r2, p, _⟩ := I.list ha
    obtain ⟨bs, r3⟩ := readsAll_of I ys ws its c1 hws r2
    have k := (any_reads (x := x) ys its bs c1 r3).1
    have k' : its.toArray.any (fun u => decide (∃ d as, d.canLay0 = true ∧ Reads s.heap u d as ∧ PyData.eqv d x = true)) = ys.any (fun y => PyData.eqv y x) := by rw [← k]; simp
    cases neg with
    | true =>
      subst hop
      refine PySem.SeqAt.notIn_listAt _ p.isList (eqs its bs r3) ?_
      rw [k']
      exact ⟨.bl _, H, I, rfl, q _ H (Same.refl H) (by simp [Br])⟩
    | false =>
      subst hop
      refine PySem.SeqAt.in_listAt _ p.isList (eqs its bs r3) ?_
      rw [k']
      exact ⟨.bl _, H, I, rfl, q _ H (Same.refl H) (by simp [Br])⟩
theorem inD_some (a b d : PyData) (h : inD a b = some d) : ∃ ys, (b = .tuple ys ∨ b = .list ys) ∧ PyData.canLayAll0 ys = true ∧ a.canLay0 = true ∧ a.depth ≤ 100 ∧ d = .bool (ys.any fun y => PyData.eqv y a) := by
  have key : ∀ ys, (if (PyData.canLayAll0 ys && a.canLay0 && decide (a.depth ≤ 100)) = true then some (PyData.bool (ys.any fun y => PyData.eqv y a)) else none) = some d →
      PyData.canLayAll0 ys = true ∧ a.canLay0 = true ∧ a.depth ≤ 100 ∧ d = .bool (ys.any fun y => PyData.eqv y a) := fun ys h => by
    obtain ⟨c, e⟩ := ite_some h
    rw [Bool.and_eq_true, Bool.and_eq_true] at c
    exact ⟨c.1.1, c.1.2, of_decide_eq_true c.2, e.symm⟩
  cases b with
  | tuple ys => exact ⟨ys, .inl rfl, key ys h⟩
  | list ys => exact ⟨ys, .inr rfl, key ys h⟩
  | _ => cases h
theorem i_in (hu : X.A.units + 110 < cLine) : OpR X (compareOp .In) (rD X.K X.mg inD) := in_core (neg := false) hu rfl fun a b d h => inD_some a b d h
theorem i_notIn (hu : X.A.units + 110 < cLine) : OpR X (compareOp .NotIn) (rD X.K X.mg notInD) := none_op
theorem br_non {K : PySem.W.Frag} {mg : Str → Option Value} {H : Hp} {d : PyData} {v : V} (b : Br K mg H d v) : decide (v = .non) = isNon d := by
  cases d with
  | none => simp only [Br] at b; subst b; rfl
  | bool k => simp only [Br] at b; subst b; rfl
  | int k => simp only [Br] at b; subst b; rfl
  | str k => simp only [Br] at b; subst b; rfl
  | list ds => simp only [Br] at b; obtain ⟨a, vs, rfl, _⟩ := b; rfl
  | tuple ds => simp only [Br] at b; obtain ⟨a, vs, rfl, _⟩ := b; rfl
  | dict kvs =>
    simp only [Br] at b
    rcases b with ⟨a, f, _, rfl, _⟩ | ⟨c, a, C, _, rfl, _⟩
    · rfl
    · rfl
theorem i_is : OpR X (compareOp .Is) (rD X.K X.mg isD) := by
  intro pins s σ H v u vv uu Q I rv ru ⟨x, y, d, bx, bY, hf, q⟩
  cases y with
  | none =>
    have hf : some (PyData.bool (isNon x)) = some d := hf
    injection hf with e; subst e
    simp only [Br] at bY
    exact op_isN pins s σ H v u vv uu Q I rv ru ⟨bY, q _ H (Same.refl H) (by rw [br_non bx]; simp only [Br])⟩
  | _ => cases hf
theorem i_isNot : OpR X (compareOp .IsNot) (rD X.K X.mg isNotD) := none_op
theorem i_cmp (hu : X.A.units + 110 < cLine) (op : CmpOp) : OpR X (compareOp op) (rD X.K X.mg (cmpD op)) := by
  cases op with
  | Eq => exact i_eq hu
  | NotEq => exact i_ne hu
  | Lt => exact i_lt
  | LtE => exact i_le
  | Gt => exact i_gt
  | GtE => exact i_ge
  | In => exact i_in hu
  | NotIn => exact i_notIn hu
  | Is => exact i_is
  | IsNot => exact i_isNot

/-! ### -x -/
noncomputable def negD : PyData → Option PyData
  | .int i => some (.int (-i))
  | _ => none
theorem i_neg : UnR X (unaryOp .USub) (rDU X.K X.mg negD) := by
  intro pins s σ H v vv Q I rv ⟨x, d, bx, hf, q⟩
  cases x with
  | int i =>
    injection hf with e; subst e
    simp only [Br] at bx
    exact un_neg pins s σ H v vv Q I rv ⟨i, bx, q _ H (Same.refl H) (by simp only [Br])⟩
  | _ => cases hf
noncomputable def un1 (f : PyData → Option PyData) (ga : Rho → Option PyData) (r : Rho) : Option PyData := match ga r with
  | some x => f x
  | none => none
theorem un1_some {f : PyData → Option PyData} {ga : Rho → Option PyData} {r : Rho} {d : PyData} (h : un1 f ga r = some d) : ∃ x, ga r = some x ∧ f x = some d := by
  unfold un1 at h
  cases ha : ga r with
  | none => rw [ha] at h; cases h
  | some x => rw [ha] at h; exact ⟨x, rfl, h⟩
theorem e_neg {a : Expr} {pos : Pos} {ga : Rho → Option PyData} (ha : E1 X a ga) : E1 X (.UnaryOp .USub a pos) (un1 negD ga) :=
  pe_imp (pe_un i_neg ha) fun σ H Q ⟨r, d, env, hg, q⟩ => by
    obtain ⟨x, h1, h2⟩ := un1_some hg
    exact ⟨r, x, env, h1, fun v H1 s1 b1 => ⟨x, d, b1, h2, fun w H' s2 b2 => q w H' (s1.trans s2) b2⟩⟩

/-! ### built-in calls -/
noncomputable def lenD : List PyData → Option PyData
  | [.list xs] => some (.int xs.length)
  | [.tuple xs] => some (.int xs.length)
  | [.str x] => if okLen x.length = true then some (.int x.length) else none
  | _ => none
theorem brs1 {K : PySem.W.Frag} {mg : Str → Option Value} {H : Hp} {d : PyData} {vs : List V} (b : Brs K mg H [d] vs) : ∃ v, vs = [v] ∧ Br K mg H d v := by
  simp only [Brs] at b
  obtain ⟨v, r, rfl, b1, rfl⟩ := b
  exact ⟨v, rfl, b1⟩
theorem brs2 {K : PySem.W.Frag} {mg : Str → Option Value} {H : Hp} {d e : PyData} {vs : List V} (b : Brs K mg H [d, e] vs) : ∃ v w, vs = [v, w] ∧ Br K mg H d v ∧ Br K mg H e w := by
  simp only [Brs] at b
  obtain ⟨v, r, rfl, b1, w, r', rfl, b2, rfl⟩ := b
  exact ⟨v, w, rfl, b1, b2⟩
theorem c_len : CallR X (.builtin "len") (rDC X.K X.mg lenD) := by
  intro pins s σ H vs us Q I r ⟨xs, d, bs, hf, q⟩
  unfold lenD at hf
  split at hf
  · injection hf with e; subst e
    obtain ⟨v, rfl, b⟩ := brs1 bs
    simp only [Br] at b
    obtain ⟨a, ws, rfl, h1, h2⟩ := b
    refine call_len_seq pins s σ H _ us Q I r ⟨a, ws, rfl, .inl h1, ?_⟩
    rw [← brs_length _ ws h2]
    exact q _ H (Same.refl H) (by simp only [Br])
  · injection hf with e; subst e
    obtain ⟨v, rfl, b⟩ := brs1 bs
    simp only [Br] at b
    obtain ⟨a, ws, rfl, h1, h2⟩ := b
    refine call_len_seq pins s σ H _ us Q I r ⟨a, ws, rfl, .inr h1, ?_⟩
    rw [← brs_length _ ws h2]
    exact q _ H (Same.refl H) (by simp only [Br])
  · obtain ⟨hz, e⟩ := ite_some hf
    subst e
    obtain ⟨v, rfl, b⟩ := brs1 bs
    simp only [Br] at b
    subst b
    exact call_len_str pins s σ H _ us Q I r ⟨_, rfl, okLen_size hz, q _ H (Same.refl H) (by simp only [Br])⟩
  · cases hf
noncomputable def minD : List PyData → Option PyData
  | [.int i, .int j] => some (.int (if j < i then j else i))
  | _ => none
theorem c_min (hc : X.calm = true) : CallR X (.builtin "min") (rDC X.K X.mg minD) := by
  intro pins s σ H vs us Q I r ⟨xs, d, bs, hf, q⟩
  unfold minD at hf
  split at hf
  · injection hf with e; subst e
    obtain ⟨v, w, rfl, b1, b2⟩ := brs2 bs
    simp only [Br] at b1 b2
    subst b1 b2
    exact call_min2 hc pins s σ H _ us Q I r ⟨_, _, rfl, q _ H (Same.refl H) (by simp only [Br])⟩
  · cases hf
theorem ite_some' {α : Type} {c : Prop} [Decidable c] {x : Option α} {d : α} (h : (if c then x else none) = some d) : c ∧ x = some d := by
  by_cases hc : c
  · rw [if_pos hc] at h; exact ⟨hc, h⟩
  · rw [if_neg hc] at h; cases h
noncomputable def intD : List PyData → Option PyData
  | [.bool k] => some (.int (if k then 1 else 0))
  | [.str x] => if decide (x.length ≤ 640) = true then (match PySem.intText? x with
    | some n => some (.int n)
    | none => none) else none
  | _ => none
theorem c_int : CallR X (.type "int") (rDC X.K X.mg intD) := by
  intro pins s σ H vs us Q I r ⟨xs, d, bs, hf, q⟩
  unfold intD at hf
  split at hf
  · injection hf with e; subst e
    obtain ⟨v, rfl, b⟩ := brs1 bs
    simp only [Br] at b; subst b
    exact call_int1 pins s σ H _ us Q I r (.inr ⟨_, rfl, q _ H (Same.refl H) (by simp only [Br])⟩)
  · obtain ⟨hz, e⟩ := ite_some' hf
    split at e
    · rename_i n hn
      injection e with e; subst e
      obtain ⟨v, rfl, b⟩ := brs1 bs
      simp only [Br] at b; subst b
      obtain ⟨u, rfl, t, rfl⟩ := vals1 r
      exact PySem.W.KIN.call_text hn (of_decide_eq_true hz) ⟨.int _, H, I.tok _, ⟨_, rfl⟩, q _ H (Same.refl H) (by simp only [Br])⟩
    · cases e
  · cases hf
noncomputable def strD : List PyData → Option PyData
  | [.int i] => if decide (i.natAbs.log2 < 1920) = true then some (.str (toString i)) else none
  | _ => none
theorem c_str : CallR X (.type "str") (rDC X.K X.mg strD) := by
  intro pins s σ H vs us Q I r ⟨xs, d, bs, hf, q⟩
  unfold strD at hf
  split at hf
  · obtain ⟨hz, e⟩ := ite_some hf
    subst e
    obtain ⟨v, rfl, b⟩ := brs1 bs
    simp only [Br] at b; subst b
    exact call_str_int pins s σ H _ us Q I r ⟨_, rfl, of_decide_eq_true hz, q _ H (Same.refl H) (by simp only [Br])⟩
  · cases hf
noncomputable def tupleD : List PyData → Option PyData
  | [.list xs] => some (.tuple xs)
  | [.tuple xs] => some (.tuple xs)
  | _ => none
theorem c_tuple : CallR X (.type "tuple") (rDC X.K X.mg tupleD) := by
  intro pins s σ H vs us Q I r ⟨xs, d, bs, hf, q⟩
  unfold tupleD at hf
  split at hf
  · injection hf with e; subst e
    obtain ⟨v, rfl, b⟩ := brs1 bs
    simp only [Br] at b
    obtain ⟨a, ws, rfl, h1, h2⟩ := b
    refine call_tuple_of pins s σ H _ us Q I r ⟨a, ws, rfl, .inl ⟨h1, fun l hl => q _ _ (same_new hl _) ?_⟩⟩
    simp only [Br]
    exact ⟨l, ws, rfl, SqT.of upd_same, brs_mono (same_new hl _) _ _ h2⟩
  · injection hf with e; subst e
    obtain ⟨v, rfl, b⟩ := brs1 bs
    have b' := b
    simp only [Br] at b
    obtain ⟨a, ws, rfl, h1, h2⟩ := b
    exact call_tuple_of pins s σ H _ us Q I r ⟨a, ws, rfl, .inr ⟨h1, q _ _ (Same.refl H) b'⟩⟩
  · cases hf
/-- the built-ins, by name: the function or the kind that is called -/
inductive Bl where
  | len | min | int | str
  deriving DecidableEq
noncomputable def Bl.name : Bl → Str
  | .len => "len" | .min => "min" | .int => "int" | .str => "str"
noncomputable def Bl.fn : Bl → List PyData → Option PyData
  | .len => lenD | .min => minD | .int => intD | .str => strD
theorem e_blt (b : Bl) (hc : X.calm = true) {p pos : Pos} {e : Expr} {es : List Expr} {g : Rho → Option (List PyData)} (hg : Gl X b.name) (hm : X.mg b.name = none) (ha : A1 X (e :: es) g)
    (he : starEach (e :: es) X.env = (false, eval e X.env) :: starEach es X.env) (hpl : (backTo pos (starEach es X.env)).any (·.1) = false) : E1 X (.Call (.Name b.name p) (e :: es) [] pos) (appD b.fn g) := by
  cases b with
  | len => exact pe_imp (pe_callB c_len hg hm PySem.boot_len ha (by decide) (by decide) he hpl) tCB_of
  | min => exact pe_imp (pe_callB (c_min hc) hg hm (by decide +kernel) ha (by decide) (by decide) he hpl) tCB_of
  | int => exact pe_imp (pe_callTy c_int hg hm (by decide +kernel) ha (by decide) (by decide) he hpl) tCB_of
  | str => exact pe_imp (pe_callTy c_str hg hm (by decide +kernel) ha (by decide) (by decide) he hpl) tCB_of
end
end PL

set_option Elab.async false
set_option linter.all false
set_option maxRecDepth 100000
namespace PL
open PySem PySem.Spec PyProof.Rows L2
/-! ### isinstance -/
inductive Ty where
  | tuple | int | bool | str | list
  deriving DecidableEq
noncomputable def Ty.s : Ty → String
  | .tuple => "tuple" | .int => "int" | .bool => "bool" | .str => "str" | .list => "list"
noncomputable def Ty.name : Ty → Str
  | .tuple => "tuple" | .int => "int" | .bool => "bool" | .str => "str" | .list => "list"
noncomputable def tyIs (T : Ty) : PyData → Option Bool
  | .none => some false
  | .bool _ => some (match T with | .bool => true | .int => true | _ => false)
  | .int _ => some (match T with | .int => true | _ => false)
  | .str _ => some (match T with | .str => true | _ => false)
  | .list _ => some (match T with | .list => true | _ => false)
  | .tuple _ => some (match T with | .tuple => true | _ => false)
  | .dict _ => none
noncomputable def isinD (T : Ty) (d : PyData) : Option PyData := match tyIs T d with
  | some k => some (.bool k)
  | none => none
section
variable {X : Cx}
theorem c_isin (T : Ty) {pins : List (Addr × Obj)} {s : Shared} {σ : L2.St} {H : Hp} {x : PyData} {v : V} {u : Value} {Q : VK} {d : PyData} (I : Inv X pins σ H s) (b : Br X.K X.mg H x v) (r : RelV v u) (hf : isinD T x = some d) (q : ∀ w, Br X.K X.mg H d w → Q w H) :
    wpAny (model X.prog X.w) X.A (call (.builtin "isinstance") [u, .type T.s]) (EP X pins σ Q) X.xe s := by
  have fin : ∀ (k : Bool), d = .bool k → ∀ tk, EP X pins σ Q (.bool k) { s with toks := tk } := fun k e tk => by
    subst e
    exact ⟨.bl k, H, I.tok tk, rfl, q _ (by simp only [Br])⟩
  unfold isinD at hf
  cases x with
  | none =>
    simp only [Br] at b; subst b; cases r
    injection hf with e
    cases T <;> exact PySem.W.kia_one PySem.W.kitx_none I.kIn True.intro (by rfl) (fun z => nomatch z) (fin _ e.symm)
  | bool k =>
    simp only [Br] at b; subst b; cases r
    injection hf with e
    cases T <;> exact PySem.W.kia_one PySem.W.kitx_bool I.kIn True.intro (by rfl) (fun z => nomatch z) (fin _ e.symm)
  | int i =>
    simp only [Br] at b; subst b; obtain ⟨t, rfl⟩ := r
    injection hf with e
    cases T <;> exact PySem.W.kia_one PySem.W.kitx_int I.kIn True.intro (by rfl) (fun z => nomatch z) (fin _ e.symm)
  | str i =>
    simp only [Br] at b; subst b; obtain ⟨t, rfl⟩ := r
    injection hf with e
    cases T <;> exact PySem.W.kia_one PySem.W.kitx_str I.kIn True.intro (by rfl) (fun z => nomatch z) (fin _ e.symm)
  | list xs =>
    simp only [Br] at b
    obtain ⟨a, vs, rfl, h1, h2⟩ := b
    cases r
    obtain ⟨its, rv, ⟨o, n, e1, e2, e3, e4⟩, hz⟩ := I.list h1
    injection hf with e
    cases T <;> exact PySem.W.kia_one PySem.W.kitx_list I.kIn ⟨o, e1, e2⟩ (by rfl) (fun z => nomatch z) (fin _ e.symm)
  | tuple xs =>
    simp only [Br] at b
    obtain ⟨a, vs, rfl, h1, h2⟩ := b
    cases r
    obtain ⟨its, rv, ⟨o, e1, e2, n, e4⟩, hz⟩ := I.tuple h1
    injection hf with e
    cases T <;> exact PySem.W.kia_one PySem.W.kitx_tuple I.kIn ⟨o, e1, e2⟩ (by rfl) (fun z => nomatch z) (fin _ e.symm)
  | dict kvs => cases hf
theorem boot_ty (T : Ty) : bootBuiltins T.name = some (.type T.s) := by cases T <;> decide +kernel
theorem ty_nm (T : Ty) : T.name ≠ "__name__" ∧ (T.name == ("__debug__" : Str)) = false := by cases T <;> decide +kernel
theorem e_isin (T : Ty) {p p2 pos : Pos} {a : Expr} {g : Rho → Option PyData} (hg : Gl X "isinstance") (hm : X.mg "isinstance" = none) (hg2 : Gl X T.name) (hm2 : X.mg T.name = none) (ha : E1 X a g)
    (he : starEach [a, .Name T.name p2] X.env = (false, eval a X.env) :: starEach [.Name T.name p2] X.env) : E1 X (.Call (.Name "isinstance" p) [a, .Name T.name p2] [] pos) (un1 (isinD T) g) := by
  have hT : PE X (.Name T.name p2) (tC (.ty T.s)) := pe_bltn hg2 hm2 (boot_ty T) rfl (ty_nm T).1 (ty_nm T).2
  have hA : PA X [a, .Name T.name p2] (tCons (tP X.K X.mg g) (tCons (tC (.ty T.s)) tNil)) := pa_cons ha (pa_cons hT pa_nil rfl) he
  have hC : CallR X (.builtin "isinstance") (fun vs H Q => ∃ x d v, Br X.K X.mg H x v ∧ vs = [v, .ty T.s] ∧ isinD T x = some d ∧ ∀ w, Br X.K X.mg H d w → Q w H) := by
    intro pins s σ H vs us Q I r ⟨x, d, v, b, e, hf, q⟩
    subst e
    obtain ⟨u, u2, rfl, r1, r2⟩ := vals2 r
    cases r2
    exact c_isin T I b r1 hf q
  refine pe_imp (pe_callB hC hg hm (by decide +kernel) hA (by decide) (by decide) he rfl) fun σ H Q ⟨r, d, env, hgr, q⟩ => ?_
  obtain ⟨x, h1, h2⟩ := un1_some hgr
  exact ⟨r, x, env, h1, fun v H1 s1 b1 => ⟨x, d, v, b1, rfl, h2, fun w bw => q w H1 s1 bw⟩⟩

/-! ### indexing -/
noncomputable def ixD : PyData → PyData → Option PyData
  | .list xs, .int i => atI xs i
  | .tuple xs, .int i => atI xs i
  | .str x, .int i => if okLen x.length = true then (match atI x.cps.toList i with | some c => some (.str ⟨#[c]⟩) | none => none) else none
  | _, _ => none
theorem atI_brs {K : PySem.W.Frag} {mg : Str → Option Value} {H : Hp} {xs : List PyData} {vs : List V} {i : Int} {d : PyData} (b : Brs K mg H xs vs) (h : atI xs i = some d) : ∃ v, atI vs i = some v ∧ Br K mg H d v := by
  unfold atI at h ⊢
  rw [← brs_length xs vs b]
  cases e : ixN xs.length i with
  | none => rw [e] at h; cases h
  | some j =>
    rw [e] at h
    exact brs_get xs vs j d b h
theorem i_ix : IxR X (rD X.K X.mg ixD) := by
  intro value slice pins s σ H v u vv uu Q I rv ru ⟨x, y, d, bx, bY, hf, q⟩ hs
  cases y with
  | int i =>
    simp only [Br] at bY; subst bY
    cases x with
    | list xs =>
      simp only [Br] at bx
      obtain ⟨a, vs, rfl, h1, h2⟩ := bx
      obtain ⟨w, e1, b1⟩ := atI_brs h2 hf
      exact ix_list value slice pins s σ H _ _ vv uu Q I rv ru ⟨a, vs, i, w, rfl, rfl, h1, e1, q w H (Same.refl H) b1⟩ hs
    | tuple xs =>
      simp only [Br] at bx
      obtain ⟨a, vs, rfl, h1, h2⟩ := bx
      obtain ⟨w, e1, b1⟩ := atI_brs h2 hf
      exact ix_tup value slice pins s σ H _ _ vv uu Q I rv ru ⟨a, vs, i, w, rfl, rfl, h1, e1, q w H (Same.refl H) b1⟩ hs
    | str z =>
      simp only [Br] at bx; subst bx
      simp only [ixD] at hf
      split at hf
      · rename_i hz
        split at hf
        · rename_i c ec
          injection hf with e; subst e
          exact ix_str value slice pins s σ H _ _ vv uu Q I rv ru ⟨z, i, c, rfl, rfl, okLen_size hz, ec, q _ H (Same.refl H) (by simp only [Br])⟩ hs
        · cases hf
      · cases hf
    | _ => cases hf
  | _ => cases x <;> cases hf
theorem e_ix {a b : Expr} {pos : Pos} {ga gb : Rho → Option PyData} (ha : E1 X a ga) (hb : E1 X b gb) (hs : PlainIx b) : E1 X (.Subscript a b pos) (bin2 ixD ga gb) := pe_imp (pe_ix i_ix ha hb hs) tOp_of

/-! ### slices -/
noncomputable def partD : PyData → Option (Option Int)
  | .none => some none
  | .int i => some (some i)
  | _ => none
noncomputable def tPO (K : PySem.W.Frag) (mg : Str → Option Value) (g : Rho → Option PyData) : TO := fun σ H Q => ∃ r x o, EnvOk K mg H r σ ∧ g r = some x ∧ partD x = some o ∧ ∀ H', Same H H' → Q o H'
noncomputable abbrev O1 (X : Cx) (e : Option Expr) (g : Rho → Option PyData) : Prop := PO X e (tPO X.K X.mg g)
theorem o_none : O1 X none (fun _ => some .none) := fun pins s σ H Q I ⟨r, x, o, env, hg, hp, q⟩ => by
  injection hg with e; subst e
  injection hp with e; subst e
  exact po_none pins s σ H Q I (q H (Same.refl H))
noncomputable def intOnly (g : Rho → Option PyData) (r : Rho) : Option PyData := match g r with
  | some (.int i) => some (.int i)
  | _ => none
theorem o_some {e : Expr} {g : Rho → Option PyData} (h : E1 X e g) : O1 X (some e) (intOnly g) := fun pins s σ H Q I ⟨r, x, o, env, hg, hp, q⟩ => by
  unfold intOnly at hg
  split at hg
  · rename_i i e1
    injection hg with e; subst e
    injection hp with e; subst e
    refine po_some h pins s σ H Q I ⟨r, _, env, e1, fun v H1 s1 b1 => ?_⟩
    simp only [Br] at b1
    exact ⟨i, b1, q H1 s1⟩
  · cases hg
/-- t[::-1] -/
noncomputable def revD : PyData → Option PyData
  | .tuple xs => some (.tuple xs.reverse)
  | _ => none
end
end PL

set_option Elab.async false
set_option linter.all false
set_option maxRecDepth 100000
namespace PL
open PySem PySem.Spec PyProof.Rows L2
noncomputable abbrev Orc := Str → List PyData → Option PyData
structure Sg where
  N : List Str
  sc : List (Str × NameKind)
  fs : List Str
  xs : List Str

noncomputable def visB (sc : List (Str × NameKind)) (x : Str) : Bool := match sc.lookup x with
  | some .local => true
  | some .cell => true
  | some .free => true
  | _ => false
noncomputable def locB (sc : List (Str × NameKind)) (x : Str) : Bool := match sc.lookup x with
  | some .local => true
  | some .cell => true
  | _ => false
noncomputable def glB (sc : List (Str × NameKind)) (x : Str) : Bool := decide (sc.lookup x = some .globalImplicit)
noncomputable def nmB (x : Str) : Bool := !(x == ("__debug__" : Str)) && !(x == ("__classdict__" : Str))
noncomputable def all2 {α β : Type} (f : α → β → Bool) : List α → List β → Bool
  | [], [] => true
  | a :: as, b :: bs => f a b && all2 f as bs
  | _, _ => false
noncomputable def chkC : PyData → Const → Bool
  | .int i, .int j => decide (i = j)
  | .bool i, .bool j => decide (i = j)
  | .none, .none => true
  | .str x, .str y => decide (x = y)
  | _, _ => false

noncomputable def okHead : Expr → Bool
  | .Constant _ _ _ => true
  | .Name _ _ => true
  | .BinOp _ _ _ _ => true
  | .Compare _ _ _ _ => true
  | .BoolOp _ _ _ => true
  | .UnaryOp _ _ _ => true
  | .IfExp _ _ _ _ => true
  | .Tuple _ _ _ => true
  | .List _ _ => true
  | .Call _ _ _ _ => true
  | .Subscript _ _ _ => true
  | .ListComp _ _ _ _ => true
  | .JoinedStr _ _ => true
  | _ => false
noncomputable def notComp : Expr → Bool
  | .ListComp _ _ _ _ => false
  | _ => true
theorem star_ok {e : Expr} {es : List Expr} {env : Env} (h : okHead e = true) : starEach (e :: es) env = (false, eval e env) :: starEach es env := by
  cases e <;> first | rfl | (exact absurd h Bool.false_ne_true)
theorem marks_ok {op : CmpOp} {b : Expr} (h : okHead b = true) : behindInMarks op b = false := by
  cases b <;> first | rfl | (exact absurd h Bool.false_ne_true)
theorem plainIx_ok {b : Expr} (h : okHead b = true) : PlainIx b := by
  cases b <;> first | (intro o i; rfl) | (exact absurd h Bool.false_ne_true)
theorem stars_ok {pos : Pos} {env : Env} : ∀ {es : List Expr}, (∀ e ∈ es, okHead e = true) → (backTo pos (starEach es env)).any (·.1) = false
  | [], _ => rfl
  | e :: es, h => by
    rw [star_ok (h e List.mem_cons_self)]
    show (false || (backTo pos (starEach es env)).any (·.1)) = false
    rw [stars_ok fun e' he => h e' (List.mem_cons_of_mem _ he)]
    rfl
theorem swaps_ok {e : Expr} {t : Option Expr} {l : Nat} {env : Env} (h : okHead e = true) (h2 : notComp e = true) : swapsWith e t l env = pure false := by
  cases e <;> first | rfl | exact absurd (show false = true from h2) Bool.false_ne_true | exact absurd (show false = true from h) Bool.false_ne_true
theorem folded_ok {e : Expr} {env : Env} (h : okHead e = true) (x : Value) : foldedSetIterable e env x = pure x := by
  cases e <;> first | rfl | (exact absurd h Bool.false_ne_true)

/-- a def of the table, as it stands in this context -/
structure FOk (X : Cx) (k : Nat) (C : Orc) (f : Str) : Prop where
  ex : ∃ (fa : Addr) (fd : FuncData) (ps : List Str), X.mg f = some (.ref fa) ∧ PySem.W.keepIn X.K (.ref fa) = true ∧ Binds X.K fd ps [] ∧
    FnOk X.prog X.w X.K X.mg X.base CX0 k fa fd ps (spP X.K X.mg ps.length (C f)) ∧ ∀ ds d, C f ds = some d → ds.length = ps.length

noncomputable def bltNames : List Str := ["len", "min", "max", "int", "str", "list", "tuple", "isinstance", "bool", "range", "ValueError", "reversed", "enumerate", "sorted", "set", "sum", "abs", "ord"]

structure Hx (X : Cx) (S : Sg) (k : Nat) (C : Orc) : Prop where
  hN : X.N = S.N
  hsc : X.env.scope.names = S.sc
  fns : ∀ f, S.fs.contains f = true → FOk X k C f
  blt : ∀ x ∈ bltNames, X.mg x = none
  room : Room k X.A
  room1 : Room k X.A.in1
  calm : X.calm = true

section
variable {X : Cx} {S : Sg} {k : Nat} {C : Orc}
theorem Hx.vis (h : Hx X S k C) {x : Str} (e : visB S.sc x = true) : Vis X.env.scope x := by
  unfold Vis
  rw [h.hsc]
  unfold visB at e
  split at e
  · rename_i q; exact .inl q
  · rename_i q; exact .inr (.inl q)
  · rename_i q; exact .inr (.inr q)
  · cases e
theorem Hx.loc (h : Hx X S k C) {x : Str} (e : locB S.sc x = true) : L2.Loc X.env.scope x := by
  unfold L2.Loc
  rw [h.hsc]
  unfold locB at e
  split at e
  · rename_i q; exact .inl q
  · rename_i q; exact .inr q
  · cases e
theorem Hx.gl (h : Hx X S k C) {x : Str} (e : glB S.sc x = true) : Gl X x := by
  show X.env.scope.names.lookup x = _
  rw [h.hsc]
  exact of_decide_eq_true e
theorem Hx.units (h : Hx X S k C) : X.A.units + 110 < cLine := by have := h.room.un; omega
theorem nm1 {x : Str} (h : nmB x = true) : (x == ("__debug__" : Str)) = false := by
  unfold nmB at h; rw [Bool.and_eq_true] at h
  cases e : (x == ("__debug__" : Str)) with
  | false => rfl
  | true => rw [e] at h; exact absurd h.1 (by decide)
theorem nm2 {x : Str} (h : nmB x = true) : (x == ("__classdict__" : Str)) = false := by
  unfold nmB at h; rw [Bool.and_eq_true] at h
  cases e : (x == ("__classdict__" : Str)) with
  | false => rfl
  | true => rw [e] at h; exact absurd h.2 (by decide)
theorem blt_mem (b : Bl) : b.name ∈ bltNames := by cases b <;> decide +kernel
theorem ty_mem (T : Ty) : T.name ∈ bltNames := by cases T <;> decide +kernel

theorem e_call (h : Hx X S k C) {x : Str} {p pos : Pos} {e : Expr} {es : List Expr} {g : Rho → Option (List PyData)} (hg : glB S.sc x = true) (hf : S.fs.contains x = true) (hn : nmB x = true) (ha : A1 X (e :: es) g) (hh : ∀ e' ∈ e :: es, okHead e' = true) :
    E1 X (.Call (.Name x p) (e :: es) [] pos) (appD (C x) g) := by
  obtain ⟨fa, fd, ps, h1, h2, h3, h4, h5⟩ := (h.fns x hf).ex
  exact pe_imp (pe_call h4 h.room (h.gl hg) h1 h2 h3 .nil pass0 ha (nm1 hn) (star_ok (hh e List.mem_cons_self)) (stars_ok fun e' he => hh e' (List.mem_cons_of_mem _ he))) (tCall_of h5)
theorem t_if {a b c : Expr} {pos : Pos} {ga gb gc : Rho → Option PyData} (hc : T1 X c gc) (ha : T1 X a ga) (hb : T1 X b gb) : T1 X (.IfExp c a b pos) (ifD gc ga gb) := by
  intro pins s σ H Q I ⟨r, kk, env, hg, q⟩
  obtain ⟨k', h1, h2⟩ := ifD_some hg
  show wpAny _ _ (do if ← isTrue c X.env (eval c X.env) then isTrue a X.env (eval a X.env) else isTrue b X.env (eval b X.env)) _ _ s
  refine wpAny_bind (thn (hc pins s σ H (fun k2 H1 => k2 = k' ∧ Same H H1) I ⟨r, k', env, h1, fun H1 s1 => ⟨rfl, s1⟩⟩) fun k2 s1 ⟨H1, I1, e1, sm⟩ => ?_)
  subst e1
  cases k2 with
  | true => exact ha pins s1 σ H1 Q I1 ⟨r, kk, envOk_mono sm env, h2, fun H2 s2 => q H2 (sm.trans s2)⟩
  | false => exact hb pins s1 σ H1 Q I1 ⟨r, kk, envOk_mono sm env, h2, fun H2 s2 => q H2 (sm.trans s2)⟩

noncomputable def Good (X : Cx) (e : Expr) (g : Rho → Option PyData) : Prop := E1 X e g ∧ T1 X e g ∧ ∀ op xs pos, e = .BoolOp op xs pos → PW1 X e g
theorem good_val {e : Expr} {g : Rho → Option PyData} (h : E1 X e g) (he : ∀ whole, isTrue e X.env whole = (do let v ← whole; standAt e.pos; holding [v] (truthy v))) (hb : ∀ op xs pos, e ≠ .BoolOp op xs pos) : Good X e g :=
  ⟨h, t_val h he, fun op xs pos z => absurd z (hb op xs pos)⟩
theorem const_ok {d : PyData} {c : Const} {j : Nat} {pos : Pos} (h : chkC d c = true) : E1 X (.Constant c j pos) (fun _ => some d) := by
  unfold chkC at h
  split at h
  · rw [of_decide_eq_true h]; exact e_int
  · rw [of_decide_eq_true h]; exact e_bl
  · exact e_non
  · rw [of_decide_eq_true h]; exact e_str
  · cases h
end
end PL

set_option Elab.async false
set_option linter.all false
set_option maxRecDepth 100000
namespace PL
open PySem PySem.Spec PyProof.Rows L2
inductive Tg where
  | one (i : Nat)
  | many (is : List Nat)
noncomputable def setMany : List Nat → List PyData → Rho → Option Rho
  | [], [], r => some r
  | i :: is, d :: ds, r => setMany is ds (r.set i (some d))
  | _, _, _ => none
noncomputable def setTg : Tg → PyData → Rho → Option Rho
  | .one i, d, r => some (r.set i (some d))
  | .many is, .tuple ds, r => setMany is ds r
  | _, _, _ => none
noncomputable def asgD (t : Tg) (g : Rho → Option PyData) (r : Rho) : Option Fl := match g r with
  | some d => match setTg t d r with
    | some r' => some (.nx r')
    | none => none
  | none => none
noncomputable def retD (g : Rho → Option PyData) (r : Rho) : Option Fl := match g r with
  | some d => some (.rt d)
  | none => none
noncomputable def ifS (gc : Rho → Option PyData) (ga gb : Rho → Option Fl) (r : Rho) : Option Fl := match gc r with
  | some (.bool true) => ga r
  | some (.bool false) => gb r
  | _ => none
noncomputable def forD (t : Tg) (step : Rho → Option Fl) : List PyData → Rho → Option Fl
  | [], r => some (.nx r)
  | d :: ds, r => match setTg t d r with
    | some r1 => match step r1 with
      | some (.nx r2) => forD t step ds r2
      | some (.ct r2) => forD t step ds r2
      | some (.bk r2) => some (.nx r2)
      | some (.rt v) => some (.rt v)
      | none => none
    | none => none
noncomputable def rngD (lo hi : Int) : List PyData := (List.range (hi - lo).toNat).map fun (k : Nat) => PyData.int (lo + (k : Int))
noncomputable def okR (i : Int) : Bool := decide (-(2 ^ 62) ≤ i ∧ i < 2 ^ 62)
noncomputable def rngIt1 (g : Rho → Option PyData) (r : Rho) : Option (List PyData) := match g r with
  | some (.int j) => if okR j = true then some (rngD 0 j) else none
  | _ => none
noncomputable def rngIt2 (g g2 : Rho → Option PyData) (r : Rho) : Option (List PyData) := match g r, g2 r with
  | some (.int i), some (.int j) => if (okR i && okR j) = true then some (rngD i j) else none
  | _, _ => none
noncomputable def forS (it : Rho → Option (List PyData)) (t : Tg) (step : Rho → Option Fl) (r : Rho) : Option Fl := match it r with
  | some ds => forD t step ds r
  | none => none
/-! ### the checker -/
noncomputable def chkT (S : Sg) : Tg → Expr → Bool
  | .one i, .Name x _ => decide (S.N[i]? = some x) && locB S.sc x
  | .many is, .Tuple es _ _ => all2 (fun i e => match e with
    | .Name x _ => decide (S.N[i]? = some x) && locB S.sc x
    | _ => false) is es
  | _, _ => false
noncomputable def notTup : Expr → Bool
  | .Tuple _ _ _ => false
  | _ => true
noncomputable def tgOk (t : Tg) (e : Expr) : Bool := match t with
  | .one _ => true
  | .many _ => notTup e
structure Hs (X : Cx) (S : Sg) (k : Nat) (C : Orc) : Prop extends Hx X S k C where
  nd : X.N.Nodup
  fnAll : ∀ x, X.fn x = true
  own : PassesOwn (model X.prog X.w) X.A X.env X.xe

section
variable {X : Cx} {S : Sg} {k : Nat} {C : Orc}
/-! ### statements -/
theorem s_ret {e : Expr} {pos : Pos} {g : Rho → Option PyData} (h : E1 X e g) : S1 X (.Return (some e) pos) (retD g) :=
  ps_imp (ps_ret h) fun σ H D ⟨r, fl, env, hg, q⟩ => by
    unfold retD at hg
    cases e1 : g r with
    | none => rw [e1] at hg; cases hg
    | some d => rw [e1] at hg; injection hg with hg; subst hg; exact ⟨r, d, env, e1, q⟩
theorem flOk_mono {K : PySem.W.Frag} {mg : Str → Option Value} {D : Ends} {H H1 : Hp} {fl : Fl} (e : Same H H1) (h : FlOk K mg D H fl) : FlOk K mg D H1 fl := by
  cases fl with
  | nx r => exact fun σ' H' s' env => h σ' H' (e.trans s') env
  | rt d => exact fun v H' s' b => h v H' (e.trans s') b
  | bk r => exact fun σ' H' s' env => h σ' H' (e.trans s') env
  | ct r => exact fun σ' H' s' env => h σ' H' (e.trans s') env
theorem s_if {c : Expr} {a b : List Stmt} {pos : Pos} {gc : Rho → Option PyData} {ga gb : Rho → Option Fl} (hc : T1 X c gc) (ha : SS1 X a ga) (hb : SS1 X b gb) : S1 X (.If c a b pos) (ifS gc ga gb) :=
  ps_imp (ps_if hc ha hb) fun σ H D ⟨r, fl, env, hg, q⟩ => by
    unfold ifS at hg
    split at hg
    · rename_i e1
      exact ⟨r, true, env, e1, fun H1 s1 => ⟨r, fl, envOk_mono s1 env, hg, flOk_mono s1 q⟩⟩
    · rename_i e1
      exact ⟨r, false, env, e1, fun H1 s1 => ⟨r, fl, envOk_mono s1 env, hg, flOk_mono s1 q⟩⟩
    · cases hg
theorem ss_nil : SS1 X [] (fun r => some (.nx r)) :=
  pss_imp pss_nil fun σ H D ⟨r, fl, env, hg, q⟩ => by
    injection hg with hg; subst hg
    exact q σ H (Same.refl H) env
theorem ss_cons {st : Stmt} {rest : List Stmt} {g : Rho → Option Fl} {u : Rho → Option Fl} (h1 : S1 X st g) (h2 : SS1 X rest u) : SS1 X (st :: rest) (fun r => match g r with | some (.nx r') => u r' | o => o) :=
  pss_imp (pss_cons h1 h2) fun σ H D ⟨r, fl, env, hg, q⟩ => by
    have hg' : (match g r with | some (.nx r') => u r' | o => o) = some fl := hg
    cases e1 : g r with
    | none => rw [e1] at hg'; cases hg'
    | some f1 =>
      rw [e1] at hg'
      refine ⟨r, f1, env, e1, ?_⟩
      cases f1 with
      | nx r' => exact fun σ' H' s' env' => ⟨r', fl, env', hg', flOk_mono s' q⟩
      | rt d => injection hg' with hg'; subst hg'; exact q
      | bk r' => injection hg' with hg'; subst hg'; exact q
      | ct r' => injection hg' with hg'; subst hg'; exact q

/-! ### targets -/
noncomputable def gIs : List Nat → TGs
  | [] => gNil
  | i :: is => gCons (gName i) (gIs is)
noncomputable def gT (K : PySem.W.Frag) : Tg → TG
  | .one i => gName i
  | .many is => gTup K is.length (gIs is)
theorem many_of {K : PySem.W.Frag} {mg : Str → Option Value} {H : Hp} : ∀ (is : List Nat) (ds : List PyData) (vs : List V) (r r' : Rho) (σ : L2.St) (Q : L2.St → Hp → Prop), setMany is ds r = some r' → Brs K mg H ds vs → EnvOk K mg H r σ → (∀ σ', EnvOk K mg H r' σ' → Q σ' H) → gIs is vs σ H Q
  | [], [], vs, r, r', σ, Q, e, b, env, q => by
    injection e with e; subst e
    simp only [Brs] at b
    exact ⟨b, q σ env⟩
  | i :: is, d :: ds, vs, r, r', σ, Q, e, b, env, q => by
    simp only [Brs] at b
    obtain ⟨v, vr, rfl, b1, b2⟩ := b
    exact ⟨v, vr, rfl, many_of is ds vr _ r' _ Q e b2 (envOk_set i env b1) q⟩
  | [], _ :: _, _, _, _, _, _, e, _, _, _ => by cases e
  | _ :: _, [], _, _, _, _, _, e, _, _, _ => by cases e
theorem many_len : ∀ (is : List Nat) (ds : List PyData) (r r' : Rho), setMany is ds r = some r' → ds.length = is.length
  | [], [], _, _, _ => rfl
  | i :: is, d :: ds, r, r', e => by simp [many_len is ds _ r' e]
  | [], _ :: _, _, _, e => by cases e
  | _ :: _, [], _, _, e => by cases e
theorem tg_of {K : PySem.W.Frag} {mg : Str → Option Value} {H : Hp} {t : Tg} {d : PyData} {v : V} {r r' : Rho} {σ : L2.St} {Q : L2.St → Hp → Prop} (e : setTg t d r = some r') (b : Br K mg H d v) (env : EnvOk K mg H r σ) (q : ∀ σ', EnvOk K mg H r' σ' → Q σ' H) : gT K t v σ H Q := by
  cases t with
  | one i =>
    injection e with e; subst e
    exact q _ (envOk_set i env b)
  | many is =>
    cases d with
    | tuple ds =>
      simp only [Br] at b
      obtain ⟨a, vs, rfl, h1, h2⟩ := b
      exact ⟨a, vs, rfl, h1, by rw [← brs_length ds vs h2]; exact many_len is ds r r' e, many_of is ds vs r r' σ Q e h2 env q⟩
    | _ => cases e
theorem names_ok (hx : Hs X S k C) : ∀ (is : List Nat) (es : List Expr), all2 (fun i e => match e with
    | .Name x _ => decide (S.N[i]? = some x) && locB S.sc x
    | _ => false) is es = true → PGs X es (gIs is) ∧ (assignEach es X.env).length = is.length ∧ (assignEach es X.env).findIdx? (·.1) = none
  | [], [], _ => ⟨pgs_nil, rfl, rfl⟩
  | i :: is, e :: es, h => by
    simp only [all2, Bool.and_eq_true] at h
    obtain ⟨h1, h2, h3⟩ := names_ok hx is es h.2
    have h0 := h.1
    split at h0
    · rename_i x pos
      simp only [Bool.and_eq_true] at h0
      have hg : PG X (.Name x pos) (gName i) := pg_name hx.nd (by rw [hx.hN]; exact of_decide_eq_true h0.1) (hx.loc h0.2) (.inl (hx.fnAll x))
      refine ⟨pgs_cons hg h1 rfl, ?_, ?_⟩
      · show (assignEach es X.env).length + 1 = is.length + 1
        rw [h2]
      · show ((false, assign (.Name x pos) X.env) :: assignEach es X.env).findIdx? (·.1) = none
        rw [List.findIdx?_cons]
        simp only [h3, Option.map_none]
        rfl
    · cases h0
  | [], _ :: _, h => by simp [all2] at h
  | _ :: _, [], h => by simp [all2] at h
theorem target_ok (hx : Hs X S k C) {t : Tg} {tg : Expr} (h : chkT S t tg = true) : PG X tg (gT X.K t) := by
  unfold chkT at h
  split at h
  · simp only [Bool.and_eq_true] at h
    exact pg_name hx.nd (by rw [hx.hN]; exact of_decide_eq_true h.1) (hx.loc h.2) (.inl (hx.fnAll _))
  · obtain ⟨h1, h2, h3⟩ := names_ok hx _ _ h
    exact pg_tup hx.calm h1 h2 h3
  · cases h
theorem s_asg {t : Tg} {tg e : Expr} {pos : Pos} {g : Rho → Option PyData} (he : E1 X e g) (hg : PG X tg (gT X.K t)) (hs : swapsWithSole [tg] e pos.line X.env = pure false) (hw : swappedStores [tg] e X.env = pure none)
    (h1 : (assignEach [tg] X.env).map (·.2) = [assign tg X.env]) : S1 X (.Assign [tg] e pos) (asgD t g) :=
  ps_imp (ps_asg he hg hs hw h1) fun σ H D ⟨r, fl, env, hgr, q⟩ => by
    unfold asgD at hgr
    cases e1 : g r with
    | none => rw [e1] at hgr; cases hgr
    | some d =>
      rw [e1] at hgr
      simp only at hgr
      cases e2 : setTg t d r with
      | none => rw [e2] at hgr; cases hgr
      | some r' =>
        rw [e2] at hgr
        injection hgr with hgr; subst hgr
        exact ⟨r, d, env, e1, fun v H1 s1 b1 => tg_of e2 b1 (envOk_mono s1 env) fun σ' env' => q σ' H1 s1 env'⟩

/-! ### for -/
/-- what holds between two turns -/
noncomputable def Pv (K : PySem.W.Frag) (mg : Str → Option Value) (t : Tg) (step : Rho → Option Fl) (ds : List PyData) (fl : Fl) (H0 : Hp) (i : Nat) (σ : L2.St) (H : Hp) : Prop :=
  ∃ r, EnvOk K mg H r σ ∧ Same H0 H ∧ forD t step (ds.drop i) r = some fl
theorem turn_of {K : PySem.W.Frag} {mg : Str → Option Value} {t : Tg} {step : Rho → Option Fl} {ds : List PyData} {fl : Fl} {H0 H : Hp} {i : Nat} {σ : L2.St} {D : Ends} {d : PyData} {v : V} (p : Pv K mg t step ds fl H0 i σ H) (hd : ds[i]? = some d) (b : Br K mg H d v) (q : FlOk K mg D H0 fl) :
    gT K t v σ H fun σ2 H2 => tPS K mg step { D with nx := Pv K mg t step ds fl H0 (i + 1), ct := Pv K mg t step ds fl H0 (i + 1), bk := D.nx } σ2 H2 := by
  obtain ⟨r, env, sm, hf⟩ := p
  have hi : i < ds.length := (List.getElem?_eq_some_iff.mp hd).1
  have e0 : ds.drop i = d :: ds.drop (i + 1) := by
    rw [List.drop_eq_getElem_cons hi]
    congr 1
    exact (List.getElem?_eq_some_iff.mp hd).2
  rw [e0] at hf
  unfold forD at hf
  cases e1 : setTg t d r with
  | none => rw [e1] at hf; cases hf
  | some r1 =>
    rw [e1] at hf
    simp only at hf
    refine tg_of e1 b env fun σ' env' => ?_
    cases e2 : step r1 with
    | none => rw [e2] at hf; cases hf
    | some f1 =>
      rw [e2] at hf
      refine ⟨r1, f1, env', e2, ?_⟩
      cases f1 with
      | nx r2 => exact fun σ2 H2 s2 env2 => ⟨r2, env2, sm.trans s2, hf⟩
      | ct r2 => exact fun σ2 H2 s2 env2 => ⟨r2, env2, sm.trans s2, hf⟩
      | bk r2 =>
        injection hf with hf; subst hf
        exact fun σ2 H2 s2 env2 => q σ2 H2 (sm.trans s2) env2
      | rt w =>
        injection hf with hf; subst hf
        exact fun v2 H2 s2 b2 => q v2 H2 (sm.trans s2) b2
theorem end_of {K : PySem.W.Frag} {mg : Str → Option Value} {t : Tg} {step : Rho → Option Fl} {ds : List PyData} {fl : Fl} {H0 H : Hp} {σ : L2.St} {D : Ends} (p : Pv K mg t step ds fl H0 ds.length σ H) (q : FlOk K mg D H0 fl) : D.nx σ H := by
  obtain ⟨r, env, sm, hf⟩ := p
  rw [List.drop_length] at hf
  injection hf with hf; subst hf
  exact q σ H sm env
end
end PL

set_option Elab.async false
set_option linter.all false
set_option maxRecDepth 100000
namespace PL
open PySem PySem.Spec PyProof.Rows L2

/-! ### a comprehension's block -/
section
variable {prog : Program} {w : World} {A : Around} {R : Result → Shared → Prop} {s : Shared}
end

/-- values of the block's names at its entry: the captured ones -/
noncomputable def capt {α : Type} (mp : List (Option Nat)) (r : List (Option α)) : List (Option α) := mp.map fun o => match o with
  | some j => (r[j]?).join
  | none => none
structure CompSc (X : Cx) (NC : List Str) (mp : List (Option Nat)) (scope : Scope) : Prop where
  kind : scope.kind = .function
  nocell : ∀ x ∈ scope.names, x.2 ≠ .cell
  names : ∀ x ∈ scope.names, x.2 = .local → scope.names.lookup x.1 = some .local
  capd : ∀ x ∈ scope.names, x.2 = .free → X.env.kindOf x.1 = some .cell ∨ X.env.kindOf x.1 = some .free
  len : mp.length = NC.length
  cap : ∀ (i j : Nat), mp[i]? = some (some j) → ∃ x, NC[i]? = some x ∧ X.N[j]? = some x ∧ (x, NameKind.free) ∈ scope.names ∧ scope.names.lookup x = some .free

end PL

set_option Elab.async false
set_option linter.all false
set_option maxRecDepth 100000
namespace PL
open PySem PySem.Spec PyProof.Rows L2

/-- what an iterator yields -/
noncomputable def Jok (K : PySem.W.Frag) (mg : Str → Option Value) (J : It) (ds : List PyData) (H1 : Hp) : Prop :=
  (∀ (i : Nat) (d : PyData) (H : Hp), ds[i]? = some d → Same H1 H → J.go i H ∧ ∀ x H', J.yld i H x H' → Same H H' ∧ Br K mg H' d x) ∧ ∀ H, Same H1 H → J.stop ds.length H
noncomputable def I1 (X : Cx) (tg iter : Expr) (g : Rho → Option (List PyData)) : Prop :=
  ∃ wi, PI X tg iter wi ∧ ∀ σ H r ds R, EnvOk X.K X.mg H r σ → g r = some ds → (∀ J H1, Same H H1 → Jok X.K X.mg J ds H1 → R J H1) → wi σ H R
section
variable {X : Cx}
theorem jok_tup {K : PySem.W.Frag} {mg : Str → Option Value} {H1 : Hp} {a : Addr} {vs : List V} {ds : List PyData} (h : SqT K H1 a vs) (b : Brs K mg H1 ds vs) : Jok K mg (Itt K a) ds H1 := by
  have hl := brs_length ds vs b
  refine ⟨fun i d H hd sm => ⟨?_, fun x H' y => ?_⟩, fun H sm => ⟨vs, sqt_same sm h, by omega⟩⟩
  · obtain ⟨v, e, _⟩ := brs_get ds vs i d b hd
    exact ⟨vs, v, sqt_same sm h, e⟩
  · obtain ⟨e, y⟩ := y
    subst e
    obtain ⟨v, e, bv⟩ := brs_get ds vs i d b hd
    have := y vs (sqt_same sm h)
    rw [e] at this
    injection this with this
    subst this
    exact ⟨Same.refl _, br_mono sm _ _ bv⟩
/-! ### the comprehension -/
noncomputable def compL (t : Tg) (gc ge : Rho → Option PyData) : List PyData → Rho → Option (List PyData)
  | [], _ => some []
  | d :: ds, r => match setTg t d r with
    | some r1 => match gc r1 with
      | some (.bool true) => match ge r1 with
        | some y => match compL t gc ge ds r1 with
          | some ys => some (y :: ys)
          | none => none
        | none => none
      | some (.bool false) => compL t gc ge ds r1
      | _ => none
    | none => none
noncomputable def compD (t : Tg) (gi : Rho → Option (List PyData)) (mp : List (Option Nat)) (gc ge : Rho → Option PyData) (r : Rho) : Option PyData := match gi r with
  | some ds => if okLen ds.length = true then (match compL t gc ge ds (capt mp r) with
    | some ys => some (.list ys)
    | none => none) else none
  | none => none
/-- a condition or none -/
noncomputable def CondOk (X : Cx) (ifs : List Expr) (gc : Rho → Option PyData) : Prop := (ifs = [] ∧ gc = fun _ => some (.bool true)) ∨ ∃ c, ifs = [c] ∧ T1 X c gc
theorem conds {X : Cx} {ifs : List Expr} {gc : Rho → Option PyData} (h : CondOk X ifs gc) {pins : List (Addr × Obj)} {s : Shared} {σ : L2.St} {H : Hp} {r : Rho} {b : Bool} {E : Value → Shared → Prop} {Q : Bool → Shared → Prop} (hE : ∀ e s, X.xe e s → E e s) (I : Inv X pins σ H s)
    (env : EnvOk X.K X.mg H r σ) (hg : gc r = some (.bool b)) (q : ∀ s' H', Inv X pins σ H' s' → Same H H' → Q b s') :
    wpAny (model X.prog X.w) X.A (forIn ifs true fun c r => if r = true then do let ok ← isTrue c X.env (eval c X.env); pure (ForInStep.yield ok) else pure (ForInStep.yield r)) Q E s := by
  rcases h with ⟨rfl, rfl⟩ | ⟨c, rfl, hT⟩
  · rw [List.forIn_nil]
    injection hg with hg
    injection hg with hg
    subst hg
    exact wpAny_pure (q s H I (Same.refl H))
  · rw [List.forIn_cons]
    simp only [if_true, bind_assoc, pure_bind, List.forIn_nil]
    refine wpAny_bind (wpAny_mono (hT pins s σ H (fun k H' => k = b ∧ Same H H') I ⟨r, b, env, hg, fun H' s' => ⟨rfl, s'⟩⟩) (fun k s' ⟨H', I', e, sm⟩ => ?_) hE)
    subst e
    exact wpAny_pure (q s' H' I' sm)

end
end PL

set_option Elab.async false
set_option linter.all false
set_option maxRecDepth 100000
namespace PL
open PySem PySem.Spec PyProof.Rows L2
section
variable {X : Cx}
/-! ### a text, walked -/
/-- a list, a tuple or a text, as it comes -/
noncomputable def anyIt (g : Rho → Option PyData) (r : Rho) : Option (List PyData) := match g r with
  | some (.tuple xs) => some xs
  | _ => none
theorem i_any {tg l : Expr} {g : Rho → Option PyData} (hl : E1 X l g) : I1 X tg l (anyIt g) := by
  refine ⟨fun σ H R => tP X.K X.mg g σ H fun v H1 => ∃ a, v = .ref a ∧ (∃ xs, SqT X.K H1 a xs) ∧ R (Itt X.K a) H1, ?_, fun σ H r ds R env hg hR => ?_⟩
  · intro pins s σ H R I h
    refine thn (hl pins s σ H _ I h) fun v s1 ⟨x, H1, I1, r1, a, e, ⟨xs, hq⟩, q⟩ => ?_
    subst e
    cases r1
    obtain ⟨its, rv, p, hz⟩ := I1.tuple hq
    refine wpAny_pyIter_tuple (show s1.heap.IsTuple a its.toArray from p) ?_
    refine ⟨s1.heap.objs.size, [s1.heap.objs.size], _, _, H1, rfl, I1.kept (t' := s1.toks) fun b o e => Heap.get?_push_of_some _ e, turn_tuple a _, ⟨_, Heap.get?_push_size _ rfl, rfl, rfl⟩, fun b hb => ?_, q⟩
    have e : b = s1.heap.objs.size := by simpa using hb
    subst e
    exact I1.fpOk (Nat.le_refl _) (I1.hok.fresh (Nat.le_refl _))
  · unfold anyIt at hg
    split at hg
    · rename_i xs e2
      injection hg with hg; subst hg
      refine ⟨r, _, env, e2, fun v H1 s1 b1 => ?_⟩
      simp only [Br] at b1
      obtain ⟨a, vs, rfl, h1, h2⟩ := b1
      exact ⟨a, rfl, ⟨vs, h1⟩, hR _ H1 s1 (jok_tup h1 h2)⟩
    · cases hg
theorem i_rng1 {tg a : Expr} {p pos : Pos} {g : Rho → Option PyData} (hgl : Gl X "range") (hm : X.mg "range" = none) (ha : E1 X a g) (hh : okHead a = true) : I1 X tg (.Call (.Name "range" p) [a] [] pos) (rngIt1 g) := by
  refine ⟨_, pi_range1 hgl hm (a_cons ha a_nil (star_ok hh)) (star_ok hh), fun σ H r ds R env hg hR => ?_⟩
  unfold rngIt1 at hg
  split at hg
  · rename_i j e2
    obtain ⟨hj, e1⟩ := ite_some hg
    subst e1
    have hj' := of_decide_eq_true hj
    refine ⟨r, [.int j], env, by simp [consD, e2, nilD], fun vs H1 s1 b1 => ?_⟩
    obtain ⟨v, rfl, b⟩ := brs1 b1
    simp only [Br] at b; subst b
    refine ⟨j, rfl, hj'.1, hj'.2, hR _ H1 s1 ?_⟩
    have hl : (rngD 0 j).length = j.toNat := by simp [rngD]
    refine ⟨fun i d H hd sm => ⟨?_, fun x H' y => ?_⟩, fun H sm => Nat.le_of_eq hl.symm⟩
    · have : i < (rngD 0 j).length := (List.getElem?_eq_some_iff.mp hd).1
      show i < j.toNat
      omega
    · obtain ⟨e, rfl⟩ := y
      subst e
      have hi : i < j.toNat := by have := (List.getElem?_eq_some_iff.mp hd).1; omega
      have e3 : (rngD 0 j)[i]? = some (.int (0 + (i : Int))) := by simp [rngD, hi]
      rw [e3] at hd
      injection hd with hd; subst hd
      exact ⟨Same.refl _, by simp only [Br]⟩
  · cases hg
/-- for, over whatever yields -/
theorem s_for {S : Sg} {k : Nat} {C : Orc} (hs : Hs X S k C) {t : Tg} {tg l : Expr} {body : List Stmt} {pos : Pos} {gi : Rho → Option (List PyData)} {step : Rho → Option Fl} (hi : I1 X tg l gi) (hg : PG X tg (gT X.K t)) (hb : SS1 X body step) (hf : ∀ x, foldedSetIterable l X.env x = pure x) :
    S1 X (.For tg l body [] pos) (forS gi t step) := by
  obtain ⟨wi, hpi, hwi⟩ := hi
  refine ps_imp (ps_for hs.own hs.calm hpi hg hb hf) fun σ H D ⟨r, fl, env, hgr, q⟩ => ?_
  unfold forS at hgr
  split at hgr
  · rename_i ds e1
    refine hwi σ H r ds _ env e1 fun J H1 s1 jk => ?_
    have q1 := flOk_mono s1 q
    refine ⟨fun i m σ' H' => m = ds.length - i ∧ i ≤ ds.length ∧ Pv X.K X.mg t step ds fl H1 i σ' H', ⟨ds.length, by simp, Nat.zero_le _, r, envOk_mono s1 env, Same.refl _, by simpa using hgr⟩, ?_⟩
    rintro i m σ' H' ⟨rfl, hile, p⟩
    have p' := p
    obtain ⟨r', env', sm', hf'⟩ := p'
    by_cases hlt : i < ds.length
    · obtain ⟨go, yl⟩ := jk.1 i ds[i] H' (by simp [hlt]) sm'
      refine .inr ⟨go, Pv X.K X.mg t step ds fl H1 (i + 1), fun σ2 H2 p2 => ⟨ds.length - (i + 1), by omega, rfl, hlt, p2⟩, fun x H2 y => ?_⟩
      obtain ⟨sm2, b2⟩ := yl x H2 y
      exact turn_of ⟨r', envOk_mono sm2 env', sm'.trans sm2, hf'⟩ (by simp [hlt]) b2 q1
    · have e : i = ds.length := by omega
      subst e
      exact .inl ⟨jk.2 H' sm', end_of p q1⟩
  · cases hgr

/-! ### a text, cut -/
noncomputable def cutS (x : Str) (lo hi : Option Int) : Str := Txt.slice x lo hi
noncomputable def slD2 (x : PyData) (lo hi : Option Int) : Option PyData := match x with
  | .str z => if okLen z.length = true then some (.str (cutS z lo hi)) else none
  | _ => none
theorem part_tok {v : Value} {o : Option Int} (p : IsPart v o) : ∃ q : Option (Int × Tok), v = partValue q ∧ q.map (·.1) = o := by
  cases p with
  | none => exact ⟨none, rfl, rfl⟩
  | int i t => exact ⟨some (i, t), rfl, rfl⟩
theorem i_sl2 : SlR X (fun v lo hi H Q => ∃ x d, Br X.K X.mg H x v ∧ slD2 x lo hi = some d ∧ ∀ w H', Same H H' → Br X.K X.mg H' d w → Q w H') := by
  intro pins s σ H v vv vl vu lo hi sl Q I rv hs pl pu ⟨x, d, bx, hf, q⟩
  cases x with
  | str z =>
    obtain ⟨hz, e⟩ := ite_some hf
    subst e
    simp only [Br] at bx
    subst bx
    obtain ⟨t, rfl⟩ := rv
    obtain ⟨ql, rfl, el⟩ := part_tok pl
    obtain ⟨qu, rfl, eu⟩ := part_tok pu
    have hsz := okLen_size hz
    refine ⟨"str", _, F.slot_str_getitem.lookup, typeIs_str _ _ _, wpAny_getItem_str_slice (l := ql) (u := qu) (st := none) hs rfl ?_⟩
    have hle := Txt.slice_le z (ql.map (·.1)) (qu.map (·.1))
    unfold cutS at q
    rw [← el, ← eu] at q
    unfold Txt.slice at q hle
    unfold sliceMade slicePicked
    simp only [Option.map_none, Option.getD_none]
    split
    · rename_i hc
      rw [if_pos hc] at q
      exact ⟨.str z, H, I, ⟨_, rfl⟩, q _ H (Same.refl H) (by simp only [Br])⟩
    · rename_i hc
      rw [if_neg hc] at q hle
      exact ⟨Nat.le_trans hle hsz, .str _, H, I.tok _, ⟨_, rfl⟩, q _ H (Same.refl H) (by simp only [Br])⟩
  | _ => cases hf
noncomputable def sl4 (ga gl gh : Rho → Option PyData) (r : Rho) : Option PyData := match ga r, gl r, gh r with
  | some x, some l, some h => match partD l, partD h with
    | some lo, some hi => slD2 x lo hi
    | _, _ => none
  | _, _, _ => none
theorem e_sl2 {a : Expr} {lo hi : Option Expr} {p2 pos : Pos} {ga gl gh : Rho → Option PyData} (ha : E1 X a ga) (hl : O1 X lo gl) (hh : O1 X hi gh) : E1 X (.Subscript a (.Slice lo hi none p2) pos) (sl4 ga gl gh) :=
  pe_imp (pe_slice i_sl2 ha hl hh) fun σ H Q ⟨r, d, env, hg, q⟩ => by
    unfold sl4 at hg
    split at hg
    · rename_i x l h e1 e2 e3
      split at hg
      · rename_i lo' hi' e4 e5
        refine ⟨r, x, env, e1, fun v H1 s1 b1 => ⟨r, l, lo', envOk_mono s1 env, e2, e4, fun H2 s2 => ⟨r, h, hi', envOk_mono s2 (envOk_mono s1 env), e3, e5, fun H3 s3 => ?_⟩⟩⟩
        exact ⟨x, d, br_mono (s2.trans s3) x v b1, hg, fun w H' s4 b4 => q w H' (s1.trans (s2.trans (s3.trans s4))) b4⟩
      · cases hg
    · cases hg

/-! ### a call of a def that is a value -/
noncomputable def callvD (C : Orc) (gf : Rho → Option PyData) (g : Rho → Option (List PyData)) (r : Rho) : Option PyData := match gf r with
  | some (.dict [(.none, .str x)]) => match g r with
    | some ds => C x ds
    | none => none
  | _ => none
theorem e_callv {S : Sg} {k : Nat} {C : Orc} (h : Hx X S k C) (tot : ∀ f ds d, C f ds = some d → S.fs.contains f = true) {fe : Expr} {pos : Pos} {e : Expr} {es : List Expr} {gf : Rho → Option PyData} {g : Rho → Option (List PyData)} (hfe : E1 X fe gf) (ha : A1 X (e :: es) g) (hh : ∀ e' ∈ e :: es, okHead e' = true)
    (hev : eval (.Call fe (e :: es) [] pos) X.env = (do callWith pos (← eval fe X.env) [] (backTo pos (starEach (e :: es) X.env)) (backToKw pos (keywordEach [] X.env)))) :
    E1 X (.Call fe (e :: es) [] pos) (callvD C gf g) := by
  intro pins s σ H Q I ⟨r, d, env, hg, q⟩
  unfold callvD at hg
  split at hg
  · rename_i x e1
    cases e2 : g r with
    | none => rw [e2] at hg; cases hg
    | some ds =>
      rw [e2] at hg
      simp only at hg
      obtain ⟨fa, fd, ps, h1, h2, h3, h4, h5⟩ := (h.fns x (tot x ds d hg)).ex
      rw [hev]
      refine wpAny_bind (thn (hfe pins s σ H (fun v H1 => Same H H1 ∧ v = .ref fa) I ⟨r, _, env, e1, fun v H1 s1 b1 => ⟨s1, ?_⟩⟩) fun f s1 ⟨v, H1, I1, r1, sm1, ev⟩ => ?_)
      · simp only [Br] at b1
        rcases b1 with ⟨x', f', ex, rfl, hm⟩ | ⟨c', a', C', ex, _⟩
        rotate_left
        · injection ex with ex _
          injection ex with ex _
          cases ex
        have e3 : x' = x := by
          injection ex with ex _
          injection ex with _ ex
          injection ex with ex
          exact ex.symm
        subst e3
        rw [h1] at hm
        injection hm with hm
        injection hm with hm
        rw [hm]
      · subst ev
        cases r1
        refine PySem.W.callWith_K (h₀ := X.base) I.ok.mod.kin h2 (thn (ha pos pins s1 σ H1 (fun vs H2 => Same H1 H2 ∧ Brs X.K X.mg H2 ds vs) I1 ⟨r, ds, envOk_mono sm1 env, e2, fun vs H2 s2 b2 => ⟨s2, b2⟩⟩) fun us s2 ⟨vs, H2, I2, r2, sm2, b2⟩ => ⟨I2.kIn, ?_⟩) (star_ok (hh e List.mem_cons_self)) (stars_ok fun e' he => hh e' (List.mem_cons_of_mem _ he))
        refine run_fn (E := E0) h4 h.room h3 .nil pass0 I2 r2 ?_
        rw [List.append_nil]
        exact ⟨by rw [← brs_length ds vs b2]; exact h5 ds d hg, ds, d, b2, hg, fun w H' s3 b3 => q w H' (sm1.trans (sm2.trans s3)) b3⟩
  · cases hg
end
end PL

set_option Elab.async false
set_option linter.all false
set_option maxRecDepth 100000
namespace PL
open PySem PySem.Spec PyProof.Rows L2
/-! ### min of a list of two by a key -/
section
variable {X : Cx}
end
end PL

set_option Elab.async false
set_option linter.all false
set_option maxRecDepth 100000
namespace PL
open PySem PySem.Spec PyProof.Rows L2
section
variable {X : Cx}
end
end PL

set_option Elab.async false
set_option linter.all false
set_option maxRecDepth 100000
namespace PL
open PySem PySem.Spec PyProof.Rows L2

/-! ### an exception in flight -/
theorem objOk_there {P : Program} {w : World} {H : Hp} {h : Heap} {a : Addr} {o : HO} (x : ObjOk P w H h a o) : ∃ ob, h.get? a = some ob := by
  cases o with
  | lst xs => obtain ⟨_, _, _, _, e⟩ := x; exact ⟨_, e⟩
  | tup xs => obtain ⟨_, _, _, ob, e, _⟩ := x; exact ⟨_, e⟩
  | dK kvs => obtain ⟨_, _, _, _, o, _, _, e, _⟩ := x; exact ⟨_, e⟩
  | dT kvs => obtain ⟨_, _, _, _, o, _, _, e, _⟩ := x; exact ⟨_, e⟩
  | set S n => obtain ⟨o, _, _, _, e, _⟩ := x; exact ⟨_, e⟩
  | ins C dx fs => obtain ⟨_, _, _, e, _⟩ := x; exact ⟨_, e⟩
  | own y => obtain ⟨_, e⟩ := x; exact ⟨_, e⟩
  | xd fs => obtain ⟨_, ⟨_, _, _, e, _⟩, _⟩ := x; exact ⟨_, e⟩
  | rng lo hi => obtain ⟨_, _, _, e⟩ := x; exact ⟨_, e⟩
  | frz ob u => obtain ⟨e, _⟩ := x; exact ⟨_, e⟩
  | tbl ps => exact ⟨_, show h.get? a = some _ from x⟩
  | met f y => exact ⟨_, show h.get? a = some _ from x⟩
  | ext φ => obtain ⟨_, ⟨_, e⟩, _⟩ := x; exact ⟨_, e⟩

/-- an address that the code's own state doesn't lean on -/
structure Ap (X : Cx) (pins : List (Addr × Obj)) (H : Hp) (b : Addr) : Prop where
  top : X.s₀.heap.get? b = none
  loc : b ≠ X.env.locals
  cel : ∀ x c, X.env.cells.lookup x = some c → c ≠ b
  pin : ∀ p ∈ X.pn ++ pins, p.1 ≠ b
  fre : H b = none

section
variable {X : Cx} {pins : List (Addr × Obj)} {σ : L2.St} {H H' : Hp} {s : Shared} {h' : Heap}
theorem ap_of_new (hex : X.ex = []) (I : Inv X pins σ H s) {b : Addr} (e : s.heap.get? b = none) (n : H' b = none) : Ap X pins H' b where
  top := by
    cases q : X.s₀.heap.get? b with
    | none => rfl
    | some o =>
      obtain ⟨o', e'⟩ := I.base.there b o q (by rw [hex]; simp)
      rw [e] at e'; cases e'
  loc := fun z => by
    obtain ⟨m, ⟨o, _, _, ho, _⟩, _⟩ := I.loc
    rw [← z, e] at ho; cases ho
  cel := fun x c hc z => by
    obtain ⟨v, o, ho, _⟩ := I.cell x c hc
    rw [z, e] at ho; cases ho
  pin := fun p hp z => by
    obtain ⟨q, _⟩ := I.pin p hp
    rw [z, e] at q; cases q
  fre := n
/-- records of our own have changed, the running frames' slots too -/
theorem inv_turn (I : Inv X pins σ H s) (ch : List Addr) (hch : ∀ b ∈ ch, Ap X pins H b) (k : ∀ b o, b ∉ ch → b ∉ frs X.stack → s.heap.get? b = some o → h'.get? b = some o)
    (kf : ∀ b o, b ∈ frs X.stack → s.heap.get? b = some o → ∃ sl, h'.get? b = some { o with slots := sl }) : Inv X pins σ H { s with heap := h' } := by
  have any : ∀ b o, b ∉ ch → s.heap.get? b = some o → ∃ sl, h'.get? b = some { o with slots := sl } := fun b o hc e => by
    by_cases hb : b ∈ frs X.stack
    · exact kf b o hb e
    · exact ⟨o.slots, k b o hc hb e⟩
  have neL : ∀ b o, X.s₀.heap.get? b = some o → b ≠ X.env.locals := fun b o e => Nat.ne_of_lt (Nat.lt_of_lt_of_le (Heap.lt_size e) I.ok.above)
  have neC : ∀ b o, X.s₀.heap.get? b = some o → b ∉ ch := fun b o e hb => by
    have := (hch b hb).top
    rw [e] at this; cases this
  have trC : ∀ b u, H b = some u → b ∉ ch := fun b u e hb => by
    have := (hch b hb).fre
    rw [e] at this; cases this
  have trF : ∀ b u, H b = some u → b ∉ frs X.stack := fun b u e hb => by
    have := I.stkFree b hb
    rw [e] at this; cases this
  have cellK : ∀ x c, X.env.cells.lookup x = some c → ∀ v, s.heap.IsCell c v → h'.IsCell c v := fun x c e v ⟨o, ho, hd⟩ => by
    obtain ⟨sl, q⟩ := any c o (fun z => (hch c z).cel x c e rfl) ho
    exact ⟨_, q, hd⟩
  refine ⟨I.ok, I.os, I.bare, ⟨fun b o e n hb hx => ?_, fun b o e n hb hx => ?_, I.base.free, fun b o e hx => ?_, I.base.tups, I.base.frzs, I.base.tbls⟩, ?_, fun x c e => ?_, I.free, I.freeC, fun p hp => ?_, fun b u e => ?_, I.len⟩
  · refine k b o (neC b o e) (fun z => ?_) (I.base.keep b o e n hb hx)
    rcases List.mem_cons.mp (I.stkSub b z) with y | y
    · exact neL b o e y
    · exact hb y
  · obtain ⟨sl, e1⟩ := I.base.slot b o e n hb hx
    obtain ⟨sl', e2⟩ := any b _ (neC b o e) e1
    exact ⟨sl', e2⟩
  · obtain ⟨o', e1⟩ := I.base.there b o e hx
    obtain ⟨sl', e2⟩ := any b _ (neC b o e) e1
    exact ⟨_, e2⟩
  · obtain ⟨m, ⟨o, es, ep, ho, r⟩, hl⟩ := I.loc
    obtain ⟨sl, e2⟩ := any _ o (fun z => (hch _ z).loc rfl) ho
    refine ⟨m, ⟨_, es, ep, e2, r⟩, fun i x v e1 e2 e3 => ?_⟩
    obtain ⟨u, r, l⟩ := hl i x v e1 e2 e3
    refine ⟨u, r, ?_⟩
    rcases l with l | ⟨k, c, e, z⟩
    · exact .inl l
    · exact .inr ⟨k, c, e, cellK x c e _ z⟩
  · obtain ⟨v, z⟩ := I.cell x c e
    exact ⟨v, cellK x c e v z⟩
  · obtain ⟨e, n, ne, nf, d⟩ := I.pin p hp
    refine ⟨k p.1 p.2 (fun z => (hch p.1 z).pin p hp rfl) (fun z => ?_) e, n, ne, nf, d⟩
    rcases List.mem_cons.mp (I.stkSub p.1 z) with y | y
    · exact ne y
    · exact nf y
  · refine (I.hok b u e).stay (fun c v hc q => ?_) (fun _ q => q) fun _ _ q => q
    rcases hc with z | z
    · exact k c v (by rw [z]; exact trC b u e) (by rw [z]; exact trF b u e) q
    · exact k c v (trC c _ z) (trF c _ z) q
end

/-- the record of an exception of the class at C, with its traceback -/
noncomputable def Rec (h : Heap) (a C T : Addr) : Prop := ∃ oe vs a0 oT ts, h.get? a = some oe ∧ oe.cls = .ref C ∧ oe.data = .fields vs ∧ vs[0]? = some a0 ∧ vs[1]? = some (.ref T) ∧ T ≠ a ∧ h.get? T = some oT ∧ oT.data = .fields ts ∧ ts[3]? = some .none
/-- .. just made -/
noncomputable def Mad (h : Heap) (a C : Addr) : Prop := ∃ oe vs a0, h.get? a = some oe ∧ oe.cls = .ref C ∧ oe.data = .fields vs ∧ vs[0]? = some a0 ∧ vs[1]? = some .none
noncomputable def Trc (X : Cx) (pins : List (Addr × Obj)) (H : Hp) (a C : Addr) (h : Heap) : Prop := Ap X pins H a ∧ ∃ T, Rec h a C T ∧ Ap X pins H T
noncomputable def Thr (X : Cx) (pins : List (Addr × Obj)) (H : Hp) (a C : Addr) (h : Heap) : Prop := Trc X pins H a C h ∨ (Ap X pins H a ∧ Mad h a C)
/-- how an exception lies behind a call -/
noncomputable def CX1 (P : Program) (w : World) : CXT := fun outer H s E e s' => ∃ a C H' T, e = .ref a ∧ s'.os = s.os ∧ AllBare s'.gens ∧ Un (frs outer) [] H H' s.heap s'.heap ∧ HOk P w H' s'.heap ∧
  Rec s'.heap a C T ∧ s.heap.get? a = none ∧ s.heap.get? T = none ∧ H' a = none ∧ H' T = none ∧ E (.ref C) none H'

section
variable {X : Cx} {pins : List (Addr × Obj)} {σ : L2.St} {H : Hp} {s : Shared} {a C : Addr}
/-- what a station of the exception leaves as it was -/
theorem left_ok (hex : X.ex = []) (I : Inv X pins σ H s) {hid : List Addr} {h' : Heap} {a0 : Value} (hh : ∀ b ∈ hid, Ap X pins H b) (ha : a ∈ hid) (x1 : (PySem.W.hideAll s.heap (frs X.stack ++ hid)).StaysIn h')
    (x2 : h'.FunFrames (PySem.W.hideAll s.heap (frs X.stack ++ hid)) X.stack ∨ True) (x3 : h'.TracedW (PySem.W.hideAll s.heap (frs X.stack ++ hid)) a (.ref C) a0) (x4 : ∀ b o, s.heap.get? b = some o → (∀ vs, o.data ≠ .fields vs) → ∃ sl, h'.get? b = some { o with slots := sl }) :
    Inv X pins σ H { s with heap := h' } ∧ Trc X pins H a C h' := by
  have kf : ∀ b o, b ∈ frs X.stack → s.heap.get? b = some o → ∃ sl, h'.get? b = some { o with slots := sl } := fun b o hb e => by
    obtain ⟨_, o', e', hd⟩ := I.stack.mem hb
    rw [e] at e'; cases e'
    exact x4 b o e hd
  refine ⟨inv_turn I hid hh (fun b o h1 h2 e => x1 b o (PySem.W.hideAll_get _ e fun z => ?_)) kf, hh a ha, ?_⟩
  · rcases List.mem_append.mp z with y | y
    · exact h2 y
    · exact h1 y
  · obtain ⟨oe, vs, T, oT, ts, y1, ⟨y2, y3⟩, y4, y5, y6, y7, y8, y9, y10⟩ := x3
    refine ⟨T, ⟨oe, vs, a0, oT, ts, y1, y2, y4, y3, y5, y7, y8, y9, y10⟩, ?_⟩
    cases e : s.heap.get? T with
    | none =>
      refine ap_of_new hex I e ?_
      cases q : H T with
      | none => rfl
      | some u =>
        obtain ⟨ob, e'⟩ := objOk_there (I.hok T u q)
        rw [e] at e'; cases e'
    | some o =>
      by_cases hm : T ∈ frs X.stack ++ hid
      · rcases List.mem_append.mp hm with y | y
        · obtain ⟨_, o', e', hd⟩ := I.stack.mem y
          rw [e] at e'; cases e'
          obtain ⟨sl, e2⟩ := x4 T o e hd
          rw [y8] at e2; cases e2
          exact absurd y9 (hd ts)
        · exact hh T y
      · rw [PySem.W.hideAll_get _ e hm] at y6; cases y6
theorem fun_hide (I : Inv X pins σ H s) (hid : List Addr) : s.heap.FunFrames (PySem.W.hideAll s.heap (frs X.stack ++ hid)) X.stack :=
  PySem.W.funFrames_hide I.stack fun env he a hf => List.mem_append_left _ (List.mem_filterMap.mpr ⟨env, he, hf⟩)
theorem stays_hide (hid : List Addr) : (PySem.W.hideAll s.heap (frs X.stack ++ hid)).StaysIn s.heap := fun b o e => PySem.W.of_hideAll _ e
/-- the frame is left by the exception -/
theorem leave_ok (hex : X.ex = []) (I : Inv X pins σ H s) (t : Thr X pins H a C s.heap) (hst : X.stack = X.env :: X.outer) (hfr : X.env.frame = some X.env.locals) {Q : Unit → Shared → Prop} {E : Value → Shared → Prop}
    (h : ∀ h', Inv X pins σ H { s with heap := h' } → Trc X pins H a C h' → Q () { s with heap := h' }) : wpAny (model X.prog X.w) X.A (leaving X.env (.ref a)) Q E s := by
  have hf : X.A.frames = some (X.env :: X.outer) := by rw [← hst]; exact I.ok.frames
  rcases t with ⟨pa, T, ⟨oe, vs, a0, oT, ts, y1, y2, y3, y4, y5, y6, y7, y8, y9⟩, pT⟩ | ⟨pa, oe, vs, a0, y1, y2, y3, y4, y5⟩
  · have hh : ∀ b ∈ [a, T], Ap X pins H b := fun b hb => by
      simp only [List.mem_cons, List.not_mem_nil, or_false] at hb
      rcases hb with rfl | rfl
      · exact pa
      · exact pT
    have ff := fun_hide I [a, T]
    rw [hst] at ff
    refine wpAny_leaving_nextW (base := PySem.W.hideAll s.heap (frs X.stack ++ [a, T])) (cls := .ref C) (a0 := a0) hf (by rw [hst]; exact ff) hfr ⟨oe, vs, T, oT, ts, y1, ⟨y2, y4⟩, y3, y5, PySem.W.hideAll_none _ (by simp), y6, y7, y8, y9⟩ (stays_hide _) (PySem.W.hideAll_none _ (by simp)) fun h' ⟨x1, x2, x3, x4⟩ => ?_
    obtain ⟨i, t⟩ := left_ok hex I hh (by simp) x1 (.inr trivial) x3 x4
    exact h h' i t
  · have hh : ∀ b ∈ [a], Ap X pins H b := fun b hb => by
      simp only [List.mem_cons, List.not_mem_nil, or_false] at hb
      rw [hb]; exact pa
    have ff := fun_hide I [a]
    rw [hst] at ff
    refine wpAny_leaving_firstW (base := PySem.W.hideAll s.heap (frs X.stack ++ [a])) (a0 := a0) hf (by rw [hst]; exact ff) hfr y1 (stays_hide _) (PySem.W.hideAll_none _ (by simp)) y3 y5 y4 fun h' ⟨x1, x2, x3, x4⟩ => ?_
    rw [y2] at x3
    obtain ⟨i, t⟩ := left_ok hex I hh (by simp) x1 (.inr trivial) x3 x4
    exact h h' i t
/-- .. and the callee is behind: how it lies -/
theorem left_cx (hex : X.ex = []) (I : Inv X pins σ H s) (t : Trc X pins H a C s.heap) {E : XK} (os : s.os = X.s₀.os) (hE : E (.ref C) none H) : CX1 X.prog X.w X.outer X.H₀ X.s₀ E (.ref a) s := by
  obtain ⟨pa, T, r, pT⟩ := t
  have u := I.base
  rw [hex] at u
  exact ⟨a, C, H, T, rfl, os, I.bare, u, I.hok, r, pa.top, pT.top, pa.fre, pT.fre, hE⟩
/-- the exception is looked at in a try's frame -/
theorem look_ok (hex : X.ex = []) (I : Inv X pins σ H s) (t : Trc X pins H a C s.heap) (hst : X.stack = X.env :: X.outer) (hfr : X.env.frame = some X.env.locals) {Q : Unit → Shared → Prop} {E : Value → Shared → Prop} {A : Around} (hA : A.frames = some X.stack)
    (h : ∀ h', Inv X pins σ H { s with heap := h' } → Trc X pins H a C h' → Q () { s with heap := h' }) : wpAny (model X.prog X.w) A (noteFrame (.ref a) X.env) (fun _ s₂ => wpAny (model X.prog X.w) A (setFlight (.ref a) none) Q E s₂) E s := by
  have hf : A.frames = some (X.env :: X.outer) := by rw [← hst]; exact hA
  obtain ⟨pa, T, ⟨oe, vs, a0, oT, ts, y1, y2, y3, y4, y5, y6, y7, y8, y9⟩, pT⟩ := t
  have hh : ∀ b ∈ [a, T], Ap X pins H b := fun b hb => by
    simp only [List.mem_cons, List.not_mem_nil, or_false] at hb
    rcases hb with rfl | rfl
    · exact pa
    · exact pT
  have ff := fun_hide I [a, T]
  rw [hst] at ff
  refine wpAny_looks_onW (base := PySem.W.hideAll s.heap (frs X.stack ++ [a, T])) (cls := .ref C) (a0 := a0) hf hfr ⟨stays_hide _, PySem.W.hideAll_none _ (by simp), by rw [hst]; exact ff, oe, vs, T, oT, ts, y1, ⟨y2, y4⟩, y3, y5, PySem.W.hideAll_none _ (by simp), y6, y7, y8, y9⟩ fun h4 held sm4 => ?_
  refine wpAny_landsW held fun h5 fl sm5 => ?_
  obtain ⟨x1, _, x2, x3⟩ := fl
  obtain ⟨i, t⟩ := left_ok hex I hh (by simp) x1 (.inr trivial) x3 (sm4.trans sm5)
  exact h h5 i t
/-- its flight is put down once more -/
theorem land_ok (hex : X.ex = []) (I : Inv X pins σ H s) (t : Trc X pins H a C s.heap) {Q : Unit → Shared → Prop} {E : Value → Shared → Prop} {A : Around}
    (h : ∀ h', Inv X pins σ H { s with heap := h' } → Trc X pins H a C h' → Q () { s with heap := h' }) : wpAny (model X.prog X.w) A (setFlight (.ref a) none) Q E s := by
  obtain ⟨pa, T, ⟨oe, vs, a0, oT, ts, y1, y2, y3, y4, y5, y6, y7, y8, y9⟩, pT⟩ := t
  have hh : ∀ b ∈ [a, T], Ap X pins H b := fun b hb => by
    simp only [List.mem_cons, List.not_mem_nil, or_false] at hb
    rcases hb with rfl | rfl
    · exact pa
    · exact pT
  refine wpAny_setFlight_noneW (base := PySem.W.hideAll s.heap (frs X.stack ++ [a, T])) (cls := .ref C) (a0 := a0) (fl := .none) (stays_hide _) (fun_hide I [a, T]) ⟨oe, vs, T, oT, ts, y1, ⟨y2, y4⟩, y3, y5, PySem.W.hideAll_none _ (by simp), y6, y7, y8, y9⟩ fun h' k1 k2 k3 k4 => ?_
  obtain ⟨i, t⟩ := left_ok hex I hh (by simp) k1 (.inr trivial) k3 fun b o e hn => ⟨o.slots, k4 b o e hn⟩
  exact h h' i t
end
end PL

set_option Elab.async false
set_option linter.all false
set_option maxRecDepth 100000
namespace PL
open PySem PySem.Spec PyProof.Rows L2

/-! ### own error classes -/
noncomputable abbrev veMro : List Value := [.type "ValueError", .type "Exception", .type "BaseException", .type "object"]
theorem exc_open {K : PySem.W.Frag} {h : Heap} {C : Addr} {bmB : List Value} {nid : String} (X : K.In h) (q : PySem.W.excIn K C bmB nid = true) :
    ∃ nm qn N bs bm hd sn sub ab col dd k0 k1 k2 k3 k5 mN, h.get? C = some (excClassObj nm qn C N bs bm hd sn sub ab col dd k0 k1 k2 k3 k5 nid) ∧ h.Ns N mN ∧ mN "__init__" = none ∧ OwnTail h bmB bm := by
  unfold PySem.W.excIn at q
  split at q
  · rename_i dct cdat slots look
    split at q
    · rename_i C1 tail s0 s1 s2 s3 made s5 emro eslots
      rw [Bool.and_eq_true, Bool.and_eq_true, Bool.and_eq_true, Bool.and_eq_true, Bool.and_eq_true] at q
      obtain ⟨⟨⟨⟨⟨eC, en⟩, edel⟩, etl⟩, ens⟩, eni⟩ := q
      have eC' := beq_iff_eq.mp eC
      have en' := beq_iff_eq.mp en
      have eni' := beq_iff_eq.mp eni
      have edel' : cdat.hasDel = false := by cases hx : cdat.hasDel <;> simp_all
      subst eC' en'
      have look' := X _ _ look
      cases cdat
      simp only at emro edel' ens eni'
      subst emro edel'
      obtain ⟨sl⟩ := slots
      simp only at eslots
      subst eslots
      refine ⟨_, _, _, _, tail, _, _, _, _, _, _, s0, s1, s2, s3, s5, _, look', Heap.Ns.of_isNs (PySem.W.isNs_of_in X ens), ?_, PySem.W.tail_of_in X etl⟩
      exact PySem.W.nsMap_none_of_in X ens eni'
    · cases q
  · cases q

noncomputable abbrev OrcX := Str → List PyData → Option Str
/-- what is wanted of an exception: its class c, the state at the raise -/
noncomputable def Xf (X : Cx) (pins : List (Addr × Obj)) (H : Hp) (c : Str) (ok : L2.St → Hp → Prop) (ev : Value) (s' : Shared) : Prop :=
  ∃ a C H' σ', ev = .ref a ∧ (xcNames.contains c = true ∧ X.mg c = some (.ref C)) ∧ Inv X pins σ' H' s' ∧ Same H H' ∧ Thr X pins H' a C s'.heap ∧ ok σ' H'
noncomputable def X1 (X : Cx) (e : Expr) (g : Rho → Option Str) : Prop := ∀ (pins : List (Addr × Obj)) (s : Shared) (σ : L2.St) (H : Hp) (r : Rho) (c : Str), Inv X pins σ H s → EnvOk X.K X.mg H r σ → g r = some c →
  wpAny (model X.prog X.w) X.A (eval e X.env) (fun _ _ => False) (Xf X pins H c fun σ' _ => σ' = σ) s
noncomputable def XA1 (X : Cx) (es : List Expr) (g : Rho → Option Str) : Prop := ∀ (pos : Pos) (pins : List (Addr × Obj)) (s : Shared) (σ : L2.St) (H : Hp) (r : Rho) (c : Str), Inv X pins σ H s → EnvOk X.K X.mg H r σ → g r = some c →
  wpAny (model X.prog X.w) X.A (spliced (backTo pos (starEach es X.env))) (fun _ _ => False) (Xf X pins H c fun σ' _ => σ' = σ) s
noncomputable def XS1 (X : Cx) (st : Stmt) (g : Rho → Option (Str × Rho)) : Prop := ∀ (pins : List (Addr × Obj)) (s : Shared) (σ : L2.St) (H : Hp) (r : Rho) (c : Str) (r' : Rho), Inv X pins σ H s → EnvOk X.K X.mg H r σ → g r = some (c, r') →
  wpAny (model X.prog X.w) X.A (exec st X.env) (fun _ _ => False) (Xf X pins H c fun σ' H' => EnvOk X.K X.mg H' r' σ') s
noncomputable def XSS1 (X : Cx) (st : List Stmt) (g : Rho → Option (Str × Rho)) : Prop := ∀ (pins : List (Addr × Obj)) (s : Shared) (σ : L2.St) (H : Hp) (r : Rho) (c : Str) (r' : Rho), Inv X pins σ H s → EnvOk X.K X.mg H r σ → g r = some (c, r') →
  wpAny (model X.prog X.w) X.A (execs st X.env) (fun _ _ => False) (Xf X pins H c fun σ' H' => EnvOk X.K X.mg H' r' σ') s
theorem xf_mono {X : Cx} {pins : List (Addr × Obj)} {H H1 : Hp} {c : Str} {ok ok' : L2.St → Hp → Prop} {ev : Value} {s : Shared} (e : Same H H1) (h : Xf X pins H1 c ok ev s) (k : ∀ σ H', Same H1 H' → ok σ H' → ok' σ H') : Xf X pins H c ok' ev s := by
  obtain ⟨a, C, H', σ', h1, h2, h3, h4, h5, h6⟩ := h
  exact ⟨a, C, H', σ', h1, h2, h3, e.trans h4, h5, k _ _ h4 h6⟩

section
variable {X : Cx} {pins : List (Addr × Obj)} {s : Shared} {σ : L2.St} {H : Hp} {r : Rho}
theorem run_e {e : Expr} {g : Rho → Option PyData} {d : PyData} {E : Value → Shared → Prop} (h : E1 X.nox e g) (I : Inv X pins σ H s) (env : EnvOk X.K X.mg H r σ) (hg : g r = some d) :
    wpAny (model X.prog X.w) X.A (eval e X.env) (fun v s1 => ∃ x H1, Inv X pins σ H1 s1 ∧ Same H H1 ∧ Br X.K X.mg H1 d x ∧ RelV x v) E s :=
  wpAny_mono (h pins s σ H (fun x H1 => Same H H1 ∧ Br X.K X.mg H1 d x) (I.wish _) ⟨r, d, env, hg, fun v H' a b => ⟨a, b⟩⟩) (fun v s1 ⟨x, H1, I1, r1, s2, b⟩ => ⟨x, H1, I1.unwish, s2, b, r1⟩) fun _ _ z => False.elim z
theorem run_a {es : List Expr} {g : Rho → Option (List PyData)} {ds : List PyData} {pos : Pos} {E : Value → Shared → Prop} (h : A1 X.nox es g) (I : Inv X pins σ H s) (env : EnvOk X.K X.mg H r σ) (hg : g r = some ds) :
    wpAny (model X.prog X.w) X.A (spliced (backTo pos (starEach es X.env))) (fun us s1 => ∃ vs H1, Inv X pins σ H1 s1 ∧ Same H H1 ∧ Brs X.K X.mg H1 ds vs ∧ Vals vs us) E s :=
  wpAny_mono (h pos pins s σ H (fun x H1 => Same H H1 ∧ Brs X.K X.mg H1 ds x) (I.wish _) ⟨r, ds, env, hg, fun v H' a b => ⟨a, b⟩⟩) (fun v s1 ⟨x, H1, I1, r1, s2, b⟩ => ⟨x, H1, I1.unwish, s2, b, r1⟩) fun _ _ z => False.elim z
theorem run_t {e : Expr} {g : Rho → Option PyData} {b : Bool} {E : Value → Shared → Prop} (h : T1 X.nox e g) (I : Inv X pins σ H s) (env : EnvOk X.K X.mg H r σ) (hg : g r = some (.bool b)) :
    wpAny (model X.prog X.w) X.A (isTrue e X.env (eval e X.env)) (fun k s1 => k = b ∧ ∃ H1, Inv X pins σ H1 s1 ∧ Same H H1) E s :=
  wpAny_mono (h pins s σ H (fun k H1 => k = b ∧ Same H H1) (I.wish _) ⟨r, b, env, hg, fun H' a => ⟨rfl, a⟩⟩) (fun v s1 ⟨H1, I1, e, s2⟩ => ⟨e, H1, I1.unwish, s2⟩) fun _ _ z => False.elim z
end

/-! ### expressions that raise -/
section
variable {X : Cx} {a b c : Expr} {es : List Expr} {pos : Pos} {ga gb : Rho → Option PyData} {xa xb xc : Rho → Option Str}
/-- the first raises, or the first is told and the second raises -/
noncomputable def two (xa : Rho → Option Str) (ga : Rho → Option PyData) (xb : Rho → Option Str) (r : Rho) : Option Str := match xa r with
  | some c => some c
  | none => match ga r with
    | some _ => xb r
    | none => none
theorem two_some {r : Rho} {n : Str} (h : two xa ga xb r = some n) : xa r = some n ∨ ∃ d, ga r = some d ∧ xb r = some n := by
  unfold two at h
  cases e : xa r with
  | some c => rw [e] at h; exact .inl h
  | none =>
    rw [e] at h
    cases e2 : ga r with
    | none => rw [e2] at h; cases h
    | some d => rw [e2] at h; exact .inr ⟨d, rfl, h⟩
theorem xa_nil : XA1 X [] (fun _ => none) := fun _ _ _ _ _ _ _ _ _ h => by cases h
theorem xa_cons (hs : starEach (a :: es) X.env = (false, eval a X.env) :: starEach es X.env) (ha : X1 X a xa) (hga : E1 X.nox a ga) (hb : XA1 X es xb) : XA1 X (a :: es) (two xa ga xb) := by
  intro pos pins s σ H r n I env hg
  rw [hs]
  show wpAny _ _ (spliced ((false, eval a X.env) :: backTo pos (starEach es X.env))) _ _ s
  refine Calls.spliced_cons ?_
  rcases two_some hg with h | ⟨d, h1, h2⟩
  · exact wpAny_mono (ha pins s σ H r n I env h) (fun _ _ z => False.elim z) fun _ _ z => z
  · refine wpAny_mono (run_e hga I env h1) (fun v s1 ⟨x, H1, I1, s2, b1, r1⟩ => ?_) fun _ _ z => z
    exact wpAny_mono (hb pos pins s1 σ H1 r n I1 (envOk_mono s2 env) h2) (fun _ _ z => False.elim z) fun _ _ z => xf_mono s2 z fun _ _ _ q => q
theorem x_none {e : Expr} : X1 X e (fun _ => none) := fun _ _ _ _ _ _ _ _ h => by cases h
theorem x_tup {x1 : Nat} (h : XA1 X es xa) : X1 X (.Tuple es x1 pos) xa := by
  intro pins s σ H r n I env hg
  exact wpAny_Tuple_spliced (wpAny_mono (h pos pins s σ H r n I env hg) (fun _ _ z => False.elim z) fun _ _ z => z)
/-! calls -/
/-- what a def promises, exceptions with it -/
noncomputable def spX (K : PySem.W.Frag) (mg : Str → Option Value) (n : Nat) (f : List PyData → Option PyData) (fx : List PyData → Option Str) : Sp := fun vs H Q E => vs.length = n ∧
  (rDC K mg f vs H Q ∨ ∃ xs c C, Brs K mg H xs vs ∧ fx xs = some c ∧ mg c = some (.ref C) ∧ ∀ H', Same H H' → E (.ref C) none H')
structure FXOk (X : Cx) (k : Nat) (C : Orc) (D : OrcX) (f : Str) : Prop where
  ex : ∃ (fa : Addr) (fd : FuncData) (ps : List Str), X.mg f = some (.ref fa) ∧ PySem.W.keepIn X.K (.ref fa) = true ∧ Binds X.K fd ps [] ∧
    FnOk X.prog X.w X.K X.mg X.base (CX1 X.prog X.w) k fa fd ps (spX X.K X.mg ps.length (C f) (D f)) ∧ (∀ ds d, C f ds = some d → ds.length = ps.length) ∧ (∀ ds c, D f ds = some c → ds.length = ps.length ∧ xcNames.contains c = true ∧ ∃ A, X.mg c = some (.ref A))
/-- the normal part of the promise -/
theorem fn_norm {P : Program} {w : World} {K : PySem.W.Frag} {mg : Str → Option Value} {base : Heap} {k n : Nat} {fa : Addr} {fd : FuncData} {ps : List Str} {f : List PyData → Option PyData} {fx : List PyData → Option Str}
    (F : FnOk P w K mg base (CX1 P w) k fa fd ps (spX K mg n f fx)) : FnOk P w K mg base CX0 k fa fd ps (spP K mg n f) :=
  ⟨fun vs H Q E h => F.len vs H Q E ⟨h.1, .inl h.2⟩, fun A outer s H args us vs Q E hr he hb hv hs =>
    codeAny_mono (F.run A outer s H args us vs Q (fun _ _ _ => False) hr he hb hv ⟨hs.1, .inl hs.2⟩) fun rr s' hq => by
      cases rr with
      | ok fl => cases fl <;> exact hq
      | error e =>
        obtain ⟨_, _, _, _, _, _, _, _, _, _, _, _, _, _, z⟩ := hq
        exact z⟩
/-- a callee raises -/
theorem run_fnX {k : Nat} {fa : Addr} {fd : FuncData} {ps : List Str} {f : List PyData → Option PyData} {fx : List PyData → Option Str} {pins : List (Addr × Obj)} {σ : L2.St} {H : Hp} {s : Shared} {us : List Value} {vs : List V} {xs : List PyData} {n : Str} {Ca : Addr}
    (hex : X.ex = []) (F : FnOk X.prog X.w X.K X.mg X.base (CX1 X.prog X.w) k fa fd ps (spX X.K X.mg ps.length f fx)) (hr : Room k X.A) (hb : Binds X.K fd ps []) (I : Inv X pins σ H s) (rv : Vals vs us) (bv : Brs X.K X.mg H xs vs) (hl : xs.length = ps.length)
    (hx : fx xs = some n) (hxn : xcNames.contains n = true) (hm : X.mg n = some (.ref Ca)) : wpAny (model X.prog X.w) X.A (call (.ref fa) us) (fun _ _ => False) (Xf X pins H n fun σ' _ => σ' = σ) s := by
  have hl2 : vs.length = ps.length := by rw [← brs_length xs vs bv]; exact hl
  have hu : (us ++ []).length = ps.length := by rw [List.append_nil, ← rv.length]; exact hl2
  have hbb := hb s us I.kIn hu
  rw [List.append_nil] at hbb
  refine wpAny_call (codeAny_mono (F.run X.A X.stack s H ⟨us, []⟩ us vs (fun _ _ => False) (fun cv _ H' => cv = .ref Ca ∧ Same H H') hr I.env0 hbb rv ⟨hl2, .inr ⟨xs, n, Ca, bv, hx, hm, fun H' e => ⟨rfl, e⟩⟩⟩) fun rr s' hq => ?_)
  cases rr with
  | ok fl =>
    cases fl with
    | ret u =>
      obtain ⟨_, _, _, _, _, _, _, z⟩ := hq
      exact z
    | next => exact hq
    | brk => exact hq
    | cont => exact hq
  | error e =>
    obtain ⟨a, Cb, H', T, rfl, os, bare, un, hok, rc, na, nT, fA, fT, ec, sm⟩ := hq
    injection ec with ec
    subst ec
    exact ⟨a, Cb, H', σ, rfl, ⟨hxn, hm⟩, I.call' (ch := []) os un hok bare (fun b z => absurd z (by simp)), sm, .inl ⟨ap_of_new hex I na fA, T, rc, ap_of_new hex I nT fT⟩, rfl⟩
noncomputable def callX (xa : Rho → Option Str) (g : Rho → Option (List PyData)) (fx : List PyData → Option Str) (r : Rho) : Option Str := match xa r with
  | some c => some c
  | none => match g r with
    | some ds => fx ds
    | none => none
theorem callX_some {g : Rho → Option (List PyData)} {fx : List PyData → Option Str} {r : Rho} {n : Str} (h : callX xa g fx r = some n) : xa r = some n ∨ ∃ ds, g r = some ds ∧ fx ds = some n := by
  unfold callX at h
  cases e : xa r with
  | some c => rw [e] at h; exact .inl h
  | none =>
    rw [e] at h
    cases e2 : g r with
    | none => rw [e2] at h; cases h
    | some d => rw [e2] at h; exact .inr ⟨d, rfl, h⟩
theorem x_call {S : Sg} {k : Nat} {C : Orc} {D : OrcX} (hex : X.ex = []) (h : Hx X S k C) (hf : FXOk X k C D x) {p : Pos} {g : Rho → Option (List PyData)} (hg : glB S.sc x = true) (hn : nmB x = true) (ha : A1 X.nox (a :: es) g) (hxa : XA1 X (a :: es) xa) (hh : ∀ e' ∈ a :: es, okHead e' = true) :
    X1 X (.Call (.Name x p) (a :: es) [] pos) (callX xa g (D x)) := by
  obtain ⟨fa, fd, ps, h1, h2, h3, h4, h5, h6⟩ := hf.ex
  intro pins s σ H r n I env hgr
  refine wpAny_Call_Name_kw (ld_glob I (h.gl hg) h1 ?_ (nm1 hn))
  rcases callX_some hgr with q | ⟨ds, q1, q2⟩
  · exact PySem.W.callWith_K (h₀ := X.base) I.ok.mod.kin h2 (wpAny_mono (hxa pos pins s σ H r n I env q) (fun _ _ z => False.elim z) fun _ _ z => z) (star_ok (hh a List.mem_cons_self)) (stars_ok fun e' he => hh e' (List.mem_cons_of_mem _ he))
  · obtain ⟨hl, hxn, Ca, hm⟩ := h6 ds n q2
    refine PySem.W.callWith_K (h₀ := X.base) I.ok.mod.kin h2 (wpAny_mono (run_a ha I env q1) (fun us s1 ⟨vs, H1, I1, sm, bv, rv⟩ => ⟨I1.kIn, ?_⟩) fun _ _ z => z) (star_ok (hh a List.mem_cons_self)) (stars_ok fun e' he => hh e' (List.mem_cons_of_mem _ he))
    exact wpAny_mono (run_fnX hex h4 h.room h3 I1 rv bv hl q2 hxn hm) (fun _ _ z => z) fun _ _ z => xf_mono sm z fun _ _ _ q => q
end
end PL

set_option Elab.async false
set_option linter.all false
set_option maxRecDepth 100000
namespace PL
open PySem PySem.Spec PyProof.Rows L2

/-- what the module's text says of an own error class -/
structure ClsOk (K : PySem.W.Frag) (C : Addr) : Prop where
  exc : PySem.W.excIn K C veMro "ValueError.__new__" = true
  ga : PySem.W.findIn K (.ref C) "__getattribute__" = some (some (.builtin "BaseException.__getattribute__"))
  nh : PySem.W.findIn K (.ref C) "__getattr__" = some none
  cl : PySem.W.findIn K (.ref C) "__class__" = some (some (.builtin "object.__class__"))
  mo : PySem.W.mroIn K C (.type "object") = some true
  mb : PySem.W.mroIn K C (.type "BaseException") = some true
  gs : PySem.W.specialIn K (.builtin "object.__class__") "__get__" = some (some (.builtin "getset_descriptor.__get__"))
  tk : PySem.W.takesIn K (.builtin "object.__class__") = some true

section
variable {prog : Program} {w : World} {A : Around} {E : Value → Shared → Prop} {s : Shared} {K : PySem.W.Frag} {a C : Addr} {oe : Obj} {vs : Array Value}
end
end PL
namespace PL
open PySem PySem.Spec PyProof.Rows L2 PySem.W Builtin Builtin.ObjectAttr Builtin.Getset_descriptor
section
variable {prog : Program} {w : World} {A : Around} {E : Value → Shared → Prop} {s : Shared} {K : PySem.W.Frag} {a C : Addr} {oe : Obj}
theorem exc_cls_get {R : Result → Shared → Prop} {tp : Value} (X : K.In s.heap) (L0 : Looks (model prog w) s.heap (typeOf (.ref a)) (.ref C)) (k : ClsOk K C) (hq : R (.ok (.ret (.ref C))) s) :
    codeAny (model prog w) A (.call (.builtin "getset_descriptor.__get__") ⟨[.builtin "object.__class__", .ref a, tp], []⟩) R s := by
  obtain ⟨hh, g, dr, t, os⟩ := s
  have L1 := looks_mroIn (M := model prog w) X k.mo
  refine codeAny_call_builtin KF.slot_gs.plain KF.entry_gs (KF.slot_gs.check _ _ _ _ _ _ _ _ KF.type_class (KF.args_gs _ _ _) ?_)
  unfold Builtin.«getset_descriptor.__get__» descrGet
  rw [dga_obj]
  refine wpAny_bind (wpAny_pure ?_)
  unfold descrGetter descrCheckInstance descrNameAndClass isInstance
  simp only [KF.owner_class]
  repeat lk
  refine ⟨Code.quiet_builtin _ (by decide +kernel), codeAny_builtin KF.entry_class ?_⟩
  show wpAny _ _ (Builtin.«object.__class__» _) _ _ _
  unfold Builtin.«object.__class__» shownTypeOf
  repeat lk
  exact hq
theorem exc_entry {tk : Tok} {Q : Fin → Shared → Prop} (X : K.In s.heap) (L0 : Looks (model prog w) s.heap (typeOf (.ref a)) (.ref C)) (k : ClsOk K C) (hq : Q (.done (.ret (.ref C))) s) :
    wpAny (model prog w) A (Builtin.«object.__getattribute__» ⟨[.ref a, .str "__class__" tk], []⟩) Q E s := by
  obtain ⟨hh, g, dr, t, os⟩ := s
  have L1 := looks_findIn (M := model prog w) X k.cl
  have L2 := looks_specialIn (M := model prog w) X k.gs
  have L3 := looks_takesIn (M := model prog w) X k.tk
  unfold Builtin.«object.__getattribute__»
  repeat lk
  refine wpAny_run (h := none) (exc_cls_get X L0 k ?_) (by intro q; cases q)
  exact wpAny_pure (wpAny_pure hq)
end
end PL
namespace PL
open PySem PySem.Spec PyProof.Rows L2 PySem.W Builtin Builtin.ObjectAttr Builtin.Getset_descriptor
section
variable {prog : Program} {w : World} {A : Around} {E : Value → Shared → Prop} {s : Shared} {K : PySem.W.Frag} {a C : Addr} {oe : Obj}
theorem exc_check {nameV : Value} {Q : Unit → Shared → Prop} (X : K.In s.heap) (L0 : Looks (model prog w) s.heap (typeOf (.ref a)) (.ref C)) (k : ClsOk K C) (hq : Q () s) :
    wpAny (model prog w) A (checkBuiltinCall "BaseException.__getattribute__" ⟨[.ref a, nameV], []⟩) Q E s := by
  obtain ⟨hh, g, dr, t, os⟩ := s
  have L1 := looks_mroIn (M := model prog w) X k.mb
  have hk : builtinKind "BaseException.__getattribute__" = some .slot := by decide +kernel
  have hsplit : splitId "BaseException.__getattribute__" = some ("BaseException", "__getattribute__") := by decide +kernel
  have ha := F.args_bexc_ga (.ref a) nameV
  simp only [checkBuiltinCall, hk, hsplit]
  unfold isInstance
  repeat (any_goals (first | assumption | lk | wp_step))
theorem exc_attr {Q : Option Value → Shared → Prop} (X : K.In s.heap) (L0 : Looks (model prog w) s.heap (typeOf (.ref a)) (.ref C)) (k : ClsOk K C) (hq : Q (some (.ref C)) { s with toks := s.toks + 1 }) :
    wpAny (model prog w) A (getAttr? (.ref a) "__class__") Q E s := by
  obtain ⟨hh, g, dr, t, os⟩ := s
  have L1 := looks_findIn (M := model prog w) X k.ga
  have L2 := looks_findIn (M := model prog w) X k.nh
  have fb := F.attrBase_ValueError.ga.bind (.ref a)
  unfold getAttr? getAttrBy? getAttrBy
  refine wpAny_bind (wpAny_mkText (wpAny_bind (wpAny_attempt (wpAny_holding (wpAny_bind (L0.at (wpAny_bind (L1.at ?_))))))))
  have hx : (onTheHeap (Value.ref C) && Value.builtin "BaseException.__getattribute__" == Value.builtin "object.__getattribute__") = false := by
    have : (Value.builtin "BaseException.__getattribute__" == Value.builtin "object.__getattribute__") = false := by decide +kernel
    rw [this, Bool.and_false]
  simp only [hx, Bool.false_eq_true, if_false]
  unfold getAttrByItsOwn hookBefore callGetattribute boundAndCalled
  simp only [Bool.false_and, Bool.false_eq_true, if_false]
  rw [if_pos (show onTheHeap (Value.ref C) = true from rfl)]
  refine wpAny_bind (L2.at ?_)
  refine wpAny_bind (wpAny_attempt (wpAny_holding ?_))
  rw [fb]
  refine wpAny_bind (wpAny_pure ?_)
  refine wpAny_call (codeAny_call_builtin F.attrBase_ValueError.ga.plain F.entry_bexc_ga (exc_check (s := ⟨hh, g, dr, t + 1, os⟩) X L0 k (exc_entry (s := ⟨hh, g, dr, t + 1, os⟩) X L0 k ?_)))
  refine handed_on rfl ?_
  exact wpAny_pure hq
/-- an exception of an own class, for isinstance -/
theorem kitx_exc (k : ClsOk K C) : KitX K (.ref a) (.ref C) (fun h => ∃ o, h.get? a = some o ∧ o.cls = .ref C) where
  ty := fun M h _ ⟨o, h1, h2⟩ => h2 ▸ (Looks.ld h1).andThen .now
  it := fun M h X _ => by
    obtain ⟨nm, qn, N, bs, bm, hd, sn, sub, ab, col, dd, k0, k1, k2, k3, k5, mN, hC, _⟩ := exc_open X k.exc
    intro A' Q' E' s' kp q
    unfold isType loadHead
    exact wpAny_bind (wpAny_loadPart (kp _ _ hC) (wpAny_pure q))
  ne := fun h tp dd' its n sl X htp => by
    obtain ⟨nm, qn, N, bs, bm, hd, sn, sub, ab, col, dd, k0, k1, k2, k3, k5, mN, hC, _⟩ := exc_open X k.exc
    refine Bool.eq_false_iff.mpr fun q => ?_
    have e : C = tp := Value.ref.inj (beq_iff_eq.mp q)
    subst e
    rw [hC] at htp
    injection htp with e1
    injection e1 with e2
    injection e2 with e3
    exact absurd e3 (by decide)
  ca := fun {prog w A E Q s} X p h => by
    obtain ⟨o, h1, h2⟩ := p
    exact exc_attr X (h2 ▸ (Looks.ld h1).andThen .now) k h
end
end PL

set_option Elab.async false
set_option linter.all false
set_option maxRecDepth 100000
namespace PL
open PySem PySem.Spec PyProof.Rows L2

/-! ### methods of texts -/
noncomputable def strsOf : List PyData → Option (List Str)
  | [] => some []
  | .str x :: r => match strsOf r with
    | some xs => some (x :: xs)
    | none => none
  | _ => none
inductive Sm where
  | find
  deriving DecidableEq
noncomputable def Sm.name : Sm → Str := fun _ => "find"
noncomputable def Sm.id : Sm → String := fun _ => "str.find"
noncomputable def findD : PyData → List PyData → Option PyData
  | .str x, [.str y] => some (.int (Txt.find x y))
  | _, _ => none
noncomputable def Sm.fn : Sm → PyData → List PyData → Option PyData := fun _ => findD
theorem Sm.slot (m : Sm) : Slot "str" m.name m.id := F.slot_str_find
theorem Sm.ty (m : Sm) : typeOf (.builtin m.id) = pure (.type "method_descriptor") := F.type_str_find
noncomputable def rDM (K : PySem.W.Frag) (mg : Str → Option Value) (f : PyData → List PyData → Option PyData) : V → List V → Hp → VK → Prop := fun v vs H Q => ∃ x xs d, Br K mg H x v ∧ Brs K mg H xs vs ∧ f x xs = some d ∧ ∀ w H', Same H H' → Br K mg H' d w → Q w H'
section
variable {X : Cx}
theorem c_sm (m : Sm) : MtR X m.id (rDM X.K X.mg m.fn) := by
  intro pins s σ H v vs u us Q I rv rvs ⟨x, xs, d, bx, bxs, hf, q⟩
  have fI : ∀ (z : Int), d = .int z → ∀ t' k, EP X pins σ Q (.int z t') { s with toks := k } := fun z e t' k => by
    subst e
    exact ⟨.int z, H, I.tok k, ⟨t', rfl⟩, q _ H (Same.refl H) (by simp only [Br])⟩
  unfold Sm.fn findD at hf
  split at hf
  · injection hf with hd
    simp only [Br] at bx; subst bx
    obtain ⟨t, rfl⟩ := rv
    obtain ⟨w, rfl, bw⟩ := brs1 bxs
    simp only [Br] at bw; subst bw
    obtain ⟨u1, rfl, ru⟩ := rvs.one
    obtain ⟨t2, rfl⟩ := ru
    exact SC.find (fI _ hd.symm _ _)
  · cases hf
noncomputable def smD (f : PyData → List PyData → Option PyData) (go : Rho → Option PyData) (g : Rho → Option (List PyData)) (r : Rho) : Option PyData := match go r with
  | some (.str x) => match g r with
    | some xs => f (.str x) xs
    | none => none
  | _ => none
theorem smD_some {f : PyData → List PyData → Option PyData} {go : Rho → Option PyData} {g : Rho → Option (List PyData)} {r : Rho} {d : PyData} (h : smD f go g r = some d) : ∃ x xs, go r = some (.str x) ∧ g r = some xs ∧ f (.str x) xs = some d := by
  unfold smD at h
  split at h
  · rename_i x e
    cases e2 : g r with
    | none => rw [e2] at h; cases h
    | some xs => rw [e2] at h; exact ⟨x, xs, e, rfl, h⟩
  · cases h
theorem tBM_of {m : Sm} {go : Rho → Option PyData} {g : Rho → Option (List PyData)} (σ : L2.St) (H : Hp) (Q : VK) (h : tP X.K X.mg (smD m.fn go g) σ H Q) : tBM X.K "str" (rDM X.K X.mg m.fn) (tP X.K X.mg go) (tPA X.K X.mg g) σ H Q := by
  obtain ⟨r, d, env, hg, q⟩ := h
  obtain ⟨x, xs, h1, h2, h3⟩ := smD_some hg
  refine ⟨r, _, env, h1, fun v H1 s1 b1 => ?_⟩
  have b1' := b1
  simp only [Br] at b1'
  subst b1'
  exact ⟨rfl, r, xs, envOk_mono s1 env, h2, fun vs H2 s2 b2 => ⟨_, xs, d, br_mono s2 _ _ b1, b2, h3, fun w H' s3 b3 => q w H' (s1.trans (s2.trans s3)) b3⟩⟩
/-- an expression whose method is called as it stands -/
noncomputable def plainB (o : Expr) : Prop := ∀ (n : Str) (env : Env), attributeBase o n env (eval o env) = eval o env
theorem base_ok {o : Expr} {name : Str} {env : Env} (h : plainB o) : attributeBase o name env (eval o env) = eval o env := h _ _
theorem stars_all {pos : Pos} {env : Env} : ∀ {es : List Expr}, (∀ e ∈ es, okHead e = true) → (backTo pos (starEach es env)).all (fun x => !x.1) = true
  | [], _ => rfl
  | e :: es, h => by
    rw [star_ok (h e List.mem_cons_self)]
    show (true && (backTo pos (starEach es env)).all (fun x => !x.1)) = true
    rw [stars_all fun e' he => h e' (List.mem_cons_of_mem _ he)]
    rfl
theorem e_sm (m : Sm) {o e : Expr} {es : List Expr} {apos cpos : Pos} {go : Rho → Option PyData} {g : Rho → Option (List PyData)} (ho : E1 X o go) (ha : A1 X (e :: es) g) (hb : plainB o) (hl : (apos.endLine == cpos.line) = true) (hh : ∀ e' ∈ e :: es, okHead e' = true) (hn : (e :: es).length < 30) :
    E1 X (.Call (.Attribute o m.name apos) (e :: es) [] cpos) (smD m.fn go g) := by
  refine pe_imp (pe_bm F.plainAttrs_str m.slot m.ty (c_sm m) ho ha (base_ok hb) ?_ hl (star_ok (hh e List.mem_cons_self)) (stars_ok fun e' he => hh e' (List.mem_cons_of_mem _ he))) tBM_of
  rw [stars_all hh]
  show (true && true && decide ((e :: es).length + 0 + 0 < 30)) = true
  rw [decide_eq_true (by simpa using hn)]
  rfl
/-! ### f-strings of texts -/
noncomputable def fstrD (g : Rho → Option (List PyData)) (r : Rho) : Option PyData := match g r with
  | some ds => match strsOf ds with
    | some ts => if okLen (ts.foldl (fun a x => a ++ x) Str.empty).length = true then some (.str (ts.foldl (fun a x => a ++ x) Str.empty)) else none
    | none => none
  | none => none
noncomputable def fmtD (ga : Rho → Option PyData) (r : Rho) : Option PyData := match ga r with
  | some (.str x) => if okLen x.length = true then some (.str x) else none
  | _ => none
/-- the parts of an f-string: each is told as a text -/
inductive Parts (X : Cx) : List Expr → (Rho → Option (List PyData)) → Prop
  | nil : Parts X [] nilD
  | cons {e : Expr} {es : List Expr} {ga : Rho → Option PyData} {g : Rho → Option (List PyData)} : E1 X e (fmtD ga) → Parts X es g → Parts X (e :: es) (consD ga g)
end
end PL

set_option Elab.async false
set_option linter.all false
set_option maxRecDepth 100000
namespace PL
open PySem PySem.Spec PyProof.Rows L2
/-! ### text.partition(sep) -/
section
variable {prog : Program} {w : World} {A : Around} {E : Value → Shared → Prop} {s : Shared} {Q : Value → Shared → Prop}
theorem part_call {x y : Str} {t u : Tok} (hy : (y.length == 0) = false) (hx : x.length ≤ sizeLine)
    (h : ∀ (ta tb tc : Tok) (k : Nat), Q (.ref s.heap.objs.size) { s with heap := s.heap.push { cls := .type "tuple", data := .seq #[.str (Txt.partition x y).fst ta, .str (Txt.partition x y).snd.fst tb, .str (Txt.partition x y).snd.snd tc] }, toks := k }) :
    wpAny (model prog w) A (call (.builtin "str.partition") [.str x t, .str y u]) Q E s := by
  refine wpAny_call (codeAny_call_builtin F.slot_str_partition.plain F.entry_str_partition (F.slot_str_partition.check _ _ _ _ _ _ _ _ (typeIs_str _ _ _) (F.args_str_partition_2 _ _) ?_))
  unfold Builtin.«str.partition» Builtin.Str.strOneArg
  repeat wp_step
  unfold Txt.partition at h
  split
  · rename_i i tl e
    rw [e] at h
    refine wpAny_bind (wpAny_mkStr (wpAny_bind (wpAny_mkStr (wpAny_bind (wpAny_newTuple (wpAny_pure ?_))) (Nat.le_trans (strSub_length_le _ _ _) hx))) (Nat.le_trans (strSub_length_le _ _ _) hx))
    exact h _ _ _ _
  · rename_i e
    rw [e] at h
    refine wpAny_bind (wpAny_rule ?_)
    refine wpAny_bind (wpAny_mkStr (wpAny_bind (wpAny_newTuple (wpAny_pure ?_))) (by decide))
    exact h _ _ _ _
end
noncomputable def ptnD : PyData → List PyData → Option PyData
  | .str x, [.str y] => if (okLen x.length && !(y.length == 0)) = true then some (.tuple [.str (Txt.partition x y).1, .str (Txt.partition x y).2.1, .str (Txt.partition x y).2.2]) else none
  | _, _ => none
section
variable {X : Cx}
theorem c_part : MtR X "str.partition" (rDM X.K X.mg ptnD) := by
  intro pins s σ H v vs u us Q I rv rvs ⟨x, xs, d, bx, bxs, hf, q⟩
  unfold ptnD at hf
  split at hf
  · rename_i x y
    obtain ⟨hc, hd⟩ := ite_some hf
    subst hd
    rw [Bool.and_eq_true, Bool.not_eq_true'] at hc
    simp only [Br] at bx; subst bx
    obtain ⟨t, rfl⟩ := rv
    obtain ⟨w, rfl, bw⟩ := brs1 bxs
    simp only [Br] at bw; subst bw
    obtain ⟨u1, rfl, ru⟩ := rvs.one
    obtain ⟨t2, rfl⟩ := ru
    refine part_call hc.2 (okLen_size hc.1) fun ta tb tc k => ?_
    have hf : H s.heap.objs.size = none := I.hok.fresh (Nat.le_refl _)
    refine ⟨.ref s.heap.objs.size, upd H s.heap.objs.size (.tup [.str (Txt.partition x y).1, .str (Txt.partition x y).2.1, .str (Txt.partition x y).2.2]), I.laid (t' := k) (fun b u e => Heap.get?_push_of_some _ e) (Nat.le_refl _) ?_, rfl, q _ _ (same_new hf _) ?_⟩
    · exact ⟨by show 3 ≤ sizeLine; rw [sizeLine_eq]; decide, [.str (Txt.partition x y).1 ta, .str (Txt.partition x y).2.1 tb, .str (Txt.partition x y).2.2 tc], .cons ⟨_, rfl⟩ (.cons ⟨_, rfl⟩ (.cons ⟨_, rfl⟩ .nil)), ⟨_, Heap.get?_push_size _ rfl, rfl, _, rfl⟩⟩
    · simp only [Br]
      exact ⟨_, _, rfl, SqT.of upd_same, by simp [Brs, Br]⟩
  · cases hf
theorem tBP_of {go : Rho → Option PyData} {g : Rho → Option (List PyData)} (σ : L2.St) (H : Hp) (Q : VK) (h : tP X.K X.mg (smD ptnD go g) σ H Q) : tBM X.K "str" (rDM X.K X.mg ptnD) (tP X.K X.mg go) (tPA X.K X.mg g) σ H Q := by
  obtain ⟨r, d, env, hg, q⟩ := h
  obtain ⟨x, xs, h1, h2, h3⟩ := smD_some hg
  refine ⟨r, _, env, h1, fun v H1 s1 b1 => ?_⟩
  have b1' := b1
  simp only [Br] at b1'
  subst b1'
  exact ⟨rfl, r, xs, envOk_mono s1 env, h2, fun vs H2 s2 b2 => ⟨_, xs, d, br_mono s2 _ _ b1, b2, h3, fun w H' s3 b3 => q w H' (s1.trans (s2.trans s3)) b3⟩⟩
theorem e_part {o e : Expr} {apos cpos : Pos} {go : Rho → Option PyData} {g : Rho → Option (List PyData)} (ho : E1 X o go) (ha : A1 X [e] g) (hb : plainB o) (hl : (apos.endLine == cpos.line) = true) (hh : okHead e = true) :
    E1 X (.Call (.Attribute o "partition" apos) [e] [] cpos) (smD ptnD go g) := by
  refine pe_imp (pe_bm F.plainAttrs_str F.slot_str_partition F.type_str_partition c_part ho ha (base_ok hb) ?_ hl (star_ok hh) (stars_ok fun e' he => absurd he (by simp))) tBP_of
  rw [stars_all (es := [e]) (fun e' he => by simp only [List.mem_cons, List.not_mem_nil, or_false] at he; rw [he]; exact hh)]
  rfl
/-! ### a text of the module, a text within a text -/
theorem e_glb {x t : Str} {tk : Tok} {pos : Pos} (hg : Gl X x) (hm : X.mg x = some (.str t tk)) (hd : (x == ("__debug__" : Str)) = false) : E1 X (.Name x pos) (fun _ => some (.str t)) :=
  pe_imp (pe_glob hg hm (v := .str t) ⟨tk, rfl⟩ hd) fun σ H Q ⟨r, d, env, hgr, q⟩ => by
    injection hgr with e
    subst e
    exact q _ H (Same.refl H) (by simp only [Br])
noncomputable def insD : PyData → PyData → Option PyData
  | .str i, .str j => some (.bool (!(Builtin.Str.occurrences j i 0 j.length 1).isEmpty))
  | _, _ => none
theorem i_ins : OpR X (compareOp .In) (rD X.K X.mg insD) := by
  intro pins s σ H v u vv uu Q I rv ru ⟨x, y, d, bx, bY, hf, q⟩
  unfold insD at hf
  split at hf
  · injection hf with e
    subst e
    simp only [Br] at bx bY
    exact op_in_str pins s σ H v u vv uu Q I rv ru ⟨_, _, bx, bY, q _ H (Same.refl H) (by simp only [Br])⟩
  · cases hf
end
/-! ### range with a step -/
noncomputable def itS (lo st : Int) (n : Nat) : It where
  go := fun i _ => i < n
  yld := fun i H x H' => H' = H ∧ x = .int (lo + (i : Int) * st)
  stop := fun i _ => n ≤ i
theorem turn_rangeS {P : Program} {w : World} {K : PySem.W.Frag} {tg : Expr} (it : Addr) (lo st : Int) (n : Nat) : Turn P w K tg (itS lo st n) [it] it (fun i h => IsRangeIter h it (lo + (i : Nat) * st) ((n : Int) - (i : Nat)) st) where
  mem := by simp
  obj := fun i h st b hb => by
    have e : b = it := by simpa using hb
    subst e
    exact ⟨_, st, fun v z => by
      have z' : Data.fields _ = Data.cell v := z
      cases z'⟩
  keep := fun i h h' st k => k it (by simp) _ st
  item := by
    intro X hP hw hK hc i pins s σ H E I hf ht hg
    subst hP hw hK
    obtain ⟨f0, f1, f2, f3, f4, f5⟩ := hf it (by simp)
    have W := Walks.range (prog := X.prog) (w := X.w) (I.ok.hd hc) it lo st n
    refine W.item i s _ _ hg ht fun v h' tk hv st' kk => ?_
    obtain ⟨t, rfl⟩ := hv
    have I1 : Inv X pins σ H { s with heap := h', toks := tk } := I.turned (fun b o hb e => kk b o (by simpa using hb) e) f0 f1 f3 f4 f5
    exact ⟨_, rfl, go_of (s := { s with heap := h', toks := tk }) (n := "range_iterator") st' rfl rfl (by decide) ⟨.int (lo + i * st), H, I1, ⟨t, rfl⟩, ⟨rfl, rfl⟩, st', fun b hb => (hf b hb).1⟩⟩
  done := by
    intro X hP hw hK hc i pins s σ H E I hf ht hg
    subst hP hw hK
    obtain ⟨f0, f1, f2, f3, f4, f5⟩ := hf it (by simp)
    exact wpAny_pyNext_range_end (I.ok.hd hc) ht (by have : n ≤ i := hg; omega) fun h' eb => ⟨rfl, I.turned (t' := s.toks) (fun b o hb e => eb b o hb e) f0 f1 f3 f4 f5⟩
  self := fun _ _ _ _ _ st h => wpAny_pyIter_rangeiter st h
section
variable {X : Cx} {tg : Expr}
/-- how many -/
noncomputable def rngN (lo hi st : Int) : Nat := if lo < hi then ((hi - lo - 1) / st + 1).toNat else 0
theorem size_rngN {lo hi st : Int} (h : 0 < st) : Builtin.Range.rangeSize lo hi st = (rngN lo hi st : Int) := by
  unfold Builtin.Range.rangeSize rngN
  rw [if_pos h]
  split
  · have : 0 ≤ (hi - lo - 1) / st := Int.ediv_nonneg (by omega) (by omega)
    omega
  · rfl
theorem small_st {lo hi st : Int} (h1 : 0 ≤ lo) (h2 : lo < 2 ^ 40) (h3 : 0 ≤ hi) (h4 : hi < 2 ^ 40) (h5 : 0 < st) (h6 : st < 2 ^ 20) : Builtin.Range.small lo hi st = true := by
  have hs := size_rngN (lo := lo) (hi := hi) h5
  have hb : Builtin.Range.rangeSize lo hi st < 2 ^ 41 := by
    unfold Builtin.Range.rangeSize
    rw [if_pos h5]
    split
    · have : (hi - lo - 1) / st ≤ hi - lo - 1 := Int.ediv_le_self _ (by omega)
      omega
    · decide
  have hn : 0 ≤ Builtin.Range.rangeSize lo hi st := by rw [hs]; omega
  unfold Builtin.Range.small
  generalize Builtin.Range.rangeSize lo hi st = z at *
  unfold Builtin.Range.rangeFitsLong
  simp only [Bool.and_eq_true, Bool.or_eq_true, decide_eq_true_eq, beq_iff_eq, if_pos (show st > 0 from h5)]
  refine ⟨⟨⟨⟨?_, ?_⟩, ?_⟩, ?_⟩, .inr ?_⟩ <;> first | omega | exact ⟨by omega, by omega⟩
theorem range_itS {pins : List (Addr × Obj)} {σ : L2.St} {H : Hp} {s : Shared} {R : It → Hp → Prop} {E : Value → Shared → Prop} {lo hi st : Int} {t u v : Tok} {tk : Nat} (I : Inv X pins σ H s) (h1 : 0 ≤ lo) (h2 : lo < 2 ^ 40) (h3 : 0 ≤ hi) (h4 : hi < 2 ^ 40) (h5 : 0 < st) (h6 : st < 2 ^ 20)
    (q : R (itS lo st (rngN lo hi st)) H) : wpAny (model X.prog X.w) X.A (pyIter (.ref s.heap.objs.size)) (PIE X pins σ tg R) E { s with heap := s.heap.push { cls := .type "range", data := .fields #[.int lo t, .int hi u, .int st v] }, toks := tk } := by
  refine wpAny_pyIter_range (IsRange.new ..) (small_st h1 h2 h3 h4 h5 h6) ?_
  have I1 : Inv X pins σ H { s with heap := s.heap.push { cls := .type "range", data := .fields #[.int lo t, .int hi u, .int st v] }, toks := tk } := I.kept fun b o e => Heap.get?_push_of_some _ e
  refine ⟨(s.heap.push { cls := .type "range", data := .fields #[.int lo t, .int hi u, .int st v] }).objs.size, [(s.heap.push { cls := .type "range", data := .fields #[.int lo t, .int hi u, .int st v] }).objs.size], _, _, H, rfl,
    I1.kept (t' := tk) fun b o e => Heap.get?_push_of_some _ e, turn_rangeS _ lo st (rngN lo hi st), ?_, fun b hb => ?_, q⟩
  · have e1 : lo + ((0 : Nat) : Int) * st = lo := by simp
    have e2 : ((rngN lo hi st : Nat) : Int) - ((0 : Nat) : Int) = Builtin.Range.rangeSize lo hi st := by rw [size_rngN h5]; simp
    show IsRangeIter _ _ (lo + ((0 : Nat) : Int) * st) (((rngN lo hi st : Nat) : Int) - ((0 : Nat) : Int)) st
    rw [e1, e2]
    exact Heap.get?_push_size _ rfl
  · have e : b = (s.heap.push { cls := .type "range", data := .fields #[.int lo t, .int hi u, .int st v] }).objs.size := by simpa using hb
    subst e
    exact I1.fpOk (Nat.le_refl _) (I1.hok.fresh (Nat.le_refl _))
noncomputable def iRng3 (ta : TA) : TI := fun σ H R => ta σ H fun vs H1 => ∃ i j k : Int, vs = [.int i, .int j, .int k] ∧ (0 ≤ i ∧ i < 2 ^ 40 ∧ 0 ≤ j ∧ j < 2 ^ 40 ∧ 0 < k ∧ k < 2 ^ 20) ∧ R (itS i k (rngN i j k)) H1
theorem pi_range3 {a b c : Expr} {ta : TA} {p pos : Pos} (hg : Gl X "range") (hm : X.mg "range" = none) (ha : PA X [a, b, c] ta) (hs : starEach [a, b, c] X.env = [(false, eval a X.env), (false, eval b X.env), (false, eval c X.env)]) (hs2 : starEach [b, c] X.env = [(false, eval b X.env), (false, eval c X.env)]) :
    PI X tg (.Call (.Name "range" p) [a, b, c] [] pos) (iRng3 ta) := by
  intro pins s σ H R I h
  refine Call_ (ld_blt I hg hm boot_range (PyProof.Rows.callWith_type1 (thn (ha pos pins s σ H _ I h) fun us s1 ⟨vs, H1, I1, r1, q1⟩ => ?_) (by rw [hs, hs2]) (by rw [hs2]; rfl)))
  obtain ⟨i, j, k, e, ⟨q1, q2, q3, q4, q5, q6⟩, q⟩ := q1
  subst e
  cases r1 with
  | cons r rr =>
    cases rr with
    | cons r' rr =>
      cases rr with
      | cons r'' rr =>
        cases rr
        obtain ⟨t, rfl⟩ := r
        obtain ⟨t', rfl⟩ := r'
        obtain ⟨t'', rfl⟩ := r''
        exact call_range_3 (by omega) (range_itS I1 q1 q2 q3 q4 q5 q6 q) (.inl (PyProof.noPylong_small (by omega)))
noncomputable def rngS (lo hi st : Int) : List PyData := (List.range (rngN lo hi st)).map fun (k : Nat) => PyData.int (lo + (k : Int) * st)
noncomputable def okS (i j k : Int) : Bool := decide (0 ≤ i ∧ i < 2 ^ 40 ∧ 0 ≤ j ∧ j < 2 ^ 40 ∧ 0 < k ∧ k < 2 ^ 20)
noncomputable def rngIt3 (g g2 g3 : Rho → Option PyData) (r : Rho) : Option (List PyData) := match g r, g2 r, g3 r with
  | some (.int i), some (.int j), some (.int k) => if okS i j k = true then some (rngS i j k) else none
  | _, _, _ => none
theorem i_rng3 {a b c : Expr} {p pos : Pos} {g g2 g3 : Rho → Option PyData} (hgl : Gl X "range") (hm : X.mg "range" = none) (ha : E1 X a g) (hb : E1 X b g2) (hc : E1 X c g3) (hh : okHead a = true) (hh2 : okHead b = true) (hh3 : okHead c = true) : I1 X tg (.Call (.Name "range" p) [a, b, c] [] pos) (rngIt3 g g2 g3) := by
  refine ⟨_, pi_range3 hgl hm (a_cons ha (a_cons hb (a_cons hc a_nil (star_ok hh3)) (star_ok hh2)) (star_ok hh)) (by rw [star_ok hh, star_ok hh2, star_ok hh3]; rfl) (by rw [star_ok hh2, star_ok hh3]; rfl), fun σ H r ds R env hg hR => ?_⟩
  unfold rngIt3 at hg
  split at hg
  · rename_i i0 j k0 e2 e3 e4
    obtain ⟨hj, e1⟩ := ite_some hg
    subst e1
    have h1 := of_decide_eq_true hj
    refine ⟨r, [.int i0, .int j, .int k0], env, by simp [consD, e2, e3, e4, nilD], fun vs H1 s1 b1 => ?_⟩
    simp only [Brs] at b1
    obtain ⟨v, _, rfl, b, w, _, rfl, b2, z, _, rfl, b3, rfl⟩ := b1
    simp only [Br] at b b2 b3; subst b b2 b3
    refine ⟨i0, j, k0, rfl, h1, hR _ H1 s1 ?_⟩
    have hl : (rngS i0 j k0).length = rngN i0 j k0 := by simp [rngS]
    refine ⟨fun i d H hd sm => ⟨?_, fun x H' y => ?_⟩, fun H sm => Nat.le_of_eq hl.symm⟩
    · have : i < (rngS i0 j k0).length := (List.getElem?_eq_some_iff.mp hd).1
      show i < rngN i0 j k0
      omega
    · obtain ⟨e, rfl⟩ := y
      subst e
      have hi : i < rngN i0 j k0 := by have := (List.getElem?_eq_some_iff.mp hd).1; omega
      have e3 : (rngS i0 j k0)[i]? = some (.int (i0 + (i : Int) * k0)) := by simp [rngS, hi]
      rw [e3] at hd
      injection hd with hd; subst hd
      exact ⟨Same.refl _, by simp only [Br]⟩
  · cases hg
end
end PL

set_option Elab.async false
set_option linter.all false
set_option maxRecDepth 100000
namespace PL
open PySem PySem.Spec PyProof.Rows L2

mutual
inductive PX where
  | k (d : PyData)
  | v (i : Nat)
  | g (f : Str)
  | bin (op : Operator) (a b : PX)
  | cmp (op : CmpOp) (a b : PX)
  | and (a b : PX)
  | or (a b : PX)
  | not (a : PX)
  | neg (a : PX)
  | ife (c a b : PX)
  | tup (xs : List PX)
  | lst (xs : List PX)
  | call (f : Str) (xs : List PX)
  | callv (f : PX) (xs : List PX)
  | blt (b : Bl) (xs : List PX)
  | isin (T : Ty) (a : PX)
  | isx (c : Str) (a : PX)
  | sm (m : Sm) (o : PX) (xs : List PX)
  | fstr (xs : List PX)
  | ix (a b : PX)
  | sl (a lo hi : PX)
  | rev (a : PX)
  | ptn (a b : PX)
  | glb (t : Str)
  | ins (a b : PX)
  | comp (t : Tg) (it : PIt) (NC : List Str) (mp : List (Option Nat)) (conds : List PX) (elt : PX)
inductive PIt where
  | seq (e : PX)
  | rng1 (a : PX)
  | rng2 (a b : PX)
  | rng3 (a b c : PX)
end

noncomputable def part (p : PX) (g : Rho → Option PyData) : Rho → Option PyData := match p with
  | .k .none => fun _ => some .none
  | _ => intOnly g
noncomputable def condD (gs : List (Rho → Option PyData)) : Rho → Option PyData := match gs with
  | [g] => g
  | _ => fun _ => some (.bool true)

/-- which of the program's own errors stands under which -/
noncomputable def subX (c d : Str) : Bool := d == c || d == "ClockError"
noncomputable def isxD (c : Str) : PyData → Option PyData
  | .dict [(.str c0, .none)] => some (.bool (c == "ValueError" || subX c0 c))
  | _ => none
mutual
noncomputable def ev (C : Orc) : PX → Rho → Option PyData
  | .k d => fun _ => some d
  | .v i => vr i
  | .g f => fun _ => some (fnD f)
  | .bin op a b => bin2 (binD op) (ev C a) (ev C b)
  | .cmp op a b => bin2 (cmpD op) (ev C a) (ev C b)
  | .and a b => andD (ev C a) (ev C b)
  | .or a b => orD (ev C a) (ev C b)
  | .not a => notD (ev C a)
  | .neg a => un1 negD (ev C a)
  | .ife c a b => ifD (ev C c) (ev C a) (ev C b)
  | .tup xs => tupD (evs C xs)
  | .lst xs => lstD (evs C xs)
  | .call f xs => appD (C f) (evs C xs)
  | .callv f xs => callvD C (ev C f) (evs C xs)
  | .blt b xs => appD b.fn (evs C xs)
  | .isin T a => un1 (isinD T) (ev C a)
  | .isx c a => un1 (isxD c) (ev C a)
  | .sm m o xs => smD m.fn (ev C o) (evs C xs)
  | .fstr xs => fstrD (evs C xs)
  | .ix a b => bin2 ixD (ev C a) (ev C b)
  | .sl a lo hi => sl4 (ev C a) (part lo (ev C lo)) (part hi (ev C hi))
  | .rev a => un1 revD (ev C a)
  | .ptn a b => smD ptnD (ev C a) (consD (ev C b) nilD)
  | .glb t => fun _ => some (.str t)
  | .ins a b => bin2 insD (ev C a) (ev C b)
  | .comp t it _ mp cs e => compD t (itD C it) mp (condD (evl C cs)) (ev C e)
noncomputable def evs (C : Orc) : List PX → Rho → Option (List PyData)
  | [] => nilD
  | x :: xs => consD (ev C x) (evs C xs)
noncomputable def evl (C : Orc) : List PX → List (Rho → Option PyData)
  | [] => []
  | x :: xs => ev C x :: evl C xs
noncomputable def itD (C : Orc) : PIt → Rho → Option (List PyData)
  | .seq e => anyIt (ev C e)
  | .rng1 a => rngIt1 (ev C a)
  | .rng2 a b => rngIt2 (ev C a) (ev C b)
  | .rng3 a b c => rngIt3 (ev C a) (ev C b) (ev C c)
end

mutual
noncomputable def evX (C : Orc) (D : OrcX) : PX → Rho → Option Str
  | .call f xs => callX (evsX C D xs) (evs C xs) (D f)
  | .tup xs => evsX C D xs
  | .lst xs => evsX C D xs
  | _ => fun _ => none
noncomputable def evsX (C : Orc) (D : OrcX) : List PX → Rho → Option Str
  | [] => fun _ => none
  | x :: xs => two (evX C D x) (ev C x) (evsX C D xs)
end

noncomputable def cells (l : List (Str × NameKind)) : Bool := l.all fun x => !(x.2 == .cell)
noncomputable def capd (l : List (Str × NameKind)) (o : List (Str × NameKind)) : Bool := l.all fun x => !(x.2 == .free) || decide (o.lookup x.1 = some .cell) || decide (o.lookup x.1 = some .free)
section
variable {k : Nat} {C : Orc}
end
section
variable {X : Cx} {S : Sg} {k : Nat} {C : Orc} {a b e : Expr} {p q : PX} {pos : Pos}
/-! ### a rule for each form of expression -/
theorem g_k {c : Const} {j : Nat} {d : PyData} (h : chkC d c = true) : Good X (.Constant c j pos) (ev C (.k d)) := good_val (const_ok h) (fun _ => rfl) (fun _ _ _ z => nomatch z)
theorem g_v (hx : Hx X S k C) {x : Str} {i : Nat} (h : (decide (S.N[i]? = some x) && visB S.sc x && nmB x) = true) : Good X (.Name x pos) (ev C (.v i)) := by
  simp only [Bool.and_eq_true] at h
  exact good_val (e_var (by rw [hx.hN]; exact of_decide_eq_true h.1.1) (hx.vis h.1.2) (nm1 h.2) (nm2 h.2)) (fun _ => rfl) (fun _ _ _ z => nomatch z)
theorem g_g (hx : Hx X S k C) {x : Str} (h : (glB S.sc x && S.fs.contains x && nmB x) = true) : Good X (.Name x pos) (ev C (.g x)) := by
  simp only [Bool.and_eq_true] at h
  obtain ⟨fa, fd, ps, h1, h2, h3, h4, h5⟩ := (hx.fns _ h.1.2).ex
  exact good_val (e_fn (hx.gl h.1.1) h1 (nm1 h.2)) (fun _ => rfl) (fun _ _ _ z => nomatch z)
theorem g_bin {op : Operator} (ha : Good X a (ev C p)) (hb : Good X b (ev C q)) : Good X (.BinOp a op b pos) (ev C (.bin op p q)) := good_val (e_bin (i_bin _) ha.1 hb.1) (fun _ => rfl) (fun _ _ _ z => nomatch z)
theorem g_cmp (hx : Hx X S k C) {op : CmpOp} (ha : Good X a (ev C p)) (hb : Good X b (ev C q)) (hh : okHead b = true) : Good X (.Compare a [op] [b] pos) (ev C (.cmp op p q)) :=
  ⟨e_cmp (i_cmp hx.units _) ha.1 hb.1 (marks_ok hh), t_cmp (i_cmp hx.units _) ha.1 hb.1 (marks_ok hh), fun op xs pos z => nomatch z⟩
theorem g_one {op : BoolOp} (ha : Good X a (ev C p)) : Good X (.BoolOp op [a] pos) (ev C p) := by
  have w1 : PW1 X (.BoolOp op [a] pos) (ev C p) := by
    cases op with
    | And => exact w_and1 ha.2.1
    | Or => exact w_or1 ha.2.1
  exact ⟨pe_one ha.1, w1.pt, fun _ _ _ _ => w1⟩
theorem g_and {r : List Expr} (ha : Good X a (ev C p)) (hb : Good X (.BoolOp .And (b :: r) pos) (ev C q)) : Good X (.BoolOp .And (a :: b :: r) pos) (ev C (.and p q)) :=
  have w1 := w_and ha.2.1 (hb.2.2 _ _ _ rfl)
  ⟨e_and ha.1 hb.1, w1.pt, fun _ _ _ _ => w1⟩
theorem g_or {r : List Expr} (ha : Good X a (ev C p)) (hb : Good X (.BoolOp .Or (b :: r) pos) (ev C q)) : Good X (.BoolOp .Or (a :: b :: r) pos) (ev C (.or p q)) :=
  have w1 := w_or ha.2.1 (hb.2.2 _ _ _ rfl)
  ⟨e_or ha.1 hb.1, w1.pt, fun _ _ _ _ => w1⟩
theorem g_not (ha : Good X a (ev C p)) : Good X (.UnaryOp .Not a pos) (ev C (.not p)) := ⟨e_not ha.1, t_not ha.2.1, fun _ _ _ z => nomatch z⟩
theorem g_neg (ha : Good X a (ev C p)) : Good X (.UnaryOp .USub a pos) (ev C (.neg p)) := good_val (e_neg ha.1) (fun _ => rfl) (fun _ _ _ z => nomatch z)
theorem g_ife {c : Expr} {pc : PX} (hc : Good X c (ev C pc)) (ha : Good X a (ev C p)) (hb : Good X b (ev C q)) : Good X (.IfExp c a b pos) (ev C (.ife pc p q)) := ⟨e_if hc.2.1 ha.1 hb.1, t_if hc.2.1 ha.2.1 hb.2.1, fun _ _ _ z => nomatch z⟩
noncomputable def AG (X : Cx) (C : Orc) (es : List Expr) (ps : List PX) : Prop := A1 X es (evs C ps) ∧ ∀ e ∈ es, okHead e = true
theorem ag0 : AG X C [] [] := ⟨a_nil, fun e he => absurd he (by simp)⟩
theorem ag1 {es : List Expr} {ps : List PX} (h : Good X e (ev C p)) (hh : okHead e = true) (t : AG X C es ps) : AG X C (e :: es) (p :: ps) :=
  ⟨a_cons h.1 t.1 (star_ok hh), fun e' he => (List.mem_cons.mp he).elim (fun z => by rw [z]; exact hh) (t.2 e')⟩
theorem g_tup {es : List Expr} {ps : List PX} {x1 : Nat} (h : AG X C es ps) : Good X (.Tuple es x1 pos) (ev C (.tup ps)) := good_val (e_tup h.1) (fun _ => rfl) (fun _ _ _ z => nomatch z)
theorem g_lst {es : List Expr} {ps : List PX} (h : AG X C es ps) : Good X (.List es pos) (ev C (.lst ps)) := good_val (e_lst h.1) (fun _ => rfl) (fun _ _ _ z => nomatch z)
noncomputable def fnB (S : Sg) (x : Str) : Bool := glB S.sc x && S.fs.contains x && nmB x
theorem g_call (hx : Hx X S k C) {x : Str} {p2 : Pos} {es : List Expr} {ps : List PX} (h : fnB S x = true) (g : AG X C (e :: es) (p :: ps)) : Good X (.Call (.Name x p2) (e :: es) [] pos) (ev C (.call x (p :: ps))) := by
  simp only [fnB, Bool.and_eq_true] at h
  exact good_val (e_call hx h.1.1 h.1.2 h.2 g.1 g.2) (fun _ => rfl) (fun _ _ _ z => nomatch z)
theorem g_blt (hx : Hx X S k C) (bl : Bl) {p2 : Pos} {es : List Expr} {ps : List PX} (h : glB S.sc bl.name = true) (g : AG X C (e :: es) (p :: ps)) : Good X (.Call (.Name bl.name p2) (e :: es) [] pos) (ev C (.blt bl (p :: ps))) :=
  good_val (e_blt bl hx.calm (hx.gl h) (hx.blt _ (blt_mem _)) g.1 (star_ok (g.2 e List.mem_cons_self)) (stars_ok fun e' he => g.2 e' (List.mem_cons_of_mem _ he))) (fun _ => rfl) (fun _ _ _ z => nomatch z)
theorem g_isin (hx : Hx X S k C) (T : Ty) {p2 p3 : Pos} (h : (glB S.sc "isinstance" && glB S.sc T.name) = true) (ha : Good X a (ev C p)) (hh : okHead a = true) : Good X (.Call (.Name "isinstance" p2) [a, .Name T.name p3] [] pos) (ev C (.isin T p)) := by
  simp only [Bool.and_eq_true] at h
  exact good_val (e_isin _ (hx.gl h.1) (hx.blt _ (by simp [bltNames])) (hx.gl h.2) (hx.blt _ (ty_mem _)) ha.1 (star_ok hh)) (fun _ => rfl) (fun _ _ _ z => nomatch z)
theorem g_ptn {apos : Pos} (ha : Good X a (ev C p)) (hb : Good X b (ev C q)) (h0 : plainB a) (h1 : (apos.endLine == pos.line) = true) (h2 : okHead b = true) : Good X (.Call (.Attribute a "partition" apos) [b] [] pos) (ev C (.ptn p q)) := good_val (e_part ha.1 (a_cons hb.1 a_nil (star_ok h2)) h0 h1 h2) (fun _ => rfl) (fun _ _ _ z => nomatch z)
theorem g_ins (ha : Good X a (ev C p)) (hb : Good X b (ev C q)) (hh : okHead b = true) : Good X (.Compare a [.In] [b] pos) (ev C (.ins p q)) :=
  ⟨e_cmp i_ins ha.1 hb.1 (marks_ok hh), t_cmp i_ins ha.1 hb.1 (marks_ok hh), fun op xs pos z => nomatch z⟩
theorem g_glb (hx : Hx X S k C) {x t : Str} (hm : ∃ tk, X.mg x = some (.str t tk)) (h : (glB S.sc x && nmB x) = true) : Good X (.Name x pos) (ev C (.glb t)) := by
  obtain ⟨tk, hm⟩ := hm
  rw [Bool.and_eq_true] at h
  exact good_val (e_glb (hx.gl h.1) hm (nm1 h.2)) (fun _ => rfl) (fun _ _ _ z => nomatch z)
theorem g_ix (ha : Good X a (ev C p)) (hb : Good X b (ev C q)) (hh : okHead b = true) : Good X (.Subscript a b pos) (ev C (.ix p q)) := good_val (e_ix ha.1 hb.1 (plainIx_ok hh)) (fun _ => rfl) (fun _ _ _ z => nomatch z)
theorem so0 : O1 X none (part (.k .none) (ev C (.k .none))) := o_none
theorem so1 (ha : Good X a (ev C p)) (h : part p (ev C p) = intOnly (ev C p)) : O1 X (some a) (part p (ev C p)) := by rw [h]; exact o_some ha.1
theorem g_sl {lo hi : Option Expr} {pl ph : PX} {p2 : Pos} (ha : Good X a (ev C p)) (hl : O1 X lo (part pl (ev C pl))) (hh : O1 X hi (part ph (ev C ph))) : Good X (.Subscript a (.Slice lo hi none p2) pos) (ev C (.sl p pl ph)) := good_val (e_sl2 ha.1 hl hh) (fun _ => rfl) (fun _ _ _ z => nomatch z)
theorem g_sm (m : Sm) {o : Expr} {po : PX} {apos : Pos} {es : List Expr} {ps : List PX} (ho : Good X o (ev C po)) (g : AG X C (e :: es) (p :: ps)) (h1 : plainB o) (h2 : (apos.endLine == pos.line) = true) (h4 : decide ((e :: es).length < 29) = true) : Good X (.Call (.Attribute o m.name apos) (e :: es) [] pos) (ev C (.sm m po (p :: ps))) :=
  good_val (e_sm _ ho.1 g.1 h1 h2 g.2 (by have := of_decide_eq_true h4; omega)) (fun _ => rfl) (fun _ _ _ z => nomatch z)
noncomputable def IG (X : Cx) (C : Orc) (tg it : Expr) (pit : PIt) : Prop := I1 X tg it (itD C pit) ∧ ∀ x, foldedSetIterable it X.env x = pure x
theorem ig_seq {tg : Expr} (ha : Good X a (ev C p)) (hh : okHead a = true) : IG X C tg a (.seq p) := ⟨i_any ha.1, folded_ok hh⟩
theorem ig_rng3 (hx : Hx X S k C) {tg c : Expr} {pc : PX} {p2 : Pos} (h : glB S.sc "range" = true) (ha : Good X a (ev C p)) (hb : Good X b (ev C q)) (hc : Good X c (ev C pc)) (h1 : okHead a = true) (h2 : okHead b = true) (h3 : okHead c = true) : IG X C tg (.Call (.Name "range" p2) [a, b, c] [] pos) (.rng3 p q pc) := ⟨i_rng3 (hx.gl h) (hx.blt _ (by simp [bltNames])) ha.1 hb.1 hc.1 h1 h2 h3, fun _ => rfl⟩
theorem ig_rng1 (hx : Hx X S k C) {tg : Expr} {p2 : Pos} (h : glB S.sc "range" = true) (ha : Good X a (ev C p)) (hh : okHead a = true) : IG X C tg (.Call (.Name "range" p2) [a] [] pos) (.rng1 p) := ⟨i_rng1 (hx.gl h) (hx.blt _ (by simp [bltNames])) ha.1 hh, fun _ => rfl⟩
end
end PL

set_option Elab.async false
set_option linter.all false
set_option maxRecDepth 100000
namespace PL
open PySem PySem.Spec PyProof.Rows L2

/-! ### expressions that raise: the checker's word -/
theorem Hx.nox {X : Cx} {S : Sg} {k : Nat} {C : Orc} (h : Hx X S k C) : Hx X.nox S k C := ⟨h.hN, h.hsc, fun f hf => ⟨(h.fns f hf).ex⟩, h.blt, h.room, h.room1, h.calm⟩
structure HX (X : Cx) (S : Sg) (k : Nat) (C : Orc) (D : OrcX) : Prop extends Hx X S k C where
  hex : X.ex = []
  fx : ∀ f, S.fs.contains f = true → FXOk X k C D f
  tot : ∀ f ds d, C f ds = some d → S.fs.contains f = true
section
variable {X : Cx} {S : Sg} {k : Nat} {C : Orc} {D : OrcX} {e : Expr} {p : PX} {pos : Pos}
/-! ### a rule for each form of expression that raises -/
noncomputable def XAG (X : Cx) (C : Orc) (D : OrcX) (es : List Expr) (ps : List PX) : Prop := XA1 X es (evsX C D ps)
theorem xag0 : XAG X C D [] [] := xa_nil
theorem xag1 {es : List Expr} {ps : List PX} (h : X1 X e (evX C D p)) (g : Good X.nox e (ev C p)) (hh : okHead e = true) (t : XAG X C D es ps) : XAG X C D (e :: es) (p :: ps) := xa_cons (star_ok hh) h g.1 t
theorem x_no (h : evX C D p = fun _ => none) : X1 X e (evX C D p) := by rw [h]; exact x_none
theorem xg_tup {es : List Expr} {ps : List PX} {x1 : Nat} (h : XAG X C D es ps) : X1 X (.Tuple es x1 pos) (evX C D (.tup ps)) := x_tup h
theorem xg_call (hx : HX X S k C D) {x : Str} {p2 : Pos} {es : List Expr} {ps : List PX} (h : fnB S x = true) (g : AG X.nox C (e :: es) (p :: ps)) (gx : XAG X C D (e :: es) (p :: ps)) : X1 X (.Call (.Name x p2) (e :: es) [] pos) (evX C D (.call x (p :: ps))) := by
  simp only [fnB, Bool.and_eq_true] at h
  exact x_call hx.hex hx.toHx (hx.fx _ h.1.2) h.1.1 h.2 g.1 gx g.2
end
end PL

set_option Elab.async false
set_option linter.all false
set_option maxRecDepth 100000
namespace PL
open PySem PySem.Spec PyProof.Rows L2

/-- what the text says of the program's own error classes -/
noncomputable def XcOk (K : PySem.W.Frag) (mg : Str → Option Value) : Prop := ∀ c Ca, xcNames.contains c = true → mg c = some (.ref Ca) → ClsOk K Ca ∧ PySem.W.kitOne K (.ref Ca) (.type "ValueError") = some true ∧
  ∀ d Cd, xcNames.contains d = true → mg d = some (.ref Cd) → PySem.W.exmOne K (.ref Ca) (.ref Cd) = some (subX c d) ∧ PySem.W.kitOne K (.ref Ca) (.ref Cd) = some (subX c d)

section
variable {X : Cx} {S : Sg} {k : Nat} {C : Orc} {D : OrcX}
/-! ### statements that raise -/
noncomputable def onX (g : Rho → Option Str) (r : Rho) : Option (Str × Rho) := match g r with
  | some c => some (c, r)
  | none => none
theorem onX_some {g : Rho → Option Str} {r r' : Rho} {c : Str} (h : onX g r = some (c, r')) : g r = some c ∧ r' = r := by
  unfold onX at h
  cases e : g r with
  | none => rw [e] at h; cases h
  | some d => rw [e] at h; injection h with h; injection h with h1 h2; exact ⟨by rw [h1], h2.symm⟩
theorem xf_env {pins : List (Addr × Obj)} {σ : L2.St} {H : Hp} {c : Str} {r : Rho} {ev : Value} {s : Shared} (env : EnvOk X.K X.mg H r σ) (h : Xf X pins H c (fun σ' _ => σ' = σ) ev s) : Xf X pins H c (fun σ' H' => EnvOk X.K X.mg H' r σ') ev s := by
  obtain ⟨a, Ca, H', σ', h1, h2, h3, h4, h5, h6⟩ := h
  subst h6
  exact ⟨a, Ca, H', σ', h1, h2, h3, h4, h5, envOk_mono h4 env⟩
theorem xs_ret {e : Expr} {pos : Pos} {g : Rho → Option Str} (h : X1 X e g) : XS1 X (.Return (some e) pos) (onX g) := by
  intro pins s σ H r c r' I env hg
  obtain ⟨h1, rfl⟩ := onX_some hg
  exact wpAny_Return_some (wpAny_mono (h pins s σ H _ c I env h1) (fun _ _ z => z) fun _ _ z => xf_env env z)
theorem xs_asg {tg e : Expr} {pos : Pos} {g : Rho → Option Str} (h : X1 X e g) (hs : swapsWithSole [tg] e pos.line X.env = pure false) (hw : swappedStores [tg] e X.env = pure none) : XS1 X (.Assign [tg] e pos) (onX g) := by
  intro pins s σ H r c r' I env hg
  obtain ⟨h1, rfl⟩ := onX_some hg
  exact wpAny_Assign_stores (wpAny_mono (h pins s σ H _ c I env h1) (fun _ _ z => False.elim z) fun _ _ z => xf_env env z) hs hw
noncomputable def ifX (gc : Rho → Option PyData) (ga gb : Rho → Option (Str × Rho)) (r : Rho) : Option (Str × Rho) := match gc r with
  | some (.bool true) => ga r
  | some (.bool false) => gb r
  | _ => none
theorem xs_if {c : Expr} {a b : List Stmt} {pos : Pos} {gc : Rho → Option PyData} {ga gb : Rho → Option (Str × Rho)} (hc : T1 X.nox c gc) (ha : XSS1 X a ga) (hb : XSS1 X b gb) : XS1 X (.If c a b pos) (ifX gc ga gb) := by
  intro pins s σ H r n r' I env hg
  unfold ifX at hg
  split at hg
  · rename_i e1
    refine wpAny_If (wpAny_mono (run_t hc I env e1) (fun kk s1 ⟨ek, H1, I1, sm⟩ => ?_) fun _ _ z => z)
    subst ek
    exact wpAny_mono (ha pins s1 σ H1 r n r' I1 (envOk_mono sm env) hg) (fun _ _ z => z) fun _ _ z => xf_mono sm z fun _ _ _ q => q
  · rename_i e1
    refine wpAny_If (wpAny_mono (run_t hc I env e1) (fun kk s1 ⟨ek, H1, I1, sm⟩ => ?_) fun _ _ z => z)
    subst ek
    exact wpAny_mono (hb pins s1 σ H1 r n r' I1 (envOk_mono sm env) hg) (fun _ _ z => z) fun _ _ z => xf_mono sm z fun _ _ _ q => q
  · cases hg
theorem xs_none {st : Stmt} : XS1 X st (fun _ => none) := fun _ _ _ _ _ _ _ _ _ h => by cases h
theorem xss_nil : XSS1 X [] (fun _ => none) := fun _ _ _ _ _ _ _ _ _ h => by cases h
noncomputable def seqX (gx : Rho → Option (Str × Rho)) (g : Rho → Option Fl) (ux : Rho → Option (Str × Rho)) (r : Rho) : Option (Str × Rho) := match gx r with
  | some p => some p
  | none => match g r with
    | some (.nx r') => ux r'
    | _ => none
theorem xss_cons {st : Stmt} {rest : List Stmt} {gx ux : Rho → Option (Str × Rho)} {g : Rho → Option Fl} (h1 : XS1 X st gx) (h2 : S1 X.nox st g) (h3 : XSS1 X rest ux) : XSS1 X (st :: rest) (seqX gx g ux) := by
  intro pins s σ H r n r' I env hg
  unfold seqX at hg
  refine wpAny_execs_cons ?_
  cases e1 : gx r with
  | some p =>
    rw [e1] at hg
    injection hg with hg
    subst hg
    exact wpAny_mono (h1 pins s σ H r n r' I env e1) (fun _ _ z => False.elim z) fun _ _ z => z
  | none =>
    rw [e1] at hg
    simp only at hg
    cases e2 : g r with
    | none => rw [e2] at hg; cases hg
    | some fl =>
      cases fl with
      | nx r1 =>
        rw [e2] at hg
        simp only at hg
        have q := h2 pins s σ H { nx := fun σ' H' => Same H H' ∧ EnvOk X.K X.mg H' r1 σ', bk := fun _ _ => False, ct := fun _ _ => False, rt := fun _ _ => False } (I.wish _) ⟨r, .nx r1, env, e2, fun σ' H' a b => ⟨a, b⟩⟩
        refine wpAny_mono q (fun f s1 q1 => ?_) fun _ _ z => False.elim z
        cases f with
        | next =>
          obtain ⟨σ', H1, I1, sm, env1⟩ := q1
          exact wpAny_mono (h3 pins s1 σ' H1 r1 n r' I1.unwish env1 hg) (fun _ _ z => z) fun _ _ z => xf_mono sm z fun _ _ _ q => q
        | brk => obtain ⟨_, _, _, z⟩ := q1; exact z
        | cont => obtain ⟨_, _, _, z⟩ := q1; exact z
        | ret v => obtain ⟨_, _, _, _, _, z⟩ := q1; exact z
      | rt d => rw [e2] at hg; cases hg
      | bk r1 => rw [e2] at hg; cases hg
      | ct r1 => rw [e2] at hg; cases hg

/-! ### raise -/
noncomputable def raiseD (x : Str) (g : Rho → Option (List PyData)) (r : Rho) : Option (Str × Rho) := match g r with
  | some ds => if okLen ds.length = true then some (x, r) else none
  | none => none
theorem xs_raise {x : Str} {Ca : Addr} {a : Expr} {es : List Expr} {np cpos pos : Pos} {g : Rho → Option (List PyData)} (hex : X.ex = []) (hcalm : X.calm = true) (hxn : xcNames.contains x = true) (hm : X.mg x = some (.ref Ca)) (hk : ClsOk X.K Ca) (hg : Gl X x) (hn : nmB x = true)
    (ha : A1 X.nox (a :: es) g) (hh : ∀ e' ∈ a :: es, okHead e' = true) : XS1 X (.Raise (some (.Call (.Name x np) (a :: es) [] cpos)) none pos) (raiseD x g) := by
  intro pins s σ H r c r' I env hgr
  unfold raiseD at hgr
  cases e1 : g r with
  | none => rw [e1] at hgr; cases hgr
  | some ds =>
    rw [e1] at hgr
    simp only at hgr
    obtain ⟨ol, er⟩ := ite_some hgr
    injection er with ec er
    subst ec er
    obtain ⟨nm, qn, N, bs, bm, hd, sn, sub, ab, col, dd, k0, k1, k2, k3, k5, mN, hC, hN, hni, hT⟩ := exc_open I.ok.mod.kin hk.exc
    refine wpAny_Raise_call_subT (C := Ca) (nm := nm) (q := qn) (N := N) (bs := bs) (bm := bm) (hdct := hd) (sn := sn) (sub := sub) (ab := ab) (col := col) (dd := dd) (k0 := k0) (k1 := k1) (k2 := k2) (k3 := k3) (k5 := k5) (mN := mN) F.excBase_ValueError (hT.hasType (by decide)) (I.ok.hd hcalm) (stars_ok hh) hni ?_
    refine ld_glob I hg hm ⟨rfl, ?_⟩ (nm1 hn)
    have hs := star_ok (env := X.env) (es := es) (hh a List.mem_cons_self)
    have hr := run_a (pos := cpos) (E := Xf X pins H x fun σ' H' => EnvOk X.K X.mg H' r σ') ha I env e1
    rw [hs] at hr ⊢
    refine Calls.evalArgs_plain (wpAny_mono hr (fun us s1 ⟨vs, H1, I1, sm, bv, rv⟩ => ⟨rfl, ?_, I1.bk _ _ hC, hN.keeps I1.bk, hT.keeps I1.bk, fun h' e hme => ?_⟩) fun _ _ z => z)
    · show us.length ≤ sizeLine
      rw [← rv.length, ← brs_length ds vs bv]; exact okLen_size ol
    · have fr : H1 e = none := by
        cases q : H1 e with
        | none => rfl
        | some u =>
          obtain ⟨ob, e'⟩ := objOk_there (I1.hok e u q)
          rw [hme.new] at e'; cases e'
      obtain ⟨t, t1, _, _⟩ := hme.there
      exact ⟨e, Ca, H1, σ, rfl, ⟨hxn, hm⟩, I1.kept (t' := s1.toks) hme.keeps, sm, .inr ⟨ap_of_new hex I1 hme.new fr, _, _, _, t1, rfl, rfl, rfl, rfl⟩, envOk_mono sm env⟩

/-! ### while -/
noncomputable def whileD (gc : Rho → Option PyData) (step : Rho → Option Fl) : Nat → Rho → Option Fl
  | 0, _ => none
  | n + 1, r => match gc r with
    | some (.bool false) => some (.nx r)
    | some (.bool true) => (match step r with
      | some (.nx r1) => whileD gc step n r1
      | some (.ct r1) => whileD gc step n r1
      | some (.bk r1) => some (.nx r1)
      | some (.rt v) => some (.rt v)
      | none => none)
    | _ => none
theorem s_while (own : PassesOwn (model X.prog X.w) X.A X.env X.xe) {c : Expr} {body : List Stmt} {pos : Pos} {gc : Rho → Option PyData} {step : Rho → Option Fl} (hc : T1 X c gc) (hb : SS1 X body step) (N : Nat) : S1 X (.While c body [] pos) (whileD gc step N) :=
  ps_imp (ps_while own hc hb) fun σ H E ⟨r, fl, env, hg, q⟩ => by
    refine ⟨fun m σ' H' => ∃ r', EnvOk X.K X.mg H' r' σ' ∧ Same H H' ∧ whileD gc step m r' = some fl, ⟨N, r, env, Same.refl H, hg⟩, fun m σ1 H1 ⟨r1, env1, sm1, hw⟩ => ?_⟩
    cases m with
    | zero => cases hw
    | succ m =>
      unfold whileD at hw
      split at hw
      · rename_i e1
        injection hw with hw
        subst hw
        exact ⟨r1, false, env1, e1, fun H2 s2 => q σ1 H2 (sm1.trans s2) (envOk_mono s2 env1)⟩
      · rename_i e1
        refine ⟨r1, true, env1, e1, fun H2 s2 => ?_⟩
        refine ⟨fun σ' H' => ∃ r', EnvOk X.K X.mg H' r' σ' ∧ Same H H' ∧ whileD gc step m r' = some fl, fun σ' H' h => ⟨m, Nat.lt_succ_self m, h⟩, ?_⟩
        cases e2 : step r1 with
        | none => rw [e2] at hw; cases hw
        | some f1 =>
          rw [e2] at hw
          refine ⟨r1, f1, envOk_mono s2 env1, e2, ?_⟩
          cases f1 with
          | nx r2 => exact fun σ' H' s' env' => ⟨r2, env', sm1.trans (s2.trans s'), hw⟩
          | ct r2 => exact fun σ' H' s' env' => ⟨r2, env', sm1.trans (s2.trans s'), hw⟩
          | bk r2 =>
            injection hw with hw; subst hw
            exact fun σ' H' s' env' => q σ' H' (sm1.trans (s2.trans s')) env'
          | rt d =>
            injection hw with hw; subst hw
            exact fun v H' s' b => q v H' (sm1.trans (s2.trans s')) b
      · cases hw
end
end PL

set_option Elab.async false
set_option linter.all false
set_option maxRecDepth 100000
namespace PL
open PySem PySem.Spec PyProof.Rows L2

/-- within an except suite -/
noncomputable abbrev Xh (X : Cx) (a : Addr) : Cx := { X with A := X.A.mark (some (.ref a)), calm := false }
section
variable {X : Cx} {pins : List (Addr × Obj)} {σ : L2.St} {H : Hp} {s : Shared} {a Ca : Addr}
theorem ok_h (ok : X.Ok) (a : Addr) : (Xh X a).Ok :=
  ⟨ok.mod, ok.kind, ok.glob, ok.blt, ok.above, ok.inj, ok.has, ok.cab, (fun z => by cases z), ok.frames, ok.stk, ok.exf, ok.bs, ok.bsz, ok.noex, ok.exfs, ok.funs, ok.frf⟩
theorem inv_h (I : Inv X pins σ H s) (a : Addr) : Inv (Xh X a) pins σ H s := ⟨ok_h I.ok a, I.os, I.bare, I.base, I.loc, I.cell, I.free, I.freeC, I.pin, I.hok, I.len⟩
theorem inv_unh (ok : X.Ok) (I : Inv (Xh X a) pins σ H s) : Inv X pins σ H s := ⟨ok, I.os, I.bare, I.base, I.loc, I.cell, I.free, I.freeC, I.pin, I.hok, I.len⟩
/-- the exception is tracked from here on -/
theorem inv_exc (I : Inv X pins σ H s) (p : Ap X pins H a) (e : excP a Ca s.heap) : Inv X pins σ (upd H a (.ext (excP a Ca))) s := by
  have tr : ∀ b u, H b = some u → b ≠ a := fun b u q z => by rw [z, p.fre] at q; cases q
  refine ⟨I.ok, I.os, I.bare, ⟨I.base.keep, I.base.slot, fun b o q n hx => ?_, I.base.there, fun b xs q => ?_, fun b o u q => ?_, fun b ps q => ?_⟩, I.loc, I.cell, ?_, fun x c q => ?_, fun p' hp => ?_, fun b u q => ?_, I.len⟩
  · have hb : b ≠ a := fun z => by rw [z, p.top] at q; cases q
    rw [upd_ne hb]; exact I.base.free b o q n hx
  · have := I.base.tups b xs q
    rw [upd_ne (tr _ _ this)]; exact this
  · have := I.base.frzs b o u q
    rw [upd_ne (tr _ _ this)]; exact this
  · obtain ⟨m, this⟩ := I.base.tbls b ps q
    exact ⟨m, by rw [upd_ne (tr _ _ this)]; exact this⟩
  · rw [upd_ne (Ne.symm p.loc)]; exact I.free
  · rw [upd_ne (p.cel x c q)]; exact I.freeC x c q
  · obtain ⟨q1, q2, q3, q4, q5⟩ := I.pin p' hp
    exact ⟨q1, by rw [upd_ne (p.pin p' hp)]; exact q2, q3, q4, q5⟩
  · by_cases hb : b = a
    · subst hb
      rw [upd_same] at q
      injection q with q
      subst q
      obtain ⟨o, o1, o2⟩ := e
      exact ⟨⟨o, o1, o2⟩, ⟨o, o1⟩, fun h1 h2 ⟨o, z1, z2⟩ kk => ⟨o, kk o z1, z2⟩⟩
    · rw [upd_ne hb] at q
      refine (I.hok b u q).stay (fun c v _ z => z) (fun c z => ?_) fun c xs z => ?_
      · rw [upd_ne (tr _ _ z)]; exact z
      · rw [upd_ne (tr _ _ z)]; exact z
theorem rec_exc {h : Heap} {T : Addr} (r : Rec h a Ca T) : excP a Ca h := by
  obtain ⟨oe, _, _, _, _, h1, h2, _⟩ := r
  exact ⟨oe, h1, h2⟩
/-- a name of the frame is unbound -/
theorem unbind_ok {M : Model} {A : Around} {E : Value → Shared → Prop} {i : Nat} {x : Str} {v : V} {pos : Pos} {Q : Unit → Shared → Prop} (I : Inv X pins σ H s) (hN : X.N.Nodup) (hi : X.N[i]? = some x) (hx : X.env.scope.names.lookup x = some .local) (hv : σ[i]? = some (some v))
    (h : ∀ h', Inv X pins (σ.set i none) H { s with heap := h' } → Q () { s with heap := h' }) : wpAny M A (unbindBehindTheSuite X.env x pos) Q E s := by
  obtain ⟨m, hn, hl⟩ := id I.loc
  obtain ⟨u, ru, lk⟩ := hl i x v hi hv (.inl hx)
  have hm : m x = some u := by
    rcases lk with ⟨_, e⟩ | ⟨z, _⟩
    · exact e
    · have z' : X.env.scope.names.lookup x = some .cell ∨ X.env.scope.names.lookup x = some .free := z
      rw [hx] at z'
      rcases z' with z' | z' <;> cases z'
  have hcls : (X.env.scope.kind == .class || (X.env.scope.kind == .module && X.env.locals != X.env.globals)) = false := by rw [I.ok.kind]; rfl
  unfold unbindBehindTheSuite
  refine wpAny_onRaise (wpAny_unbindName_local hx hn hm hcls fun h' u' hn' sb => h h' ?_)
  obtain ⟨oL, _, _, hoL, _⟩ := id hn
  have cne := I.cne
  have neL : ∀ b o, X.s₀.heap.get? b = some o → b ≠ X.env.locals := fun b o e => Nat.ne_of_lt (Nat.lt_of_lt_of_le (Heap.lt_size e) I.ok.above)
  refine ⟨I.ok, I.os, I.bare, ⟨fun b o e n hb hx => ?_, fun b o e n hb hx => ?_, I.base.free, fun b o e hx => ?_, I.base.tups, I.base.frzs, I.base.tbls⟩, ⟨_, hn', fun j y w e1 e2 e3 => ?_⟩, fun y c e => ?_, I.free, I.freeC, fun p hp => ?_, fun b u e => ?_, by simpa using I.len⟩
  · exact (sb.2 b (neL b o e)).trans (I.base.keep b o e n hb hx)
  · obtain ⟨sl, e1⟩ := I.base.slot b o e n hb hx
    exact ⟨sl, (sb.2 b (neL b o e)).trans e1⟩
  · obtain ⟨o', e1⟩ := I.base.there b o e hx
    exact ⟨o', (sb.2 b (neL b o e)).trans e1⟩
  · have hj : j ≠ i := fun z => by
      subst z
      rw [List.getElem?_set] at e2
      rw [if_pos rfl] at e2
      split at e2 <;> cases e2
    rw [List.getElem?_set_ne (Ne.symm hj)] at e2
    obtain ⟨w', r', q⟩ := hl j y w e1 e2 e3
    refine ⟨w', r', ?_⟩
    rcases q with ⟨kk, e⟩ | ⟨kk, c, e, z⟩
    · refine .inl ⟨kk, ?_⟩
      have : y ≠ x := fun e => hj (nodup_ix hN e1 (e ▸ hi))
      simp [this, e]
    · exact .inr ⟨kk, c, e, z.sameBut sb (cne y c e)⟩
  · obtain ⟨w', z⟩ := I.cell y c e
    exact ⟨w', z.sameBut sb (cne y c e)⟩
  · obtain ⟨e, n, ne, nf, d⟩ := I.pin p hp
    exact ⟨(sb.2 p.1 ne).trans e, n, ne, nf, d⟩
  · refine (I.hok b u e).stay (fun c w' hc q => (sb.2 c ?_).trans q) (fun _ q => q) fun _ _ q => q
    rintro rfl
    rcases hc with z | hc
    · rw [← z, I.free] at e; cases e
    · rw [I.free] at hc; cases hc
theorem envOk_none {K : PySem.W.Frag} {mg : Str → Option Value} {r : Rho} (i : Nat) (h : EnvOk K mg H r σ) : EnvOk K mg H (r.set i none) (σ.set i none) := by
  refine ⟨by rw [List.length_set, List.length_set]; exact h.1, fun j d q => ?_⟩
  rw [List.getElem?_set] at q
  by_cases e : i = j
  · rw [if_pos e] at q
    split at q <;> cases q
  · rw [if_neg e] at q
    obtain ⟨w, a, c⟩ := h.2 j d q
    exact ⟨w, by rw [List.getElem?_set, if_neg e]; exact a, c⟩
end

/-! ### isinstance of an exception -/
section
variable {X : Cx}
theorem e_isx (hxk : XcOk X.K X.mg) {c : Str} {p p2 pos : Pos} {a : Expr} {g : Rho → Option PyData} (hg : Gl X "isinstance") (hm : X.mg "isinstance" = none) (hg2 : Gl X c) (hv : X.mg "ValueError" = none)
    (hc : c = "ValueError" ∨ (xcNames.contains c = true ∧ (c == "ValueError") = false ∧ ∃ Cd, X.mg c = some (.ref Cd))) (hn : (c == ("__debug__" : Str)) = false) (ha : E1 X a g)
    (he : starEach [a, .Name c p2] X.env = (false, eval a X.env) :: starEach [.Name c p2] X.env) : E1 X (.Call (.Name "isinstance" p) [a, .Name c p2] [] pos) (un1 (isxD c) g) := by
  obtain ⟨vc, uc, hT, rc, ru, hkit⟩ : ∃ (vc : V) (uc : Value), PE X (.Name c p2) (tC vc) ∧ RelV vc uc ∧ (∀ u, RelV vc u → u = uc) ∧ ∀ c0 C0, xcNames.contains c0 = true → X.mg c0 = some (.ref C0) → ClsOk X.K C0 ∧ PySem.W.kitOne X.K (.ref C0) uc = some (c == "ValueError" || subX c0 c) := by
    rcases hc with rfl | ⟨h1, h2, Cd, md⟩
    · refine ⟨.ty "ValueError", .type "ValueError", pe_bltn hg2 hv (by decide +kernel) rfl (by decide) (by decide), rfl, fun u r => r, fun c0 C0 h0 m0 => ?_⟩
      obtain ⟨k', q', _⟩ := hxk c0 C0 h0 m0
      exact ⟨k', by rw [q']; rfl⟩
    · refine ⟨.ref Cd, .ref Cd, pe_glob hg2 md rfl hn, rfl, fun u r => r, fun c0 C0 h0 m0 => ?_⟩
      obtain ⟨k', _, q'⟩ := hxk c0 C0 h0 m0
      exact ⟨k', by rw [(q' c Cd h1 md).2, h2]; rfl⟩
  have hA : PA X [a, .Name c p2] (tCons (tP X.K X.mg g) (tCons (tC vc) tNil)) := pa_cons ha (pa_cons hT pa_nil rfl) he
  have hC : CallR X (.builtin "isinstance") (fun vs H Q => ∃ x d v c0, x = excD c0 ∧ Br X.K X.mg H x v ∧ vs = [v, vc] ∧ isxD c x = some d ∧ ∀ w, Br X.K X.mg H d w → Q w H) := by
    intro pins s σ H vs us Q I r ⟨x, d, v, c0, ex, b, e, hf, q⟩
    subst e ex
    obtain ⟨u, u2, rfl, r1, r2⟩ := vals2 r
    have eu := ru u2 r2
    subst eu
    simp only [excD, Br] at b
    rcases b with ⟨x', f', ex, _⟩ | ⟨c', a', C', ex, rfl, hxn, hmc, hH⟩
    · injection ex with ex _; injection ex with ex _; cases ex
    · have ec : c' = c0 := by
        injection ex with ex _
        injection ex with ex _
        injection ex with ex
        exact ex.symm
      subst ec
      cases r1
      obtain ⟨k1, k2⟩ := hkit c' C' hxn hmc
      obtain ⟨⟨o, o1, o2⟩, _, _⟩ := I.hok a' _ hH
      have hf' : some (PyData.bool (c == "ValueError" || subX c' c)) = some d := hf
      injection hf' with hf'
      subst hf'
      exact PySem.W.kia_one (kitx_exc k1) I.kIn ⟨o, o1, o2⟩ k2 (fun z => nomatch z) fun tk => ⟨.bl _, H, I.tok tk, rfl, q _ (by simp only [Br])⟩
  refine pe_imp (pe_callB hC hg hm (by decide +kernel) hA (by decide) (by decide) he rfl) fun σ H Q ⟨r, d, env, hgr, q⟩ => ?_
  obtain ⟨x, h1, h2⟩ := un1_some hgr
  have hx : ∃ c0, x = excD c0 := by
    unfold isxD at h2
    split at h2
    · exact ⟨_, rfl⟩
    · cases h2
  obtain ⟨c0, rfl⟩ := hx
  exact ⟨r, _, env, h1, fun v H1 s1 b1 => ⟨_, d, v, c0, rfl, b1, rfl, h2, fun w bw => q w H1 s1 bw⟩⟩

/-! ### the expressions of an except suite -/
structure Hh (X : Cx) (S : Sg) : Prop where
  hN : X.N = S.N
  hsc : X.env.scope.names = S.sc
  blt : ∀ x ∈ bltNames, X.mg x = none
  xk : XcOk X.K X.mg
  xb : ∀ c, S.xs.contains c = true → xcNames.contains c = true ∧ ∃ Ca, X.mg c = some (.ref Ca)
theorem Hh.vis {S : Sg} (h : Hh X S) {x : Str} (e : visB S.sc x = true) : Vis X.env.scope x := by
  unfold Vis
  rw [h.hsc]
  unfold visB at e
  split at e
  · rename_i q; exact .inl q
  · rename_i q; exact .inr (.inl q)
  · rename_i q; exact .inr (.inr q)
  · cases e
theorem Hh.gl {S : Sg} (h : Hh X S) {x : Str} (e : glB S.sc x = true) : Gl X x := by
  show X.env.scope.names.lookup x = _
  rw [h.hsc]
  exact of_decide_eq_true e
variable {C : Orc} {S : Sg} {a : Expr} {p : PX} {pos : Pos}
theorem h_v (hx : Hh X S) {x : Str} {i : Nat} (h : (decide (S.N[i]? = some x) && visB S.sc x && nmB x) = true) : Good X (.Name x pos) (ev C (.v i)) := by
  simp only [Bool.and_eq_true] at h
  exact good_val (e_var (by rw [hx.hN]; exact of_decide_eq_true h.1.1) (hx.vis h.1.2) (nm1 h.2) (nm2 h.2)) (fun _ => rfl) (fun _ _ _ z => nomatch z)
theorem h_int (hx : Hh X S) {p2 : Pos} (h : glB S.sc "int" = true) (ha : Good X a (ev C p)) (hh : okHead a = true) : Good X (.Call (.Name "int" p2) [a] [] pos) (ev C (.blt .int [p])) :=
  good_val (pe_imp (pe_callTy c_int (hx.gl h) (hx.blt _ (by simp [bltNames])) (by decide +kernel) (a_cons ha.1 a_nil (star_ok hh)) (by decide) (by decide) (star_ok hh) rfl) tCB_of) (fun _ => rfl) (fun _ _ _ z => nomatch z)
theorem h_isx (hx : Hh X S) {c : Str} {p2 p3 : Pos} (h : (glB S.sc "isinstance" && glB S.sc c && nmB c && (c == "ValueError" || (S.xs.contains c && !(c == "ValueError")))) = true) (ha : Good X a (ev C p)) (hh : okHead a = true) : Good X (.Call (.Name "isinstance" p2) [a, .Name c p3] [] pos) (ev C (.isx c p)) := by
  simp only [Bool.and_eq_true] at h
  obtain ⟨⟨⟨h3, h4⟩, h5⟩, h6⟩ := h
  refine good_val ?_ (fun _ => rfl) (fun _ _ _ z => nomatch z)
  refine e_isx hx.xk (hx.gl h3) (hx.blt _ (by simp [bltNames])) (hx.gl h4) (hx.blt _ (by simp [bltNames])) ?_ (nm1 h5) ha.1 (star_ok hh)
  rcases Bool.or_eq_true_iff.mp h6 with q | q
  · exact .inl (eq_of_beq q)
  · rw [Bool.and_eq_true] at q
    obtain ⟨z1, z2⟩ := hx.xb _ q.1
    exact .inr ⟨z1, by simpa using q.2, z2⟩
end
end PL

set_option Elab.async false
set_option linter.all false
set_option maxRecDepth 100000
namespace PL
open PySem PySem.Spec PyProof.Rows L2
section
variable {X : Cx}
/-- the exception is looked at in a try's frame, wherever it comes from -/
theorem look_thr {pins : List (Addr × Obj)} {σ : L2.St} {H : Hp} {s : Shared} {a C : Addr} (hex : X.ex = []) (I : Inv X pins σ H s) (t : Thr X pins H a C s.heap) (hst : X.stack = X.env :: X.outer) (hfr : X.env.frame = some X.env.locals) {Q : Unit → Shared → Prop} {E : Value → Shared → Prop} {A : Around} (hA : A.frames = some X.stack)
    (h : ∀ h', Inv X pins σ H { s with heap := h' } → Trc X pins H a C h' → Q () { s with heap := h' }) : wpAny (model X.prog X.w) A (noteFrame (.ref a) X.env) (fun _ s₂ => wpAny (model X.prog X.w) A (setFlight (.ref a) none) Q E s₂) E s := by
  rcases t with t | ⟨pa, oe, vs, a0, y1, y2, y3, y4, y5⟩
  · exact look_ok hex I t hst hfr hA h
  · have hf : A.frames = some (X.env :: X.outer) := by rw [← hst]; exact hA
    have hh : ∀ b ∈ [a], Ap X pins H b := fun b hb => by
      simp only [List.mem_cons, List.not_mem_nil, or_false] at hb
      rw [hb]; exact pa
    have ff := fun_hide I [a]
    rw [hst] at ff
    have hsz : 1 < vs.size := (Array.getElem?_eq_some_iff.mp y5).1
    unfold noteFrame
    simp only [hfr]
    refine wpAny_bind (wpAny_field y1 y3 y5 ?_)
    rw [if_neg (by decide)]
    refine wpAny_entryW (base := PySem.W.hideAll s.heap (frs X.stack ++ [a])) (a0 := a0) hf (by rw [hst]; exact ff) hfr y1 (stays_hide _) (PySem.W.hideAll_none _ (by simp)) y3 hsz y4 fun h4 ⟨x1, x2, x3, x4⟩ => ?_
    refine wpAny_landsW (base := PySem.W.hideAll s.heap (frs X.stack ++ [a])) ⟨x1, PySem.W.hideAll_none _ (by simp), x2, x3⟩ fun h5 fl sm5 => ?_
    obtain ⟨z1, _, z2, z3⟩ := fl
    rw [y2] at z3
    obtain ⟨i, t⟩ := left_ok hex I hh (by simp) z1 (.inr trivial) z3 (Heap.UpToSlots.trans x4 sm5)
    exact h h5 i t

noncomputable def clr (i : Nat) : Fl → Fl
  | .nx r => .nx (r.set i none)
  | .bk r => .bk (r.set i none)
  | .ct r => .ct (r.set i none)
  | .rt d => .rt d
noncomputable def inH : Option Nat → Str → Rho → Rho
  | none, _, r => r
  | some i, c, r => r.set i (some (excD c))
noncomputable def endH : Option Nat → Option Fl → Option Fl
  | _, none => none
  | none, some fl => some fl
  | some i, some fl => some (clr i fl)
noncomputable def tryD (gb : Rho → Option Fl) (xb : Rho → Option (Str × Rho)) (hc : Str) (hn : Option Nat) (gh : Rho → Option Fl) (r : Rho) : Option Fl := match gb r with
  | some fl => some fl
  | none => match xb r with
    | some (c, r1) => if subX c hc = true then endH hn (gh (inH hn c r1)) else none
    | none => none
/-- which flow, with what -/
noncomputable def flE (K : PySem.W.Frag) (mg : Str → Option Value) (H4 : Hp) (f2 : Fl) : Ends where
  nx := fun σ' H' => ∃ r2, f2 = .nx r2 ∧ Same H4 H' ∧ EnvOk K mg H' r2 σ'
  bk := fun σ' H' => ∃ r2, f2 = .bk r2 ∧ Same H4 H' ∧ EnvOk K mg H' r2 σ'
  ct := fun σ' H' => ∃ r2, f2 = .ct r2 ∧ Same H4 H' ∧ EnvOk K mg H' r2 σ'
  rt := fun v H' => ∃ d, f2 = .rt d ∧ Same H4 H' ∧ Br K mg H' d v
theorem flE_ok {K : PySem.W.Frag} {mg : Str → Option Value} {H4 : Hp} (f2 : Fl) : FlOk K mg (flE K mg H4 f2) H4 f2 := by
  cases f2 with
  | nx r => exact fun σ' H' a b => ⟨r, rfl, a, b⟩
  | bk r => exact fun σ' H' a b => ⟨r, rfl, a, b⟩
  | ct r => exact fun σ' H' a b => ⟨r, rfl, a, b⟩
  | rt d => exact fun v H' a b => ⟨d, rfl, a, b⟩
theorem s_try {body : List Stmt} {hcx : Str} {np hpos pos : Pos} {hname : Option Str} {b₀ : Stmt} {suite : List Stmt} {gb gh : Rho → Option Fl} {xb : Rho → Option (Str × Rho)} {hn : Option Nat}
    (hex : X.ex = []) (hst : X.stack = X.env :: X.outer) (hfr : X.env.frame = some X.env.locals) (hb : SS1 X.nox body gb) (hxb : XSS1 X body xb) (hh : ∀ a, SS1 (Xh X a).nox (b₀ :: suite) gh) (xk : XcOk X.K X.mg) (hcn : xcNames.contains hcx = true) {Cd : Addr} (md : X.mg hcx = some (.ref Cd))
    (hg : Gl X hcx) (hnm : nmB hcx = true) (nd : X.N.Nodup) (hfn : ∀ x, X.fn x = true) (hni : match hname, hn with | none, none => True | some n, some i => X.N[i]? = some n ∧ X.env.scope.names.lookup n = some .local | _, _ => False) :
    S1 X (.Try body [.ExceptHandler (some (.Name hcx np)) hname (b₀ :: suite) hpos] [] [] pos) (tryD gb xb hcx hn gh) := by
  intro pins s σ H E I ⟨r, fl, env, hgr, q⟩
  unfold tryD at hgr
  cases e1 : gb r with
  | some f1 =>
    rw [e1] at hgr
    injection hgr with hgr
    subst hgr
    refine wpAny_Try_except (wpAny_mono (hb pins s σ H E (I.wish _) ⟨r, f1, env, e1, q⟩) (fun f s1 q1 => ?_) fun _ _ z => False.elim z)
    cases f with
    | next => exact wpAny_execs_nil (SP.unwish (E := fun _ _ => False) q1)
    | brk => exact SP.unwish (E := fun _ _ => False) q1
    | cont => exact SP.unwish (E := fun _ _ => False) q1
    | ret v => exact SP.unwish (E := fun _ _ => False) q1
  | none =>
    rw [e1] at hgr
    simp only at hgr
    cases e2 : xb r with
    | none => rw [e2] at hgr; cases hgr
    | some p =>
      obtain ⟨c, r1⟩ := p
      rw [e2] at hgr
      simp only at hgr
      by_cases hs : subX c hcx = true
      · rw [if_pos hs] at hgr
        refine wpAny_Try_except (wpAny_mono (hxb pins s σ H r c r1 I env e2) (fun _ _ z => False.elim z) fun e s1 ⟨a, Ca, H1, σ1, ee, ⟨hxn, hm⟩, I1, sm, thr, env1⟩ => ?_)
        subst ee
        refine look_thr hex I1 thr hst hfr I1.ok.frames fun h2 I2 t2 => ?_
        obtain ⟨kc, _, kx⟩ := xk c Ca hxn hm
        have hexm := (kx hcx Cd hcn md).1
        rw [hs] at hexm
        have LT : PySem.W.Looks (model X.prog X.w) h2 (typeOf (.ref a)) (.ref Ca) := by
          obtain ⟨_, T, rc, _⟩ := t2
          obtain ⟨o, o1, o2⟩ := rec_exc rc
          exact o2 ▸ (PySem.W.Looks.ld o1).andThen .now
        refine wpAny_handleBy_cons (codeAny_handlers_test ?_) (by intro q; cases q)
        refine ld_glob (X := Xh X a) (inv_h I2 a) hg md ?_ (nm1 hnm)
        refine (PySem.W.exm_one I2.kIn LT hexm).here ?_
        match hname, hn, hni with
        | none, none, _ =>
          have e3 : gh r1 = some fl := by
            cases e3 : gh r1 with
            | none => simp only [inH, e3, endH] at hgr; cases hgr
            | some f2 => simp only [inH, e3, endH] at hgr; exact hgr
          refine codeAny_handlers_suite (land_ok hex I2 t2 fun h3 I3 t3 => ?_)
          refine wpAny_mono (hh a pins { s1 with heap := h3 } σ1 H1 E ((inv_h I3 a).wish _) ⟨r1, fl, env1, e3, flOk_mono sm q⟩) (fun f s2 q2 => ?_) fun _ _ z => False.elim z
          have ok := I.ok
          cases f with
          | next => obtain ⟨σ', H', J, z⟩ := q2; exact ⟨σ', H', inv_unh ok J.unwish, z⟩
          | brk => obtain ⟨σ', H', J, z⟩ := q2; exact ⟨σ', H', inv_unh ok J.unwish, z⟩
          | cont => obtain ⟨σ', H', J, z⟩ := q2; exact ⟨σ', H', inv_unh ok J.unwish, z⟩
          | ret v => obtain ⟨w, σ', H', J, rv, z⟩ := q2; exact ⟨w, σ', H', inv_unh ok J.unwish, rv, z⟩
        | some n, some i, hni =>
          obtain ⟨hi, hloc⟩ := hni
          obtain ⟨f2, e3, ef⟩ : ∃ f2, gh (r1.set i (some (excD c))) = some f2 ∧ fl = clr i f2 := by
            cases e3 : gh (r1.set i (some (excD c))) with
            | none => simp only [inH, e3, endH] at hgr; cases hgr
            | some f2 => simp only [inH, e3, endH] at hgr; injection hgr with hgr; exact ⟨f2, rfl, hgr.symm⟩
          subst ef
          refine codeAny_handlers_suite_as (land_ok hex I2 t2 fun h3 I3 t3 => ?_)
          obtain ⟨pa, T, rc, _⟩ := t3
          have I4 := inv_exc I3 pa (rec_exc rc)
          have sm4 : Same H1 (upd H1 a (.ext (excP a Ca))) := same_new pa.fre _
          have bx : Br X.K X.mg (upd H1 a (.ext (excP a Ca))) (excD c) (.ref a) := by
            simp only [excD, Br]
            exact .inr ⟨c, a, Ca, rfl, rfl, hxn, hm, upd_same⟩
          refine store_ok (X := Xh X a) (inv_h I4 a) nd hi (.inl hloc) (v := .ref a) rfl (fun s5 I5 => ?_) (.inl (hfn n))
          refine wpAny_mono (hh a pins s5 (σ1.set i (some (.ref a))) (upd H1 a (.ext (excP a Ca))) (flE X.K X.mg (upd H1 a (.ext (excP a Ca))) f2) (I5.wish _) ⟨_, f2, envOk_set i (envOk_mono sm4 env1) bx, e3, flE_ok f2⟩) (fun f s6 q6 => ?_) fun _ _ z => False.elim z
          have ok := I.ok
          have fin : ∀ {σ' : L2.St} {H' : Hp} {Q : Unit → Shared → Prop} {E' : Value → Shared → Prop}, Inv X pins σ' H' s6 → (∀ s7, Inv X pins (σ'.set i none) H' s7 → Q () s7) →
              wpAny (model X.prog X.w) X.A (do bindName X.env n .none; unbindBehindTheSuite X.env n hpos) Q E' s6 := fun {σ' H' Q E'} J k => by
            refine wpAny_bind (wpAny_bindName (store_ok J nd hi (.inl hloc) (v := .non) rfl (fun s7 J7 => ?_) (.inl (hfn n))))
            have hil : i < σ'.length := by rw [J.len]; exact (List.getElem?_eq_some_iff.mp hi).1
            refine unbind_ok J7 nd hi hloc (v := .non) (by rw [List.getElem?_set_self hil]) fun h8 J8 => ?_
            rw [List.set_set] at J8
            exact k _ J8
          have smA := sm.trans sm4
          cases f with
          | next =>
            obtain ⟨σ', H', J, r2, rfl, s2, env2⟩ := q6
            exact fin (inv_unh ok J.unwish) fun s7 J7 => ⟨_, H', J7, q _ H' (smA.trans s2) (envOk_none i env2)⟩
          | brk =>
            obtain ⟨σ', H', J, r2, rfl, s2, env2⟩ := q6
            exact fin (inv_unh ok J.unwish) fun s7 J7 => ⟨_, H', J7, q _ H' (smA.trans s2) (envOk_none i env2)⟩
          | cont =>
            obtain ⟨σ', H', J, r2, rfl, s2, env2⟩ := q6
            exact fin (inv_unh ok J.unwish) fun s7 J7 => ⟨_, H', J7, q _ H' (smA.trans s2) (envOk_none i env2)⟩
          | ret v =>
            obtain ⟨w, σ', H', J, rv, d, rfl, s2, b2⟩ := q6
            exact fin (inv_unh ok J.unwish) fun s7 J7 => ⟨w, _, H', J7, rv, q w H' (smA.trans s2) b2⟩
      · rw [if_neg hs] at hgr; cases hgr
end
end PL

set_option Elab.async false
set_option linter.all false
set_option maxRecDepth 100000
namespace PL
open PySem PySem.Spec PyProof.Rows L2

inductive PS where
  | asg (t : Tg) (e : PX)
  | ret (e : PX)
  | retN
  | ife (c : PX) (a b : List PS)
  | for_ (t : Tg) (it : PIt) (body : List PS)
  | while_ (c : PX) (body : List PS)
  | expr (e : PX)
  | pass
  | brk
  | cont
  | never
  | raise_ (c : Str) (args : List PX)
  | try_ (body : List PS) (hc : Str) (hn : Option Nat) (hb : List PS)
  | hand (F : Orc → OrcX → Rho → Option Fl) (FX : Orc → OrcX → Rho → Option (Str × Rho))
noncomputable def exprD (g : Rho → Option PyData) (r : Rho) : Option Fl := match g r with
  | some _ => some (.nx r)
  | none => none
mutual
noncomputable def ex (C : Orc) (D : OrcX) : PS → Rho → Option Fl
  | .asg t e => asgD t (ev C e)
  | .ret e => retD (ev C e)
  | .retN => fun _ => some (.rt .none)
  | .ife c a b => ifS (ev C c) (exs C D a) (exs C D b)
  | .for_ t it body => forS (itD C it) t (exs C D body)
  | .while_ c body => whileD (ev C c) (exs C D body) 1000000
  | .expr e => exprD (ev C e)
  | .pass => fun r => some (.nx r)
  | .brk => fun r => some (.bk r)
  | .cont => fun r => some (.ct r)
  | .never => fun _ => none
  | .raise_ _ _ => fun _ => none
  | .try_ body hc hn hb => tryD (exs C D body) (exsX C D body) hc hn (exs C D hb)
  | .hand F _ => F C D
noncomputable def exs (C : Orc) (D : OrcX) : List PS → Rho → Option Fl
  | [] => fun r => some (.nx r)
  | s :: ss => fun r => match ex C D s r with
    | some (.nx r') => exs C D ss r'
    | o => o
noncomputable def exX (C : Orc) (D : OrcX) : PS → Rho → Option (Str × Rho)
  | .asg _ e => onX (evX C D e)
  | .ret e => onX (evX C D e)
  | .expr e => onX (evX C D e)
  | .ife c a b => ifX (ev C c) (exsX C D a) (exsX C D b)
  | .raise_ c args => raiseD c (evs C args)
  | .hand _ FX => FX C D
  | _ => fun _ => none
noncomputable def exsX (C : Orc) (D : OrcX) : List PS → Rho → Option (Str × Rho)
  | [] => fun _ => none
  | s :: ss => seqX (exX C D s) (ex C D s) (exsX C D ss)
end
/-- texts of the module -/
noncomputable def kstL : List (Str × Str) := [("FIGURES", "0123456789")]
noncomputable def KstOk (mg : Str → Option Value) : Prop := ∀ x t, kstL.lookup x = some t → ∃ tk, mg x = some (.str t tk)
theorem kst_of {mg : Str → Option Value} (h : ∃ tk, mg "FIGURES" = some (.str "0123456789" tk)) : KstOk mg := fun x t e => by
  unfold kstL at e
  rw [List.lookup_cons] at e
  split at e
  · rename_i z
    injection e with e
    subst e
    rw [eq_of_beq z]
    exact h
  · cases e
structure Hz (X : Cx) (S : Sg) (k : Nat) (C : Orc) (D : OrcX) : Prop extends Hs X S k C where
  hex : X.ex = []
  fx : ∀ f, S.fs.contains f = true → FXOk X k C D f
  tot : ∀ f ds d, C f ds = some d → S.fs.contains f = true
  hst : X.stack = X.env :: X.outer
  hfr : X.env.frame = some X.env.locals
  xk : XcOk X.K X.mg
  ks : KstOk X.mg
  xb : ∀ c, S.xs.contains c = true → xcNames.contains c = true ∧ ∃ Ca, X.mg c = some (.ref Ca)
section
variable {S : Sg} {k : Nat} {C : Orc} {D : OrcX}
theorem Hz.nox {X : Cx} (h : Hz X S k C D) : Hz X.nox S k C D :=
  { toHx := h.toHx.nox, nd := h.nd, fnAll := h.fnAll, own := PassesOwn.never, hex := h.hex, fx := fun f hf => ⟨(h.fx f hf).ex⟩, tot := h.tot, hst := h.hst, hfr := h.hfr, xk := h.xk, ks := h.ks, xb := h.xb }
theorem Hz.hx {X : Cx} (h : Hz X S k C D) : HX X S k C D := { toHx := h.toHx, hex := h.hex, fx := h.fx, tot := h.tot }
theorem s_none {X : Cx} {st : Stmt} : S1 X st (fun _ => none) := ps_imp ps_never fun σ H D ⟨r, fl, env, hg, q⟩ => by cases hg
theorem asg_side {t : Tg} {tg e : Expr} {l : Nat} {env : Env} (h : okHead e = true) (ht : chkT S t tg = true) (hn : tgOk t e = true) (hn2 : notComp e = true) :
    swapsWithSole [tg] e l env = pure false ∧ swappedStores [tg] e env = pure none ∧ (assignEach [tg] env).map (·.2) = [assign tg env] := by
  refine ⟨?_, ?_, ?_⟩
  · show swapsWith e (some tg) l env = pure false
    exact swaps_ok h hn2
  · unfold chkT at ht
    split at ht
    · rfl
    · cases e <;> first | rfl | (simp [tgOk, notTup] at hn)
    · cases ht
  · unfold chkT at ht
    split at ht
    · rfl
    · rfl
    · cases ht
variable {X : Cx} {e tg it : Expr} {p : PX} {pos : Pos} {st : Stmt} {ps : PS}
/-! ### a rule for each form of statement -/
noncomputable def GS (X : Cx) (C : Orc) (D : OrcX) (sts : List Stmt) (pss : List PS) : Prop := SS1 X sts (exs C D pss)
theorem gs0 : GS X C D [] [] := ss_nil
theorem gs1 {sts : List Stmt} {pss : List PS} (h : S1 X st (ex C D ps)) (t : GS X C D sts pss) : GS X C D (st :: sts) (ps :: pss) := ss_cons h t
theorem st_asg (hx : Hs X S k C) {t : Tg} (g : Good X e (ev C p)) (h1 : chkT S t tg = true) (h2 : tgOk t e = true) (h3 : notComp e = true) (hh : okHead e = true) : S1 X (.Assign [tg] e pos) (ex C D (.asg t p)) := by
  obtain ⟨a1, a2, a3⟩ := asg_side (l := pos.line) (env := X.env) hh h1 h2 h3
  exact s_asg g.1 (target_ok hx h1) a1 a2 a3
/-! name = [.. for ..] -/
theorem st_ret (g : Good X e (ev C p)) : S1 X (.Return (some e) pos) (ex C D (.ret p)) := s_ret g.1
theorem st_if {a b : List Stmt} {pa pb : List PS} (g : Good X e (ev C p)) (ha : GS X C D a pa) (hb : GS X C D b pb) : S1 X (.If e a b pos) (ex C D (.ife p pa pb)) := s_if g.2.1 ha hb
theorem st_for (hx : Hs X S k C) {t : Tg} {pit : PIt} {body : List Stmt} {pb : List PS} (h1 : chkT S t tg = true) (hi : IG X C tg it pit) (hb : GS X C D body pb) : S1 X (.For tg it body [] pos) (ex C D (.for_ t pit pb)) := s_for hx hi.1 (target_ok hx h1) hb hi.2
theorem st_while (hx : Hs X S k C) {body : List Stmt} {pb : List PS} (g : Good X e (ev C p)) (hb : GS X C D body pb) : S1 X (.While e body [] pos) (ex C D (.while_ p pb)) := s_while hx.own g.2.1 hb _
theorem st_raise {c : Str} {args : List PX} : S1 X st (ex C D (.raise_ c args)) := s_none
/-! the same, where they raise -/
noncomputable def GX (X : Cx) (C : Orc) (D : OrcX) (sts : List Stmt) (pss : List PS) : Prop := XSS1 X sts (exsX C D pss)
/-- a suite that raises, in a frame of its own -/
noncomputable def GW (X : Cx) (C : Orc) (D : OrcX) (sts : List Stmt) (pss : List PS) : Prop := ∀ (s : Shared) (σ : L2.St) (H : Hp) (r : Rho) (c : Str) (r' : Rho), Inv X [] σ H s → EnvOk X.K X.mg H r σ → exsX C D pss r = some (c, r') →
  (∀ (pins : List (Addr × Obj)) (ev : Value) (s' : Shared), Xf X pins H c (fun _ _ => True) ev s' → X.xe ev s') → wpAny (model X.prog X.w) X.A (execs sts X.env) (fun _ _ => False) X.xe s
theorem gw_of {sts : List Stmt} {pss : List PS} (h : GX X C D sts pss) : GW X C D sts pss := fun s σ H r c r' I env e q => wpAny_mono (h [] s σ H r c r' I env e) (fun _ _ z => z) fun ev s' z => q [] ev s' (xf_mono (Same.refl H) z fun _ _ _ _ => trivial)
theorem gx0 : GX X C D [] [] := xss_nil
theorem gx1 {sts : List Stmt} {pss : List PS} (h : XS1 X st (exX C D ps)) (g : S1 X.nox st (ex C D ps)) (t : GX X C D sts pss) : GX X C D (st :: sts) (ps :: pss) := xss_cons h g t
theorem xt_none (h : exX C D ps = fun _ => none) : XS1 X st (exX C D ps) := by rw [h]; exact xs_none
theorem xt_asg (hx : Hs X S k C) {t : Tg} (g : X1 X e (evX C D p)) (h1 : chkT S t tg = true) (h2 : tgOk t e = true) (h3 : notComp e = true) (hh : okHead e = true) : XS1 X (.Assign [tg] e pos) (exX C D (.asg t p)) := by
  obtain ⟨a1, a2, _⟩ := asg_side (l := pos.line) (env := X.env) hh h1 h2 h3
  exact xs_asg g a1 a2
theorem xt_ret (g : X1 X e (evX C D p)) : XS1 X (.Return (some e) pos) (exX C D (.ret p)) := xs_ret g
theorem xt_if {a b : List Stmt} {pa pb : List PS} (g : Good X.nox e (ev C p)) (ha : GX X C D a pa) (hb : GX X C D b pb) : XS1 X (.If e a b pos) (exX C D (.ife p pa pb)) := xs_if g.2.1 ha hb
theorem xt_raise (hx : Hz X S k C D) {c : Str} {es : List Expr} {pas : List PX} {p2 cpos : Pos} (h : (glB S.sc c && S.xs.contains c && nmB c) = true) (g : AG X.nox C (e :: es) (p :: pas)) : XS1 X (.Raise (some (.Call (.Name c p2) (e :: es) [] cpos)) none pos) (exX C D (.raise_ c (p :: pas))) := by
  simp only [Bool.and_eq_true] at h
  obtain ⟨z1, Ca, z2⟩ := hx.xb _ h.1.2
  exact xs_raise hx.hex hx.calm z1 z2 (hx.xk _ Ca z1 z2).1 (hx.gl h.1.1) h.2 g.1 g.2
/-! a handler's suite -/
theorem hs_asg (hx : Hh X S) (nd : X.N.Nodup) (hfn : ∀ x, X.fn x = true) {i : Nat} {x : Str} {xp : Pos} (g : Good X e (ev C p)) (h : (decide (S.N[i]? = some x) && locB S.sc x) = true) (h3 : notComp e = true) (hh : okHead e = true) : S1 X (.Assign [.Name x xp] e pos) (ex C D (.asg (.one i) p)) := by
  have hc : chkT S (.one i) (.Name x xp) = true := by simp only [chkT]; exact h
  simp only [Bool.and_eq_true] at h
  obtain ⟨a1, a2, a3⟩ := asg_side (l := pos.line) (env := X.env) (t := .one i) hh hc rfl h3
  have hl : L2.Loc X.env.scope x := by
    unfold L2.Loc
    rw [hx.hsc]
    have e := h.2
    unfold locB at e
    split at e
    · rename_i q; exact .inl q
    · rename_i q; exact .inr q
    · cases e
  exact s_asg (t := .one i) g.1 (pg_name nd (by rw [hx.hN]; exact of_decide_eq_true h.1) hl (.inl (hfn x))) a1 a2 a3
noncomputable def nameOk (S : Sg) : Option Nat → Option Str → Bool
  | none, none => true
  | some i, some x => decide (S.N[i]? = some x) && decide (S.sc.lookup x = some .local)
  | _, _ => false
theorem st_try (hx : Hz X S k C D) {body suite : List Stmt} {b₀ : Stmt} {pb hb : List PS} {c : Str} {hn : Option Nat} {nm : Option Str} {p2 p3 : Pos} (h : (glB S.sc c && S.xs.contains c && nmB c) = true) (h5 : nameOk S hn nm = true) (g : GS X.nox C D body pb) (gx : GX X C D body pb)
    (gh : ∀ X', Hh X' S → X'.N.Nodup → (∀ x, X'.fn x = true) → GS X' C D (b₀ :: suite) hb) : S1 X (.Try body [.ExceptHandler (some (.Name c p2)) nm (b₀ :: suite) p3] [] [] pos) (ex C D (.try_ pb c hn hb)) := by
  simp only [Bool.and_eq_true] at h
  obtain ⟨⟨h2, h3⟩, h4⟩ := h
  obtain ⟨z1, Ca, z2⟩ := hx.xb _ h3
  refine s_try hx.hex hx.hst hx.hfr g gx (fun a => gh (Xh X a).nox ⟨hx.hN, hx.hsc, hx.blt, hx.xk, hx.xb⟩ hx.nd hx.fnAll) hx.xk z1 z2 (hx.gl h2) h4 hx.nd hx.fnAll ?_
  unfold nameOk at h5
  split at h5
  · trivial
  · simp only [Bool.and_eq_true] at h5
    exact ⟨by rw [hx.hN]; exact of_decide_eq_true h5.1, by rw [hx.hsc]; exact of_decide_eq_true h5.2⟩
  · cases h5
end
theorem lookup_fst {β : Type} {f : Str} {D : β} : ∀ {l : List (Str × β)}, l.lookup f = some D → f ∈ l.map (·.1)
  | [], h => by simp at h
  | (n, b) :: r, h => by
    rw [List.lookup_cons] at h
    split at h
    · rename_i z
      rw [eq_of_beq z]
      simp
    · exact List.mem_cons_of_mem _ (lookup_fst h)
/-! ### defs -/
structure Df where
  name : Str
  ps : List Str
  N : List Str
  body : List PS
noncomputable def startD (N : List Str) (ds : List PyData) : Rho := ds.map some ++ List.replicate (N.length - ds.length) none
noncomputable def outD : Option Fl → Option PyData
  | some (.rt d) => some d
  | some (.nx _) => some .none
  | _ => none
noncomputable def runD (C : Orc) (E : OrcX) (D : Df) (ds : List PyData) : Option PyData := if decide (ds.length = D.ps.length) = true then outD (exs C E D.body (startD D.N ds)) else none
noncomputable def runX (xs : List Str) (C : Orc) (E : OrcX) (D : Df) (ds : List PyData) : Option Str := if decide (ds.length = D.ps.length) = true then (match exsX C E D.body (startD D.N ds) with
  | some (c, _) => if xs.contains c = true then some c else none
  | none => none) else none
/-- the defs of a text, and its own error classes -/
structure Tb where
  df : Str → Option Df
  xs : List Str
  /-- defs whose promise is shown by hand: how many names are handed in, what comes back -/
  fo : Str → Option (Nat × (List PyData → Option PyData)) := fun _ => none
  /-- the defs whose exceptions are told -/
  dx : Str → Bool := fun _ => false
noncomputable def foD (o : Option (Nat × (List PyData → Option PyData))) (ds : List PyData) : Option PyData := match o with
  | some (k, g) => if decide (ds.length = k) = true then g ds else none
  | none => none
noncomputable def callP (tb : Tb) : Nat → Orc × OrcX
  | 0 => (fun _ _ => none, fun _ _ => none)
  | n + 1 => (fun f ds => match tb.df f with
    | some D => runD (callP tb n).1 (callP tb n).2 D ds
    | none => foD (tb.fo f) ds, fun f ds => match tb.df f with
    | some D => if tb.dx f = true then runX tb.xs (callP tb n).1 (callP tb n).2 D ds else none
    | none => none)
noncomputable def callN (tb : Tb) (n : Nat) : Orc := (callP tb n).1
noncomputable def callE (tb : Tb) (n : Nat) : OrcX := (callP tb n).2
theorem runD_some {C : Orc} {E : OrcX} {D : Df} {ds : List PyData} {d : PyData} (h : runD C E D ds = some d) : ds.length = D.ps.length ∧ outD (exs C E D.body (startD D.N ds)) = some d := by
  unfold runD at h
  split at h
  · rename_i e; exact ⟨of_decide_eq_true e, h⟩
  · cases h
theorem runX_some {xs : List Str} {C : Orc} {E : OrcX} {D : Df} {ds : List PyData} {c : Str} (h : runX xs C E D ds = some c) : ds.length = D.ps.length ∧ xs.contains c = true ∧ ∃ r, exsX C E D.body (startD D.N ds) = some (c, r) := by
  unfold runX at h
  split at h
  · rename_i e
    cases e2 : exsX C E D.body (startD D.N ds) with
    | none => rw [e2] at h; cases h
    | some p =>
      rw [e2] at h
      obtain ⟨c', r⟩ := p
      simp only at h
      obtain ⟨q1, q2⟩ := ite_some h
      subst q2
      exact ⟨of_decide_eq_true e, q1, r, rfl⟩
  · cases h
theorem callN_some {tb : Tb} {n : Nat} {f : Str} {D : Df} (hD : tb.df f = some D) {ds : List PyData} {d : PyData} (h : callN tb n f ds = some d) : ds.length = D.ps.length := by
  cases n with
  | zero => cases h
  | succ n =>
    unfold callN callP at h
    simp only [hD] at h
    exact (runD_some h).1
theorem callE_some {tb : Tb} {n : Nat} {f : Str} {D : Df} (hD : tb.df f = some D) {ds : List PyData} {c : Str} (h : callE tb n f ds = some c) : ds.length = D.ps.length ∧ tb.xs.contains c = true := by
  cases n with
  | zero => cases h
  | succ n =>
    unfold callE callP at h
    simp only [hD] at h
    obtain ⟨_, h⟩ := ite_some' h
    exact ⟨(runX_some h).1, (runX_some h).2.1⟩

/-- a def of the text that stands behind the top, with its deep form -/
structure DOk (K : PySem.W.Frag) (mg : Str → Option Value) (fs xs : List Str) (dx : Bool) (D : Df) (st : Stmt) (f : Addr) (fd : FuncData) : Prop where
  fn : Fun K D.name D.name st f fd
  mgf : mg D.name = some (.ref f)
  bd : Binds K fd D.ps []
  sc : FnScope D.N D.ps (defScope st)
  ok : ∀ {X : Cx} {k : Nat} {C : Orc} {E : OrcX}, Hz X ⟨D.N, (defScope st).names, fs, xs⟩ k C E → GS X C E (defBody st) D.body
  okx : dx = true → ∀ {X : Cx} {k : Nat} {C : Orc} {E : OrcX}, Hz X ⟨D.N, (defScope st).names, fs, xs⟩ k C E → GW X C E (defBody st) D.body

theorem start_ok {K : PySem.W.Frag} {mg : Str → Option Value} {H : Hp} {N : List Str} {ds : List PyData} {vs : List V} (b : Brs K mg H ds vs) (hl : ds.length ≤ N.length) : EnvOk K mg H (startD N ds) (L2.start N vs) := by
  have hlen := brs_length ds vs b
  refine ⟨by unfold startD L2.start; simp only [List.length_append, List.length_map, List.length_replicate]; omega, fun i d e => ?_⟩
  unfold startD at e
  by_cases hi : i < ds.length
  · rw [List.getElem?_append_left (by simpa using hi), List.getElem?_map] at e
    cases e1 : ds[i]? with
    | none => rw [e1] at e; cases e
    | some d' =>
      rw [e1] at e
      injection e with e; injection e with e
      subst e
      obtain ⟨v, e2, b2⟩ := brs_get ds vs i d' b e1
      refine ⟨v, ?_, b2⟩
      unfold L2.start
      rw [List.getElem?_append_left (by rw [List.length_map, ← hlen]; exact hi), List.getElem?_map, e2]
      rfl
  · rw [List.getElem?_append_right (by simpa using hi), List.getElem?_replicate] at e
    split at e <;> cases e

section
variable {P : Program} {w : World} {K : PySem.W.Frag} {mg : Str → Option Value} {base : Heap}
theorem callN_tot {tb : Tb} {fs : List Str} (htb : ∀ f D, tb.df f = some D → fs.contains f = true) (hto : ∀ f o, tb.fo f = some o → fs.contains f = true) {n : Nat} (f : Str) (ds : List PyData) (d : PyData) (h : callN tb n f ds = some d) : fs.contains f = true := by
  cases n with
  | zero => cases h
  | succ n =>
    unfold callN callP at h
    cases e : tb.df f with
    | none =>
      simp only [e] at h
      cases e2 : tb.fo f with
      | none => rw [e2] at h; cases h
      | some o => exact hto f o e2
    | some D => exact htb f D e
/-- a def whose promise is shown by hand -/
structure FOk2 (P : Program) (w : World) (K : PySem.W.Frag) (mg : Str → Option Value) (base : Heap) (f : Str) (k : Nat) (g : List PyData → Option PyData) : Prop where
  ex : ∃ (fa : Addr) (fd : FuncData) (ps : List Str), mg f = some (.ref fa) ∧ PySem.W.keepIn K (.ref fa) = true ∧ Binds K fd ps [] ∧ ps.length = k ∧ FnOk P w K mg base CX0 1 fa fd ps (spP K mg k g)
theorem fn_up {n j : Nat} {fa : Addr} {fd : FuncData} {ps : List Str} {g g' : List PyData → Option PyData} {gx : List PyData → Option Str} (F : FnOk P w K mg base CX0 1 fa fd ps (spP K mg j g)) (hg : ∀ ds d, g' ds = some d → g ds = some d) (hx : ∀ ds, gx ds = none) (hn : 1 ≤ n) : FnOk P w K mg base (CX1 P w) n fa fd ps (spX K mg j g' gx) := by
  have F' := F.mono hn
  have imp : ∀ vs H Q E, spX K mg j g' gx vs H Q E → spP K mg j g vs H Q E := fun vs H Q E h => by
    rcases h.2 with ⟨xs, d, b, e, q⟩ | ⟨xs, c, _, _, e, _⟩
    · exact ⟨h.1, xs, d, b, hg _ _ e, q⟩
    · rw [hx] at e; cases e
  exact ⟨fun vs H Q E h => F'.len vs H Q E (imp vs H Q E h), fun A outer s H args us vs Q E hr he hb hv hs => codeAny_mono (F'.run A outer s H args us vs Q E hr he hb hv (imp vs H Q E hs)) fun rr s' hq => by
    cases rr with
    | ok fl => cases fl <;> exact hq
    | error e => exact False.elim hq⟩
theorem every_fx (tb : Tb) {fs : List Str} (xb : ∀ c, tb.xs.contains c = true → xcNames.contains c = true ∧ ∃ Ca, mg c = some (.ref Ca))
    (all : ∀ f, fs.contains f = true → (∃ D st fa fd, tb.df f = some D ∧ D.name = f ∧ DOk K mg fs tb.xs (tb.dx f) D st fa fd) ∨ (tb.df f = none ∧ ∃ k g, tb.fo f = some (k, g) ∧ FOk2 P w K mg base f k g)) (n : Nat)
    (ih : ∀ (f : Str) (D : Df) (st : Stmt) (fa : Addr) (fd : FuncData), tb.df f = some D → D.name = f → DOk K mg fs tb.xs (tb.dx f) D st fa fd → FnOk P w K mg base (CX1 P w) (2 * n) fa fd D.ps (spX K mg D.ps.length (callN tb n f) (callE tb n f))) :
    ∀ f, fs.contains f = true → ∃ (fa : Addr) (fd : FuncData) (ps : List Str), mg f = some (.ref fa) ∧ PySem.W.keepIn K (.ref fa) = true ∧ Binds K fd ps [] ∧
      FnOk P w K mg base (CX1 P w) (2 * n) fa fd ps (spX K mg ps.length (callN tb n f) (callE tb n f)) ∧ (∀ ds d, callN tb n f ds = some d → ds.length = ps.length) ∧ (∀ ds c, callE tb n f ds = some c → ds.length = ps.length ∧ xcNames.contains c = true ∧ ∃ A, mg c = some (.ref A)) := by
  intro g hg
  rcases all g hg with ⟨D', st', fa', fd', t1, t2, t3⟩ | ⟨t0, k, gg, t1, fa', fd', ps', h1, h2, h3, h4, h5⟩
  · refine ⟨fa', fd', D'.ps, ?_, t3.fn.kp, t3.bd, ih g D' st' fa' fd' t1 t2 t3, fun ds d z => callN_some t1 z, fun ds c z => ⟨(callE_some t1 z).1, xb c (callE_some t1 z).2⟩⟩
    rw [← t2]; exact t3.mgf
  · have eN : ∀ ds d, callN tb n g ds = some d → ds.length = k ∧ gg ds = some d ∧ 1 ≤ n := fun ds d z => by
      cases n with
      | zero => cases z
      | succ n =>
        unfold callN callP at z
        simp only [t0] at z
        rw [t1] at z
        unfold foD at z
        split at z
        · rename_i k' g' ek
          injection ek with ek
          injection ek with ek1 ek2
          subst ek1 ek2
          split at z
          · rename_i ek; exact ⟨of_decide_eq_true ek, z, by omega⟩
          · cases z
        · cases z
    have eE : ∀ ds, callE tb n g ds = none := fun ds => by
      cases n with
      | zero => rfl
      | succ n =>
        unfold callE callP
        simp only [t0]
    refine ⟨fa', fd', ps', h1, h2, h3, ?_, fun ds d z => by rw [h4]; exact (eN ds d z).1, fun ds c z => by rw [eE] at z; cases z⟩
    rw [h4]
    cases n with
    | zero =>
      have no : ∀ vs H Q E, ¬ spX K mg k (callN tb 0 g) (callE tb 0 g) vs H Q E := fun vs H Q E h => by
        rcases h.2 with ⟨xs, d, _, e, _⟩ | ⟨xs, c, Ca, _, e, _⟩
        · cases e
        · cases e
      exact ⟨fun vs H Q E h => absurd h (no vs H Q E), fun A outer s H args us vs Q E _ _ _ _ h => absurd h (no vs H Q E)⟩
    | succ n => exact fn_up h5 (fun ds d z => (eN ds d z).2.1) eE (by omega)
theorem funs_ok (tb : Tb) (fs : List Str) (hks : KstOk mg) (htb : ∀ f D, tb.df f = some D → fs.contains f = true) (hto : ∀ f o, tb.fo f = some o → fs.contains f = true) (hb : ∀ x ∈ bltNames, mg x = none) (xk : XcOk K mg) (xb : ∀ c, tb.xs.contains c = true → xcNames.contains c = true ∧ ∃ Ca, mg c = some (.ref Ca))
    (all : ∀ f, fs.contains f = true → (∃ D st fa fd, tb.df f = some D ∧ D.name = f ∧ DOk K mg fs tb.xs (tb.dx f) D st fa fd) ∨ (tb.df f = none ∧ ∃ k g, tb.fo f = some (k, g) ∧ FOk2 P w K mg base f k g)) :
    ∀ (n : Nat) (f : Str) (D : Df) (st : Stmt) (fa : Addr) (fd : FuncData), tb.df f = some D → D.name = f → DOk K mg fs tb.xs (tb.dx f) D st fa fd → FnOk P w K mg base (CX1 P w) (2 * n) fa fd D.ps (spX K mg D.ps.length (callN tb n f) (callE tb n f))
  | 0, f, D, st, fa, fd, hD, hn, ok => by
    have no : ∀ vs H Q E, ¬ spX K mg D.ps.length (callN tb 0 f) (callE tb 0 f) vs H Q E := fun vs H Q E h => by
      rcases h.2 with ⟨xs, d, _, e, _⟩ | ⟨xs, c, Ca, _, e, _⟩
      · cases e
      · cases e
    exact ⟨fun vs H Q E h => absurd h (no vs H Q E), fun A outer s H args us vs Q E _ _ _ _ h => absurd h (no vs H Q E)⟩
  | n + 1, f, D, st, fa, fd, hD, hn, ok => by
    have ih := funs_ok tb fs hks htb hto hb xk xb all n
    have every := every_fx tb xb all n ih
    obtain ⟨oc, od, kV, doc, pm, an, cdv, ct, osl, efd, lk, hcd⟩ := ok.fn.ex
    subst efd
    rw [show 2 * (n + 1) = 2 * n + 1 + 1 by omega]
    refine fn_of lk hcd ok.sc (fun vs H Q E h => h.1) fun A outer s H vs Q E hr h => ?_
    obtain ⟨hl, h⟩ := h
    have hxx : Hz (cxOf (CX1 P w) P w K mg base D.N D.name (defScope st) fa cdv A outer s H E) ⟨D.N, (defScope st).names, fs, tb.xs⟩ (2 * n) (callN tb n) (callE tb n) := {
      hN := rfl
      hsc := rfl
      fns := fun g hg => by
        obtain ⟨fa', fd', ps', h1, h2, h3, h4, h5, h6⟩ := every g hg
        exact ⟨fa', fd', ps', h1, h2, h3, fn_norm h4, h5⟩
      blt := hb
      room := hr.mono (by omega)
      room1 := hr.in1
      calm := rfl
      nd := ok.sc.nd
      fnAll := fun _ => rfl
      own := PassesOwn.leaving
      hex := rfl
      fx := fun g hg => ⟨every g hg⟩
      tot := fun f ds d z => callN_tot htb hto f ds d z
      hst := rfl
      hfr := rfl
      xk := xk
      ks := hks
      xb := xb }
    have hx := hxx.nox
    have hpl : D.ps.length ≤ D.N.length := by have := congrArg List.length ok.sc.pre; rw [List.length_take] at this; omega
    rcases h with ⟨ds, d, b, e, q⟩ | ⟨ds, c, Ca, b, e, hm, q⟩
    · have e' : runD (callN tb n) (callE tb n) D ds = some d := by
        unfold callN callP at e
        simp only [hD] at e
        exact e
      obtain ⟨h1, h2⟩ := runD_some e'
      refine ⟨_, PSs.nox (ok.ok hx), ?_⟩
      have env := start_ok (N := D.N) b (by omega)
      cases e1 : exs (callN tb n) (callE tb n) D.body (startD D.N ds) with
      | none => rw [e1] at h2; cases h2
      | some fl =>
        rw [e1] at h2
        refine ⟨_, fl, env, e1, ?_⟩
        cases fl with
        | nx r =>
          injection h2 with h2; subst h2
          exact fun σ' H' s' _ => q .non H' s' (by simp only [Br])
        | rt v =>
          injection h2 with h2; subst h2
          exact fun u H' s' bu => q u H' s' bu
        | bk r => cases h2
        | ct r => cases h2
    · have e' : runX tb.xs (callN tb n) (callE tb n) D ds = some c := by
        unfold callE callP at e
        simp only [hD] at e
        exact (ite_some' e).2
      have hdx : tb.dx f = true := by
        unfold callE callP at e
        simp only [hD] at e
        exact (ite_some' e).1
      obtain ⟨h1, _, r', h2⟩ := runX_some e'
      have env := start_ok (N := D.N) b (by omega)
      refine ⟨fun _ σ H' => σ = L2.start D.N vs ∧ H' = H, ?_, rfl, rfl⟩
      intro pins s1 σ H' D' I ⟨es, eh⟩
      subst es eh
      refine wpAny_mono (ok.okx hdx hxx s1 _ _ _ c r' (I.pins_of fun p hp => absurd hp (by simp)) env h2 fun pins' ev s2 ⟨a, Cb, H2, σ2, ee, ⟨_, hm2⟩, I2, sm, thr, _⟩ => ?_) (fun _ _ z => False.elim z) fun _ _ z => z
      subst ee
      have eC : Cb = Ca := by
        have := hm2.symm.trans hm
        injection this with this; injection this
      subst eC
      refine leave_ok (X := cxOf (CX1 P w) P w K mg base D.N D.name (defScope st) fa cdv A outer s H' E) rfl I2 thr rfl rfl fun h' I3 t3 => ?_
      exact left_cx (X := cxOf (CX1 P w) P w K mg base D.N D.name (defScope st) fa cdv A outer s H' E) rfl I3 t3 I3.os (q H2 sm)
end
end PL

set_option Elab.async false
set_option linter.all false
set_option maxRecDepth 100000
namespace PL
open PySem PySem.Spec PyProof.Rows L2

/-! ### how a deep def is unfolded -/
section
variable (C : Orc) {E : OrcX} (r : Rho)
@[simp] theorem u_vr0 (d : PyData) : vr 0 (some d :: r) = some d := rfl
@[simp] theorem u_vrS (i : Nat) (o : Option PyData) : vr (i + 1) (o :: r) = vr i r := rfl
@[simp] theorem u_k (d : PyData) : ev C (.k d) r = some d := rfl
@[simp] theorem u_v (i : Nat) : ev C (.v i) r = vr i r := rfl
@[simp] theorem u_g (f : Str) : ev C (.g f) r = some (fnD f) := rfl
@[simp] theorem u_bin (op : Operator) (a b : PX) : ev C (.bin op a b) r = (match ev C a r with | some x => (match ev C b r with | some y => binD op x y | none => none) | none => none) := rfl
@[simp] theorem u_cmp (op : CmpOp) (a b : PX) : ev C (.cmp op a b) r = (match ev C a r with | some x => (match ev C b r with | some y => cmpD op x y | none => none) | none => none) := rfl
@[simp] theorem u_and (a b : PX) : ev C (.and a b) r = (match ev C a r with | some (.bool true) => ev C b r | some (.bool false) => some (.bool false) | _ => none) := rfl
@[simp] theorem u_or (a b : PX) : ev C (.or a b) r = (match ev C a r with | some (.bool true) => some (.bool true) | some (.bool false) => ev C b r | _ => none) := rfl
@[simp] theorem u_not (a : PX) : ev C (.not a) r = (match ev C a r with | some (.bool b) => some (.bool (!b)) | _ => none) := rfl
@[simp] theorem u_neg (a : PX) : ev C (.neg a) r = (match ev C a r with | some x => negD x | none => none) := rfl
@[simp] theorem u_ife (c a b : PX) : ev C (.ife c a b) r = (match ev C c r with | some (.bool true) => ev C a r | some (.bool false) => ev C b r | _ => none) := rfl
@[simp] theorem u_tup (xs : List PX) : ev C (.tup xs) r = (match evs C xs r with | some ds => if okLen ds.length = true then some (.tuple ds) else none | none => none) := rfl
@[simp] theorem u_lst (xs : List PX) : ev C (.lst xs) r = (match evs C xs r with | some ds => if okLen ds.length = true then some (.list ds) else none | none => none) := rfl
@[simp] theorem u_call (f : Str) (xs : List PX) : ev C (.call f xs) r = (match evs C xs r with | some ds => C f ds | none => none) := rfl
@[simp] theorem u_blt (b : Bl) (xs : List PX) : ev C (.blt b xs) r = (match evs C xs r with | some ds => b.fn ds | none => none) := rfl
@[simp] theorem u_isin (T : Ty) (a : PX) : ev C (.isin T a) r = (match ev C a r with | some x => isinD T x | none => none) := rfl
@[simp] theorem u_ix (a b : PX) : ev C (.ix a b) r = (match ev C a r with | some x => (match ev C b r with | some y => ixD x y | none => none) | none => none) := rfl
@[simp] theorem u_sl (a lo hi : PX) : ev C (.sl a lo hi) r = sl4 (ev C a) (part lo (ev C lo)) (part hi (ev C hi)) r := rfl
@[simp] theorem u_callv (f : PX) (xs : List PX) : ev C (.callv f xs) r = callvD C (ev C f) (evs C xs) r := rfl
@[simp] theorem u_comp (t : Tg) (it : PIt) (NC : List Str) (mp : List (Option Nat)) (cs : List PX) (e : PX) : ev C (.comp t it NC mp cs e) r = compD t (itD C it) mp (condD (evl C cs)) (ev C e) r := rfl
@[simp] theorem u_rev (a : PX) : ev C (.rev a) r = (match ev C a r with | some x => revD x | none => none) := rfl
@[simp] theorem u_nil : evs C [] r = some [] := rfl
@[simp] theorem u_cons (x : PX) (xs : List PX) : evs C (x :: xs) r = (match ev C x r with | some d => (match evs C xs r with | some ds => some (d :: ds) | none => none) | none => none) := rfl
@[simp] theorem u_asg1 (i : Nat) (e : PX) : ex C E (.asg (.one i) e) r = (match ev C e r with | some d => some (.nx (r.set i (some d))) | none => none) := by
  show asgD (.one i) (ev C e) r = _
  unfold asgD setTg
  cases ev C e r <;> rfl
@[simp] theorem u_asgM (is : List Nat) (e : PX) : ex C E (.asg (.many is) e) r = (match ev C e r with | some d => (match setTg (.many is) d r with | some r' => some (.nx r') | none => none) | none => none) := rfl
@[simp] theorem u_ret (e : PX) : ex C E (.ret e) r = (match ev C e r with | some d => some (.rt d) | none => none) := rfl
@[simp] theorem u_ifS (c : PX) (a b : List PS) : ex C E (.ife c a b) r = (match ev C c r with | some (.bool true) => exs C E a r | some (.bool false) => exs C E b r | _ => none) := rfl
@[simp] theorem u_for (t : Tg) (it : PIt) (b : List PS) : ex C E (.for_ t it b) r = (match itD C it r with | some ds => forD t (exs C E b) ds r | none => none) := rfl
@[simp] theorem u_expr (e : PX) : ex C E (.expr e) r = (match ev C e r with | some _ => some (.nx r) | none => none) := rfl
@[simp] theorem u_raise (c : Str) (as : List PX) : ex C E (.raise_ c as) r = none := rfl
@[simp] theorem u_while (c : PX) (b : List PS) : ex C E (.while_ c b) r = whileD (ev C c) (exs C E b) 1000000 r := rfl
theorem u_try (b hb : List PS) (hc : Str) (hn : Option Nat) : ex C E (.try_ b hc hn hb) r = tryD (exs C E b) (exsX C E b) hc hn (exs C E hb) r := rfl
@[simp] theorem x_asg1 (t : Tg) (e : PX) : exX C E (.asg t e) r = onX (evX C E e) r := rfl
@[simp] theorem x_ret1 (e : PX) : exX C E (.ret e) r = onX (evX C E e) r := rfl
@[simp] theorem x_expr1 (e : PX) : exX C E (.expr e) r = onX (evX C E e) r := rfl
@[simp] theorem x_raise1 (c : Str) (as : List PX) : exX C E (.raise_ c as) r = (match evs C as r with | some ds => if okLen ds.length = true then some (c, r) else none | none => none) := rfl
@[simp] theorem x_ife1 (c : PX) (a b : List PS) : exX C E (.ife c a b) r = (match ev C c r with | some (.bool true) => exsX C E a r | some (.bool false) => exsX C E b r | _ => none) := rfl
@[simp] theorem x_ss0 : exsX C E [] r = none := rfl
@[simp] theorem x_ssS (s : PS) (ss : List PS) : exsX C E (s :: ss) r = (match exX C E s r with | some p => some p | none => match ex C E s r with | some (.nx r') => exsX C E ss r' | _ => none) := rfl
@[simp] theorem x_call1 (f : Str) (xs : List PX) : evX C E (.call f xs) r = (match evsX C E xs r with | some c => some c | none => match evs C xs r with | some ds => E f ds | none => none) := rfl
@[simp] theorem x_tup1 (xs : List PX) : evX C E (.tup xs) r = evsX C E xs r := rfl
@[simp] theorem x_lst1 (xs : List PX) : evX C E (.lst xs) r = evsX C E xs r := rfl
@[simp] theorem x_es0 : evsX C E [] r = none := rfl
@[simp] theorem x_esS (x : PX) (xs : List PX) : evsX C E (x :: xs) r = (match evX C E x r with | some c => some c | none => match ev C x r with | some _ => evsX C E xs r | none => none) := rfl
@[simp] theorem x_k (d : PyData) : evX C E (.k d) r = none := rfl
@[simp] theorem x_v (i : Nat) : evX C E (.v i) r = none := rfl
@[simp] theorem x_ix (a b : PX) : evX C E (.ix a b) r = none := rfl
@[simp] theorem x_bin (o : Operator) (a b : PX) : evX C E (.bin o a b) r = none := rfl
@[simp] theorem x_cmp (o : CmpOp) (a b : PX) : evX C E (.cmp o a b) r = none := rfl
@[simp] theorem x_sl (a b c : PX) : evX C E (.sl a b c) r = none := rfl
@[simp] theorem x_and (a b : PX) : evX C E (.and a b) r = none := rfl
@[simp] theorem x_or (a b : PX) : evX C E (.or a b) r = none := rfl
@[simp] theorem x_not (a : PX) : evX C E (.not a) r = none := rfl
@[simp] theorem u_sm (m : Sm) (o : PX) (xs : List PX) : ev C (.sm m o xs) r = (match ev C o r with | some (.str x) => (match evs C xs r with | some ds => m.fn (.str x) ds | none => none) | _ => none) := rfl
@[simp] theorem u_fstr (xs : List PX) : ev C (.fstr xs) r = fstrD (evs C xs) r := rfl
@[simp] theorem u_isx (c : Str) (a : PX) : ev C (.isx c a) r = (match ev C a r with | some x => isxD c x | none => none) := rfl
@[simp] theorem u_never : ex C E .never r = none := rfl
@[simp] theorem u_seq (e : PX) : itD C (.seq e) r = anyIt (ev C e) r := rfl
@[simp] theorem u_ss0 : exs C E [] r = some (.nx r) := rfl
@[simp] theorem u_ssS (s : PS) (ss : List PS) : exs C E (s :: ss) r = (match ex C E s r with | some (.nx r') => exs C E ss r' | o => o) := rfl
@[simp] theorem u_outRt (d : PyData) : outD (some (.rt d)) = some d := rfl
@[simp] theorem u_outN : outD none = none := rfl
theorem u_run (D : Df) (ds : List PyData) (h : ds.length = D.ps.length) : runD C E D ds = outD (exs C E D.body (startD D.N ds)) := by
  unfold runD; rw [if_pos (decide_eq_true h)]
@[simp] theorem u_addI (i j : Int) : binD .Add (.int i) (.int j) = some (.int (i + j)) := rfl
@[simp] theorem u_subI (i j : Int) : binD .Sub (.int i) (.int j) = some (.int (i - j)) := rfl
@[simp] theorem u_mulI (i j : Int) : binD .Mult (.int i) (.int j) = if okMul i j = true then some (.int (i * j)) else none := rfl
@[simp] theorem u_divI (i j : Int) : binD .FloorDiv (.int i) (.int j) = if okDiv j = true then some (.int (i / j)) else none := rfl
@[simp] theorem u_modI (i j : Int) : binD .Mod (.int i) (.int j) = if decide (0 < j) = true then some (.int (i % j)) else none := rfl
@[simp] theorem u_powI (i j : Int) : binD .Pow (.int i) (.int j) = if okPow i j = true then some (.int (i ^ j.toNat)) else none := rfl
@[simp] theorem u_lt (i j : Int) : cmpD .Lt (.int i) (.int j) = some (.bool (decide (i < j))) := rfl
@[simp] theorem u_le (i j : Int) : cmpD .LtE (.int i) (.int j) = some (.bool (decide (i ≤ j))) := rfl
@[simp] theorem u_gt (i j : Int) : cmpD .Gt (.int i) (.int j) = some (.bool (decide (j < i))) := rfl
@[simp] theorem u_ge (i j : Int) : cmpD .GtE (.int i) (.int j) = some (.bool (decide (j ≤ i))) := rfl
@[simp] theorem u_eqI (i j : Int) : cmpD .Eq (.int i) (.int j) = some (.bool (decide (i = j))) := by
  show some (PyData.bool (i == j)) = _
  rfl
@[simp] theorem u_eqB (i j : Bool) : cmpD .Eq (.bool i) (.bool j) = some (.bool (i == j)) := rfl
@[simp] theorem u_neI (i j : Int) : cmpD .NotEq (.int i) (.int j) = some (.bool (!decide (i = j))) := by
  show some (PyData.bool (!(i == j))) = _
  rfl
@[simp] theorem u_isT (d : PyData) : isinD .tuple d = (match d with | .tuple _ => some (.bool true) | .dict _ => none | _ => some (.bool false)) := by cases d <;> rfl
@[simp] theorem u_isI (d : PyData) : isinD .int d = (match d with | .int _ => some (.bool true) | .bool _ => some (.bool true) | .dict _ => none | _ => some (.bool false)) := by cases d <;> rfl
@[simp] theorem u_isB (d : PyData) : isinD .bool d = (match d with | .bool _ => some (.bool true) | .dict _ => none | _ => some (.bool false)) := by cases d <;> rfl
@[simp] theorem u_isS (d : PyData) : isinD .str d = (match d with | .str _ => some (.bool true) | .dict _ => none | _ => some (.bool false)) := by cases d <;> rfl
@[simp] theorem u_isN (d : PyData) : cmpD .Is d .none = some (.bool (isNon d)) := rfl
@[simp] theorem u_negI (i : Int) : negD (.int i) = some (.int (-i)) := rfl
@[simp] theorem u_eqBI (k : Bool) (j : Int) : cmpD .Eq (.bool k) (.int j) = some (.bool (b01 k == j)) := rfl
@[simp] theorem u_len_l (xs : List PyData) : Bl.fn .len [.list xs] = some (.int xs.length) := rfl
@[simp] theorem u_len_t (xs : List PyData) : Bl.fn .len [.tuple xs] = some (.int xs.length) := rfl
@[simp] theorem u_min (i j : Int) : Bl.fn .min [.int i, .int j] = some (.int (if j < i then j else i)) := rfl
@[simp] theorem u_intB (k : Bool) : Bl.fn .int [.bool k] = some (.int (if k then 1 else 0)) := rfl
@[simp] theorem u_ix_l (xs : List PyData) (i : Int) : ixD (.list xs) (.int i) = atI xs i := rfl
@[simp] theorem u_ix_t (xs : List PyData) (i : Int) : ixD (.tuple xs) (.int i) = atI xs i := rfl
end
theorem at0 {α : Type} (a : α) (xs : List α) : atI (a :: xs) 0 = some a := by
  have : ((0 : Nat) : Int) = 0 := rfl
  rw [← this]
  exact atI_nat rfl
theorem at1 {α : Type} (a b : α) (xs : List α) : atI (a :: b :: xs) 1 = some b := by
  have : ((1 : Nat) : Int) = 1 := rfl
  rw [← this]
  exact atI_nat rfl
theorem at2 {α : Type} (a b c : α) (xs : List α) : atI (a :: b :: c :: xs) 2 = some c := by
  have : ((2 : Nat) : Int) = 2 := rfl
  rw [← this]
  exact atI_nat rfl
theorem atI_ex {α : Type} (xs : List α) (i : Int) (h0 : 0 ≤ i) (h1 : i < (xs.length : Int)) : ∃ a, a ∈ xs ∧ atI xs i = some a := by
  have hk : i.toNat < xs.length := by omega
  refine ⟨xs[i.toNat], List.getElem_mem hk, ?_⟩
  have e : ((i.toNat : Nat) : Int) = i := by omega
  have q : atI xs ((i.toNat : Nat) : Int) = some xs[i.toNat] := atI_nat (by simp [hk])
  rw [e] at q
  exact q
@[simp] theorem okLen_lit0 : okLen 0 = true := by decide
@[simp] theorem okLen_lit {n : Nat} (h : n ≤ 1000000) : okLen n = true := decide_eq_true h
@[simp] theorem u_part0 (g : Rho → Option PyData) (r : Rho) : part (.k .none) g r = some .none := rfl
@[simp] theorem u_partV (i : Nat) (g : Rho → Option PyData) (r : Rho) : part (.v i) g r = (match g r with | some (.int i) => some (.int i) | _ => none) := rfl
@[simp] theorem u_partK (i : Int) (g : Rho → Option PyData) (r : Rho) : part (.k (.int i)) g r = (match g r with | some (.int i) => some (.int i) | _ => none) := rfl
@[simp] theorem u_partB (op : Operator) (a b : PX) (g : Rho → Option PyData) (r : Rho) : part (.bin op a b) g r = (match g r with | some (.int i) => some (.int i) | _ => none) := rfl
@[simp] theorem u_partN (a : PX) (g : Rho → Option PyData) (r : Rho) : part (.neg a) g r = (match g r with | some (.int i) => some (.int i) | _ => none) := rfl
@[simp] theorem u_sl3 (ga gl gh : Rho → Option PyData) (r : Rho) : sl4 ga gl gh r = (match ga r, gl r, gh r with | some x, some l, some h => (match partD l, partD h with | some lo, some hi => slD2 x lo hi | _, _ => none) | _, _, _ => none) := rfl
@[simp] theorem u_partD0 : partD .none = some none := rfl
@[simp] theorem u_partDI (i : Int) : partD (.int i) = some (some i) := rfl
@[simp] theorem u_revT (xs : List PyData) : revD (.tuple xs) = some (.tuple xs.reverse) := rfl
@[simp] theorem u_addT (xs ys : List PyData) : binD .Add (.tuple xs) (.tuple ys) = if okLen (xs.length + ys.length) = true then some (.tuple (xs ++ ys)) else none := rfl
@[simp] theorem u_strI (i : Int) : Bl.fn .str [.int i] = if decide (i.natAbs.log2 < 1920) = true then some (.str (toString i)) else none := rfl
theorem okLen_of {n : Nat} (h : n ≤ 1000000) : okLen n = true := decide_eq_true h
theorem okMul_r {i j : Int} (h1 : -(2 ^ 64) < j) (h2 : j < 2 ^ 64) : okMul i j = true := decide_eq_true (.inr (.inl ⟨h1, h2⟩))
theorem okMul_b {i j : Int} (h1 : i.natAbs.log2 < 3000) (h2 : j.natAbs.log2 < 3000) : okMul i j = true := decide_eq_true (.inr (.inr ⟨h1, h2⟩))
theorem okMul_l {i j : Int} (h1 : -(2 ^ 64) < i) (h2 : i < 2 ^ 64) : okMul i j = true := decide_eq_true (.inl ⟨h1, h2⟩)
end PL

set_option Elab.async false
set_option linter.all false
set_option maxRecDepth 100000
namespace PL
open PySem PySem.Spec PyProof.Rows L2

/-! ### part trees -/
set_option genSizeOf true
inductive PT where
  | z (b : Bool)
  | p (a b : PT)
  deriving DecidableEq
noncomputable def PT.toD : PT → PyData
  | .z b => .int (if b then 1 else 0)
  | .p a b => .tuple [a.toD, b.toD]
noncomputable def PT.dep : PT → Nat
  | .z _ => 0
  | .p a b => max a.dep b.dep + 1
noncomputable def PT.leaf : PT → Bool
  | .z _ => true
  | .p _ _ => false
noncomputable def PT.join (a b : PT) : PT := match a, b with
  | .z x, .z y => if x = y then .z x else .p (.z x) (.z y)
  | a, b => .p a b
noncomputable def PT.plain : PT → PT
  | .z b => .z b
  | .p a b => PT.join a.plain b.plain
noncomputable def PT.plainB : PT → Bool
  | .z _ => true
  | .p a b => a.plainB && b.plainB && decide (PT.join a b = .p a b)
theorem PT.lay : ∀ t : PT, t.toD.canLay0 = true
  | .z b => rfl
  | .p a b => by simp [PT.toD, PyData.canLay0, PyData.canLayAll0, PT.lay a, PT.lay b]
theorem PT.depD : ∀ t : PT, t.toD.depth = t.dep
  | .z b => rfl
  | .p a b => by simp [PT.toD, PyData.depth, PyData.depthAll, PT.dep, PT.depD a, PT.depD b]
theorem PT.eqv : ∀ a b : PT, PyData.eqv a.toD b.toD = decide (a = b)
  | .z x, .z y => by cases x <;> cases y <;> rfl
  | .z x, .p c d => by simp [PT.toD, PyData.eqv]
  | .p a b, .z y => by simp [PT.toD, PyData.eqv]
  | .p a b, .p c d => by
    simp only [PT.toD, PyData.eqv, PyData.eqvAll, PT.eqv a c, PT.eqv b d]
    by_cases h1 : a = c <;> by_cases h2 : b = d <;> simp [h1, h2]
theorem PT.join_dep (a b : PT) : (PT.join a b).dep ≤ max a.dep b.dep + 1 := by
  unfold PT.join
  split
  · split
    · simp [PT.dep]
    · simp [PT.dep]
  · simp [PT.dep]
theorem PT.plain_dep : ∀ t : PT, t.plain.dep ≤ t.dep
  | .z b => Nat.le_refl _
  | .p a b => by
    have := PT.join_dep a.plain b.plain
    have h1 := PT.plain_dep a
    have h2 := PT.plain_dep b
    simp only [PT.plain, PT.dep]
    omega
theorem PT.plain_id : ∀ t : PT, t.plainB = true → t.plain = t
  | .z b, _ => rfl
  | .p a b, h => by
    simp only [PT.plainB, Bool.and_eq_true, decide_eq_true_eq] at h
    simp only [PT.plain, PT.plain_id a h.1.1, PT.plain_id b h.1.2]
    exact h.2

/-! ### count trees -/
inductive CT where
  | i (n : Nat)
  | t (n : Nat) (a b : CT)
  deriving DecidableEq
noncomputable def CT.toD : CT → PyData
  | .i n => .int n
  | .t n a b => .tuple [.int n, a.toD, b.toD]
noncomputable def CT.dep : CT → Nat
  | .i _ => 0
  | .t _ a b => max a.dep b.dep + 1
noncomputable def CT.front : CT → Nat
  | .i n => n
  | .t n _ _ => n
noncomputable def CT.low (l : Nat) : CT → CT
  | .i n => .i (n - l)
  | .t n a b => .t (n - l) a b
noncomputable def CT.join (n : Nat) (a b : CT) : CT :=
  if a = .i (min a.front b.front) ∧ b = .i (min a.front b.front) then .i (n + min a.front b.front) else .t (n + min a.front b.front) (a.low (min a.front b.front)) (b.low (min a.front b.front))
noncomputable def CT.plain : CT → CT
  | .i n => .i n
  | .t n a b => CT.join n a.plain b.plain
noncomputable def CT.half (a b : CT) : Bool := (decide (a.front = 0) || decide (b.front = 0)) && !(decide (a = .i 0) && decide (b = .i 0))
noncomputable def CT.plainB : CT → Bool
  | .i _ => true
  | .t _ a b => a.plainB && b.plainB && CT.half a b
/-- all numbers at most m -/
noncomputable def CT.le (m : Nat) : CT → Bool
  | .i n => decide (n ≤ m)
  | .t n a b => decide (n ≤ m) && a.le m && b.le m
theorem CT.lay : ∀ t : CT, t.toD.canLay0 = true
  | .i b => rfl
  | .t n a b => by simp [CT.toD, PyData.canLay0, PyData.canLayAll0, CT.lay a, CT.lay b]
theorem CT.depD : ∀ t : CT, t.toD.depth = t.dep
  | .i b => rfl
  | .t n a b => by simp [CT.toD, PyData.depth, PyData.depthAll, CT.dep, CT.depD a, CT.depD b]
theorem CT.eqv : ∀ a b : CT, PyData.eqv a.toD b.toD = decide (a = b)
  | .i x, .i y => by
    simp only [CT.toD, PyData.eqv]
    by_cases h : x = y <;> simp [h]
    omega
  | .i x, .t n c d => by simp [CT.toD, PyData.eqv]
  | .t n a b, .i y => by simp [CT.toD, PyData.eqv]
  | .t n a b, .t m c d => by
    simp only [CT.toD, PyData.eqv, PyData.eqvAll, CT.eqv a c, CT.eqv b d]
    by_cases h1 : a = c <;> by_cases h2 : b = d <;> by_cases h3 : n = m <;> simp [h1, h2, h3]
    all_goals omega
theorem CT.low_zero : ∀ a : CT, a.low 0 = a
  | .i n => rfl
  | .t n a b => rfl
theorem CT.low_dep (l : Nat) : ∀ a : CT, (a.low l).dep = a.dep
  | .i n => rfl
  | .t n a b => rfl
theorem CT.join_dep (n : Nat) (a b : CT) : (CT.join n a b).dep ≤ max a.dep b.dep + 1 := by
  unfold CT.join
  split
  · simp [CT.dep]
  · simp [CT.dep, CT.low_dep]
theorem CT.plain_dep : ∀ t : CT, t.plain.dep ≤ t.dep
  | .i b => Nat.le_refl _
  | .t n a b => by
    have := CT.join_dep n a.plain b.plain
    have h1 := CT.plain_dep a
    have h2 := CT.plain_dep b
    simp only [CT.plain, CT.dep]
    omega
theorem CT.join_half (n : Nat) (a b : CT) : decide (CT.join n a b = .t n a b) = CT.half a b := by
  unfold CT.join CT.half
  by_cases h : a = .i (min a.front b.front) ∧ b = .i (min a.front b.front)
  · rw [if_pos h]
    have : (CT.i (n + min a.front b.front) = CT.t n a b) = False := by simp
    simp only [this, decide_false]
    by_cases h0 : min a.front b.front = 0
    · rw [h0] at h
      simp [h.1, h.2]
    · have h1 : a.front ≠ 0 := by omega
      have h2 : b.front ≠ 0 := by omega
      simp [h1, h2]
  · rw [if_neg h]
    by_cases h0 : min a.front b.front = 0
    · rw [h0] at h ⊢
      rw [CT.low_zero, CT.low_zero]
      have h1 : a.front = 0 ∨ b.front = 0 := by omega
      have h2 : ¬ (a = .i 0 ∧ b = .i 0) := h
      simp only [Nat.add_zero, decide_true]
      rcases h1 with h1 | h1 <;> simp [h1] <;> exact Classical.not_and_iff_not_or_not.mp h2
    · have h1 : a.front ≠ 0 := by omega
      have h2 : b.front ≠ 0 := by omega
      have h3 : ¬ (n + min a.front b.front = n) := by omega
      simp [h1, h2, h3]
theorem CT.plain_id : ∀ t : CT, t.plainB = true → t.plain = t
  | .i b, _ => rfl
  | .t n a b, h => by
    simp only [CT.plainB, Bool.and_eq_true] at h
    simp only [CT.plain, CT.plain_id a h.1.1, CT.plain_id b h.1.2]
    have := CT.join_half n a b
    rw [h.2] at this
    exact of_decide_eq_true this
theorem CT.le_mono {m k : Nat} (h : m ≤ k) : ∀ t : CT, t.le m = true → t.le k = true
  | .i n, q => by simp only [CT.le, decide_eq_true_eq] at q ⊢; omega
  | .t n a b, q => by
    simp only [CT.le, Bool.and_eq_true, decide_eq_true_eq] at q ⊢
    exact ⟨⟨by omega, CT.le_mono h a q.1.2⟩, CT.le_mono h b q.2⟩
theorem CT.front_le {m : Nat} : ∀ t : CT, t.le m = true → t.front ≤ m
  | .i n, q => by simp only [CT.le, decide_eq_true_eq] at q; exact q
  | .t n a b, q => by simp only [CT.le, Bool.and_eq_true, decide_eq_true_eq] at q; exact q.1.1
theorem CT.low_le {m l : Nat} : ∀ t : CT, t.le m = true → (t.low l).le m = true
  | .i n, q => by simp only [CT.le, CT.low, decide_eq_true_eq] at q ⊢; omega
  | .t n a b, q => by
    simp only [CT.le, CT.low, Bool.and_eq_true, decide_eq_true_eq] at q ⊢
    exact ⟨⟨by omega, q.1.2⟩, q.2⟩
/-- the numbers of the plain tree of a tree with fronts at most s above leaves at most m -/
theorem CT.plain_le {m s : Nat} : ∀ t : CT, t.le m = true → t.plain.le (m * (t.dep + 1)) = true
  | .i n, q => by simpa [CT.plain, CT.dep] using q
  | .t n a b, q => by
    simp only [CT.le, Bool.and_eq_true, decide_eq_true_eq] at q
    have h1 := CT.plain_le (s := s) a q.1.2
    have h2 := CT.plain_le (s := s) b q.2
    simp only [CT.plain, CT.dep]
    have e1 : m * (a.dep + 1) ≤ m * (max a.dep b.dep + 1) := Nat.mul_le_mul_left _ (by omega)
    have e2 : m * (b.dep + 1) ≤ m * (max a.dep b.dep + 1) := Nat.mul_le_mul_left _ (by omega)
    have e3 : m * (max a.dep b.dep + 1 + 1) = m * (max a.dep b.dep + 1) + m := Nat.mul_succ _ _
    have g1 := CT.le_mono e1 _ h1
    have g2 := CT.le_mono e2 _ h2
    have f1 := CT.front_le _ g1
    unfold CT.join
    split
    · simp only [CT.le, decide_eq_true_eq]
      omega
    · simp only [CT.le, Bool.and_eq_true, decide_eq_true_eq]
      refine ⟨⟨by omega, CT.le_mono (by omega) _ (CT.low_le _ g1)⟩, CT.le_mono (by omega) _ (CT.low_le _ g2)⟩

/-! ### things of some depth -/
noncomputable def leafW (W : Nat) (d : PyData) : Prop := d = .none ∨ (∃ b, d = .bool b) ∨ (∃ i : Int, i.natAbs ≤ W ∧ d = .int i) ∨ ∃ x, PyData.strOk x = true ∧ d = .str x
noncomputable def gen (W : Nat) : Nat → PyData → Prop
  | 0, d => leafW W d
  | k + 1, d => leafW W d ∨ (∃ ds, d = .list ds ∧ ds.length ≤ W ∧ ∀ x ∈ ds, gen W k x) ∨ ∃ ds, d = .tuple ds ∧ ds.length ≤ W ∧ ∀ x ∈ ds, gen W k x
theorem gen_leaf {W k : Nat} {d : PyData} (h : leafW W d) : gen W k d := by
  cases k with
  | zero => exact h
  | succ k => exact .inl h
theorem gen_succ {W : Nat} : ∀ {k : Nat} {d : PyData}, gen W k d → gen W (k + 1) d
  | 0, d, h => .inl h
  | k + 1, d, h => by
    rcases h with h | ⟨ds, rfl, h1, h2⟩ | ⟨ds, rfl, h1, h2⟩
    · exact .inl h
    · exact .inr (.inl ⟨ds, rfl, h1, fun x hx => gen_succ (h2 x hx)⟩)
    · exact .inr (.inr ⟨ds, rfl, h1, fun x hx => gen_succ (h2 x hx)⟩)
theorem gen_mono {W k m : Nat} {d : PyData} (h : gen W k d) (e : k ≤ m) : gen W m d := by
  induction e with
  | refl => exact h
  | step _ ih => exact gen_succ ih
theorem gen_tuple {W k : Nat} {ds : List PyData} (h1 : ds.length ≤ W) (h : ∀ x ∈ ds, gen W k x) : gen W (k + 1) (.tuple ds) := .inr (.inr ⟨ds, rfl, h1, h⟩)
theorem gen_int {W k : Nat} {i : Int} (h : i.natAbs ≤ W) : gen W k (.int i) := gen_leaf (.inr (.inr (.inl ⟨i, h, rfl⟩)))
theorem PT.gen : ∀ t : PT, PL.gen 1000 t.dep t.toD
  | .z b => gen_int (by cases b <;> decide)
  | .p a b => by
    refine gen_tuple (by simp) fun x hx => ?_
    simp only [List.mem_cons, List.not_mem_nil, or_false] at hx
    rcases hx with rfl | rfl
    · exact gen_mono (PT.gen a) (by omega)
    · exact gen_mono (PT.gen b) (by omega)
theorem CT.gen : ∀ t : CT, t.le 1000 = true → PL.gen 1000 t.dep t.toD
  | .i n, h => by
    simp only [CT.le, decide_eq_true_eq] at h
    exact gen_int (by omega)
  | .t n a b, h => by
    simp only [CT.le, Bool.and_eq_true, decide_eq_true_eq] at h
    refine gen_tuple (by simp) fun x hx => ?_
    simp only [List.mem_cons, List.not_mem_nil, or_false] at hx
    rcases hx with rfl | rfl | rfl
    · exact gen_int (by omega)
    · exact gen_mono (CT.gen a h.1.2) (by omega)
    · exact gen_mono (CT.gen b h.2) (by omega)
end PL

set_option Elab.async false
set_option linter.all false
set_option maxRecDepth 100000
namespace PL
open PySem PySem.Spec PyProof.Rows L2
/-! ### what a tree tells at a place; a path that ends early goes on to the left -/
noncomputable def PT.at : PT → List Bool → Int
  | .z b, _ => if b then 1 else 0
  | .p a _, [] => a.at []
  | .p a _, true :: r => a.at r
  | .p _ b, false :: r => b.at r
noncomputable def CT.at : CT → List Bool → Int
  | .i n, _ => n
  | .t n a _, [] => n + a.at []
  | .t n a _, true :: r => n + a.at r
  | .t n _ b, false :: r => n + b.at r
/-! plain ones tell the same -/
/-! plain ones are plain -/
/-! plain ones that tell the same are the same -/
theorem CT.front_le_at : ∀ (t : CT) (p : List Bool), (t.front : Int) ≤ t.at p
  | .i n, p => by simp [CT.front, CT.at]
  | .t n a b, p => by
    cases p with
    | nil => have := CT.front_le_at a []; simp only [CT.front, CT.at]; omega
    | cons s r =>
      cases s
      · have := CT.front_le_at b r; simp only [CT.front, CT.at]; omega
      · have := CT.front_le_at a r; simp only [CT.front, CT.at]; omega
theorem CT.front_reached : ∀ (t : CT), t.plainB = true → ∃ p, t.at p = t.front
  | .i n, _ => ⟨[], rfl⟩
  | .t n a b, h => by
    simp only [CT.plainB, Bool.and_eq_true] at h
    have hh := h.2
    unfold CT.half at hh
    simp only [Bool.and_eq_true, Bool.or_eq_true, decide_eq_true_eq] at hh
    rcases hh.1 with q | q
    · obtain ⟨p, e⟩ := CT.front_reached a h.1.1
      exact ⟨true :: p, by simp only [CT.at, CT.front]; rw [e, q]; omega⟩
    · obtain ⟨p, e⟩ := CT.front_reached b h.1.2
      exact ⟨false :: p, by simp only [CT.at, CT.front]; rw [e, q]; omega⟩
theorem CT.front_eq (s t : CT) (hs : s.plainB = true) (ht : t.plainB = true) (h : ∀ p, s.at p = t.at p) : s.front = t.front := by
  obtain ⟨p, e⟩ := CT.front_reached s hs
  obtain ⟨q, e2⟩ := CT.front_reached t ht
  have h1 := CT.front_le_at t p
  have h2 := CT.front_le_at s q
  rw [← h p, e] at h1
  rw [h q, e2] at h2
  omega
/-! paths reach every place -/
/-! sizes -/
end PL

set_option Elab.async false
set_option linter.all false
set_option maxRecDepth 100000
namespace PL
open PySem PySem.Spec PyProof.Rows L2
@[simp] theorem u_addS (x y : Str) : binD .Add (.str x) (.str y) = if okLen (x.length + y.length) = true then some (.str (x ++ y)) else none := rfl
/-! halves put in -/
end PL

set_option Elab.async false
set_option linter.all false
set_option maxRecDepth 100000
namespace PL
open PySem PySem.Spec PyProof.Rows L2
/-! ### halves of part trees -/
noncomputable def PT.hf (s : Bool) : PT → PT
  | .z b => .z b
  | .p a b => if s then a else b
/-! ### counts -/
noncomputable def CT.leaf : CT → Bool
  | .i _ => true
  | .t _ _ _ => false
noncomputable def CT.up (l : Nat) : CT → CT
  | .i n => .i (n + l)
  | .t n a b => .t (n + l) a b
/-- a half, and what is counted beyond l -/
noncomputable def CT.hb (s : Bool) (l : Nat) : CT → CT
  | .i n => .i (n - l)
  | .t n a b => (if s then a else b).up (n - l)
/-! ### loops -/
end PL

set_option Elab.async false
set_option linter.all false
set_option maxRecDepth 100000
namespace PL
open PySem PySem.Spec PyProof.Rows L2

/-! ### data without lists: it stays as it is when lists change -/
mutual
noncomputable def noL : PyData → Bool
  | .list _ => false
  | .tuple ds => noLs ds
  | .none => true
  | .bool _ => true
  | .int _ => true
  | .str _ => true
  | .dict _ => true
noncomputable def noLs : List PyData → Bool
  | [] => true
  | d :: ds => noL d && noLs ds
end
/-- only lists have changed -/
noncomputable def Chg (H H' : Hp) : Prop := ∀ b o, H b = some o → (∀ xs, o ≠ .lst xs) → H' b = some o
theorem Chg.of_same {H H' : Hp} (h : Same H H') : Chg H H' := fun b o e _ => h b o e
theorem Chg.trans {H H1 H2 : Hp} (a : Chg H H1) (b : Chg H1 H2) : Chg H H2 := fun c o h n => b c o (a c o h n) n
theorem chg_upd {H : Hp} {l : Addr} {xs ys : List V} (h : H l = some (.lst xs)) : Chg H (upd H l (.lst ys)) := fun b o e n => by
  have hb : b ≠ l := fun z => by subst z; rw [h] at e; injection e with e; exact n xs e.symm
  rw [upd_ne hb]; exact e
theorem sqt_chg {K : PySem.W.Frag} {H H' : Hp} {a : Addr} {xs : List V} (e : Chg H H') (h : SqT K H a xs) : SqT K H' a xs := by
  rcases h with (h | ⟨o, h⟩) | h
  · exact .inl (.inl (e _ _ h fun ys z => by cases z))
  · exact .inl (.inr ⟨o, e _ _ h fun ys z => by cases z⟩)
  · exact .inr h
section
variable {K : PySem.W.Frag} {mg : Str → Option Value} {H H' : Hp}
mutual
theorem br_chg (e : Chg H H') : ∀ (d : PyData) (v : V), noL d = true → Br K mg H d v → Br K mg H' d v
  | .none, v, _, b => by simp only [Br] at b ⊢; exact b
  | .bool _, v, _, b => by simp only [Br] at b ⊢; exact b
  | .int _, v, _, b => by simp only [Br] at b ⊢; exact b
  | .str _, v, _, b => by simp only [Br] at b ⊢; exact b
  | .list ds, v, h, b => by simp [noL] at h
  | .tuple ds, v, h, b => by
    simp only [noL] at h
    simp only [Br] at b ⊢
    obtain ⟨a, vs, h1, h2, h3⟩ := b
    exact ⟨a, vs, h1, sqt_chg e h2, brs_chg e ds vs h h3⟩
  | .dict kvs, v, _, b => by
    simp only [Br] at b ⊢
    rcases b with b | ⟨c, a, C, h1, h2, h3, h4, h5⟩
    · exact .inl b
    · exact .inr ⟨c, a, C, h1, h2, h3, h4, e _ _ h5 fun ys z => by cases z⟩
theorem brs_chg (e : Chg H H') : ∀ (ds : List PyData) (vs : List V), noLs ds = true → Brs K mg H ds vs → Brs K mg H' ds vs
  | [], vs, _, b => by simp only [Brs] at b ⊢; exact b
  | d :: ds, vs, h, b => by
    simp only [noLs, Bool.and_eq_true] at h
    simp only [Brs] at b ⊢
    obtain ⟨v, r, h1, h2, h3⟩ := b
    exact ⟨v, r, h1, br_chg e d v h.1 h2, brs_chg e ds r h.2 h3⟩
end
theorem noLs_app : ∀ (a b : List PyData), noLs a = true → noLs b = true → noLs (a ++ b) = true
  | [], b, _, h => h
  | x :: a, b, h, h2 => by
    simp only [noLs, Bool.and_eq_true, List.cons_append] at h ⊢
    exact ⟨h.1, noLs_app a b h.2 h2⟩
noncomputable def noR (r : Rho) : Bool := r.all fun o => match o with
  | some d => noL d
  | none => true
theorem noR_get {r : Rho} (h : noR r = true) {i : Nat} {d : PyData} (e : r[i]? = some (some d)) : noL d = true := by
  have := List.all_eq_true.mp h (some d) (List.mem_of_getElem? e)
  exact this
theorem noR_set {r : Rho} (h : noR r = true) (i : Nat) {d : PyData} (hd : noL d = true) : noR (r.set i (some d)) = true := by
  refine List.all_eq_true.mpr fun o ho => ?_
  rcases List.mem_or_eq_of_mem_set ho with q | q
  · exact List.all_eq_true.mp h o q
  · subst q; exact hd
theorem envOk_chg {r : Rho} {σ : L2.St} (e : Chg H H') (n : noR r = true) (h : EnvOk K mg H r σ) : EnvOk K mg H' r σ :=
  ⟨h.1, fun i d q => let ⟨v, a, b⟩ := h.2 i d q; ⟨v, a, br_chg e d v (noR_get n q) b⟩⟩
/-! ### a list of lists that nobody else holds -/
noncomputable def Owned (K : PySem.W.Frag) (mg : Str → Option Value) (H₀ H : Hp) : List Addr → List (List PyData) → Prop
  | [], [] => True
  | b :: bs, ds :: st => (H₀ b = none ∧ noLs ds = true ∧ ∃ vs, H b = some (.lst vs) ∧ Brs K mg H ds vs) ∧ Owned K mg H₀ H bs st
  | _, _ => False
theorem Owned.chg {H₀ : Hp} (e : Chg H H') : ∀ (bs : List Addr) (st : List (List PyData)), (∀ b ∈ bs, H' b = H b) → Owned K mg H₀ H bs st → Owned K mg H₀ H' bs st
  | [], [], _, _ => trivial
  | b :: bs, ds :: st, k, ⟨⟨h1, h2, vs, h3, h4⟩, h5⟩ => ⟨⟨h1, h2, vs, by rw [k b List.mem_cons_self]; exact h3, brs_chg e ds vs h2 h4⟩, Owned.chg e bs st (fun c hc => k c (List.mem_cons_of_mem _ hc)) h5⟩
  | [], _ :: _, _, h => h.elim
  | _ :: _, [], _, h => h.elim
theorem Owned.same {H₀ : Hp} (e : Same H H') : ∀ (bs : List Addr) (st : List (List PyData)), Owned K mg H₀ H bs st → Owned K mg H₀ H' bs st
  | [], [], _ => trivial
  | b :: bs, ds :: st, ⟨⟨h1, h2, vs, h3, h4⟩, h5⟩ => ⟨⟨h1, h2, vs, e _ _ h3, brs_mono e ds vs h4⟩, Owned.same e bs st h5⟩
  | [], _ :: _, h => h.elim
  | _ :: _, [], h => h.elim
theorem Owned.some {H₀ : Hp} : ∀ (bs : List Addr) (st : List (List PyData)), Owned K mg H₀ H bs st → ∀ b ∈ bs, (∃ vs, H b = some (.lst vs)) ∧ H₀ b = none
  | [], [], _, b, hb => absurd hb (by simp)
  | c :: bs, ds :: st, ⟨⟨h1, h2, vs, h3, h4⟩, h5⟩, b, hb => by
    rcases List.mem_cons.mp hb with rfl | hb
    · exact ⟨⟨vs, h3⟩, h1⟩
    · exact Owned.some bs st h5 b hb
  | [], _ :: _, h, _, _ => h.elim
  | _ :: _, [], h, _, _ => h.elim
theorem Owned.len {H₀ : Hp} : ∀ (bs : List Addr) (st : List (List PyData)), Owned K mg H₀ H bs st → bs.length = st.length
  | [], [], _ => rfl
  | c :: bs, ds :: st, ⟨_, h5⟩ => by simp [Owned.len bs st h5]
  | [], _ :: _, h => h.elim
  | _ :: _, [], h => h.elim
end
structure Okm (K : PySem.W.Frag) (mg : Str → Option Value) (H₀ H : Hp) (σ : L2.St) (st : List (List PyData)) (r : Rho) : Prop where
  env : EnvOk K mg H r σ
  no3 : r[3]? = some none
  nol : noR r = true
  sm : Same H₀ H
  ex : ∃ (a : Addr) (bs : List Addr), σ[3]? = some (some (.ref a)) ∧ (a :: bs).Nodup ∧ H a = some (.lst (bs.reverse.map V.ref)) ∧ H₀ a = none ∧ Owned K mg H₀ H bs st
section
variable {K : PySem.W.Frag} {mg : Str → Option Value} {H₀ H H' : Hp} {σ : L2.St} {st : List (List PyData)} {r : Rho}
theorem Okm.mono (o : Okm K mg H₀ H σ st r) (e : Same H H') : Okm K mg H₀ H' σ st r := by
  obtain ⟨a, bs, h1, h2, h3, h4, h5⟩ := o.ex
  exact ⟨envOk_mono e o.env, o.no3, o.nol, o.sm.trans e, a, bs, h1, h2, e _ _ h3, h4, Owned.same e bs st h5⟩
theorem Okm.set (o : Okm K mg H₀ H σ st r) {i : Nat} {d : PyData} {v : V} (hi : i ≠ 3) (b : Br K mg H d v) (hd : noL d = true) : Okm K mg H₀ H (σ.set i (some v)) st (r.set i (some d)) := by
  obtain ⟨a, bs, h1, h2, h3, h4, h5⟩ := o.ex
  refine ⟨envOk_set i o.env b, ?_, noR_set o.nol i hd, o.sm, a, bs, ?_, h2, h3, h4, h5⟩
  · rw [List.getElem?_set_ne hi]; exact o.no3
  · rw [List.getElem?_set_ne hi]; exact h1
theorem same_owned {l : Addr} {o : HO} (e : Same H₀ H) (h : H₀ l = none) : Same H₀ (upd H l o) := fun b u q => by
  rw [upd_ne (ne_of_none q h)]; exact e b u q
/-- a new empty list on top -/
theorem Okm.push (o : Okm K mg H₀ H σ st r) {a p : Addr} {xs : List V} (ha : σ[3]? = some (some (.ref a))) (hx : H a = some (.lst xs)) (hp : H p = none) : Okm K mg H₀ (upd (upd H p (.lst [])) a (.lst (xs ++ [.ref p]))) σ ([] :: st) r := by
  obtain ⟨a', bs, h1, h2, h3, h4, h5⟩ := o.ex
  rw [ha] at h1
  injection h1 with h1; injection h1 with h1; injection h1 with h1
  subst h1
  rw [hx] at h3
  injection h3 with h3; injection h3 with h3
  subst h3
  have hpa : p ≠ a := fun z => by subst z; rw [hx] at hp; cases hp
  have hpb : p ∉ bs := fun z => by
    obtain ⟨⟨vs, q⟩, _⟩ := Owned.some bs st h5 p z
    rw [hp] at q; cases q
  have h0p : H₀ p = none := by
    cases q : H₀ p with
    | none => rfl
    | some u => have := o.sm p u q; rw [hp] at this; cases this
  rw [List.nodup_cons] at h2
  have c1 : Chg H (upd H p (.lst [])) := Chg.of_same (same_new hp _)
  have g1 : upd H p (.lst []) a = some (.lst (bs.reverse.map V.ref)) := by rw [upd_ne hpa.symm]; exact hx
  have c2 := c1.trans (chg_upd (ys := bs.reverse.map V.ref ++ [.ref p]) g1)
  refine ⟨envOk_chg c2 o.nol o.env, o.no3, o.nol, same_owned (o.sm.trans (same_new hp _)) h4, a, p :: bs, ha, ?_, ?_, h4, ⟨h0p, rfl, [], ?_, by simp only [Brs]⟩, ?_⟩
  · refine List.nodup_cons.mpr ⟨fun z => ?_, List.nodup_cons.mpr ⟨hpb, h2.2⟩⟩
    rcases List.mem_cons.mp z with z | z
    · exact hpa z.symm
    · exact h2.1 z
  · rw [upd_same]; simp
  · rw [upd_ne hpa, upd_same]
  · refine Owned.chg c2 bs st (fun b hb => ?_) h5
    rw [upd_ne (fun z => by subst z; exact h2.1 hb), upd_ne (fun z => by subst z; exact hpb hb)]
/-- the top is taken -/
theorem Okm.pop {ds : List PyData} (o : Okm K mg H₀ H σ (ds :: st) r) : ∃ (a b : Addr) (xs vs : List V), σ[3]? = some (some (.ref a)) ∧ H a = some (.lst xs) ∧ xs[xs.length - 1]? = some (.ref b) ∧ upd H a (.lst xs.dropLast) b = some (.lst vs) ∧ Brs K mg (upd H a (.lst xs.dropLast)) ds vs ∧ noLs ds = true ∧ Okm K mg H₀ (upd H a (.lst xs.dropLast)) σ st r := by
  obtain ⟨a, bs, h1, h2, h3, h4, h5⟩ := o.ex
  cases bs with
  | nil => exact h5.elim
  | cons b bs =>
    obtain ⟨⟨e1, e2, vs, e3, e4⟩, e5⟩ := h5
    rw [List.nodup_cons] at h2
    have hba : b ≠ a := fun z => h2.1 (z ▸ List.mem_cons_self)
    have hx : (b :: bs).reverse.map V.ref = bs.reverse.map V.ref ++ [V.ref b] := by simp
    rw [hx] at h3
    have hd : (bs.reverse.map V.ref ++ [V.ref b]).dropLast = bs.reverse.map V.ref := by simp
    have c2 : Chg H (upd H a (.lst (bs.reverse.map V.ref))) := chg_upd h3
    refine ⟨a, b, _, vs, h1, h3, by simp, by rw [hd, upd_ne hba]; exact e3, by rw [hd]; exact brs_chg c2 ds vs e2 e4, e2, ?_⟩
    rw [hd]
    refine ⟨envOk_chg c2 o.nol o.env, o.no3, o.nol, same_owned o.sm h4, a, bs, h1, ?_, upd_same, h4, ?_⟩
    · exact List.nodup_cons.mpr ⟨fun z => h2.1 (List.mem_cons_of_mem _ z), (List.nodup_cons.mp h2.2).2⟩
    · refine Owned.chg c2 bs st (fun c hc => ?_) e5
      rw [upd_ne (fun z => by subst z; exact h2.1 (List.mem_cons_of_mem _ hc))]
/-- one more in the top -/
theorem Okm.put {ds : List PyData} {t : PyData} {v : V} (o : Okm K mg H₀ H σ (ds :: st) r) (hb : Br K mg H t v) (ht : noL t = true) : ∃ (a b : Addr) (xs vs : List V), σ[3]? = some (some (.ref a)) ∧ H a = some (.lst xs) ∧ atI xs (-1) = some (.ref b) ∧ H b = some (.lst vs) ∧ vs.length = ds.length ∧ Okm K mg H₀ (upd H b (.lst (vs ++ [v]))) σ ((ds ++ [t]) :: st) r := by
  obtain ⟨a, bs, h1, h2, h3, h4, h5⟩ := o.ex
  cases bs with
  | nil => exact h5.elim
  | cons b bs =>
    obtain ⟨⟨e1, e2, vs, e3, e4⟩, e5⟩ := h5
    have h2' := List.nodup_cons.mp h2
    have h2'' := List.nodup_cons.mp h2'.2
    have hba : b ≠ a := fun z => h2'.1 (z ▸ List.mem_cons_self)
    have hx : (b :: bs).reverse.map V.ref = bs.reverse.map V.ref ++ [V.ref b] := by simp
    have c2 : Chg H (upd H b (.lst (vs ++ [v]))) := chg_upd e3
    refine ⟨a, b, _, vs, h1, h3, ?_, e3, (brs_length ds vs e4).symm, envOk_chg c2 o.nol o.env, o.no3, o.nol, same_owned o.sm e1, a, b :: bs, h1, h2, by rw [upd_ne hba.symm]; exact h3, h4, ⟨e1, noLs_app ds [t] e2 (by simp only [noLs, ht, Bool.and_self]), vs ++ [v], upd_same, ?_⟩, ?_⟩
    · rw [hx]
      have hl : (bs.reverse.map V.ref ++ [V.ref b]).length = bs.length + 1 := by simp
      unfold atI
      rw [hl]
      have : ixN (bs.length + 1) (-1) = some bs.length := by
        unfold ixN
        simp
        omega
      rw [this]
      simp
    · refine brs_append ds [t] vs [v] (brs_chg c2 ds vs e2 e4) ?_
      simp only [Brs]
      exact ⟨v, [], rfl, br_chg c2 t v ht hb, rfl⟩
    · refine Owned.chg c2 bs st (fun c hc => ?_) e5
      rw [upd_ne (fun z => by subst z; exact h2''.1 hc)]
end
end PL

set_option Elab.async false
set_option linter.all false
set_option maxRecDepth 100000
namespace PL
open PySem PySem.Spec PyProof.Rows L2
/-! ### the reader of a tree, by steps: st what is open (the inmost first), r the names -/
structure Mp where
  c1 : Rho → Option PyData
  inc : Rho → Option PyData
  fe : Rho → Option PyData
  nv : Rho → Option PyData
  nx : Rho → Option Str
  pe : Rho → Option PyData
  c2 : Rho → Option PyData
  A : List PyData → Option PyData
  AX : List PyData → Option Str
  c3 : Rho → Option PyData
  cR : Str
noncomputable def mW1 (M : Mp) : Nat → List (List PyData) → Rho → Option (List (List PyData) × Rho)
  | 0, _, _ => none
  | n + 1, st, r => match M.c1 r with
    | some (.bool true) => match M.inc r with
      | some d => if (noL d && okLen (st.length + 1)) = true then mW1 M n ([] :: st) (r.set 4 (some d)) else none
      | none => none
    | some (.bool false) => some (st, r)
    | _ => none
noncomputable def mTop (M : Mp) (ds : List PyData) (r : Rho) : Option (Sum Str Rho) := match vr 6 r, vr 2 r with
  | some t, some ip => if okLen (ds.length + 1) = true then match M.AX [.tuple (ds ++ [t]), ip] with
    | some c => some (.inl c)
    | none => match M.A [.tuple (ds ++ [t]), ip] with
      | some d => match M.inc (r.set 6 (some d)) with
        | some d2 => if (noL d && noL d2) = true then some (.inr ((r.set 6 (some d)).set 4 (some d2))) else none
        | none => none
      | none => none
    else none
  | _, _ => none
noncomputable def mW2 (M : Mp) : Nat → List (List PyData) → Rho → Option (Sum Str (List (List PyData) × Rho))
  | 0, _, _ => none
  | _ + 1, [], r => some (.inr ([], r))
  | n + 1, ds :: st, r => match M.c2 r with
    | some (.bool true) => match mTop M ds r with
      | some (.inl c) => some (.inl c)
      | some (.inr r') => mW2 M n st r'
      | none => none
    | some (.bool false) => some (.inr (ds :: st, r))
    | _ => none
/-- a number is read -/
noncomputable def mNum (M : Mp) (r : Rho) : Option (Sum Str Rho) := match M.fe r with
  | some d5 => match M.nx (r.set 5 (some d5)) with
    | some c => if noL d5 = true then some (.inl c) else none
    | none => match M.nv (r.set 5 (some d5)) with
      | some d6 => match M.pe ((r.set 5 (some d5)).set 6 (some d6)) with
        | some d4 => if (noL d5 && noL d6 && noL d4) = true then some (.inr (((r.set 5 (some d5)).set 6 (some d6)).set 4 (some d4))) else none
        | none => none
      | none => none
  | none => none
noncomputable def mPut (M : Mp) (ds : List PyData) (st : List (List PyData)) (r : Rho) : Option (Sum Str (List (List PyData) × Rho)) := match M.c3 r with
  | some (.bool true) => some (.inl M.cR)
  | some (.bool false) => match vr 6 r with
    | some t => match M.inc r with
      | some d => if (noL d && okLen (ds.length + 1)) = true then some (.inr ((ds ++ [t]) :: st, r.set 4 (some d))) else none
      | none => none
    | none => none
  | _ => none
noncomputable def mW (M : Mp) (f : Nat) : Nat → List (List PyData) → Rho → Option (Sum Str Rho)
  | 0, _, _ => none
  | n + 1, st, r => match mW1 M f st r with
    | none => none
    | some (st1, r1) => match mNum M r1 with
      | none => none
      | some (.inl c) => some (.inl c)
      | some (.inr r4) => match mW2 M f st1 r4 with
        | none => none
        | some (.inl c) => some (.inl c)
        | some (.inr ([], r5)) => some (.inr r5)
        | some (.inr (ds :: st2, r5)) => match mPut M ds st2 r5 with
          | none => none
          | some (.inl c) => some (.inl c)
          | some (.inr (st3, r6)) => mW M f n st3 r6
section
variable {K : PySem.W.Frag} {mg : Str → Option Value} {H₀ : Hp}
theorem vr_get {r : Rho} {i : Nat} {d : PyData} (h : vr i r = some d) : r[i]? = some (some d) := by
  unfold vr at h
  split at h
  · rename_i e; injection h with h; subst h; exact e
  · cases h
/-- opened.append([]) -/
noncomputable def tApp0 (K : PySem.W.Frag) : TS := tDrop (tBM K "list" rAppend (tVar 3) (tCons (tLst tNil) tNil))
theorem run_app0 {H : Hp} {σ : L2.St} {st : List (List PyData)} {r : Rho} {D : Ends} (o : Okm K mg H₀ H σ st r) (hl : okLen (st.length + 1) = true) (q : ∀ H', Okm K mg H₀ H' σ ([] :: st) r → D.nx σ H') : tApp0 K D σ H := by
  obtain ⟨a, bs, h1, h2, h3, h4, h5⟩ := o.ex
  refine ⟨.ref a, h1, .inl ⟨rfl, _, SqL.of h3⟩, Nat.zero_le _, fun p hp => ⟨a, _, .ref p, rfl, rfl, ?_, ?_, q _ (o.push h1 h3 hp)⟩⟩
  · rw [upd_ne (ne_of_none h3 hp)]; exact h3
  · have := Owned.len bs st h5
    have h6 := okLen_size hl
    simp only [List.length_map, List.length_reverse]
    omega
theorem run_set {H : Hp} {σ : L2.St} {st : List (List PyData)} {r : Rho} {D : Ends} {g : Rho → Option PyData} {i : Nat} {d : PyData} (o : Okm K mg H₀ H σ st r) (hi : i ≠ 3) (e : g r = some d) (hd : noL d = true) (q : ∀ σ' H', Okm K mg H₀ H' σ' st (r.set i (some d)) → D.nx σ' H') : tAsg (tP K mg g) (gName i) D σ H :=
  ⟨r, d, o.env, e, fun v H' sm b => q _ H' ((o.mono sm).set hi b hd)⟩
theorem run_w1 (M : Mp) {n : Nat} {st st' : List (List PyData)} {r r' : Rho} {σ : L2.St} {H : Hp} {D : Ends} (o : Okm K mg H₀ H σ st r) (e : mW1 M n st r = some (st', r')) (q : ∀ σ' H', Okm K mg H₀ H' σ' st' r' → D.nx σ' H') :
    tWhile (tPT K mg M.c1) (tSeq (tApp0 K) (tAsg (tP K mg M.inc) (gName 4))) D σ H := by
  refine ⟨fun m σ H => ∃ st r, Okm K mg H₀ H σ st r ∧ mW1 M m st r = some (st', r'), ⟨n, st, r, o, e⟩, fun m σ H ⟨st, r, o, e⟩ => ?_⟩
  cases m with
  | zero => cases e
  | succ m =>
    unfold mW1 at e
    cases e1 : M.c1 r with
    | none => rw [e1] at e; cases e
    | some d1 =>
      rw [e1] at e
      cases d1 with
      | bool b =>
        refine ⟨r, b, o.env, e1, fun H1 sm => ?_⟩
        have o1 := o.mono sm
        cases b with
        | false =>
          injection e with e
          injection e with ea eb
          subst ea eb
          refine iteF ?_
          exact q _ _ o1
        | true =>
          simp only at e
          refine iteT ?_
          cases e2 : M.inc r with
          | none => rw [e2] at e; cases e
          | some d =>
            rw [e2] at e
            simp only at e
            split at e
            · rename_i hc
              rw [Bool.and_eq_true] at hc
              refine ⟨_, fun σ' H' h => ⟨m, Nat.lt_succ_self m, h⟩, run_app0 o1 hc.2 fun H2 o2 => run_set (D := { D with nx := _, ct := _, bk := _ }) o2 (by decide) e2 hc.1 fun σ3 H3 o3 => ⟨_, _, o3, e⟩⟩
            · cases e
      | _ => cases e
end
end PL

set_option Elab.async false
set_option linter.all false
set_option maxRecDepth 100000
namespace PL
open PySem PySem.Spec PyProof.Rows L2
/-- an exception of class c, raised in what the heap was at first or more, is what this body wants -/
noncomputable def XOk (X : Cx) (H₀ : Hp) (c : Str) : Prop := ∀ (pins : List (Addr × Obj)) (ev : Value) (s' : Shared), Xf X pins H₀ c (fun _ _ => True) ev s' → X.xe ev s'
/-- what is told of a value, or of an exception -/
noncomputable def Vx (X : Cx) (H₀ H : Hp) (Q : VK) (o : Option PyData) (x : Option Str) : Prop := (∃ d, o = some d ∧ ∀ v H', Same H H' → Br X.K X.mg H' d v → Q v H') ∨ ∃ c, x = some c ∧ Same H₀ H ∧ XOk X H₀ c
noncomputable def tEX (X : Cx) (H₀ : Hp) (g : Rho → Option PyData) (gx : Rho → Option Str) : TE := fun σ H Q => ∃ r, EnvOk X.K X.mg H r σ ∧ Vx X H₀ H Q (g r) (gx r)
noncomputable def tCX (X : Cx) (H₀ : Hp) (A : List PyData → Option PyData) (AX : List PyData → Option Str) (t : TA) : TE := fun σ H Q => t σ H fun vs H1 => ∃ ds, Brs X.K X.mg H1 ds vs ∧ Vx X H₀ H1 Q (A ds) (AX ds)
noncomputable def tRaise (X : Cx) (H₀ : Hp) (c : Str) : TS := fun _ σ H => ∃ r, EnvOk X.K X.mg H r σ ∧ Same H₀ H ∧ XOk X H₀ c
section
variable {X : Cx} {S : Sg} {k : Nat} {C : Orc} {D : OrcX} {H₀ : Hp} {a e : Expr} {es : List Expr} {pos : Pos}
theorem pe_ex {g : Rho → Option PyData} {gx : Rho → Option Str} (h : E1 X e g) (hx : X1 X e gx) : PE X e (tEX X H₀ g gx) := by
  intro pins s σ H Q I ⟨r, env, q⟩
  rcases q with ⟨d, hd, q⟩ | ⟨c, hc, sm, xo⟩
  · exact h pins s σ H Q I ⟨r, d, env, hd, q⟩
  · exact wpAny_mono (hx pins s σ H r c I env hc) (fun _ _ z => False.elim z) fun ev s' z => xo pins ev s' (xf_mono sm z fun _ _ _ _ => trivial)
theorem pe_callX (h : Hz X S k C D) {x : Str} {p : Pos} {t : TA} (hf : fnB S x = true) (ha : PA X (a :: es) t) (hh : ∀ e' ∈ a :: es, okHead e' = true) : PE X (.Call (.Name x p) (a :: es) [] pos) (tCX X H₀ (C x) (D x) t) := by
  simp only [fnB, Bool.and_eq_true] at hf
  obtain ⟨⟨hg, hfs⟩, hn⟩ := hf
  obtain ⟨fa, fd, ps, h1, h2, h3, h4, h5, h6⟩ := (h.fx x hfs).ex
  intro pins s σ H Q I ht
  refine wpAny_Call_Name_kw (ld_glob I (h.gl hg) h1 ?_ (nm1 hn))
  refine PySem.W.callWith_K (h₀ := X.base) I.ok.mod.kin h2 (thn (ha pos pins s σ H _ I ht) fun us s1 ⟨vs, H1, I1, rv, ds, bv, q⟩ => ⟨I1.kIn, ?_⟩) (star_ok (hh a List.mem_cons_self)) (stars_ok fun e' he => hh e' (List.mem_cons_of_mem _ he))
  rcases q with ⟨d, hd, q⟩ | ⟨c, hc, sm, xo⟩
  · have hl := h5 ds d hd
    refine run_fn (dvs := []) (ds := []) (E := fun _ _ _ => False) (fn_norm h4) h.room h3 .nil (fun _ _ _ _ _ _ _ z => False.elim z) I1 rv ?_
    rw [List.append_nil]
    exact ⟨by rw [← brs_length ds vs bv]; exact hl, ds, d, bv, hd, q⟩
  · obtain ⟨hl, hxn, Ca, hm⟩ := h6 ds c hc
    exact wpAny_mono (run_fnX h.hex h4 h.room h3 I1 rv bv hl hc hxn hm) (fun _ _ z => False.elim z) fun ev s' z => xo pins ev s' (xf_mono sm z fun _ _ _ _ => trivial)
theorem ps_raiseX {st : Stmt} {gx : Rho → Option (Str × Rho)} {c : Str} (h : XS1 X st gx) (hc : ∀ r, ∃ r', gx r = some (c, r')) : L2.PS X st (tRaise X H₀ c) := by
  intro pins s σ H D I ⟨r, env, sm, xo⟩
  obtain ⟨r', e⟩ := hc r
  exact wpAny_mono (h pins s σ H r c r' I env e) (fun _ _ z => False.elim z) fun ev s' z => xo pins ev s' (xf_mono sm z fun _ _ _ _ => trivial)
/-! the steps of the reader -/
variable {M : Mp} {st : List (List PyData)} {r : Rho} {σ : L2.St} {H : Hp} {E : Ends}
/-- what is wanted of an end -/
noncomputable def Got {α : Type} (X : Cx) (H₀ : Hp) (o : Sum Str α) (P : α → Prop) : Prop := match o with
  | .inl c => XOk X H₀ c
  | .inr x => P x
noncomputable def tPopT (X : Cx) : TA := tCons (tCB (rDC X.K X.mg tupleD) (tCons (tOp rCat (tBM0 X.K "list" rPop (tVar 3)) (tLst (tCons (tVar 6) tNil))) tNil)) (tCons (tVar 2) tNil)
noncomputable def tTop (X : Cx) (H₀ : Hp) (M : Mp) : TS := tSeq (tAsg (tCX X H₀ M.A M.AX (tPopT X)) (gName 6)) (tAsg (tP X.K X.mg M.inc) (gName 4))
theorem run_pop {ds : List PyData} {t ip : PyData} {Q : List V → Hp → Prop} (o : Okm X.K X.mg H₀ H σ (ds :: st) r) (h6 : vr 6 r = some t) (h2 : vr 2 r = some ip) (hl : okLen (ds.length + 1) = true)
    (q : ∀ vs H', Okm X.K X.mg H₀ H' σ st r → Brs X.K X.mg H' [.tuple (ds ++ [t]), ip] vs → Q vs H') : tPopT X σ H Q := by
  obtain ⟨a, b, xs, vs, e1, e2, e3, e4, e5, e6, o1⟩ := o.pop
  refine ⟨.ref a, e1, .inl ⟨rfl, _, SqL.of e2⟩, a, xs, .ref b, rfl, rfl, e2, e3, ?_⟩
  generalize upd H a (.lst xs.dropLast) = H1 at *
  obtain ⟨vt, s6, b6⟩ := o1.env.2 6 t (vr_get h6)
  have hz := okLen_size hl
  refine ⟨vt, s6, by show 1 ≤ sizeLine; omega, fun p hp => ?_⟩
  have m1 := same_new hp (.lst [vt])
  have hpb : b ≠ p := ne_of_none e4 hp
  refine ⟨b, p, vs, [vt], rfl, rfl, by rw [upd_ne hpb]; exact e4, upd_same, ?_, fun p2 hp2 => ?_⟩
  · have := brs_length ds vs e5
    show vs.length + 1 ≤ sizeLine
    omega
  have m2 := m1.trans (same_new hp2 (.lst (vs ++ [vt])))
  refine ⟨[.list (ds ++ [t])], .tuple (ds ++ [t]), ?_, rfl, fun w H4 m4 bw => ?_⟩
  · simp only [Brs, Br]
    refine ⟨_, [], rfl, ⟨p2, vs ++ [vt], rfl, SqL.of upd_same, ?_⟩, rfl⟩
    refine brs_append ds [t] vs [vt] (brs_mono m2 ds vs e5) ?_
    simp only [Brs]
    exact ⟨vt, [], rfl, br_mono m2 t vt b6, rfl⟩
  have m5 := m2.trans m4
  have o4 := o1.mono m5
  obtain ⟨vi, s2, b2⟩ := o4.env.2 2 ip (vr_get h2)
  refine ⟨vi, s2, q _ _ o4 ?_⟩
  simp only [Brs]
  exact ⟨w, _, rfl, bw, vi, [], rfl, b2, rfl⟩
theorem run_top {ds : List PyData} {o : Sum Str Rho} (ok : Okm X.K X.mg H₀ H σ (ds :: st) r) (e : mTop M ds r = some o) (q : Got X H₀ o fun r' => ∀ σ' H', Okm X.K X.mg H₀ H' σ' st r' → E.nx σ' H') : tTop X H₀ M E σ H := by
  unfold mTop at e
  cases e6 : vr 6 r with
  | none => rw [e6] at e; cases e
  | some t =>
    cases e2 : vr 2 r with
    | none => rw [e6, e2] at e; cases e
    | some ip =>
      rw [e6, e2] at e
      simp only at e
      split at e
      · rename_i hl
        refine run_pop (Q := fun vs H1 => ∃ ds, Brs X.K X.mg H1 ds vs ∧ Vx X H₀ H1 (fun x H1 => gName 6 x σ H1 (tAsg (tP X.K X.mg M.inc) (gName 4) E)) (M.A ds) (M.AX ds)) ok e6 e2 hl fun vs H1 o1 b1 => ⟨_, b1, ?_⟩
        cases ex : M.AX [.tuple (ds ++ [t]), ip] with
        | some c =>
          rw [ex] at e
          injection e with e
          subst e
          exact .inr ⟨c, rfl, o1.sm, q⟩
        | none =>
          rw [ex] at e
          simp only at e
          cases ea : M.A [.tuple (ds ++ [t]), ip] with
          | none => rw [ea] at e; cases e
          | some d =>
            rw [ea] at e
            simp only at e
            cases ei : M.inc (r.set 6 (some d)) with
            | none => rw [ei] at e; cases e
            | some d2 =>
              rw [ei] at e
              simp only at e
              split at e
              · rename_i hn
                rw [Bool.and_eq_true] at hn
                injection e with e
                subst e
                refine .inl ⟨d, rfl, fun v H2 m2 b2 => ?_⟩
                exact run_set (D := E) ((o1.mono m2).set (by decide) b2 hn.1) (by decide) ei hn.2 q
              · cases e
      · cases e
/-- opened, as a test -/
noncomputable def tOpen (K : PySem.W.Frag) : TT := fun σ H Q => tVar 3 σ H fun x H' => ∃ k, TruV K x H' k ∧ Q k H'
theorem run_open {Q : Bool → Hp → Prop} (o : Okm X.K X.mg H₀ H σ st r) (q : Q (!st.isEmpty) H) : tOpen X.K σ H Q := by
  obtain ⟨a, bs, h1, h2, h3, h4, h5⟩ := o.ex
  refine ⟨.ref a, h1, !st.isEmpty, .inl ⟨_, SqL.of h3, ?_⟩, q⟩
  have := Owned.len bs st h5
  cases st with
  | nil =>
    cases bs with
    | nil => rfl
    | cons b bs => simp at this
  | cons ds st =>
    cases bs with
    | nil => simp at this
    | cons b bs => simp
theorem run_w2 {n : Nat} {o : Sum Str (List (List PyData) × Rho)} (ok : Okm X.K X.mg H₀ H σ st r) (e : mW2 M n st r = some o) (q : Got X H₀ o fun p => ∀ σ' H', Okm X.K X.mg H₀ H' σ' p.1 p.2 → E.nx σ' H') :
    tWhile (tAnd (tOpen X.K) (tPT X.K X.mg M.c2)) (tTop X H₀ M) E σ H := by
  refine ⟨fun m σ H => ∃ st r, Okm X.K X.mg H₀ H σ st r ∧ mW2 M m st r = some o, ⟨n, st, r, ok, e⟩, fun m σ H ⟨st, r, ok, e⟩ => ?_⟩
  cases m with
  | zero => cases e
  | succ m =>
    refine run_open ok ?_
    cases st with
    | nil =>
      injection e with e
      subst e
      exact iteF (iteF (q _ _ ok))
    | cons ds st =>
      refine iteT ?_
      unfold mW2 at e
      cases e1 : M.c2 r with
      | none => rw [e1] at e; cases e
      | some d1 =>
        rw [e1] at e
        cases d1 with
        | bool b =>
          refine ⟨r, b, ok.env, e1, fun H1 sm => ?_⟩
          have o1 := ok.mono sm
          cases b with
          | false =>
            injection e with e
            subst e
            exact iteF (q _ _ o1)
          | true =>
            simp only at e
            refine iteT ?_
            cases e2 : mTop M ds r with
            | none => rw [e2] at e; cases e
            | some o2 =>
              rw [e2] at e
              cases o2 with
              | inl c =>
                injection e with e
                subst e
                exact ⟨fun _ _ => False, fun _ _ z => z.elim, run_top o1 e2 q⟩
              | inr r' => exact ⟨_, fun σ' H' h => ⟨m, Nat.lt_succ_self m, h⟩, run_top o1 e2 fun σ3 H3 o3 => ⟨_, _, o3, e⟩⟩
        | _ => cases e
noncomputable def tNum (X : Cx) (H₀ : Hp) (M : Mp) (u : TS) : TS := tSeq (tAsg (tP X.K X.mg M.fe) (gName 5)) (tSeq (tAsg (tEX X H₀ M.nv M.nx) (gName 6)) (tSeq (tAsg (tP X.K X.mg M.pe) (gName 4)) u))
theorem run_num {o : Sum Str Rho} {u : TS} (ok : Okm X.K X.mg H₀ H σ st r) (e : mNum M r = some o) (q : Got X H₀ o fun r' => ∀ σ' H', Okm X.K X.mg H₀ H' σ' st r' → u E σ' H') : tNum X H₀ M u E σ H := by
  unfold mNum at e
  cases e5 : M.fe r with
  | none => rw [e5] at e; cases e
  | some d5 =>
    rw [e5] at e
    simp only at e
    cases ex : M.nx (r.set 5 (some d5)) with
    | some c =>
      rw [ex] at e
      simp only at e
      obtain ⟨hn, e⟩ := ite_some e
      subst e
      exact run_set ok (by decide) e5 hn fun σ1 H1 o1 => ⟨_, o1.env, .inr ⟨c, ex, o1.sm, q⟩⟩
    | none =>
      rw [ex] at e
      simp only at e
      cases e6 : M.nv (r.set 5 (some d5)) with
      | none => rw [e6] at e; cases e
      | some d6 =>
        rw [e6] at e
        simp only at e
        cases e4 : M.pe ((r.set 5 (some d5)).set 6 (some d6)) with
        | none => rw [e4] at e; cases e
        | some d4 =>
          rw [e4] at e
          simp only at e
          obtain ⟨hn, e⟩ := ite_some e
          subst e
          rw [Bool.and_eq_true, Bool.and_eq_true] at hn
          refine run_set ok (by decide) e5 hn.1.1 fun σ1 H1 o1 => ⟨_, o1.env, .inl ⟨d6, e6, fun v H2 m2 b2 => ?_⟩⟩
          exact run_set (D := { E with nx := u E }) ((o1.mono m2).set (by decide) b2 hn.1.2) (by decide) e4 hn.2 q
noncomputable def tAppT (X : Cx) (gm : Rho → Option PyData) : TS := tDrop (tBM X.K "list" rAppend (tOp (rIxL X.K) (tVar 3) (tP X.K X.mg gm)) (tCons (tVar 6) tNil))
noncomputable def tPut (X : Cx) (H₀ : Hp) (M : Mp) (gm : Rho → Option PyData) : TS := tSeq (tIfS (tPT X.K X.mg M.c3) (tRaise X H₀ M.cR) tNext) (tSeq (tAppT X gm) (tAsg (tP X.K X.mg M.inc) (gName 4)))
theorem run_put {ds : List PyData} {o : Sum Str (List (List PyData) × Rho)} {gm : Rho → Option PyData} (hm : ∀ r, gm r = some (.int (-1))) (ok : Okm X.K X.mg H₀ H σ (ds :: st) r) (e : mPut M ds st r = some o) (q : Got X H₀ o fun p => ∀ σ' H', Okm X.K X.mg H₀ H' σ' p.1 p.2 → E.nx σ' H') :
    tPut X H₀ M gm E σ H := by
  unfold mPut at e
  cases e1 : M.c3 r with
  | none => rw [e1] at e; cases e
  | some d1 =>
    rw [e1] at e
    cases d1 with
    | bool b =>
      refine ⟨r, b, ok.env, e1, fun H1 sm => ?_⟩
      have o1 := ok.mono sm
      cases b with
      | true =>
        injection e with e
        subst e
        exact iteT ⟨r, o1.env, o1.sm, q⟩
      | false =>
        simp only at e
        refine iteF ?_
        cases e6 : vr 6 r with
        | none => rw [e6] at e; cases e
        | some t =>
          rw [e6] at e
          simp only at e
          cases e4 : M.inc r with
          | none => rw [e4] at e; cases e
          | some d =>
            rw [e4] at e
            simp only at e
            obtain ⟨hn, e⟩ := ite_some e
            subst e
            rw [Bool.and_eq_true] at hn
            obtain ⟨vt, s6, b6⟩ := o1.env.2 6 t (vr_get e6)
            obtain ⟨a, b, xs, vs, f1, f2, f3, f4, f5, o2⟩ := o1.put b6 (noR_get o1.nol (vr_get e6))
            obtain ⟨a', bs, g1, g2, g3, g4, g5⟩ := o1.ex
            refine ⟨.ref a, f1, r, .int (-1), o1.env, hm r, fun v H2 m2 b2 => ?_⟩
            simp only [Br] at b2
            subst b2
            have o3 := o1.mono m2
            obtain ⟨a3, b3, xs3, vs3, k1, k2, k3, k4, k5, o4⟩ := o3.put (br_mono m2 t vt b6) (noR_get o1.nol (vr_get e6))
            rw [f1] at k1
            injection k1 with k1; injection k1 with k1; injection k1 with k1
            subst k1
            refine ⟨a, xs3, -1, .ref b3, rfl, rfl, SqL.of k2, k3, .inl ⟨rfl, _, SqL.of k4⟩, vt, s6, b3, vs3, vt, rfl, rfl, k4, ?_, ?_⟩
            · have := okLen_size hn.2
              omega
            · exact run_set (D := E) o4 (by decide) e4 hn.1 q
    | _ => cases e
/-- the body of the great loop -/
noncomputable def tBody (X : Cx) (H₀ : Hp) (M : Mp) (gm : Rho → Option PyData) : TS :=
  tSeq (tWhile (tPT X.K X.mg M.c1) (tSeq (tApp0 X.K) (tAsg (tP X.K X.mg M.inc) (gName 4)))) (tNum X H₀ M
    (tSeq (tWhile (tAnd (tOpen X.K) (tPT X.K X.mg M.c2)) (tTop X H₀ M)) (tSeq (tIfS (tNot (tOpen X.K)) tBreak tNext) (tPut X H₀ M gm))))
theorem run_w {f n : Nat} {o : Sum Str Rho} {gm gt : Rho → Option PyData} (hm : ∀ r, gm r = some (.int (-1))) (ht : ∀ r, gt r = some (.bool true)) (ok : Okm X.K X.mg H₀ H σ st r) (e : mW M f n st r = some o) (q : Got X H₀ o fun r' => ∀ σ' H', Okm X.K X.mg H₀ H' σ' [] r' → E.nx σ' H') :
    tWhile (tPT X.K X.mg gt) (tBody X H₀ M gm) E σ H := by
  refine ⟨fun m σ H => ∃ st r, Okm X.K X.mg H₀ H σ st r ∧ mW M f m st r = some o, ⟨n, st, r, ok, e⟩, fun m σ H ⟨st, r, ok, e⟩ => ?_⟩
  cases m with
  | zero => cases e
  | succ m =>
    refine ⟨r, true, ok.env, ht r, fun H1 sm => iteT ⟨_, fun σ' H' h => ⟨m, Nat.lt_succ_self m, h⟩, ?_⟩⟩
    have ok := ok.mono sm
    unfold mW at e
    cases e1 : mW1 M f st r with
    | none => rw [e1] at e; cases e
    | some p1 =>
      obtain ⟨st1, r1⟩ := p1
      rw [e1] at e
      simp only at e
      refine run_w1 M ok e1 fun σ2 H2 o2 => ?_
      cases e2 : mNum M r1 with
      | none => rw [e2] at e; cases e
      | some x2 =>
        rw [e2] at e
        refine run_num o2 e2 ?_
        cases x2 with
        | inl c =>
          injection e with e
          subst e
          exact q
        | inr r4 =>
          intro σ3 H3 o3
          simp only at e
          cases e3 : mW2 M f st1 r4 with
          | none => rw [e3] at e; cases e
          | some x3 =>
            rw [e3] at e
            refine run_w2 o3 e3 ?_
            cases x3 with
            | inl c =>
              injection e with e
              subst e
              exact q
            | inr p =>
              obtain ⟨st2, r5⟩ := p
              intro σ4 H4 o4
              refine run_open o4 ?_
              cases st2 with
              | nil =>
                injection e with e
                subst e
                exact iteT (q _ _ o4)
              | cons ds st2 =>
                refine iteF ?_
                simp only at e
                cases e4 : mPut M ds st2 r5 with
                | none => rw [e4] at e; cases e
                | some x4 =>
                  rw [e4] at e
                  refine run_put hm o4 e4 ?_
                  cases x4 with
                  | inl c =>
                    injection e with e
                    subst e
                    exact q
                  | inr p =>
                    obtain ⟨st3, r6⟩ := p
                    exact fun σ5 H5 o5 => ⟨_, _, o5, e⟩
end
end PL

set_option Elab.async false
set_option linter.all false
set_option maxRecDepth 100000
namespace PL
open PySem PySem.Spec PyProof.Rows L2
noncomputable def is3 (r : Rho) : Bool := match r[3]? with
  | some none => true
  | _ => false
theorem is3_eq {r : Rho} (h : is3 r = true) : r[3]? = some none := by
  unfold is3 at h
  split at h
  · assumption
  · cases h
noncomputable def mAll (M : Mp) (k0 c4 : Rho → Option PyData) (f n : Nat) (r : Rho) : Option (Sum Str PyData) :=
  if (noR r && is3 r) = true then match k0 r with
    | some d0 => if noL d0 = true then match mW M f n [] (r.set 4 (some d0)) with
      | some (.inl c) => some (.inl c)
      | some (.inr r') => match c4 r' with
        | some (.bool true) => some (.inl M.cR)
        | some (.bool false) => match vr 6 r' with
          | some t => some (.inr t)
          | none => none
        | _ => none
      | none => none
      else none
    | none => none
  else none
section
variable {X : Cx} {S : Sg} {k : Nat} {C : Orc} {D : OrcX} {H₀ : Hp} {M : Mp}
noncomputable def tAll (X : Cx) (H₀ : Hp) (M : Mp) (k0 gt gm c4 : Rho → Option PyData) : TS := tSeq (tAsg (tLst tNil) (gName 3)) (tSeq (tAsg (tP X.K X.mg k0) (gName 4)) (tSeq (tWhile (tPT X.K X.mg gt) (tBody X H₀ M gm)) (tSeq (tIfS (tPT X.K X.mg c4) (tRaise X H₀ M.cR) tNext) (tRet (tVar 6)))))
theorem run_all {f n : Nat} {r : Rho} {σ : L2.St} {E : Ends} {k0 gt gm c4 : Rho → Option PyData} {o : Sum Str PyData} (hm : ∀ r, gm r = some (.int (-1))) (ht : ∀ r, gt r = some (.bool true)) (env : EnvOk X.K X.mg H₀ r σ) (e : mAll M k0 c4 f n r = some o)
    (q : Got X H₀ o fun d => ∀ v H', Same H₀ H' → Br X.K X.mg H' d v → E.rt v H') : tAll X H₀ M k0 gt gm c4 E σ H₀ := by
  unfold mAll at e
  split at e
  · rename_i hc
    rw [Bool.and_eq_true] at hc
    have hc := And.intro hc.1 (is3_eq hc.2)
    refine ⟨Nat.zero_le _, fun p hp => ?_⟩
    have l3 : 3 < σ.length := by
      rw [← env.1]
      exact (List.getElem?_eq_some_iff.mp hc.2).1
    have m0 := same_new hp (.lst [])
    have ok : Okm X.K X.mg H₀ (upd H₀ p (.lst [])) (σ.set 3 (some (.ref p))) [] r := by
      refine ⟨⟨by rw [List.length_set]; exact env.1, fun i d hi => ?_⟩, hc.2, hc.1, m0, p, [], by rw [List.getElem?_set_self l3], by simp, by rw [upd_same]; rfl, hp, trivial⟩
      by_cases h3 : i = 3
      · subst h3; rw [hc.2] at hi; cases hi
      · obtain ⟨v, a, b⟩ := env.2 i d hi
        exact ⟨v, by rw [List.getElem?_set_ne (Ne.symm h3)]; exact a, br_mono m0 d v b⟩
    cases e0 : k0 r with
    | none => rw [e0] at e; cases e
    | some d0 =>
      rw [e0] at e
      simp only at e
      split at e
      · rename_i h0
        refine run_set ok (by decide) e0 h0 fun σ1 H1 o1 => ?_
        cases e1 : mW M f n [] (r.set 4 (some d0)) with
        | none => rw [e1] at e; cases e
        | some x =>
          rw [e1] at e
          refine run_w hm ht o1 e1 ?_
          cases x with
          | inl c =>
            injection e with e
            subst e
            exact q
          | inr r' =>
            intro σ2 H2 o2
            simp only at e
            cases e4 : c4 r' with
            | none => rw [e4] at e; cases e
            | some d4 =>
              rw [e4] at e
              cases d4 with
              | bool b =>
                refine ⟨r', b, o2.env, e4, fun H3 m3 => ?_⟩
                have o3 := o2.mono m3
                cases b with
                | true =>
                  injection e with e
                  subst e
                  exact iteT ⟨r', o3.env, o3.sm, q⟩
                | false =>
                  refine iteF ?_
                  simp only at e
                  cases e6 : vr 6 r' with
                  | none => rw [e6] at e; cases e
                  | some t =>
                    rw [e6] at e
                    injection e with e
                    subst e
                    obtain ⟨vt, s6, b6⟩ := o3.env.2 6 t (vr_get e6)
                    exact ⟨vt, s6, q vt H3 o3.sm b6⟩
              | _ => cases e
      · cases e
  · cases e
/-- what an assignment wants of its value -/
noncomputable def okV (e : Expr) : Bool := okHead e && notComp e
theorem ps_v (hz : Hz X S k C D) {i : Nat} {x : Str} {e : Expr} {p p' : Pos} {t : TE} (h : (decide (S.N[i]? = some x) && locB S.sc x) = true) (he : PE X e t) (hv : okV e = true) : L2.PS X (.Assign [.Name x p'] e p) (tAsg t (gName i)) := by
  unfold okV at hv
  rw [Bool.and_eq_true] at h hv
  have hl : Loc X.env.scope x := by
    have h2 := h.2
    unfold locB at h2
    show List.lookup x X.env.scope.names = some NameKind.local ∨ List.lookup x X.env.scope.names = some NameKind.cell
    rw [hz.hsc]
    split at h2
    · rename_i e1; exact .inl e1
    · rename_i e1; exact .inr e1
    · cases h2
  exact ps_set hz.nd (by rw [hz.hN]; exact of_decide_eq_true h.1) hl he (swaps_ok hv.1 hv.2) (.inl (hz.fnAll _))
theorem pe_v (hz : Hz X S k C D) {i : Nat} {x : Str} {p : Pos} (h : (decide (S.N[i]? = some x) && visB S.sc x && nmB x) = true) : PE X (.Name x p) (tVar i) := by
  simp only [Bool.and_eq_true] at h
  exact pe_var (by rw [hz.hN]; exact of_decide_eq_true h.1.1) (hz.vis h.1.2) (nm1 h.2) (nm2 h.2)
noncomputable def vB (S : Sg) (i : Nat) (x : Str) : Bool := decide (S.N[i]? = some x) && visB S.sc x && nmB x
noncomputable def lB (S : Sg) (i : Nat) (x : Str) : Bool := decide (S.N[i]? = some x) && locB S.sc x
noncomputable def allB (S : Sg) : Bool := vB S 3 "opened" && vB S 6 "tree" && vB S 2 "is_plain" && lB S 3 "opened" && lB S 4 "place" && lB S 5 "end" && lB S 6 "tree" && glB S.sc "tuple" && fnB S "asked"
noncomputable def prm (C : Orc) (D : OrcX) (c1 inc fe nv pe c2 c3 : PX) (cR : Str) : Mp := ⟨ev C c1, ev C inc, ev C fe, ev C nv, evX C D nv, ev C pe, ev C c2, C "asked", D "asked", ev C c3, cR⟩
theorem tree_pss (hz : Hz X S k C D) {c1 inc fe nv pe c2 c3 c4 : PX} {cR : Str} {e0 eT e1 ei1 efe env epe e2 ei2 e3 em ei3 e4 : Expr} {rs1 rs2 : Stmt} {x1 x2 : Rho → Option (Str × Rho)}
    {p1 p2 p3 p4 p5 p6 p7 p8 p9 p10 p11 p12 p13 p14 p15 p16 p17 p18 p19 p20 p21 p22 p23 p24 p25 p26 p27 p28 p29 p30 p31 p32 p33 p34 p35 p36 p37 p38 p39 p40 p41 p42 p43 p44 p45 p46 p47 p48 p49 p50 p51 p52 p53 p54 : Pos}
    (hS : allB S = true)
    (g0 : Good X e0 (ev C (.k (.int 0)))) (gT : Good X eT (ev C (.k (.bool true)))) (g1 : Good X e1 (ev C c1)) (gi1 : Good X ei1 (ev C inc)) (gfe : Good X efe (ev C fe)) (gnv : Good X env (ev C nv)) (xnv : X1 X env (evX C D nv)) (gpe : Good X epe (ev C pe))
    (g2 : Good X e2 (ev C c2)) (gi2 : Good X ei2 (ev C inc)) (g3 : Good X e3 (ev C c3)) (hr1 : XS1 X rs1 x1) (hx1 : ∀ r, ∃ r', x1 r = some (cR, r')) (gm : Good X em (ev C (.neg (.k (.int 1))))) (gi3 : Good X ei3 (ev C inc)) (g4 : Good X e4 (ev C c4)) (hr2 : XS1 X rs2 x2) (hx2 : ∀ r, ∃ r', x2 r = some (cR, r'))
    (v0 : (okV e0 && okV ei1 && okV efe && okV env && okV epe && okV ei2 && okV ei3 && okHead em && (p7.endLine == p9.line) && (p26.endLine == p27.line) && (p45.endLine == p47.line)) = true) (H₀ : Hp) :
    PSs X [.Assign [.Name "opened" p1] (.List [] p2) p3,
      .Assign [.Name "place" p4] e0 p5,
      .While eT [
        .While e1 [
          .Expr (.Call (.Attribute (.Name "opened" p6) "append" p7) [.List [] p8] [] p9) p10,
          .Assign [.Name "place" p11] ei1 p12] [] p13,
        .Assign [.Name "end" p14] efe p15,
        .Assign [.Name "tree" p16] env p17,
        .Assign [.Name "place" p18] epe p19,
        .While (.BoolOp .And [.Name "opened" p20, e2] p21) [
          .Assign [.Name "tree" p22] (.Call (.Name "asked" p23) [.Call (.Name "tuple" p24) [.BinOp (.Call (.Attribute (.Name "opened" p25) "pop" p26) [] [] p27) .Add (.List [.Name "tree" p28] p29) p30] [] p31, .Name "is_plain" p32] [] p33) p34,
          .Assign [.Name "place" p35] ei2 p36] [] p37,
        .If (.UnaryOp .Not (.Name "opened" p38) p39) [.Break p40] [] p41,
        .If e3 [rs1] [] p42,
        .Expr (.Call (.Attribute (.Subscript (.Name "opened" p43) em p44) "append" p45) [.Name "tree" p46] [] p47) p48,
        .Assign [.Name "place" p49] ei3 p50] [] p51,
      .If e4 [rs2] [] p52,
      .Return (some (.Name "tree" p53)) p54] (tAll X H₀ (prm C D c1 inc fe nv pe c2 c3 cR) (ev C (.k (.int 0))) (ev C (.k (.bool true))) (ev C (.neg (.k (.int 1)))) (ev C c4)) := by
  simp only [allB, Bool.and_eq_true] at hS
  simp only [Bool.and_eq_true] at v0
  obtain ⟨⟨⟨⟨⟨⟨⟨⟨w3, w6⟩, w2⟩, l3⟩, l4⟩, l5⟩, l6⟩, gt⟩, fa⟩ := hS
  obtain ⟨⟨⟨⟨⟨⟨⟨⟨⟨⟨v0, v1⟩, v2⟩, v3⟩, v4⟩, v5⟩, v6⟩, v7⟩, n1⟩, n2⟩, n3⟩ := v0
  have nm : ∀ {x : Str} {p : Pos} {l : Nat}, swapsWith (.Name x p) none l X.env = pure false := fun {x p l} => rfl
  have popE : PE X (.BinOp (.Call (.Attribute (.Name "opened" p25) "pop" p26) [] [] p27) .Add (.List [.Name "tree" p28] p29) p30) (tOp rCat (tBM0 X.K "list" rPop (tVar 3)) (tLst (tCons (tVar 6) tNil))) :=
    pe_op op_cat (pe_bm0 F.plainAttrs_list F.slot_list_pop F.type_list_pop mt_pop (pe_v hz w3) rfl n2) (pe_lst (pa_cons (pe_v hz w6) pa_nil))
  have topA : PA X [.Call (.Name "tuple" p24) [.BinOp (.Call (.Attribute (.Name "opened" p25) "pop" p26) [] [] p27) .Add (.List [.Name "tree" p28] p29) p30] [] p31, .Name "is_plain" p32] (tPopT X) :=
    pa_cons (pe_callTy c_tuple (hz.gl gt) (hz.blt _ (by simp [bltNames])) (by decide +kernel) (pa_cons popE pa_nil)) (pa_cons (pe_v hz w2) pa_nil)
  have top : L2.PS X (.Assign [.Name "tree" p22] (.Call (.Name "asked" p23) [.Call (.Name "tuple" p24) [.BinOp (.Call (.Attribute (.Name "opened" p25) "pop" p26) [] [] p27) .Add (.List [.Name "tree" p28] p29) p30] [] p31, .Name "is_plain" p32] [] p33) p34) (tAsg (tCX X H₀ (C "asked") (D "asked") (tPopT X)) (gName 6)) :=
    ps_v hz l6 (pe_callX hz fa topA fun e' he => by
      simp only [List.mem_cons, List.not_mem_nil, or_false] at he
      rcases he with rfl | rfl <;> rfl) rfl
  have opn : ∀ p, L2.PT X (.Name "opened" p) (tOpen X.K) := fun p => pt_truth (pe_v hz w3) fun _ => rfl
  refine pss_cons (ps_v hz l3 (pe_lst pa_nil) rfl) (pss_cons (ps_v hz l4 g0.1 v0) (pss_cons (ps_while hz.own gT.2.1 ?_) (pss_cons (ps_if g4.2.1 (pss_one (ps_raiseX hr2 hx2)) pss_nil) (pss_one (ps_ret (pe_v hz w6))))))
  refine pss_cons (ps_while hz.own g1.2.1 (pss_cons (ps_expr (pe_bm F.plainAttrs_list F.slot_list_append F.type_list_append mt_append (pe_v hz w3) (pa_cons (pe_lst pa_nil) pa_nil) rfl rfl n1) rfl) (pss_one (ps_v hz l4 gi1.1 v1)))) ?_
  refine pss_cons (ps_v hz l5 gfe.1 v2) (pss_cons (ps_v hz l6 (pe_ex gnv.1 xnv) v3) (pss_cons (ps_v hz l4 gpe.1 v4) ?_))
  refine pss_cons (ps_while hz.own (PW.pt (pw_and (opn p20) (w_and1 g2.2.1))) (pss_cons top (pss_one (ps_v hz l4 gi2.1 v5)))) ?_
  refine pss_cons (ps_if (pt_not (opn p38)) (pss_one ps_break) pss_nil) ?_
  refine pss_cons (ps_if g3.2.1 (pss_one (ps_raiseX hr1 hx1)) pss_nil) ?_
  refine pss_cons (ps_expr (pe_bm F.plainAttrs_list F.slot_list_append F.type_list_append mt_append (pe_ix ix_list (pe_v hz w3) gm.1 (plainIx_ok v7)) (pa_cons (pe_v hz w6) pa_nil) rfl rfl n3) rfl) (pss_one (ps_v hz l4 gi3.1 v6))
/-- the reader's promise -/
noncomputable def trF (k0 c1 inc fe nv pe c2 c3 c4 : PX) (cR : Str) (f n : Nat) (C : Orc) (D : OrcX) (r : Rho) : Option Fl := match mAll (prm C D c1 inc fe nv pe c2 c3 cR) (ev C k0) (ev C c4) f n r with
  | some (.inr d) => some (.rt d)
  | _ => none
noncomputable def trX (k0 c1 inc fe nv pe c2 c3 c4 : PX) (cR : Str) (f n : Nat) (C : Orc) (D : OrcX) (r : Rho) : Option (Str × Rho) := match mAll (prm C D c1 inc fe nv pe c2 c3 cR) (ev C k0) (ev C c4) f n r with
  | some (.inl c) => some (c, [])
  | _ => none
variable {c1 inc fe nv pe c2 c3 c4 : PX} {cR : Str} {f n : Nat} {B : List Stmt}
theorem tree_gs (h : ∀ H₀, PSs X B (tAll X H₀ (prm C D c1 inc fe nv pe c2 c3 cR) (ev C (.k (.int 0))) (ev C (.k (.bool true))) (ev C (.neg (.k (.int 1)))) (ev C c4))) :
    GS X C D B [.hand (trF (.k (.int 0)) c1 inc fe nv pe c2 c3 c4 cR f n) (trX (.k (.int 0)) c1 inc fe nv pe c2 c3 c4 cR f n)] := by
  intro pins s σ H E I ⟨r, fl, env, e, q⟩
  refine h H pins s σ H E I ?_
  have e' : (match trF (.k (.int 0)) c1 inc fe nv pe c2 c3 c4 cR f n C D r with | some (.nx r') => some (Fl.nx r') | o => o) = some fl := e
  unfold trF at e'
  cases e1 : mAll (prm C D c1 inc fe nv pe c2 c3 cR) (ev C (.k (.int 0))) (ev C c4) f n r with
  | none => rw [e1] at e'; cases e'
  | some o =>
    rw [e1] at e'
    cases o with
    | inl c => cases e'
    | inr d =>
      injection e' with e'
      subst e'
      exact run_all (fun _ => rfl) (fun _ => rfl) env e1 q
theorem tree_gw (h : ∀ H₀, PSs X B (tAll X H₀ (prm C D c1 inc fe nv pe c2 c3 cR) (ev C (.k (.int 0))) (ev C (.k (.bool true))) (ev C (.neg (.k (.int 1)))) (ev C c4))) :
    GW X C D B [.hand (trF (.k (.int 0)) c1 inc fe nv pe c2 c3 c4 cR f n) (trX (.k (.int 0)) c1 inc fe nv pe c2 c3 c4 cR f n)] := by
  intro s σ H r c r' I env e q
  have e' : seqX (trX (.k (.int 0)) c1 inc fe nv pe c2 c3 c4 cR f n C D) (trF (.k (.int 0)) c1 inc fe nv pe c2 c3 c4 cR f n C D) (fun _ => none) r = some (c, r') := e
  unfold seqX trX trF at e'
  cases e1 : mAll (prm C D c1 inc fe nv pe c2 c3 cR) (ev C (.k (.int 0))) (ev C c4) f n r with
  | none => rw [e1] at e'; cases e'
  | some o =>
    rw [e1] at e'
    cases o with
    | inl c' =>
      injection e' with e'
      injection e' with e1' e2'
      subst e1'
      refine wpAny_mono (h H [] s σ H { nx := fun _ _ => False, rt := fun _ _ => False } I (run_all (fun _ => rfl) (fun _ => rfl) env e1 q)) (fun fl s' z => ?_) fun _ _ z => z
      cases fl with
      | next => obtain ⟨_, _, _, z⟩ := z; exact z
      | brk => obtain ⟨_, _, _, z⟩ := z; exact z
      | cont => obtain ⟨_, _, _, z⟩ := z; exact z
      | ret u => obtain ⟨_, _, _, _, _, z⟩ := z; exact z
    | inr d => cases e'
theorem g_callv (hz : Hz X S k C D) {x : Str} {p2 pos : Pos} {e : Expr} {es : List Expr} {pf p : PX} {ps : List PX} (hf : Good X (.Name x p2) (ev C pf)) (g : AG X C (e :: es) (p :: ps)) : Good X (.Call (.Name x p2) (e :: es) [] pos) (ev C (.callv pf (p :: ps))) :=
  good_val (e_callv hz.toHx hz.tot hf.1 g.1 g.2 rfl) (fun _ => rfl) (fun _ _ _ z => nomatch z)
end
end PL

set_option Elab.async false
set_option linter.all false
set_option maxRecDepth 100000
namespace PL
open PySem PySem.Spec PyProof.Rows L2
/-! ### texts as lists of signs -/
noncomputable def tx (l : List Nat) : Str := ⟨l.toArray⟩
theorem tx_len (l : List Nat) : (tx l).length = l.length := by simp [tx, Str.length]
theorem tx_cps (l : List Nat) : (tx l).cps.toList = l := by simp [tx]
theorem tx_app (a b : List Nat) : tx a ++ tx b = tx (a ++ b) := by
  show (⟨a.toArray ++ b.toArray⟩ : Str) = ⟨(a ++ b).toArray⟩
  rw [List.append_toArray]
theorem tx_inj {a b : List Nat} (h : tx a = tx b) : a = b := by
  have := congrArg (fun s => s.cps.toList) h
  simpa only [tx_cps] using this
theorem str_tx (s : Str) : s = tx s.cps.toList := by
  cases s; simp [tx]
theorem pick_range (l : List Nat) : ∀ (k a : Nat), a + k ≤ l.length → ((List.range k).map (a + ·)).filterMap (fun i => l.toArray[i]?) = (l.drop a).take k := by
  intro k
  induction k with
  | zero => intro a _; simp
  | succ k ih =>
    intro a h
    rw [List.range_succ, List.map_append, List.filterMap_append, ih a (by omega)]
    have h1 : a + k < l.length := by omega
    rw [List.take_add_one]
    congr 1
    simp only [List.map_cons, List.map_nil, List.getElem?_toArray, List.getElem?_drop]
    rw [List.filterMap_cons]
    rw [List.getElem?_eq_getElem h1]
    rfl
theorem slice_tx (l : List Nat) (lo hi : Option Int) (a b : Nat) (h : Builtin.Str.strSliceIndices lo hi 1 l.length = sliceRange a b 1) (hb : b ≤ l.length) : Txt.slice (tx l) lo hi = tx ((l.drop a).take (b - a)) := by
  unfold Txt.slice
  rw [tx_len, h, sliceRange_one]
  by_cases hc : b ≤ a
  · have e : b - a = 0 := by omega
    rw [e]
    simp only [List.range_zero, List.map_nil, List.length_nil, List.take_zero]
    split
    · rename_i h1
      have h2 : 0 = l.length := by simpa using h1
      rw [List.length_eq_zero_iff.mp h2.symm]
    · rfl
  · split
    · rename_i h1
      have h2 : b - a = l.length := by simpa using h1
      have h3 : a = 0 := by omega
      have h4 : b = l.length := by omega
      subst h3 h4
      simp
    · show (⟨(List.filterMap _ _).toArray⟩ : Str) = _
      have := pick_range l (b - a) a (by omega)
      show (⟨(List.filterMap (fun i => l.toArray[i]?) _).toArray⟩ : Str) = _
      rw [this]
      rfl
theorem cut_tx (l : List Nat) (i j : Nat) : Txt.slice (tx l) (some (i : Int)) (some (j : Int)) = tx ((l.drop i).take (j - i)) := by
  have e : Builtin.Str.strSliceIndices (some (i : Int)) (some (j : Int)) 1 l.length = sliceRange ((min i l.length : Nat) : Int) ((min j l.length : Nat) : Int) 1 := by
    have h1 : ¬ ((i : Int) < 0) := by omega
    have h2 : ¬ ((j : Int) < 0) := by omega
    have h0 : (1 : Int) > 0 := by decide
    simp only [Builtin.Str.strSliceIndices, h0, h1, h2, if_false, if_true]
    congr 1 <;> omega
  rw [slice_tx l _ _ _ _ e (Nat.min_le_right _ _)]
  congr 1
  by_cases h : i ≤ l.length
  · rw [Nat.min_eq_left h]
    by_cases h2 : j ≤ l.length
    · rw [Nat.min_eq_left h2]
    · rw [Nat.min_eq_right (by omega)]
      rw [List.take_of_length_le (by rw [List.length_drop]; exact Nat.le_refl _), List.take_of_length_le (by rw [List.length_drop]; omega)]
  · rw [Nat.min_eq_right (a := i) (by omega), List.drop_length, List.drop_eq_nil_of_le (by omega)]
    simp
theorem cut_to (l : List Nat) (j : Nat) : Txt.slice (tx l) none (some (j : Int)) = tx (l.take j) := by
  have e : Builtin.Str.strSliceIndices none (some (j : Int)) 1 l.length = sliceRange ((0 : Nat) : Int) ((min j l.length : Nat) : Int) 1 := by
    have h2 : ¬ ((j : Int) < 0) := by omega
    have h0 : (1 : Int) > 0 := by decide
    simp only [Builtin.Str.strSliceIndices, h0, h2, if_false, if_true]
    congr 1; omega
  rw [slice_tx l _ _ _ _ e (Nat.min_le_right _ _)]
  congr 1
  rw [List.drop_zero, Nat.sub_zero]
  by_cases h2 : j ≤ l.length
  · rw [Nat.min_eq_left h2]
  · rw [Nat.min_eq_right (by omega), List.take_length, List.take_of_length_le (by omega)]
theorem cut_from (l : List Nat) (i : Nat) : Txt.slice (tx l) (some (i : Int)) none = tx (l.drop i) := by
  have e : Builtin.Str.strSliceIndices (some (i : Int)) none 1 l.length = sliceRange ((min i l.length : Nat) : Int) ((l.length : Nat) : Int) 1 := by
    have h2 : ¬ ((i : Int) < 0) := by omega
    have h0 : (1 : Int) > 0 := by decide
    simp only [Builtin.Str.strSliceIndices, h0, h2, if_false, if_true]
    congr 1; omega
  rw [slice_tx l _ _ _ _ e (Nat.le_refl _)]
  congr 1
  by_cases h : i ≤ l.length
  · rw [Nat.min_eq_left h, List.take_of_length_le (by rw [List.length_drop]; exact Nat.le_refl _)]
  · rw [Nat.min_eq_right (by omega), List.drop_length, List.drop_eq_nil_of_le (by omega)]
    simp
/-! ### figures -/
noncomputable def isDg (c : Nat) : Bool := decide (48 ≤ c ∧ c ≤ 57)
noncomputable def dgt (u : List Nat) : List Nat := u.takeWhile isDg
noncomputable def rst (u : List Nat) : List Nat := u.dropWhile isDg
theorem dgt_rst (u : List Nat) : dgt u ++ rst u = u := List.takeWhile_append_dropWhile
theorem dgt_all (u : List Nat) : ∀ c ∈ dgt u, isDg c = true := by
  unfold dgt
  induction u with
  | nil => intro c h; cases h
  | cons a u ih =>
    intro c h
    rw [List.takeWhile_cons] at h
    split at h
    · rename_i ha
      rcases List.mem_cons.mp h with rfl | h
      · exact ha
      · exact ih c h
    · cases h
/-- it does not begin with a figure -/
noncomputable def ndg : List Nat → Bool
  | [] => true
  | c :: _ => !isDg c
theorem dgt_of {ds r : List Nat} (h : ∀ c ∈ ds, isDg c = true) (hr : ndg r = true) : dgt (ds ++ r) = ds ∧ rst (ds ++ r) = r := by
  unfold dgt rst
  induction ds with
  | nil =>
    cases r with
    | nil => exact ⟨rfl, rfl⟩
    | cons c r =>
      have hc : isDg c = false := by simpa [ndg] using hr
      simp [List.takeWhile_cons, List.dropWhile_cons, hc]
  | cons a ds ih =>
    have ha := h a (by simp)
    have := ih fun c hc => h c (by simp [hc])
    simp [List.takeWhile_cons, List.dropWhile_cons, ha, this]
noncomputable def dg (m : Nat) : List Nat := (Nat.toDigits 10 m).map Char.toNat
noncomputable def val (ds : List Nat) : Nat := PySem.NumText.digitsVal ds
theorem dg_val (m : Nat) : val (dg m) = m := PySem.W.KIN.val_back m
theorem dg_all (m : Nat) : ∀ c ∈ dg m, isDg c = true := by
  intro c hc
  obtain ⟨ch, hch, e⟩ := List.mem_map.mp hc
  have r := digit_range (Nat.isDigit_of_mem_toDigits (by decide) (by decide) hch)
  rw [← e]
  exact decide_eq_true r
theorem str_dg (m : Nat) : Str.ofString (toString (m : Int)) = tx (dg m) := by
  rw [str_tx (Str.ofString (toString (m : Int))), PySem.W.KIN.signs_num]
  rfl
theorem dg_small {d : Nat} (h : d < 10) : dg d = [48 + d] := by
  have : ∀ d < 10, dg d = [48 + d] := by decide
  exact this d h
theorem dg_snoc {q d : Nat} (hq : 0 < q) (hd : d < 10) : dg (q * 10 + d) = dg q ++ [48 + d] := by
  rw [← dg_small hd]
  unfold dg
  rw [← List.map_append, Nat.toDigits_append_toDigits (by decide) hq hd, Nat.mul_comm]
theorem val_snoc (ds : List Nat) (c : Nat) : val (ds ++ [c]) = val ds * 10 + (c - 48) := by
  unfold val PySem.NumText.digitsVal
  rw [List.foldl_append]
  rfl
/-- a number as it is written: something, and no nought ahead -/
noncomputable def can (ds : List Nat) : Bool := match ds with
  | [] => false
  | c :: r => !(c == 48) || r.isEmpty
theorem dg_ne (m : Nat) : dg m ≠ [] := by
  intro e
  have h := toDigits_len_ge 10 m
  unfold dg at e
  rw [List.map_eq_nil_iff.mp e] at h
  exact absurd h (by decide)
theorem can_snoc {ds : List Nat} {c : Nat} (h : can (ds ++ [c]) = true) (hn : ds ≠ []) : can ds = true ∧ ds.head? ≠ some 48 := by
  cases ds with
  | nil => exact absurd rfl hn
  | cons a ds =>
    simp only [can, List.cons_append, Bool.or_eq_true, Bool.not_eq_true', beq_eq_false_iff_ne] at h ⊢
    rcases h with h | h
    · exact ⟨.inl h, by simpa using h⟩
    · simp at h
theorem rev_ind {P : List Nat → Prop} (h0 : P []) (h1 : ∀ ds c, P ds → P (ds ++ [c])) : ∀ ds, P ds := by
  intro ds
  have : ∀ r : List Nat, P r.reverse := by
    intro r
    induction r with
    | nil => exact h0
    | cons c r ih => rw [List.reverse_cons]; exact h1 _ _ ih
  have h := this ds.reverse
  rwa [List.reverse_reverse] at h
theorem dg_of0 : ∀ ds : List Nat, (∀ c ∈ ds, isDg c = true) → can ds = true → dg (val ds) = ds ∧ (ds.head? ≠ some 48 → 0 < val ds) := by
  intro ds
  refine rev_ind (P := fun ds => (∀ c ∈ ds, isDg c = true) → can ds = true → dg (val ds) = ds ∧ (ds.head? ≠ some 48 → 0 < val ds)) ?_ ?_ ds
  · intro _ h; cases h
  · intro ds c ih ha hc
    have hcd : isDg c = true := ha c (by simp)
    have hcd' : 48 ≤ c ∧ c ≤ 57 := of_decide_eq_true hcd
    by_cases hn : ds = []
    · subst hn
      have e : val ([] ++ [c]) = c - 48 := by rw [val_snoc]; show 0 * 10 + _ = _; omega
      rw [e, dg_small (by omega)]
      refine ⟨by simp; omega, fun h => ?_⟩
      have : c ≠ 48 := by simpa using h
      omega
    · obtain ⟨h1, h2⟩ := can_snoc hc hn
      obtain ⟨e, hp⟩ := ih (fun x hx => ha x (by simp [hx])) h1
      have hq := hp h2
      rw [val_snoc, dg_snoc hq (by omega), e]
      exact ⟨by congr 2; omega, fun _ => by omega⟩
theorem dg_of {ds : List Nat} (h : ∀ c ∈ ds, isDg c = true) (hc : can ds = true) : dg (val ds) = ds := (dg_of0 ds h hc).1
theorem dg_can (m : Nat) : can (dg m) = true := by
  induction m using Nat.strongRecOn with
  | _ m ih =>
    by_cases h : m < 10
    · rw [dg_small h]; simp [can]
    · have e : m = m / 10 * 10 + m % 10 := by omega
      rw [e, dg_snoc (by omega) (by omega)]
      have h1 := ih (m / 10) (by omega)
      have hne := dg_ne (m / 10)
      cases hd : dg (m / 10) with
      | nil => exact absurd hd hne
      | cons a r =>
        rw [hd] at h1
        have ha : a ≠ 48 := by
          intro z
          subst z
          simp only [can] at h1
          have hr : r = [] := by simpa using h1
          subst hr
          have := dg_val (m / 10)
          rw [hd] at this
          have z : val [48] = 0 := rfl
          omega
        simp [can, ha]
theorem val_lt (ds : List Nat) (h : ∀ c ∈ ds, isDg c = true) : val ds < 10 ^ ds.length := by
  refine rev_ind (P := fun ds => (∀ c ∈ ds, isDg c = true) → val ds < 10 ^ ds.length) ?_ ?_ ds h
  · intro _; decide
  · intro ds c ih ha
    have h1 := ih fun x hx => ha x (by simp [hx])
    have hcd : 48 ≤ c ∧ c ≤ 57 := of_decide_eq_true (ha c (by simp))
    rw [val_snoc, List.length_append, List.length_singleton, Nat.pow_succ]
    omega
theorem dg_lt (m : Nat) : m < 10 ^ (dg m).length := by
  have := val_lt (dg m) (dg_all m)
  rwa [dg_val] at this
theorem dg_len_le {m k : Nat} (hk : 0 < k) (h : m < 10 ^ k) : (dg m).length ≤ k := by
  have h1 : ((m : Nat) : Int) < 10 ^ k := by exact_mod_cast h
  have := toString_length_le (v := (m : Int)) (by omega) hk h1
  rwa [str_dg, tx_len] at this
theorem int_tx {ds : List Nat} (h : ∀ c ∈ ds, isDg c = true) (hn : ds ≠ []) (hl : ds.length ≤ 640) : PySem.intText? (tx ds) = some ((val ds : Nat) : Int) := by
  have := PySem.intText_digits (x := tx ds) (by rw [tx_cps]; intro c hc; exact of_decide_eq_true (h c hc)) (by rw [tx_cps]; exact hn) (by rw [tx_len]; omega)
  rwa [tx_cps] at this
theorem val_app (a b : List Nat) : val (a ++ b) = val a * 10 ^ b.length + val b := by
  refine rev_ind (P := fun b => val (a ++ b) = val a * 10 ^ b.length + val b) ?_ ?_ b
  · rw [List.append_nil]; show _ = val a * 1 + 0; omega
  · intro b c ih
    rw [← List.append_assoc, val_snoc, ih, val_snoc, List.length_append, List.length_singleton, Nat.pow_succ, Nat.add_mul, Nat.mul_assoc]
    omega
theorem log_lt {m k : Nat} (h : m < 10 ^ k) (hk : k ≤ 480) : m.log2 < 1920 := by
  by_cases h0 : m = 0
  · subst h0; decide
  · rw [Nat.log2_lt h0]
    refine Nat.lt_of_lt_of_le h ?_
    refine Nat.le_trans (Nat.pow_le_pow_right (by decide) hk) ?_
    have : (10 : Nat) ^ 480 ≤ 16 ^ 480 := Nat.pow_le_pow_left (by decide) 480
    have e : (16 : Nat) ^ 480 = 2 ^ 1920 := by rw [show (16 : Nat) = 2 ^ 4 from rfl, ← Nat.pow_mul]
    omega
end PL

set_option Elab.async false
set_option linter.all false
set_option maxRecDepth 100000
namespace PL
open PySem PySem.Spec PyProof.Rows L2
/-! ### trees as they are read -/
inductive UT where
  | n (k : Nat)
  | p (a b : UT)
  | t (m : Nat) (a b : UT)
noncomputable def UT.toD : UT → PyData
  | .n k => .int (k : Int)
  | .p a b => .tuple [UT.toD a, UT.toD b]
  | .t m a b => .tuple [.int (m : Int), UT.toD a, UT.toD b]
noncomputable def UT.w : UT → List Nat
  | .n k => dg k
  | .p a b => 40 :: (UT.w a ++ 44 :: (UT.w b ++ [41]))
  | .t m a b => 40 :: (dg m ++ 44 :: (UT.w a ++ 44 :: (UT.w b ++ [41])))
noncomputable def UT.front : UT → Nat
  | .n k => k
  | .p _ _ => 0
  | .t m _ _ => m
noncomputable def sameN : UT → UT → Bool
  | .n i, .n j => decide (i = j)
  | _, _ => false
/-- a plain tree of its kind: K false: parts, K true: counts -/
noncomputable def UT.ok (K : Bool) : UT → Bool
  | .n k => K || decide (k ≤ 1)
  | .p a b => !K && (UT.ok K a && UT.ok K b && !sameN a b)
  | .t _ a b => K && (UT.ok K a && UT.ok K b && (!sameN a b && decide (min a.front b.front = 0)))
noncomputable def mk (K : Bool) : List UT → Option UT
  | [a, b] => if (!K && !sameN a b) = true then some (.p a b) else none
  | [.n m, a, b] => if (K && (!sameN a b && decide (min a.front b.front = 0))) = true then some (.t m a b) else none
  | _ => none
noncomputable def hd (c : Nat) (u : List Nat) : Bool := u.head? == some c
noncomputable def pop (K : Bool) : List (List UT) → UT → List Nat → Option (List (List UT) × UT × List Nat)
  | [], t, u => some ([], t, u)
  | ds :: st, t, u => if hd 41 u = true then (match mk K (ds ++ [t]) with
    | some t' => pop K st t' u.tail
    | none => none) else some (ds :: st, t, u)
noncomputable def dn (K : Bool) (g : List (List UT) → List Nat → Option (Option (UT × List Nat))) (st : List (List UT)) (t : UT) (u : List Nat) : Option (Option (UT × List Nat)) := match pop K st t u with
  | none => some none
  | some ([], t', u') => some (some (t', u'))
  | some (ds :: st', t', u') => if hd 44 u' = true then g ((ds ++ [t']) :: st') u'.tail else some none
noncomputable def opn : List Nat → Nat
  | [] => 0
  | c :: u => if c = 40 then opn u + 1 else 0
noncomputable def numOk (K : Bool) (v : List Nat) : Bool := can (dgt v) && UT.ok K (.n (val (dgt v)))
noncomputable def goN (K : Bool) : Nat → List (List UT) → List Nat → Option (Option (UT × List Nat))
  | 0, _, _ => none
  | n + 1, st, u => if numOk K (u.drop (opn u)) = true then dn K (goN K n) (List.replicate (opn u) [] ++ st) (.n (val (dgt (u.drop (opn u))))) (rst (u.drop (opn u))) else some none
theorem opn_le : ∀ u, opn u ≤ u.length
  | [] => Nat.le_refl _
  | c :: u => by
    have := opn_le u
    unfold opn
    split <;> simp <;> omega
theorem hd_tail {c : Nat} {u : List Nat} (h : hd c u = true) : u = c :: u.tail := by
  cases u with
  | nil => cases h
  | cons a u =>
    have : a = c := by simpa [hd] using h
    rw [this]; rfl
theorem pop_len {K : Bool} : ∀ (st : List (List UT)) (t : UT) (u : List Nat) {st' t' u'}, pop K st t u = some (st', t', u') → u'.length ≤ u.length
  | [], t, u, st', t', u', h => by
    unfold pop at h; injection h with h; injection h with h1 h; injection h with h2 h3; subst h3; exact Nat.le_refl _
  | ds :: st, t, u, st', t', u', h => by
    unfold pop at h
    split at h
    · split at h
      · have := pop_len st _ _ h
        rw [List.length_tail] at this
        omega
      · cases h
    · injection h with h; injection h with h1 h; injection h with h2 h3; subst h3; exact Nat.le_refl _
theorem num_len {K : Bool} {v : List Nat} (h : numOk K v = true) : (rst v).length < v.length := by
  unfold numOk at h
  rw [Bool.and_eq_true] at h
  have e := congrArg List.length (dgt_rst v)
  rw [List.length_append] at e
  have : dgt v ≠ [] := by
    intro z; rw [z] at h; exact absurd h.1 (by decide)
  have := List.length_pos_iff.mpr this
  omega
/-- enough steps: there is an answer -/
theorem goN_some (K : Bool) : ∀ (n : Nat) (st : List (List UT)) (u : List Nat), u.length < n → ∃ o, goN K n st u = some o := by
  intro n
  induction n with
  | zero => intro st u h; omega
  | succ n ih =>
    intro st u h
    unfold goN
    split
    · rename_i hn
      unfold dn
      have h1 := num_len hn
      rw [List.length_drop] at h1
      split
      · exact ⟨_, rfl⟩
      · exact ⟨_, rfl⟩
      · rename_i ds st' t' u' hp
        have h2 := pop_len _ _ _ hp
        split
        · refine ih _ _ ?_
          rw [List.length_tail]
          omega
        · exact ⟨_, rfl⟩
    · exact ⟨_, rfl⟩
theorem dg_head (m : Nat) : ∃ c r, dg m = c :: r ∧ isDg c = true := by
  cases h : dg m with
  | nil => exact absurd h (dg_ne m)
  | cons c r => exact ⟨c, r, rfl, dg_all m c (by rw [h]; simp)⟩
theorem opn_dg (m : Nat) (r : List Nat) : opn (dg m ++ r) = 0 := by
  obtain ⟨c, r', e, h⟩ := dg_head m
  rw [e]
  have h' : 48 ≤ c ∧ c ≤ 57 := of_decide_eq_true h
  show (if c = 40 then _ else 0) = 0
  rw [if_neg (by omega)]
theorem go_num {K : Bool} {m n : Nat} {st : List (List UT)} {r : List Nat} (hm : UT.ok K (.n m) = true) (hr : ndg r = true) : goN K (n + 1) st (dg m ++ r) = dn K (goN K n) st (.n m) r := by
  have e : goN K (n + 1) st (dg m ++ r) = if numOk K ((dg m ++ r).drop (opn (dg m ++ r))) = true then dn K (goN K n) (List.replicate (opn (dg m ++ r)) [] ++ st) (.n (val (dgt ((dg m ++ r).drop (opn (dg m ++ r)))))) (rst ((dg m ++ r).drop (opn (dg m ++ r)))) else some none := rfl
  obtain ⟨h1, h2⟩ := dgt_of (dg_all m) hr
  rw [e, opn_dg, List.drop_zero, h1, h2, dg_val]
  unfold numOk
  rw [h1, dg_can, dg_val, hm]
  rfl
theorem rep_app {α : Type} (k : Nat) (x : α) (st : List α) : List.replicate (k + 1) x ++ st = List.replicate k x ++ x :: st := by
  induction k with
  | zero => rfl
  | succ k ih =>
    show x :: (List.replicate (k + 1) x ++ st) = x :: (List.replicate k x ++ x :: st)
    rw [ih]
theorem go_open {K : Bool} {n : Nat} {st : List (List UT)} {u : List Nat} : goN K n st (40 :: u) = goN K n ([] :: st) u := by
  cases n with
  | zero => rfl
  | succ n =>
    have e : opn (40 :: u) = opn u + 1 := rfl
    unfold goN
    rw [e, List.drop_succ_cons, rep_app]
theorem dn_comma {K : Bool} {g : List (List UT) → List Nat → Option (Option (UT × List Nat))} {ds : List UT} {st : List (List UT)} {t : UT} {u : List Nat} : dn K g (ds :: st) t (44 :: u) = g ((ds ++ [t]) :: st) u := by
  unfold dn
  have : pop K (ds :: st) t (44 :: u) = some (ds :: st, t, 44 :: u) := rfl
  rw [this]
  rfl
theorem dn_close {K : Bool} {g : List (List UT) → List Nat → Option (Option (UT × List Nat))} {ds : List UT} {st : List (List UT)} {t t' : UT} {u : List Nat} (h : mk K (ds ++ [t]) = some t') : dn K g (ds :: st) t (41 :: u) = dn K g st t' u := by
  unfold dn
  have : pop K (ds :: st) t (41 :: u) = pop K st t' u := by
    show (if hd 41 (41 :: u) = true then (match mk K (ds ++ [t]) with
      | some t' => pop K st t' u
      | none => none) else some (ds :: st, t, 41 :: u)) = _
    rw [if_pos (show hd 41 (41 :: u) = true from rfl), h]
  rw [this]
/-- what is written is read -/
theorem go_all {K : Bool} : ∀ (a : UT) (st : List (List UT)) (r : List Nat) (o : Option (UT × List Nat)), UT.ok K a = true → ndg r = true → (∀ n, r.length < n → dn K (goN K n) st a r = some o) → ∀ n, (a.w ++ r).length < n → goN K n st (a.w ++ r) = some o := by
  intro a
  induction a with
  | n k =>
    intro st r o hk hr hd n hn
    cases n with
    | zero => omega
    | succ n =>
      show goN K (n + 1) st (dg k ++ r) = some o
      rw [go_num hk hr]
      refine hd n ?_
      have : (UT.n k).w = dg k := rfl
      rw [this, List.length_append] at hn
      have := List.length_pos_iff.mpr (dg_ne k)
      omega
  | p a b iha ihb =>
    intro st r o hk hr hd n hn
    simp only [UT.ok, Bool.and_eq_true] at hk
    have e : (UT.p a b).w ++ r = 40 :: (a.w ++ 44 :: (b.w ++ 41 :: r)) := by simp [UT.w]
    rw [e] at hn ⊢
    rw [go_open]
    refine iha _ _ _ hk.2.1.1 rfl (fun m hm => ?_) n (by simp only [List.length_cons] at hn; omega)
    rw [dn_comma]
    refine ihb _ _ _ hk.2.1.2 rfl (fun m' hm' => ?_) m (by simp only [List.length_cons] at hm; omega)
    rw [dn_close (t' := .p a b) (by
      show (if (!K && !sameN a b) = true then some (UT.p a b) else none) = _
      rw [if_pos (by rw [Bool.and_eq_true]; exact ⟨hk.1, hk.2.2⟩)])]
    exact hd m' (by simp only [List.length_cons] at hm'; omega)
  | t k a b iha ihb =>
    intro st r o hk hr hd n hn
    simp only [UT.ok, Bool.and_eq_true] at hk
    have e : (UT.t k a b).w ++ r = 40 :: (dg k ++ 44 :: (a.w ++ 44 :: (b.w ++ 41 :: r))) := by simp [UT.w]
    rw [e] at hn ⊢
    rw [go_open]
    cases n with
    | zero => omega
    | succ n =>
      rw [go_num (by simp only [UT.ok, hk.1, Bool.true_or]) rfl, dn_comma]
      refine iha _ _ _ hk.2.1.1 rfl (fun m hm => ?_) n (by simp only [List.length_cons, List.length_append] at hn ⊢; omega)
      rw [dn_comma]
      refine ihb _ _ _ hk.2.1.2 rfl (fun m' hm' => ?_) m (by simp only [List.length_cons] at hm; omega)
      rw [dn_close (t' := .t k a b) (by
        show (if (K && (!sameN a b && decide (min a.front b.front = 0))) = true then some (UT.t k a b) else none) = _
        rw [if_pos (by simp only [Bool.and_eq_true]; exact ⟨hk.1, hk.2.2⟩)])]
      exact hd m' (by simp only [List.length_cons] at hm'; omega)
theorem read_all {K : Bool} (a : UT) (h : UT.ok K a = true) (n : Nat) (hn : a.w.length < n) : goN K n [] a.w = some (some (a, [])) := by
  have := go_all (K := K) a [] [] (some (a, [])) h rfl (fun _ _ => rfl) n (by rw [List.append_nil]; exact hn)
  rwa [List.append_nil] at this
/-! ### only what is written is read -/
noncomputable def pre : List (List UT) → List Nat
  | [] => []
  | ds :: st => pre st ++ 40 :: ds.flatMap fun t => t.w ++ [44]
noncomputable def okT (K : Bool) (st : List (List UT)) : Prop := ∀ ds ∈ st, ∀ t ∈ ds, UT.ok K t = true
theorem mk_ok {K : Bool} {ds : List UT} {t' : UT} (h : mk K ds = some t') (ho : ∀ t ∈ ds, UT.ok K t = true) : UT.ok K t' = true := by
  unfold mk at h
  split at h
  · rename_i a b
    split at h
    · rename_i hc
      injection h with h; subst h
      rw [Bool.and_eq_true] at hc
      simp only [UT.ok, Bool.and_eq_true]
      exact ⟨hc.1, ⟨ho a (by simp), ho b (by simp)⟩, hc.2⟩
    · cases h
  · rename_i m a b
    split at h
    · rename_i hc
      injection h with h; subst h
      simp only [Bool.and_eq_true] at hc
      simp only [UT.ok, Bool.and_eq_true]
      exact ⟨hc.1, ⟨ho a (by simp), ho b (by simp)⟩, hc.2⟩
    · cases h
  · cases h
theorem mk_w {K : Bool} {ds : List UT} {t t' : UT} (h : mk K (ds ++ [t]) = some t') : t'.w = 40 :: (ds.flatMap (fun t => t.w ++ [44])) ++ t.w ++ [41] := by
  generalize hl : ds ++ [t] = l at h
  unfold mk at h
  split at h
  · rename_i a b
    split at h
    · injection h with h; subst h
      cases ds with
      | nil => simp at hl
      | cons x ds =>
        cases ds with
        | nil =>
          simp only [List.cons_append, List.nil_append, List.cons.injEq, and_true] at hl
          obtain ⟨rfl, rfl⟩ := hl
          simp [UT.w]
        | cons y ds => cases ds <;> simp at hl
    · cases h
  · rename_i m a b
    split at h
    · injection h with h; subst h
      cases ds with
      | nil => simp at hl
      | cons x ds =>
        cases ds with
        | nil => simp at hl
        | cons y ds =>
          cases ds with
          | nil =>
            simp only [List.cons_append, List.nil_append, List.cons.injEq, and_true] at hl
            obtain ⟨rfl, rfl, rfl⟩ := hl
            simp [UT.w]
          | cons z ds => cases ds <;> simp at hl
    · cases h
  · cases h
theorem pop_ok {K : Bool} : ∀ (st : List (List UT)) (t : UT) (u : List Nat) {st' t' u'}, pop K st t u = some (st', t', u') → okT K st → UT.ok K t = true → okT K st' ∧ UT.ok K t' = true ∧ pre st ++ t.w ++ u = pre st' ++ t'.w ++ u'
  | [], t, u, st', t', u', h, hs, ht => by
    unfold pop at h; injection h with h; injection h with h1 h; injection h with h2 h3; subst h1 h2 h3; exact ⟨hs, ht, rfl⟩
  | ds :: st, t, u, st', t', u', h, hs, ht => by
    unfold pop at h
    split at h
    · rename_i hu
      split at h
      · rename_i t1 hm
        have hds : ∀ x ∈ ds ++ [t], UT.ok K x = true := by
          intro x hx
          rcases List.mem_append.mp hx with hx | hx
          · exact hs ds (by simp) x hx
          · rw [List.mem_singleton.mp hx]; exact ht
        obtain ⟨a, b, c⟩ := pop_ok st _ _ h (fun d hd => hs d (by simp [hd])) (mk_ok hm hds)
        refine ⟨a, b, ?_⟩
        rw [← c, mk_w hm, hd_tail hu]
        simp [pre]
      · cases h
    · injection h with h; injection h with h1 h; injection h with h2 h3; subst h1 h2 h3; exact ⟨hs, ht, rfl⟩
theorem opn_pre : ∀ (u : List Nat) (st : List (List UT)), pre (List.replicate (opn u) [] ++ st) ++ u.drop (opn u) = pre st ++ u
  | [], st => rfl
  | c :: u, st => by
    unfold opn
    split
    · rename_i h
      subst h
      rw [rep_app, List.drop_succ_cons, opn_pre u ([] :: st)]
      simp [pre]
    · rfl
theorem okT_rep {K : Bool} {k : Nat} {st : List (List UT)} (h : okT K st) : okT K (List.replicate k [] ++ st) := by
  intro ds hds
  rcases List.mem_append.mp hds with hd | hd
  · rw [List.eq_of_mem_replicate hd]; intro t ht; cases ht
  · exact h ds hd
theorem go_only {K : Bool} : ∀ (n : Nat) (st : List (List UT)) (u : List Nat) {t : UT} {u' : List Nat}, okT K st → goN K n st u = some (some (t, u')) → UT.ok K t = true ∧ pre st ++ u = t.w ++ u' := by
  intro n
  induction n with
  | zero => intro st u t u' _ h; cases h
  | succ n ih =>
    intro st u t u' hs h
    unfold goN at h
    split at h
    · rename_i hn
      unfold numOk at hn
      rw [Bool.and_eq_true] at hn
      have hw : (UT.n (val (dgt (u.drop (opn u))))).w = dgt (u.drop (opn u)) := dg_of (dgt_all _) hn.1
      unfold dn at h
      split at h
      · cases h
      · rename_i t1 u1 hp
        injection h with h; injection h with h; injection h with h1 h2
        subst h1 h2
        obtain ⟨a, b, c⟩ := pop_ok _ _ _ hp (okT_rep hs) hn.2
        refine ⟨b, ?_⟩
        rw [hw, List.append_assoc, dgt_rst, opn_pre] at c
        rw [c]; rfl
      · rename_i ds st1 t1 u1 hp
        obtain ⟨a, b, c⟩ := pop_ok _ _ _ hp (okT_rep hs) hn.2
        rw [hw, List.append_assoc, dgt_rst, opn_pre] at c
        split at h
        · rename_i hu
          obtain ⟨d, e⟩ := ih _ _ (fun x hx => by
            rcases List.mem_cons.mp hx with rfl | hx
            · intro y hy
              rcases List.mem_append.mp hy with hy | hy
              · exact a ds (by simp) y hy
              · rw [List.mem_singleton.mp hy]; exact b
            · exact a x (by simp [hx])) h
          refine ⟨d, ?_⟩
          rw [← e, c, hd_tail hu]
          simp [pre]
        · cases h
    · cases h
end PL

set_option Elab.async false
set_option linter.all false
set_option maxRecDepth 100000
namespace PL
open PySem PySem.Spec PyProof.Rows L2
/-! ### the machine does what is said of it -/
noncomputable def RR (T : Str) (fe fp : PyData) (p : Nat) (e t : Option PyData) : Rho := [some (.str T), some fe, some fp, none, some (.int (p : Int)), e, t]
theorem UT.noL : ∀ t : UT, PL.noL t.toD = true
  | .n k => rfl
  | .p a b => by
    show noLs [UT.toD a, UT.toD b] = true
    simp [noLs, UT.noL a, UT.noL b]
  | .t m a b => by
    show noLs [.int (m : Int), UT.toD a, UT.toD b] = true
    simp [noLs, PL.noL, UT.noL a, UT.noL b]
structure MOk (M : Mp) (K : Bool) (cs : List Nat) (fe fp : PyData) : Prop where
  c1 : ∀ p e t, M.c1 (RR (tx cs) fe fp p e t) = some (.bool (hd 40 (cs.drop p)))
  inc : ∀ p e t, M.inc (RR (tx cs) fe fp p e t) = some (.int ((p + 1 : Nat) : Int))
  f1 : ∀ p e t, M.fe (RR (tx cs) fe fp p e t) = some (.int ((p + (dgt (cs.drop p)).length : Nat) : Int))
  nx0 : ∀ p t, numOk K (cs.drop p) = false → M.nx (RR (tx cs) fe fp p (some (.int ((p + (dgt (cs.drop p)).length : Nat) : Int))) t) = some "NoText"
  nx1 : ∀ p t, numOk K (cs.drop p) = true → M.nx (RR (tx cs) fe fp p (some (.int ((p + (dgt (cs.drop p)).length : Nat) : Int))) t) = none ∧ M.nv (RR (tx cs) fe fp p (some (.int ((p + (dgt (cs.drop p)).length : Nat) : Int))) t) = some (.int ((val (dgt (cs.drop p)) : Nat) : Int))
  pe : ∀ p (q : Nat) t, M.pe (RR (tx cs) fe fp p (some (.int (q : Int))) t) = some (.int (q : Int))
  c2 : ∀ p e t, M.c2 (RR (tx cs) fe fp p e t) = some (.bool (hd 41 (cs.drop p)))
  a0 : ∀ l : List UT, (∀ t ∈ l, UT.ok K t = true) → mk K l = none → M.AX [.tuple (l.map UT.toD), fp] = some "NoText"
  a1 : ∀ (l : List UT) t', (∀ t ∈ l, UT.ok K t = true) → mk K l = some t' → M.AX [.tuple (l.map UT.toD), fp] = none ∧ M.A [.tuple (l.map UT.toD), fp] = some t'.toD
  c3 : ∀ p e t, M.c3 (RR (tx cs) fe fp p e t) = some (.bool (!hd 44 (cs.drop p)))
  cR : M.cR = "NoText"
noncomputable def stD (st : List (List UT)) : List (List PyData) := st.map fun ds => ds.map UT.toD
noncomputable def sz : List (List UT) → Nat
  | [] => 0
  | ds :: st => ds.length + 1 + sz st
theorem sz_len : ∀ st : List (List UT), st.length ≤ sz st
  | [] => Nat.le_refl _
  | ds :: st => by
    have := sz_len st
    simp only [sz, List.length_cons]; omega
theorem drop1 {cs : List Nat} {p c : Nat} (h : hd c (cs.drop p) = true) : p < cs.length ∧ cs.drop (p + 1) = (cs.drop p).tail := by
  constructor
  · have h1 := hd_tail h
    have h2 := congrArg List.length h1
    rw [List.length_drop, List.length_cons] at h2
    omega
  · rw [List.tail_drop]
theorem opn_hd : ∀ u : List Nat, hd 40 u = false → opn u = 0
  | [], _ => rfl
  | c :: u, h => by
    have : ¬ c = 40 := by simpa [hd] using h
    show (if c = 40 then _ else 0) = 0
    rw [if_neg this]
theorem opn_hd1 {u : List Nat} (h : hd 40 u = true) : opn u = opn u.tail + 1 := by
  have e := hd_tail h
  rw [e]
  rfl
section
variable {M : Mp} {K : Bool} {cs : List Nat} {fe fp : PyData}
theorem run1 (o : MOk M K cs fe fp) : ∀ (f : Nat) (st : List (List UT)) (p : Nat) (e t : Option PyData), p ≤ cs.length → sz st + (cs.drop p).length ≤ 1000 → opn (cs.drop p) < f →
    mW1 M f (stD st) (RR (tx cs) fe fp p e t) = some (stD (List.replicate (opn (cs.drop p)) [] ++ st), RR (tx cs) fe fp (p + opn (cs.drop p)) e t) := by
  intro f
  induction f with
  | zero => intro st p e t _ _ h; omega
  | succ f ih =>
    intro st p e t hp hs hf
    unfold mW1
    rw [o.c1]
    cases h : hd 40 (cs.drop p) with
    | false =>
      rw [opn_hd _ h]
      rfl
    | true =>
      obtain ⟨h1, h2⟩ := drop1 h
      simp only [o.inc]
      have hl := sz_len st
      rw [List.length_drop] at hs
      have ok : (noL (.int ((p + 1 : Nat) : Int)) && okLen ((stD st).length + 1)) = true := by
        rw [Bool.and_eq_true]
        exact ⟨rfl, okLen_of (by unfold stD; rw [List.length_map]; omega)⟩
      rw [if_pos ok]
      have e1 := opn_hd1 h
      rw [← h2] at e1
      have := ih ([] :: st) (p + 1) e t (by omega) (by rw [List.length_drop]; simp only [sz, List.length_nil]; omega) (by omega)
      rw [e1, rep_app, ← Nat.add_assoc, show p + opn (cs.drop (p + 1)) + 1 = p + 1 + opn (cs.drop (p + 1)) by omega]
      exact this
theorem run2 (o : MOk M K cs fe fp) : ∀ (st : List (List UT)) (f : Nat) (t : UT) (p : Nat) (e : Option PyData), p ≤ cs.length → sz st + (cs.drop p).length ≤ 1000 → st.length < f → okT K st → UT.ok K t = true →
    match pop K st t (cs.drop p) with
    | none => mW2 M f (stD st) (RR (tx cs) fe fp p e (some t.toD)) = some (.inl "NoText")
    | some (st', t', u') => ∃ p', mW2 M f (stD st) (RR (tx cs) fe fp p e (some t.toD)) = some (.inr (stD st', RR (tx cs) fe fp p' e (some t'.toD))) ∧ cs.drop p' = u' ∧ p' ≤ cs.length ∧ sz st' + u'.length ≤ 1000 := by
  intro st
  induction st with
  | nil =>
    intro f t p e hp hs hf ho ht
    cases f with
    | zero => cases hf
    | succ f => exact ⟨p, rfl, rfl, hp, hs⟩
  | cons ds st ih =>
    intro f t p e hp hs hf ho ht
    cases f with
    | zero => cases hf
    | succ f =>
      have e0 : pop K (ds :: st) t (cs.drop p) = if hd 41 (cs.drop p) = true then (match mk K (ds ++ [t]) with
        | some t' => pop K st t' (cs.drop p).tail
        | none => none) else some (ds :: st, t, cs.drop p) := rfl
      have e1 : mW2 M (f + 1) (stD (ds :: st)) (RR (tx cs) fe fp p e (some t.toD)) = (match M.c2 (RR (tx cs) fe fp p e (some t.toD)) with
        | some (.bool true) => match mTop M (ds.map UT.toD) (RR (tx cs) fe fp p e (some t.toD)) with
          | some (.inl c) => some (.inl c)
          | some (.inr r') => mW2 M f (stD st) r'
          | none => none
        | some (.bool false) => some (.inr (stD (ds :: st), RR (tx cs) fe fp p e (some t.toD)))
        | _ => none) := rfl
      rw [e0, e1, o.c2]
      cases h : hd 41 (cs.drop p) with
      | false =>
        simp only [Bool.false_eq_true, if_false]
        exact ⟨p, rfl, rfl, hp, hs⟩
      | true =>
        obtain ⟨h1, h2⟩ := drop1 h
        simp only [if_true]
        have hds : ∀ x ∈ ds ++ [t], UT.ok K x = true := by
          intro x hx
          rcases List.mem_append.mp hx with hx | hx
          · exact ho ds (by simp) x hx
          · rw [List.mem_singleton.mp hx]; exact ht
        have hb : okLen ((ds.map UT.toD).length + 1) = true := okLen_of (by rw [List.length_map]; simp only [sz] at hs; omega)
        have em : ds.map UT.toD ++ [t.toD] = (ds ++ [t]).map UT.toD := by simp
        have e2 : mTop M (ds.map UT.toD) (RR (tx cs) fe fp p e (some t.toD)) = (if okLen ((ds.map UT.toD).length + 1) = true then match M.AX [.tuple (ds.map UT.toD ++ [t.toD]), fp] with
          | some c => some (.inl c)
          | none => match M.A [.tuple (ds.map UT.toD ++ [t.toD]), fp] with
            | some d => match M.inc (RR (tx cs) fe fp p e (some d)) with
              | some d2 => if (noL d && noL d2) = true then some (.inr (((RR (tx cs) fe fp p e (some t.toD)).set 6 (some d)).set 4 (some d2))) else none
              | none => none
            | none => none
          else none) := rfl
        rw [e2, if_pos hb, em]
        cases hm : mk K (ds ++ [t]) with
        | none =>
          rw [o.a0 _ hds hm]
          rfl
        | some t' =>
          obtain ⟨a, b⟩ := o.a1 _ _ hds hm
          rw [a, b]
          simp only [o.inc]
          rw [if_pos (show (noL t'.toD && noL (.int ((p + 1 : Nat) : Int))) = true by rw [UT.noL]; rfl)]
          rw [← h2]
          have e3 : ((RR (tx cs) fe fp p e (some t.toD)).set 6 (some t'.toD)).set 4 (some (.int ((p + 1 : Nat) : Int))) = RR (tx cs) fe fp (p + 1) e (some t'.toD) := rfl
          rw [e3]
          exact ih f t' (p + 1) e (by omega) (by rw [List.length_drop] at hs ⊢; simp only [sz] at hs; omega) (by simp only [List.length_cons] at hf; omega) (fun d hd => ho d (by simp [hd])) (mk_ok hm hds)
theorem sz_rep : ∀ (k : Nat) (st : List (List UT)), sz (List.replicate k [] ++ st) = k + sz st
  | 0, st => by simp
  | k + 1, st => by
    show ([] : List UT).length + 1 + sz (List.replicate k [] ++ st) = _
    rw [sz_rep k st]
    simp only [List.length_nil]; omega
theorem dgt_len (v : List Nat) : v.drop (dgt v).length = rst v := by
  have e := dgt_rst v
  have : (dgt v ++ rst v).drop (dgt v).length = rst v := List.drop_left
  rwa [e] at this
theorem run3 (o : MOk M K cs fe fp) (f : Nat) (hf : 1000 < f) : ∀ (n : Nat) (st : List (List UT)) (p : Nat) (e t : Option PyData), p ≤ cs.length → sz st + (cs.drop p).length ≤ 1000 → okT K st →
    match goN K n st (cs.drop p) with
    | none => True
    | some none => mW M f n (stD st) (RR (tx cs) fe fp p e t) = some (.inl "NoText")
    | some (some (t', u')) => ∃ p' e', mW M f n (stD st) (RR (tx cs) fe fp p e t) = some (.inr (RR (tx cs) fe fp p' e' (some t'.toD))) ∧ cs.drop p' = u' ∧ p' ≤ cs.length := by
  intro n
  induction n with
  | zero => intro st p e t _ _ _; exact trivial
  | succ n ih =>
    intro st p e t hp hs ho
    have ol := opn_le (cs.drop p)
    have r1 := run1 o f st p e t hp hs (by omega)
    have hlen : p + opn (cs.drop p) ≤ cs.length := by rw [List.length_drop] at ol; omega
    have ed : (cs.drop p).drop (opn (cs.drop p)) = cs.drop (p + opn (cs.drop p)) := by rw [List.drop_drop]
    unfold goN mW
    rw [r1, ed]
    generalize hk : opn (cs.drop p) = k at *
    generalize hq : p + k = q at *
    have hst := okT_rep (k := k) ho
    have hsz := sz_rep k st
    have hb : sz (List.replicate k [] ++ st) + (cs.drop q).length ≤ 1000 := by
      rw [hsz]
      rw [List.length_drop] at hs ol ⊢
      omega
    generalize List.replicate k [] ++ st = st1 at *
    simp only
    have en : mNum M (RR (tx cs) fe fp q e t) = (match M.fe (RR (tx cs) fe fp q e t) with
      | some d5 => match M.nx (RR (tx cs) fe fp q (some d5) t) with
        | some c => if noL d5 = true then some (.inl c) else none
        | none => match M.nv (RR (tx cs) fe fp q (some d5) t) with
          | some d6 => match M.pe (RR (tx cs) fe fp q (some d5) (some d6)) with
            | some d4 => if (noL d5 && noL d6 && noL d4) = true then some (.inr ((((RR (tx cs) fe fp q e t).set 5 (some d5)).set 6 (some d6)).set 4 (some d4))) else none
            | none => none
          | none => none
      | none => none) := rfl
    rw [en, o.f1]
    cases hn : numOk K (cs.drop q) with
    | false =>
      simp only [o.nx0 q t hn, Bool.false_eq_true, if_false]
      rfl
    | true =>
      obtain ⟨n1, n2⟩ := o.nx1 q t hn
      have hq2 : q + (dgt (cs.drop q)).length ≤ cs.length := by
        have := congrArg List.length (dgt_rst (cs.drop q))
        rw [List.length_append, List.length_drop] at this
        omega
      have er : cs.drop (q + (dgt (cs.drop q)).length) = rst (cs.drop q) := by rw [← List.drop_drop, dgt_len]
      simp only [n1, n2, o.pe, if_true]
      rw [if_pos (show (noL (.int ((q + (dgt (cs.drop q)).length : Nat) : Int)) && noL (.int ((val (dgt (cs.drop q)) : Nat) : Int)) && noL (.int ((q + (dgt (cs.drop q)).length : Nat) : Int))) = true from rfl)]
      have e3 : (((RR (tx cs) fe fp q e t).set 5 (some (.int ((q + (dgt (cs.drop q)).length : Nat) : Int)))).set 6 (some (.int ((val (dgt (cs.drop q)) : Nat) : Int)))).set 4 (some (.int ((q + (dgt (cs.drop q)).length : Nat) : Int))) = RR (tx cs) fe fp (q + (dgt (cs.drop q)).length) (some (.int ((q + (dgt (cs.drop q)).length : Nat) : Int))) (some (UT.n (val (dgt (cs.drop q)))).toD) := rfl
      rw [e3, ← er]
      unfold numOk at hn
      rw [Bool.and_eq_true] at hn
      have hn2 := hn.2
      generalize val (dgt (cs.drop q)) = m at *
      generalize q + (dgt (cs.drop q)).length = q2 at *
      have hb2 : sz st1 + (cs.drop q2).length ≤ 1000 := by
        have h1 : (cs.drop q2).length ≤ (cs.drop q).length := by
          rw [er]
          have := congrArg List.length (dgt_rst (cs.drop q))
          rw [List.length_append] at this
          omega
        omega
      have r2 := run2 o st1 f (.n m) q2 (some (.int (q2 : Int))) hq2 hb2 (by have := sz_len st1; omega) hst hn2
      unfold dn
      cases hp2 : pop K st1 (.n m) (cs.drop q2) with
      | none =>
        rw [hp2] at r2
        simp only at r2 ⊢
        rw [r2]
      | some x =>
        obtain ⟨st', t', u'⟩ := x
        rw [hp2] at r2
        simp only at r2
        obtain ⟨p', m2, d', l', s'⟩ := r2
        obtain ⟨k1, k2, _⟩ := pop_ok _ _ _ hp2 hst hn2
        cases st' with
        | nil =>
          simp only
          rw [m2]
          exact ⟨p', _, rfl, d', l'⟩
        | cons ds st' =>
          simp only
          rw [m2]
          have e4 : stD (ds :: st') = ds.map UT.toD :: stD st' := rfl
          simp only [e4]
          have ep : mPut M (ds.map UT.toD) (stD st') (RR (tx cs) fe fp p' (some (.int (q2 : Int))) (some t'.toD)) = (match M.c3 (RR (tx cs) fe fp p' (some (.int (q2 : Int))) (some t'.toD)) with
            | some (.bool true) => some (.inl M.cR)
            | some (.bool false) => match M.inc (RR (tx cs) fe fp p' (some (.int (q2 : Int))) (some t'.toD)) with
                | some d => if (noL d && okLen ((ds.map UT.toD).length + 1)) = true then some (.inr ((ds.map UT.toD ++ [t'.toD]) :: stD st', (RR (tx cs) fe fp p' (some (.int (q2 : Int))) (some t'.toD)).set 4 (some d))) else none
                | none => none
            | _ => none) := rfl
          rw [ep, o.c3, d']
          cases h44 : hd 44 u' with
          | false =>
            simp only [Bool.not_false, Bool.false_eq_true, if_false]
            rw [o.cR]
          | true =>
            rw [← d'] at h44
            obtain ⟨h1, h2⟩ := drop1 h44
            simp only [Bool.not_true, if_true, o.inc]
            simp only [sz] at s'
            rw [if_pos (show (noL (.int ((p' + 1 : Nat) : Int)) && okLen ((ds.map UT.toD).length + 1)) = true by
              rw [Bool.and_eq_true]
              exact ⟨rfl, okLen_of (by rw [List.length_map]; omega)⟩)]
            have e5 : (ds.map UT.toD ++ [t'.toD]) :: stD st' = stD ((ds ++ [t']) :: st') := by simp [stD]
            have e6 : (RR (tx cs) fe fp p' (some (.int (q2 : Int))) (some t'.toD)).set 4 (some (.int ((p' + 1 : Nat) : Int))) = RR (tx cs) fe fp (p' + 1) (some (.int (q2 : Int))) (some t'.toD) := rfl
            simp only [e5, e6]
            rw [← d', ← h2]
            refine ih _ (p' + 1) _ _ (by omega) ?_ ?_
            · rw [← d', List.length_drop] at s'
              rw [List.length_drop]
              simp only [sz, List.length_append, List.length_singleton]
              omega
            · intro x hx
              rcases List.mem_cons.mp hx with rfl | hx
              · intro y hy
                rcases List.mem_append.mp hy with hy | hy
                · exact k1 ds (by simp) y hy
                · rw [List.mem_singleton.mp hy]; exact k2
              · exact k1 x (by simp [hx])
end
end PL

set_option Elab.async false
set_option linter.all false
set_option maxRecDepth 100000
namespace PL
open PySem PySem.Spec PyProof.Rows L2
noncomputable def UT.dep : UT → Nat
  | .n _ => 0
  | .p a b => max a.dep b.dep + 1
  | .t _ a b => max a.dep b.dep + 1
noncomputable def UT.knd (K : Bool) : UT → Bool
  | .n _ => true
  | .p a b => !K && (a.knd K && b.knd K)
  | .t _ a b => K && (a.knd K && b.knd K)
end PL

namespace My
open PySem PySem.Spec PyProof.Rows L2 PL
noncomputable def d_is_part : Df := ⟨"is_part", ["thing"], ["thing"], [.ife (.call "is_whole" [(.v 0)]) [.ret (.or (.cmp .Eq (.v 0) (.k (.int 0))) (.cmp .Eq (.v 0) (.k (.int 1))))] [], .ife (.or (.not (.call "is_tuple_of" [(.v 0), (.k (.int 2))])) (.call "are_same_number" [(.ix (.v 0) (.k (.int 0))), (.ix (.v 0) (.k (.int 1)))])) [.ret (.k (.bool false))] [], .ret (.and (.call "is_part" [(.ix (.v 0) (.k (.int 0)))]) (.call "is_part" [(.ix (.v 0) (.k (.int 1)))]))]⟩
noncomputable def d_is_count : Df := ⟨"is_count", ["thing"], ["thing"], [.ife (.call "is_whole" [(.v 0)]) [.ret (.cmp .GtE (.v 0) (.k (.int 0)))] [], .ife (.or (.not (.call "is_tuple_of" [(.v 0), (.k (.int 3))])) (.or (.not (.call "is_whole" [(.ix (.v 0) (.k (.int 0)))])) (.cmp .Lt (.ix (.v 0) (.k (.int 0))) (.k (.int 0))))) [.ret (.k (.bool false))] [], .ret (.and (.call "is_count" [(.ix (.v 0) (.k (.int 1)))]) (.and (.call "is_count" [(.ix (.v 0) (.k (.int 2)))]) (.call "are_plain_halves" [(.ix (.v 0) (.k (.int 1))), (.ix (.v 0) (.k (.int 2)))])))]⟩
noncomputable def d_front : Df := ⟨"front", ["count"], ["count"], [.ret (.ife (.call "is_whole" [(.v 0)]) (.v 0) (.ix (.v 0) (.k (.int 0))))]⟩
noncomputable def d_are_plain_halves : Df := ⟨"are_plain_halves", ["one", "other"], ["one", "other"], [.ret (.and (.not (.call "are_same_number" [(.v 0), (.v 1)])) (.cmp .Eq (.blt .min [(.call "front" [(.v 0)]), (.call "front" [(.v 1)])]) (.k (.int 0))))]⟩
noncomputable def d_are_same_number : Df := ⟨"are_same_number", ["one", "other"], ["one", "other"], [.ret (.and (.call "is_whole" [(.v 0)]) (.cmp .Eq (.v 0) (.v 1)))]⟩
noncomputable def d_is_whole : Df := ⟨"is_whole", ["thing"], ["thing"], [.ret (.and (.isin .int (.v 0)) (.not (.isin .bool (.v 0))))]⟩
noncomputable def d_is_tuple_of : Df := ⟨"is_tuple_of", ["thing", "size"], ["thing", "size"], [.ret (.and (.isin .tuple (.v 0)) (.cmp .Eq (.blt .len [(.v 0)]) (.v 1)))]⟩
noncomputable def d_read : Df := ⟨"read", ["text"], ["text", "texts", "part", "count"], [.asg (.one 1) (.ptn (.v 0) (.k (.str " "))), .asg (.one 2) (.call "tree_of" [(.ix (.v 1) (.k (.int 0))), (.g "is_part"), (.g "is_plain_pair")]), .asg (.one 3) (.call "tree_of" [(.ix (.v 1) (.k (.int 2))), (.g "is_count"), (.g "is_plain_triple")]), .ret (.tup [(.v 2), (.v 3)])]⟩
noncomputable def d_tree_of : Df := ⟨"tree_of", ["text", "is_end", "is_plain"], ["text", "is_end", "is_plain", "opened", "place", "end", "tree"], [.hand (trF (.k (.int 0)) (.cmp .Eq (.call "sign_at" [(.v 0), (.v 4)]) (.k (.str "("))) (.bin .Add (.v 4) (.k (.int 1))) (.call "figures_end" [(.v 0), (.v 4)]) (.call "asked" [(.call "number_of" [(.sl (.v 0) (.v 4) (.v 5))]), (.v 1)]) (.v 5) (.cmp .Eq (.call "sign_at" [(.v 0), (.v 4)]) (.k (.str ")"))) (.cmp .NotEq (.call "sign_at" [(.v 0), (.v 4)]) (.k (.str ","))) (.cmp .NotEq (.v 4) (.blt .len [(.v 0)])) "NoText" 1000000 1000000) (trX (.k (.int 0)) (.cmp .Eq (.call "sign_at" [(.v 0), (.v 4)]) (.k (.str "("))) (.bin .Add (.v 4) (.k (.int 1))) (.call "figures_end" [(.v 0), (.v 4)]) (.call "asked" [(.call "number_of" [(.sl (.v 0) (.v 4) (.v 5))]), (.v 1)]) (.v 5) (.cmp .Eq (.call "sign_at" [(.v 0), (.v 4)]) (.k (.str ")"))) (.cmp .NotEq (.call "sign_at" [(.v 0), (.v 4)]) (.k (.str ","))) (.cmp .NotEq (.v 4) (.blt .len [(.v 0)])) "NoText" 1000000 1000000)]⟩
noncomputable def d_asked : Df := ⟨"asked", ["tree", "is_right"], ["tree", "is_right"], [.ife (.not (.callv (.v 1) [(.v 0)])) [.raise_ "NoText" [(.k (.str "a tree is none of its kind, or not plain"))]] [], .ret (.v 0)]⟩
noncomputable def d_is_plain_pair : Df := ⟨"is_plain_pair", ["branches"], ["branches"], [.ret (.and (.cmp .Eq (.blt .len [(.v 0)]) (.k (.int 2))) (.not (.call "are_same_number" [(.ix (.v 0) (.k (.int 0))), (.ix (.v 0) (.k (.int 1)))])))]⟩
noncomputable def d_is_plain_triple : Df := ⟨"is_plain_triple", ["branches"], ["branches"], [.ret (.and (.cmp .Eq (.blt .len [(.v 0)]) (.k (.int 3))) (.and (.call "is_whole" [(.ix (.v 0) (.k (.int 0)))]) (.call "are_plain_halves" [(.ix (.v 0) (.k (.int 1))), (.ix (.v 0) (.k (.int 2)))])))]⟩
noncomputable def d_sign_at : Df := ⟨"sign_at", ["text", "place"], ["text", "place"], [.ret (.sl (.v 0) (.v 1) (.bin .Add (.v 1) (.k (.int 1))))]⟩
noncomputable def d_figures_end : Df := ⟨"figures_end", ["text", "start"], ["text", "start", "end"], [.asg (.one 2) (.v 1), .while_ (.and (.cmp .Lt (.v 2) (.blt .len [(.v 0)])) (.ins (.ix (.v 0) (.v 2)) (.glb "0123456789"))) [.asg (.one 2) (.bin .Add (.v 2) (.k (.int 1)))], .ret (.v 2)]⟩
noncomputable def d_number_of : Df := ⟨"number_of", ["figures"], ["figures", "first", "number", "start"], [.ife (.or (.cmp .Eq (.v 0) (.k (.str ""))) (.and (.cmp .Eq (.ix (.v 0) (.k (.int 0))) (.k (.str "0"))) (.cmp .NotEq (.v 0) (.k (.str "0"))))) [.raise_ "NoText" [(.k (.str "a number is missing, or has a nought ahead"))]] [], .asg (.one 1) (.bin .Mod (.blt .len [(.v 0)]) (.k (.int 60))), .asg (.one 2) (.blt .int [(.bin .Add (.k (.str "0")) (.sl (.v 0) (.k .none) (.v 1)))]), .for_ (.one 3) (.rng3 (.v 1) (.blt .len [(.v 0)]) (.k (.int 60))) [.asg (.one 2) (.bin .Add (.bin .Mult (.v 2) (.bin .Pow (.k (.int 10)) (.k (.int 60)))) (.blt .int [(.sl (.v 0) (.v 3) (.bin .Add (.v 3) (.k (.int 60))))]))], .ret (.v 2)]⟩
noncomputable def d__law_cell_at : Df := ⟨"_law_cell_at", ["_law_script", "_law_k"], ["_law_script", "_law_k"], [.ife (.cmp .Lt (.v 1) (.blt .len [(.v 0)])) [.ret (.ix (.v 0) (.v 1))] [], .ret (.k (.int 0))]⟩
noncomputable def d__law_mixed : Df := ⟨"_law_mixed", ["_law_script", "_law_k"], ["_law_script", "_law_k", "_law_drawn_here"], [.asg (.one 2) (.bin .Mod (.bin .Mult (.bin .Add (.bin .Add (.call "_law_cell_at" [(.v 0), (.v 1)]) (.bin .Mult (.k (.int 7919)) (.v 1))) (.k (.int 1))) (.k (.int 48271))) (.k (.int 2147483647))), .ret (.bin .Mod (.bin .Add (.bin .Add (.bin .Mult (.v 2) (.v 2)) (.bin .Mult (.k (.int 7)) (.v 2))) (.v 1)) (.k (.int 2147483629)))]⟩
noncomputable def d__law_drawn : Df := ⟨"_law_drawn", ["_law_number", "_law_k"], ["_law_number", "_law_k", "_law_drawn_here"], [.asg (.one 2) (.bin .Mod (.bin .Mult (.bin .Add (.bin .Add (.v 0) (.bin .Mult (.k (.int 104729)) (.v 1))) (.k (.int 17))) (.k (.int 69621))) (.k (.int 2147483647))), .ret (.bin .Mod (.bin .Add (.bin .Add (.bin .Mult (.v 2) (.v 2)) (.bin .Mult (.k (.int 3)) (.v 2))) (.v 1)) (.k (.int 2147483629)))]⟩
noncomputable def d__law_any_part : Df := ⟨"_law_any_part", ["_law_number", "_law_deep"], ["_law_number", "_law_deep", "_law_one"], [.ife (.or (.cmp .Eq (.v 1) (.k (.int 0))) (.cmp .Lt (.bin .Mod (.v 0) (.k (.int 5))) (.k (.int 2)))) [.ret (.bin .Mod (.bin .FloorDiv (.v 0) (.k (.int 5))) (.k (.int 2)))] [], .asg (.one 2) (.call "_law_any_part" [(.call "_law_drawn" [(.v 0), (.k (.int 1))]), (.bin .Sub (.v 1) (.k (.int 1)))]), .ret (.tup [(.v 2), (.call "_law_any_part" [(.call "_law_drawn" [(.v 0), (.k (.int 2))]), (.bin .Sub (.v 1) (.k (.int 1)))])])]⟩
noncomputable def d__law_any_count : Df := ⟨"_law_any_count", ["_law_number", "_law_deep"], ["_law_number", "_law_deep", "_law_one"], [.ife (.or (.cmp .Eq (.v 1) (.k (.int 0))) (.cmp .Lt (.bin .Mod (.v 0) (.k (.int 5))) (.k (.int 2)))) [.ret (.bin .Mod (.bin .FloorDiv (.v 0) (.k (.int 5))) (.ix (.tup [(.k (.int 4)), (.k (.int 30))]) (.blt .int [(.cmp .Eq (.bin .Mod (.bin .FloorDiv (.v 0) (.k (.int 25))) (.k (.int 9))) (.k (.int 1)))])))] [], .asg (.one 2) (.call "_law_any_count" [(.call "_law_drawn" [(.v 0), (.k (.int 1))]), (.bin .Sub (.v 1) (.k (.int 1)))]), .ret (.tup [(.bin .Mod (.bin .FloorDiv (.v 0) (.k (.int 5))) (.k (.int 3))), (.v 2), (.call "_law_any_count" [(.call "_law_drawn" [(.v 0), (.k (.int 2))]), (.bin .Sub (.v 1) (.k (.int 1)))])])]⟩
noncomputable def d__law_plain_part : Df := ⟨"_law_plain_part", ["_law_tree"], ["_law_tree", "_law_one", "_law_other"], [.ife (.not (.isin .tuple (.v 0))) [.ret (.v 0)] [], .asg (.one 1) (.call "_law_plain_part" [(.ix (.v 0) (.k (.int 0)))]), .asg (.one 2) (.call "_law_plain_part" [(.ix (.v 0) (.k (.int 1)))]), .ife (.and (.cmp .Eq (.v 1) (.v 2)) (.cmp .In (.v 1) (.tup [(.k (.int 0)), (.k (.int 1))]))) [.ret (.v 1)] [], .ret (.tup [(.v 1), (.v 2)])]⟩
noncomputable def d__law_more : Df := ⟨"_law_more", ["_law_count", "_law_by"], ["_law_count", "_law_by"], [.ife (.isin .tuple (.v 0)) [.ret (.tup [(.bin .Add (.ix (.v 0) (.k (.int 0))) (.v 1)), (.ix (.v 0) (.k (.int 1))), (.ix (.v 0) (.k (.int 2)))])] [], .ret (.bin .Add (.v 0) (.v 1))]⟩
noncomputable def d__law_front : Df := ⟨"_law_front", ["_law_count"], ["_law_count"], [.ife (.isin .tuple (.v 0)) [.ret (.ix (.v 0) (.k (.int 0)))] [], .ret (.v 0)]⟩
noncomputable def d__law_plain_count : Df := ⟨"_law_plain_count", ["_law_tree"], ["_law_tree", "_law_one", "_law_other", "_law_least"], [.ife (.not (.isin .tuple (.v 0))) [.ret (.v 0)] [], .asg (.one 1) (.call "_law_plain_count" [(.ix (.v 0) (.k (.int 1)))]), .asg (.one 2) (.call "_law_plain_count" [(.ix (.v 0) (.k (.int 2)))]), .asg (.one 3) (.blt .min [(.call "_law_front" [(.v 1)]), (.call "_law_front" [(.v 2)])]), .ife (.and (.cmp .Eq (.v 1) (.v 3)) (.cmp .Eq (.v 2) (.v 3))) [.ret (.bin .Add (.ix (.v 0) (.k (.int 0))) (.v 3))] [], .ret (.tup [(.bin .Add (.ix (.v 0) (.k (.int 0))) (.v 3)), (.call "_law_more" [(.v 1), (.neg (.v 3))]), (.call "_law_more" [(.v 2), (.neg (.v 3))])])]⟩
noncomputable def d__law_whole : Df := ⟨"_law_whole", ["_law_thing"], ["_law_thing"], [.ret (.and (.isin .int (.v 0)) (.and (.not (.isin .bool (.v 0))) (.cmp .GtE (.v 0) (.k (.int 0)))))]⟩
noncomputable def d__law_is_part : Df := ⟨"_law_is_part", ["_law_thing"], ["_law_thing"], [.ife (.call "_law_whole" [(.v 0)]) [.ret (.cmp .Lt (.v 0) (.k (.int 2)))] [], .ife (.or (.not (.isin .tuple (.v 0))) (.cmp .NotEq (.blt .len [(.v 0)]) (.k (.int 2)))) [.ret (.k (.bool false))] [], .ret (.and (.call "_law_is_part" [(.ix (.v 0) (.k (.int 0)))]) (.and (.call "_law_is_part" [(.ix (.v 0) (.k (.int 1)))]) (.cmp .Eq (.call "_law_plain_part" [(.v 0)]) (.v 0))))]⟩
noncomputable def d__law_is_count : Df := ⟨"_law_is_count", ["_law_thing"], ["_law_thing"], [.ife (.call "_law_whole" [(.v 0)]) [.ret (.k (.bool true))] [], .ife (.or (.not (.isin .tuple (.v 0))) (.or (.cmp .NotEq (.blt .len [(.v 0)]) (.k (.int 3))) (.not (.call "_law_whole" [(.ix (.v 0) (.k (.int 0)))])))) [.ret (.k (.bool false))] [], .ret (.and (.call "_law_is_count" [(.ix (.v 0) (.k (.int 1)))]) (.and (.call "_law_is_count" [(.ix (.v 0) (.k (.int 2)))]) (.cmp .Eq (.call "_law_plain_count" [(.v 0)]) (.v 0))))]⟩
noncomputable def d__law_is_clock : Df := ⟨"_law_is_clock", ["_law_thing"], ["_law_thing"], [.ife (.or (.not (.isin .tuple (.v 0))) (.cmp .NotEq (.blt .len [(.v 0)]) (.k (.int 2)))) [.ret (.k (.bool false))] [], .ret (.and (.call "_law_is_part" [(.ix (.v 0) (.k (.int 0)))]) (.call "_law_is_count" [(.ix (.v 0) (.k (.int 1)))]))]⟩
noncomputable def d__law_clock : Df := ⟨"_law_clock", ["_law_number", "_law_deep"], ["_law_number", "_law_deep", "_law_part"], [.asg (.one 2) (.call "_law_plain_part" [(.call "_law_any_part" [(.call "_law_drawn" [(.v 0), (.k (.int 3))]), (.v 1)])]), .ret (.tup [(.v 2), (.call "_law_plain_count" [(.call "_law_any_count" [(.call "_law_drawn" [(.v 0), (.k (.int 4))]), (.v 1)])])])]⟩
noncomputable def d__law_tree_text : Df := ⟨"_law_tree_text", ["_law_tree"], ["_law_tree", "_law_found_here", "_law_part"], [.ife (.not (.isin .tuple (.v 0))) [.ret (.blt .str [(.v 0)])] [], .asg (.one 1) (.k (.str "")), .for_ (.one 2) (.seq (.v 0)) [.asg (.one 1) (.bin .Add (.bin .Add (.v 1) (.k (.str ","))) (.call "_law_tree_text" [(.v 2)]))], .ret (.bin .Add (.bin .Add (.k (.str "(")) (.sl (.v 1) (.k (.int 1)) (.k .none))) (.k (.str ")")))]⟩
noncomputable def d__law_written : Df := ⟨"_law_written", ["_law_clock_here"], ["_law_clock_here"], [.ret (.bin .Add (.bin .Add (.call "_law_tree_text" [(.ix (.v 0) (.k (.int 0)))]) (.k (.str " "))) (.call "_law_tree_text" [(.ix (.v 0) (.k (.int 1)))]))]⟩
noncomputable def d__law_changed : Df := ⟨"_law_changed", ["_law_text", "_law_number"], ["_law_text", "_law_number", "_law_place", "_law_kind", "_law_sign", "_law_end", "_law_some"], [.asg (.one 2) (.bin .Mod (.bin .FloorDiv (.v 1) (.k (.int 8))) (.bin .Add (.blt .len [(.v 0)]) (.k (.int 1)))), .asg (.one 3) (.bin .Mod (.v 1) (.k (.int 8))), .ife (.cmp .Eq (.v 3) (.k (.int 0))) [.ret (.bin .Add (.sl (.v 0) (.k .none) (.v 2)) (.sl (.v 0) (.bin .Add (.v 2) (.k (.int 1))) (.k .none)))] [], .ife (.cmp .Lt (.v 3) (.k (.int 5))) [.asg (.one 4) (.ix (.k (.str "(),,01 1(0)2-_ \n\t")) (.bin .Mod (.bin .FloorDiv (.v 1) (.k (.int 7))) (.k (.int 17)))), .ret (.bin .Add (.bin .Add (.sl (.v 0) (.k .none) (.v 2)) (.v 4)) (.sl (.v 0) (.bin .Add (.v 2) (.bin .Mod (.v 3) (.k (.int 2)))) (.k .none)))] [], .asg (.one 5) (.bin .Add (.bin .Add (.v 2) (.k (.int 1))) (.bin .Mod (.bin .FloorDiv (.v 1) (.k (.int 800))) (.k (.int 5)))), .ife (.cmp .Eq (.v 3) (.k (.int 5))) [.ret (.bin .Add (.sl (.v 0) (.k .none) (.v 5)) (.sl (.v 0) (.v 2) (.k .none)))] [], .ife (.cmp .Eq (.v 3) (.k (.int 6))) [.ret (.bin .Add (.sl (.v 0) (.k .none) (.v 2)) (.sl (.v 0) (.v 5) (.k .none)))] [], .asg (.one 6) (.lst [(.k (.str "00")), (.k (.str "(0,0)")), (.k (.str "(1,1)")), (.k (.str "10")), (.k (.str "(0,0,0)")), (.k (.str "(1,0,2)")), (.k (.str "(0,1)")), (.k (.str "0 0"))]), .ret (.bin .Add (.bin .Add (.sl (.v 0) (.k .none) (.v 2)) (.ix (.v 6) (.bin .Mod (.bin .FloorDiv (.v 1) (.k (.int 800))) (.k (.int 8))))) (.sl (.v 0) (.bin .Add (.v 2) (.k (.int 1))) (.k .none)))]⟩
noncomputable def d__law_number_at : Df := ⟨"_law_number_at", ["_law_text", "_law_at"], ["_law_text", "_law_at", "_law_end"], [.asg (.one 2) (.v 1), .while_ (.and (.cmp .NotEq (.sl (.v 0) (.v 2) (.bin .Add (.v 2) (.k (.int 1)))) (.k (.str ""))) (.cmp .GtE (.sm .find (.k (.str "0123456789")) [(.ix (.v 0) (.v 2))]) (.k (.int 0)))) [.asg (.one 2) (.bin .Add (.v 2) (.k (.int 1)))], .ret (.v 2)]⟩
noncomputable def d__law_tree_at : Df := ⟨"_law_tree_at", ["_law_text", "_law_at", "_law_many"], ["_law_text", "_law_at", "_law_many", "_law_end", "_law_found_here", "_law_here", "_law_k", "_law_part"], [.ife (.cmp .NotEq (.sl (.v 0) (.v 1) (.bin .Add (.v 1) (.k (.int 1)))) (.k (.str "("))) [.asg (.one 3) (.call "_law_number_at" [(.v 0), (.v 1)]), .ife (.cmp .Eq (.v 3) (.v 1)) [.ret (.tup [(.k .none), (.v 1)])] [], .ret (.tup [(.blt .int [(.sl (.v 0) (.v 1) (.v 3))]), (.v 3)])] [], .asg (.one 4) (.tup []), .asg (.one 5) (.v 1), .for_ (.one 6) (.rng1 (.v 2)) [.asg (.many [7, 3]) (.call "_law_tree_at" [(.v 0), (.bin .Add (.v 5) (.k (.int 1))), (.v 2)]), .ife (.or (.cmp .NotEq (.sl (.v 0) (.v 5) (.bin .Add (.v 5) (.k (.int 1)))) (.ix (.k (.str "(,")) (.blt .int [(.cmp .Gt (.v 6) (.k (.int 0)))]))) (.or (.cmp .Is (.v 7) (.k .none)) (.and (.cmp .Eq (.v 6) (.k (.int 0))) (.and (.cmp .Eq (.v 2) (.k (.int 3))) (.isin .tuple (.v 7)))))) [.ret (.tup [(.k .none), (.v 1)])] [], .asg (.one 4) (.bin .Add (.v 4) (.tup [(.v 7)])), .asg (.one 5) (.v 3)], .ife (.cmp .NotEq (.sl (.v 0) (.v 5) (.bin .Add (.v 5) (.k (.int 1)))) (.k (.str ")"))) [.ret (.tup [(.k .none), (.v 1)])] [], .ret (.tup [(.v 4), (.bin .Add (.v 5) (.k (.int 1)))])]⟩
noncomputable def d__law_due : Df := ⟨"_law_due", ["_law_text"], ["_law_text", "_law_part", "_law_here", "_law_count", "_law_end"], [.asg (.many [1, 2]) (.call "_law_tree_at" [(.v 0), (.k (.int 0)), (.k (.int 2))]), .asg (.many [3, 4]) (.call "_law_tree_at" [(.v 0), (.bin .Add (.v 2) (.k (.int 1))), (.k (.int 3))]), .ife (.or (.cmp .Is (.v 1) (.k .none)) (.or (.cmp .Is (.v 3) (.k .none)) (.or (.not (.call "_law_is_clock" [(.tup [(.v 1), (.v 3)])])) (.cmp .NotEq (.call "_law_written" [(.tup [(.v 1), (.v 3)])]) (.v 0))))) [.ret (.k .none)] [], .ret (.tup [(.v 1), (.v 3)])]⟩
noncomputable def d__law_found : Df := ⟨"_law_found", ["_law_text"], ["_law_text", "_law_found_here", "e", "_law_good"], [.try_ [.asg (.one 1) (.call "read" [(.v 0)])] "NoText" (some 2) [.asg (.one 3) (.and (.isx "ClockError" (.v 2)) (.isx "ValueError" (.v 2))), .ret (.ix (.lst [(.k (.int 0)), (.k .none)]) (.blt .int [(.and (.v 3) (.and (.not (.isx "NoClock" (.v 2))) (.not (.isx "NotApart" (.v 2)))))]))], .ret (.ix (.lst [(.v 1), (.k (.int 0))]) (.blt .int [(.cmp .Is (.v 1) (.k .none))]))]⟩
noncomputable def d_law : Df := ⟨"law", ["_law_script"], ["_law_script", "_law_number", "_law_clock_here", "_law_text", "_law_k", "_law_found_here"], [.asg (.one 1) (.call "_law_mixed" [(.v 0), (.k (.int 1))]), .asg (.one 2) (.call "_law_clock" [(.call "_law_mixed" [(.v 0), (.k (.int 0))]), (.k (.int 4))]), .ife (.cmp .Eq (.bin .Mod (.bin .FloorDiv (.v 1) (.k (.int 3))) (.k (.int 5))) (.k (.int 1))) [.asg (.one 2) (.tup [(.call "_law_any_part" [(.call "_law_mixed" [(.v 0), (.k (.int 2))]), (.k (.int 2))]), (.call "_law_any_count" [(.call "_law_mixed" [(.v 0), (.k (.int 3))]), (.k (.int 2))])])] [], .asg (.one 3) (.call "_law_written" [(.v 2)]), .for_ (.one 4) (.rng1 (.bin .Mult (.bin .Mod (.v 1) (.k (.int 3))) (.bin .Add (.k (.int 1)) (.bin .Mod (.bin .FloorDiv (.v 1) (.k (.int 15))) (.k (.int 2)))))) [.asg (.one 3) (.call "_law_changed" [(.v 3), (.call "_law_drawn" [(.v 1), (.v 4)])])], .asg (.one 5) (.call "_law_found" [(.v 3)]), .ret (.and (.cmp .Eq (.v 5) (.call "_law_due" [(.v 3)])) (.or (.cmp .Is (.v 5) (.k .none)) (.call "_law_is_clock" [(.v 5)])))]⟩
noncomputable def fs : List Str := [("is_part" : Str), ("is_count" : Str), ("front" : Str), ("are_plain_halves" : Str), ("are_same_number" : Str), ("is_whole" : Str), ("is_tuple_of" : Str), ("read" : Str), ("tree_of" : Str), ("asked" : Str), ("is_plain_pair" : Str), ("is_plain_triple" : Str), ("sign_at" : Str), ("figures_end" : Str), ("number_of" : Str), ("_law_cell_at" : Str), ("_law_mixed" : Str), ("_law_drawn" : Str), ("_law_any_part" : Str), ("_law_any_count" : Str), ("_law_plain_part" : Str), ("_law_more" : Str), ("_law_front" : Str), ("_law_plain_count" : Str), ("_law_whole" : Str), ("_law_is_part" : Str), ("_law_is_count" : Str), ("_law_is_clock" : Str), ("_law_clock" : Str), ("_law_tree_text" : Str), ("_law_written" : Str), ("_law_changed" : Str), ("_law_number_at" : Str), ("_law_tree_at" : Str), ("_law_due" : Str), ("_law_found" : Str), ("law" : Str)]
noncomputable def xs : List Str := ["ClockError", "NoClock", "NoText", "NotApart"]
noncomputable def tbl : List (Str × Df) := [(("is_part" : Str), d_is_part), (("is_count" : Str), d_is_count), (("front" : Str), d_front), (("are_plain_halves" : Str), d_are_plain_halves), (("are_same_number" : Str), d_are_same_number), (("is_whole" : Str), d_is_whole), (("is_tuple_of" : Str), d_is_tuple_of), (("read" : Str), d_read), (("tree_of" : Str), d_tree_of), (("asked" : Str), d_asked), (("is_plain_pair" : Str), d_is_plain_pair), (("is_plain_triple" : Str), d_is_plain_triple), (("sign_at" : Str), d_sign_at), (("figures_end" : Str), d_figures_end), (("number_of" : Str), d_number_of), (("_law_cell_at" : Str), d__law_cell_at), (("_law_mixed" : Str), d__law_mixed), (("_law_drawn" : Str), d__law_drawn), (("_law_any_part" : Str), d__law_any_part), (("_law_any_count" : Str), d__law_any_count), (("_law_plain_part" : Str), d__law_plain_part), (("_law_more" : Str), d__law_more), (("_law_front" : Str), d__law_front), (("_law_plain_count" : Str), d__law_plain_count), (("_law_whole" : Str), d__law_whole), (("_law_is_part" : Str), d__law_is_part), (("_law_is_count" : Str), d__law_is_count), (("_law_is_clock" : Str), d__law_is_clock), (("_law_clock" : Str), d__law_clock), (("_law_tree_text" : Str), d__law_tree_text), (("_law_written" : Str), d__law_written), (("_law_changed" : Str), d__law_changed), (("_law_number_at" : Str), d__law_number_at), (("_law_tree_at" : Str), d__law_tree_at), (("_law_due" : Str), d__law_due), (("_law_found" : Str), d__law_found), (("law" : Str), d_law)]
noncomputable def fol : List (Str × (Nat × (List PyData → Option PyData))) := []
noncomputable def dxl : List Str := [("read" : Str), ("tree_of" : Str), ("asked" : Str), ("number_of" : Str)]
noncomputable def tb : Tb := ⟨fun f => tbl.lookup f, xs, fun f => fol.lookup f, fun f => dxl.contains f⟩
theorem htb (f : Str) (D : Df) (h : tb.df f = some D) : fs.contains f = true := by
  have h1 : f ∈ tbl.map (·.1) := lookup_fst h
  have h2 : (tbl.map (·.1)).all (fun x => fs.contains x) = true := by decide +kernel
  exact List.all_eq_true.mp h2 f h1
theorem hto (f : Str) (o : Nat × (List PyData → Option PyData)) (h : tb.fo f = some o) : fs.contains f = true := by
  have h1 : f ∈ fol.map (·.1) := lookup_fst h
  have h2 : (fol.map (·.1)).all (fun x => fs.contains x) = true := by decide +kernel
  exact List.all_eq_true.mp h2 f h1
theorem c_is_part (n : Nat) (ds : List PyData) : callN tb (n + 1) "is_part" ds = runD (callN tb n) (callE tb n) d_is_part ds := rfl
theorem c_is_count (n : Nat) (ds : List PyData) : callN tb (n + 1) "is_count" ds = runD (callN tb n) (callE tb n) d_is_count ds := rfl
theorem c_are_plain_halves (n : Nat) (ds : List PyData) : callN tb (n + 1) "are_plain_halves" ds = runD (callN tb n) (callE tb n) d_are_plain_halves ds := rfl
theorem c_are_same_number (n : Nat) (ds : List PyData) : callN tb (n + 1) "are_same_number" ds = runD (callN tb n) (callE tb n) d_are_same_number ds := rfl
theorem c_read (n : Nat) (ds : List PyData) : callN tb (n + 1) "read" ds = runD (callN tb n) (callE tb n) d_read ds := rfl
theorem x_read (n : Nat) (ds : List PyData) : callE tb (n + 1) "read" ds = runX xs (callN tb n) (callE tb n) d_read ds := rfl
theorem c_tree_of (n : Nat) (ds : List PyData) : callN tb (n + 1) "tree_of" ds = runD (callN tb n) (callE tb n) d_tree_of ds := rfl
theorem x_tree_of (n : Nat) (ds : List PyData) : callE tb (n + 1) "tree_of" ds = runX xs (callN tb n) (callE tb n) d_tree_of ds := rfl
theorem c_asked (n : Nat) (ds : List PyData) : callN tb (n + 1) "asked" ds = runD (callN tb n) (callE tb n) d_asked ds := rfl
theorem x_asked (n : Nat) (ds : List PyData) : callE tb (n + 1) "asked" ds = runX xs (callN tb n) (callE tb n) d_asked ds := rfl
theorem c_is_plain_pair (n : Nat) (ds : List PyData) : callN tb (n + 1) "is_plain_pair" ds = runD (callN tb n) (callE tb n) d_is_plain_pair ds := rfl
theorem c_is_plain_triple (n : Nat) (ds : List PyData) : callN tb (n + 1) "is_plain_triple" ds = runD (callN tb n) (callE tb n) d_is_plain_triple ds := rfl
theorem c_sign_at (n : Nat) (ds : List PyData) : callN tb (n + 1) "sign_at" ds = runD (callN tb n) (callE tb n) d_sign_at ds := rfl
theorem c_figures_end (n : Nat) (ds : List PyData) : callN tb (n + 1) "figures_end" ds = runD (callN tb n) (callE tb n) d_figures_end ds := rfl
theorem c_number_of (n : Nat) (ds : List PyData) : callN tb (n + 1) "number_of" ds = runD (callN tb n) (callE tb n) d_number_of ds := rfl
theorem x_number_of (n : Nat) (ds : List PyData) : callE tb (n + 1) "number_of" ds = runX xs (callN tb n) (callE tb n) d_number_of ds := rfl
theorem c__law_cell_at (n : Nat) (ds : List PyData) : callN tb (n + 1) "_law_cell_at" ds = runD (callN tb n) (callE tb n) d__law_cell_at ds := rfl
theorem c__law_mixed (n : Nat) (ds : List PyData) : callN tb (n + 1) "_law_mixed" ds = runD (callN tb n) (callE tb n) d__law_mixed ds := rfl
theorem c__law_drawn (n : Nat) (ds : List PyData) : callN tb (n + 1) "_law_drawn" ds = runD (callN tb n) (callE tb n) d__law_drawn ds := rfl
theorem c__law_any_part (n : Nat) (ds : List PyData) : callN tb (n + 1) "_law_any_part" ds = runD (callN tb n) (callE tb n) d__law_any_part ds := rfl
theorem c__law_any_count (n : Nat) (ds : List PyData) : callN tb (n + 1) "_law_any_count" ds = runD (callN tb n) (callE tb n) d__law_any_count ds := rfl
theorem c__law_plain_part (n : Nat) (ds : List PyData) : callN tb (n + 1) "_law_plain_part" ds = runD (callN tb n) (callE tb n) d__law_plain_part ds := rfl
theorem c__law_more (n : Nat) (ds : List PyData) : callN tb (n + 1) "_law_more" ds = runD (callN tb n) (callE tb n) d__law_more ds := rfl
theorem c__law_plain_count (n : Nat) (ds : List PyData) : callN tb (n + 1) "_law_plain_count" ds = runD (callN tb n) (callE tb n) d__law_plain_count ds := rfl
theorem c__law_whole (n : Nat) (ds : List PyData) : callN tb (n + 1) "_law_whole" ds = runD (callN tb n) (callE tb n) d__law_whole ds := rfl
theorem c__law_is_part (n : Nat) (ds : List PyData) : callN tb (n + 1) "_law_is_part" ds = runD (callN tb n) (callE tb n) d__law_is_part ds := rfl
theorem c__law_is_count (n : Nat) (ds : List PyData) : callN tb (n + 1) "_law_is_count" ds = runD (callN tb n) (callE tb n) d__law_is_count ds := rfl
theorem c__law_is_clock (n : Nat) (ds : List PyData) : callN tb (n + 1) "_law_is_clock" ds = runD (callN tb n) (callE tb n) d__law_is_clock ds := rfl
theorem c__law_clock (n : Nat) (ds : List PyData) : callN tb (n + 1) "_law_clock" ds = runD (callN tb n) (callE tb n) d__law_clock ds := rfl
theorem c__law_tree_text (n : Nat) (ds : List PyData) : callN tb (n + 1) "_law_tree_text" ds = runD (callN tb n) (callE tb n) d__law_tree_text ds := rfl
theorem c__law_written (n : Nat) (ds : List PyData) : callN tb (n + 1) "_law_written" ds = runD (callN tb n) (callE tb n) d__law_written ds := rfl
theorem c__law_changed (n : Nat) (ds : List PyData) : callN tb (n + 1) "_law_changed" ds = runD (callN tb n) (callE tb n) d__law_changed ds := rfl
theorem c__law_number_at (n : Nat) (ds : List PyData) : callN tb (n + 1) "_law_number_at" ds = runD (callN tb n) (callE tb n) d__law_number_at ds := rfl
theorem c__law_tree_at (n : Nat) (ds : List PyData) : callN tb (n + 1) "_law_tree_at" ds = runD (callN tb n) (callE tb n) d__law_tree_at ds := rfl
theorem c__law_due (n : Nat) (ds : List PyData) : callN tb (n + 1) "_law_due" ds = runD (callN tb n) (callE tb n) d__law_due ds := rfl
theorem c__law_found (n : Nat) (ds : List PyData) : callN tb (n + 1) "_law_found" ds = runD (callN tb n) (callE tb n) d__law_found ds := rfl
theorem c_law (n : Nat) (ds : List PyData) : callN tb (n + 1) "law" ds = runD (callN tb n) (callE tb n) d_law ds := rfl

theorem drawn_ex (n : Nat) (x k : Int) : ∃ m : Int, 0 ≤ m ∧ callN tb (n + 1) "_law_drawn" [.int x, .int k] = some (.int m) := by
  rw [c__law_drawn, u_run _ _ _ rfl]
  have h1 : okMul 104729 k = true := okMul_l (by decide) (by decide)
  have h2 : okMul (x + 104729 * k + 17) 69621 = true := okMul_r (by decide) (by decide)
  have h3 : ∀ y : Int, okMul (y % 2147483647) (y % 2147483647) = true := fun y => okMul_l (by omega) (by omega)
  have h4 : ∀ y : Int, okMul 3 y = true := fun y => okMul_l (by decide) (by decide)
  simp [d__law_drawn, startD, h1, h2, h3, h4]
  omega
theorem cell_ex (n : Nat) (ns : List Int) (k : Int) (hk : 0 ≤ k) : ∃ m : Int, callN tb (n + 1) "_law_cell_at" [.list (ns.map PyData.int), .int k] = some (.int m) := by
  rw [c__law_cell_at, u_run _ _ _ rfl]
  by_cases h : k < (ns.length : Int)
  · obtain ⟨a, ha, e⟩ := atI_ex (ns.map PyData.int) k hk (by simpa using h)
    obtain ⟨i, _, rfl⟩ := List.mem_map.mp ha
    refine ⟨i, ?_⟩
    simp [d__law_cell_at, startD, h, e]
  · exact ⟨0, by simp [d__law_cell_at, startD, h]⟩
theorem mixed_ex (n : Nat) (ns : List Int) (k : Int) (hk : 0 ≤ k) : ∃ m : Int, 0 ≤ m ∧ callN tb (n + 2) "_law_mixed" [.list (ns.map PyData.int), .int k] = some (.int m) := by
  rw [c__law_mixed, u_run _ _ _ rfl]
  obtain ⟨c, e⟩ := cell_ex n ns k hk
  have h1 : okMul 7919 k = true := okMul_l (by decide) (by decide)
  have h2 : okMul (c + 7919 * k + 1) 48271 = true := okMul_r (by decide) (by decide)
  have h3 : ∀ y : Int, okMul (y % 2147483647) (y % 2147483647) = true := fun y => okMul_l (by omega) (by omega)
  have h4 : ∀ y : Int, okMul 7 y = true := fun y => okMul_l (by decide) (by decide)
  simp [d__law_mixed, startD, e, h1, h2, h3, h4]
  omega
theorem u_eqD {a b : PyData} (h1 : a.canLay0 = true) (h2 : b.canLay0 = true) (h3 : min a.depth b.depth ≤ 100) : cmpD .Eq a b = some (.bool (PyData.eqv a b)) := by
  show (if okEq a b = true then _ else _) = _
  rw [if_pos (by unfold okEq; rw [h1, h2, decide_eq_true h3]; rfl)]
theorem u_neD {a b : PyData} (h1 : a.canLay0 = true) (h2 : b.canLay0 = true) (h3 : min a.depth b.depth ≤ 100) : cmpD .NotEq a b = some (.bool (!PyData.eqv a b)) := by
  show (if okEq a b = true then _ else _) = _
  rw [if_pos (by unfold okEq; rw [h1, h2, decide_eq_true h3]; rfl)]

theorem any_part_ex : ∀ (k n : Nat) (x : Int), ∃ t : PT, t.dep ≤ k ∧ callN tb (n + k + 2) "_law_any_part" [.int x, .int (k : Int)] = some t.toD := by
  intro k
  induction k with
  | zero =>
    intro n x
    rw [c__law_any_part, u_run _ _ _ rfl]
    have h5 : okDiv 5 = true := by decide
    refine ⟨.z (decide (x / 5 % 2 = 1)), Nat.zero_le _, ?_⟩
    simp [d__law_any_part, startD, h5, PT.toD]
    by_cases h : x / 5 % 2 = 1
    · simp [h]
    · simp [h]; omega
  | succ k ih =>
    intro n x
    have e0 : n + (k + 1) + 2 = (n + k + 2) + 1 := by omega
    rw [e0, c__law_any_part, u_run _ _ _ rfl]
    have h5 : okDiv 5 = true := by decide
    by_cases h1 : x % 5 < 2
    · refine ⟨.z (decide (x / 5 % 2 = 1)), Nat.zero_le _, ?_⟩
      simp [d__law_any_part, startD, h5, h1, PT.toD]
      have hk : ¬ ((k : Int) + 1 = 0) := by omega
      simp [hk]
      by_cases h : x / 5 % 2 = 1
      · simp [h]
      · simp [h]; omega
    · obtain ⟨a, _, ea⟩ := drawn_ex (n + k + 1) x 1
      obtain ⟨b, _, eb⟩ := drawn_ex (n + k + 1) x 2
      obtain ⟨t, ht, et⟩ := ih n a
      obtain ⟨u, hu, eu⟩ := ih n b
      refine ⟨.p t u, by simp only [PT.dep]; omega, ?_⟩
      have hk : ¬ ((k : Int) + 1 = 0) := by omega
      have e1 : ((k : Int) + 1 - 1) = (k : Int) := by omega
      have ol : okLen 2 = true := by decide
      simp [d__law_any_part, startD, h5, h1, hk, ea, eb, e1, et, eu, PT.toD, ol]
theorem in01 (t : PT) (h : t.dep ≤ 100) : cmpD .In t.toD (.tuple [.int 0, .int 1]) = some (.bool t.leaf) := by
  show (if (PyData.canLayAll0 [.int 0, .int 1] && t.toD.canLay0 && decide (t.toD.depth ≤ 100)) = true then some (PyData.bool (([.int 0, .int 1] : List PyData).any fun y => PyData.eqv y t.toD)) else none) = _
  rw [if_pos (by rw [PT.lay, PT.depD, decide_eq_true h]; rfl)]
  cases t with
  | z b => cases b <;> rfl
  | p a b => rfl
theorem lplain_part_eq : ∀ (t : PT) (n : Nat), t.dep ≤ 100 → callN tb (n + t.dep + 1) "_law_plain_part" [t.toD] = some t.plain.toD := by
  intro t
  induction t with
  | z b => intro n _; rfl
  | p a b iha ihb =>
    intro n hd
    simp only [PT.dep] at hd ⊢
    rw [c__law_plain_part, u_run _ _ _ rfl]
    have ea : callN tb (n + (max a.dep b.dep + 1)) "_law_plain_part" [a.toD] = some a.plain.toD := by
      have := iha (n + (max a.dep b.dep - a.dep)) (by omega)
      rwa [show n + (max a.dep b.dep - a.dep) + a.dep + 1 = n + (max a.dep b.dep + 1) by omega] at this
    have eb : callN tb (n + (max a.dep b.dep + 1)) "_law_plain_part" [b.toD] = some b.plain.toD := by
      have := ihb (n + (max a.dep b.dep - b.dep)) (by omega)
      rwa [show n + (max a.dep b.dep - b.dep) + b.dep + 1 = n + (max a.dep b.dep + 1) by omega] at this
    have da := PT.plain_dep a
    have db := PT.plain_dep b
    have q1 := u_eqD (PT.lay a.plain) (PT.lay b.plain) (by rw [PT.depD, PT.depD]; omega)
    have q2 := in01 a.plain (by omega)
    have ol : okLen 2 = true := by decide
    rw [PT.eqv] at q1
    simp only [PT.plain]
    generalize a.plain = A at *
    generalize b.plain = B at *
    by_cases h1 : A = B
    · cases hl : A.leaf with
      | true =>
        have e1 : PT.join A B = A := by
          subst h1
          cases A with
          | z x => simp [PT.join]
          | p c d => cases hl
        rw [e1]
        rw [hl] at q2
        rw [decide_eq_true h1] at q1
        simp [d__law_plain_part, startD, PT.toD, at0, at1, ea, eb, q1, q2, ol]
      | false =>
        have e1 : PT.join A B = .p A B := by
          cases A with
          | z x => cases hl
          | p c d => simp [PT.join]
        rw [e1]
        rw [hl] at q2
        rw [decide_eq_true h1] at q1
        simp [d__law_plain_part, startD, PT.toD, at0, at1, ea, eb, q1, q2, ol]
    · have e1 : PT.join A B = .p A B := by
        unfold PT.join
        split
        · rename_i x y
          rw [if_neg fun z => h1 (by rw [z])]
        · rfl
      rw [e1]
      rw [decide_eq_false h1] at q1
      simp [d__law_plain_part, startD, PT.toD, at0, at1, ea, eb, q1, q2, ol]

theorem any_count_ex : ∀ (k n : Nat) (x : Int), ∃ t : CT, t.dep ≤ k ∧ t.le 29 = true ∧ callN tb (n + k + 2) "_law_any_count" [.int x, .int (k : Int)] = some t.toD := by
  have leaf : ∀ x : Int, ∃ m : Nat, m ≤ 29 ∧ ∃ c : Int, 0 < c ∧ atI [PyData.int 4, PyData.int 30] (if x / 25 % 9 = 1 then 1 else 0) = some (.int c) ∧ x / 5 % c = (m : Int) := fun x => by
    by_cases h : x / 25 % 9 = 1
    · refine ⟨(x / 5 % 30).toNat, by omega, 30, by decide, ?_, by omega⟩
      rw [if_pos h]; exact at1 _ _ _
    · refine ⟨(x / 5 % 4).toNat, by omega, 4, by decide, ?_, by omega⟩
      rw [if_neg h]; exact at0 _ _
  have h5 : okDiv 5 = true := by decide
  have h25 : okDiv 25 = true := by decide
  have ol2 : okLen 2 = true := by decide
  have ol3 : okLen 3 = true := by decide
  intro k
  induction k with
  | zero =>
    intro n x
    rw [c__law_any_count, u_run _ _ _ rfl]
    obtain ⟨m, hm, c, hc, e1, e2⟩ := leaf x
    refine ⟨.i m, Nat.zero_le _, by simp [CT.le, hm], ?_⟩
    simp [d__law_any_count, startD, h5, h25, ol2, CT.toD, e1, hc, e2]
  | succ k ih =>
    intro n x
    have e0 : n + (k + 1) + 2 = (n + k + 2) + 1 := by omega
    rw [e0, c__law_any_count, u_run _ _ _ rfl]
    have hk : ¬ ((k : Int) + 1 = 0) := by omega
    by_cases h1 : x % 5 < 2
    · obtain ⟨m, hm, c, hc, e1, e2⟩ := leaf x
      refine ⟨.i m, Nat.zero_le _, by simp [CT.le, hm], ?_⟩
      simp [d__law_any_count, startD, h5, h25, ol2, h1, hk, CT.toD, e1, hc, e2]
    · obtain ⟨a, _, ea⟩ := drawn_ex (n + k + 1) x 1
      obtain ⟨b, _, eb⟩ := drawn_ex (n + k + 1) x 2
      obtain ⟨t, ht, lt, et⟩ := ih n a
      obtain ⟨u, hu, lu, eu⟩ := ih n b
      refine ⟨.t (x / 5 % 3).toNat t u, by simp only [CT.dep]; omega, ?_, ?_⟩
      · simp only [CT.le, Bool.and_eq_true, decide_eq_true_eq]
        exact ⟨⟨by omega, lt⟩, lu⟩
      · have e1 : ((k : Int) + 1 - 1) = (k : Int) := by omega
        have e3 : max (x / 5 % 3) 0 = x / 5 % 3 := by omega
        simp [d__law_any_count, startD, h5, h1, hk, ea, eb, e1, et, eu, CT.toD, ol3, e3]
theorem lfront_eq (t : CT) (n : Nat) : callN tb (n + 1) "_law_front" [t.toD] = some (.int t.front) := by
  cases t <;> rfl
theorem lmore_eq (t : CT) (l n : Nat) (h : l ≤ t.front) : callN tb (n + 1) "_law_more" [t.toD, .int (-(l : Int))] = some (t.low l).toD := by
  rw [c__law_more, u_run _ _ _ rfl]
  have ol : okLen 3 = true := by decide
  cases t with
  | i m =>
    have h' : l ≤ m := h
    simp [d__law_more, startD, CT.toD, CT.low]
    omega
  | t m a b =>
    have h' : l ≤ m := h
    simp [d__law_more, startD, CT.toD, CT.low, at0, at1, at2, ol]
    omega
theorem lplain_count_eq : ∀ (t : CT) (n : Nat), t.dep ≤ 100 → callN tb (n + t.dep + 2) "_law_plain_count" [t.toD] = some t.plain.toD := by
  intro t
  induction t with
  | i b => intro n _; rfl
  | t m a b iha ihb =>
    intro n hd
    simp only [CT.dep] at hd ⊢
    rw [show n + (max a.dep b.dep + 1) + 2 = (n + max a.dep b.dep + 2) + 1 by omega, c__law_plain_count, u_run _ _ _ rfl]
    have ea : callN tb (n + max a.dep b.dep + 2) "_law_plain_count" [a.toD] = some a.plain.toD := by
      have := iha (n + (max a.dep b.dep - a.dep)) (by omega)
      rwa [show n + (max a.dep b.dep - a.dep) + a.dep + 2 = n + max a.dep b.dep + 2 by omega] at this
    have eb : callN tb (n + max a.dep b.dep + 2) "_law_plain_count" [b.toD] = some b.plain.toD := by
      have := ihb (n + (max a.dep b.dep - b.dep)) (by omega)
      rwa [show n + (max a.dep b.dep - b.dep) + b.dep + 2 = n + max a.dep b.dep + 2 by omega] at this
    have da := CT.plain_dep a
    have db := CT.plain_dep b
    have fa := lfront_eq a.plain (n + max a.dep b.dep + 1)
    have fb := lfront_eq b.plain (n + max a.dep b.dep + 1)
    have el : (if ((b.plain.front : Nat) : Int) < ((a.plain.front : Nat) : Int) then ((b.plain.front : Nat) : Int) else ((a.plain.front : Nat) : Int)) = ((min a.plain.front b.plain.front : Nat) : Int) := by
      split <;> omega
    have el2 : (if b.plain.front < a.plain.front then ((b.plain.front : Nat) : Int) else ((a.plain.front : Nat) : Int)) = ((min a.plain.front b.plain.front : Nat) : Int) := by
      split <;> omega
    have ma := lmore_eq a.plain (min a.plain.front b.plain.front) (n + max a.dep b.dep + 1) (Nat.min_le_left _ _)
    have mb := lmore_eq b.plain (min a.plain.front b.plain.front) (n + max a.dep b.dep + 1) (Nat.min_le_right _ _)
    have q1 : cmpD .Eq a.plain.toD (.int ((min a.plain.front b.plain.front : Nat) : Int)) = some (.bool (decide (a.plain = .i (min a.plain.front b.plain.front)))) := by
      have := u_eqD (CT.lay a.plain) (CT.lay (.i (min a.plain.front b.plain.front))) (by rw [CT.depD, CT.depD]; simp [CT.dep])
      rw [CT.eqv] at this
      exact this
    have q2 : cmpD .Eq b.plain.toD (.int ((min a.plain.front b.plain.front : Nat) : Int)) = some (.bool (decide (b.plain = .i (min a.plain.front b.plain.front)))) := by
      have := u_eqD (CT.lay b.plain) (CT.lay (.i (min a.plain.front b.plain.front))) (by rw [CT.depD, CT.depD]; simp [CT.dep])
      rw [CT.eqv] at this
      exact this
    have ol : okLen 3 = true := by decide
    simp only [d__law_plain_count, startD, CT.toD, CT.plain]
    generalize hA : a.plain = A at *
    generalize hB : b.plain = B at *
    generalize hL : min A.front B.front = L at *
    by_cases h1 : A = .i L
    · rw [decide_eq_true h1] at q1
      by_cases h2 : B = .i L
      · rw [decide_eq_true h2] at q2
        simp [at0, at1, at2, ea, eb, fa, fb, el, el2, q1, q2]
        unfold CT.join
        rw [hL, if_pos ⟨h1, h2⟩]
        simp [CT.toD]
      · rw [decide_eq_false h2] at q2
        simp [at0, at1, at2, ea, eb, fa, fb, el, el2, q1, q2, ol, ma, mb]
        unfold CT.join
        rw [hL, if_neg fun z => h2 z.2]
        simp [CT.toD]
    · rw [decide_eq_false h1] at q1
      simp [at0, at1, at2, ea, eb, fa, fb, el, el2, q1, q2, ol, ma, mb]
      unfold CT.join
      rw [hL, if_neg fun z => h1 z.1]
      simp [CT.toD]

theorem lwhole_PT (t : PT) (n : Nat) : callN tb (n + 1) "_law_whole" [t.toD] = some (.bool t.leaf) := by
  cases t with
  | z b => cases b <;> rfl
  | p a b => rfl
theorem lis_part_eq : ∀ (t : PT) (n : Nat), t.dep ≤ 60 → callN tb (n + t.dep + t.dep + 3) "_law_is_part" [t.toD] = some (.bool t.plainB) := by
  intro t
  induction t with
  | z b => intro n _; cases b <;> rfl
  | p a b iha ihb =>
    intro n hd
    simp only [PT.dep] at hd ⊢
    generalize hm : max a.dep b.dep = m at *
    rw [show n + (m + 1) + (m + 1) + 3 = (n + m + m + 4) + 1 by omega, c__law_is_part, u_run _ _ _ rfl]
    have ea : callN tb (n + m + m + 4) "_law_is_part" [a.toD] = some (.bool a.plainB) := by
      have := iha (n + (m - a.dep) + (m - a.dep) + 1) (by omega)
      rwa [show n + (m - a.dep) + (m - a.dep) + 1 + a.dep + a.dep + 3 = n + m + m + 4 by omega] at this
    have eb : callN tb (n + m + m + 4) "_law_is_part" [b.toD] = some (.bool b.plainB) := by
      have := ihb (n + (m - b.dep) + (m - b.dep) + 1) (by omega)
      rwa [show n + (m - b.dep) + (m - b.dep) + 1 + b.dep + b.dep + 3 = n + m + m + 4 by omega] at this
    have w0 := lwhole_PT (.p a b) (n + m + m + 3)
    simp only [PT.toD, PT.leaf] at w0
    simp only [PT.plainB]
    cases ha : a.plainB with
    | false =>
      rw [ha] at ea
      simp [d__law_is_part, startD, PT.toD, w0, at0, at1, ea]
    | true =>
      rw [ha] at ea
      cases hb : b.plainB with
      | false =>
        rw [hb] at eb
        simp [d__law_is_part, startD, PT.toD, w0, at0, at1, ea, eb]
      | true =>
        rw [hb] at eb
        have pp := lplain_part_eq (.p a b) (n + m + m + 3 - (PT.p a b).dep) (by simp only [PT.dep]; omega)
        rw [show n + m + m + 3 - (PT.p a b).dep + (PT.p a b).dep + 1 = n + m + m + 4 by simp only [PT.dep]; omega] at pp
        have e3 : (PT.p a b).plain = PT.join a b := by simp only [PT.plain, PT.plain_id a ha, PT.plain_id b hb]
        rw [e3] at pp
        have jd := PT.join_dep a b
        have q3 := u_eqD (PT.lay (PT.join a b)) (PT.lay (.p a b)) (by rw [PT.depD, PT.depD]; omega)
        rw [PT.eqv] at q3
        simp only [PT.toD] at pp q3
        simp [d__law_is_part, startD, PT.toD, w0, at0, at1, ea, eb, pp, q3]

theorem lwhole_CT (t : CT) (n : Nat) : callN tb (n + 1) "_law_whole" [t.toD] = some (.bool (match t with | .i _ => true | .t _ _ _ => false)) := by
  cases t with
  | i m =>
    rw [c__law_whole, u_run _ _ _ rfl]
    have h : (0 : Int) ≤ (m : Int) := by omega
    simp [d__law_whole, startD, CT.toD, h]
  | t m a b => rfl
theorem lis_count_eq : ∀ (t : CT) (n : Nat), t.dep ≤ 60 → callN tb (n + t.dep + t.dep + 4) "_law_is_count" [t.toD] = some (.bool t.plainB) := by
  intro t
  induction t with
  | i m =>
    intro n _
    have w0 := lwhole_CT (.i m) (n + (CT.i m).dep + (CT.i m).dep + 2)
    rw [c__law_is_count, u_run _ _ _ rfl]
    simp only [CT.toD] at w0 ⊢
    simp [d__law_is_count, startD, w0, CT.plainB]
  | t k a b iha ihb =>
    intro n hd
    simp only [CT.dep] at hd ⊢
    generalize hm : max a.dep b.dep = m at *
    rw [show n + (m + 1) + (m + 1) + 4 = (n + m + m + 5) + 1 by omega, c__law_is_count, u_run _ _ _ rfl]
    have ea : callN tb (n + m + m + 5) "_law_is_count" [a.toD] = some (.bool a.plainB) := by
      have := iha (n + (m - a.dep) + (m - a.dep) + 1) (by omega)
      rwa [show n + (m - a.dep) + (m - a.dep) + 1 + a.dep + a.dep + 4 = n + m + m + 5 by omega] at this
    have eb : callN tb (n + m + m + 5) "_law_is_count" [b.toD] = some (.bool b.plainB) := by
      have := ihb (n + (m - b.dep) + (m - b.dep) + 1) (by omega)
      rwa [show n + (m - b.dep) + (m - b.dep) + 1 + b.dep + b.dep + 4 = n + m + m + 5 by omega] at this
    have w0 := lwhole_CT (.t k a b) (n + m + m + 4)
    have w1 := lwhole_CT (.i k) (n + m + m + 4)
    simp only [CT.toD] at w0 w1
    simp only [CT.plainB]
    cases ha : a.plainB with
    | false =>
      rw [ha] at ea
      simp [d__law_is_count, startD, CT.toD, w0, w1, at0, at1, at2, ea]
    | true =>
      rw [ha] at ea
      cases hb : b.plainB with
      | false =>
        rw [hb] at eb
        simp [d__law_is_count, startD, CT.toD, w0, w1, at0, at1, at2, ea, eb]
      | true =>
        rw [hb] at eb
        have pp := lplain_count_eq (.t k a b) (n + m + m + 3 - (CT.t k a b).dep) (by simp only [CT.dep]; omega)
        rw [show n + m + m + 3 - (CT.t k a b).dep + (CT.t k a b).dep + 2 = n + m + m + 5 by simp only [CT.dep]; omega] at pp
        have e3 : (CT.t k a b).plain = CT.join k a b := by simp only [CT.plain, CT.plain_id a ha, CT.plain_id b hb]
        rw [e3] at pp
        have jd := CT.join_dep k a b
        have q3 := u_eqD (CT.lay (CT.join k a b)) (CT.lay (.t k a b)) (by rw [CT.depD, CT.depD]; omega)
        rw [CT.eqv, CT.join_half] at q3
        simp only [CT.toD] at pp q3
        simp [d__law_is_count, startD, CT.toD, w0, w1, at0, at1, at2, ea, eb, pp, q3]

/-! ### texts in the program -/
noncomputable def asc (l : List Nat) : Prop := ∀ c ∈ l, c < 128
theorem asc_app {a b : List Nat} (h : asc a) (h2 : asc b) : asc (a ++ b) := fun c hc => by
  rcases List.mem_append.mp hc with hc | hc
  · exact h c hc
  · exact h2 c hc
theorem asc_drop {a : List Nat} (h : asc a) (n : Nat) : asc (a.drop n) := fun c hc => h c (List.mem_of_mem_drop hc)
theorem asc_take {a : List Nat} (h : asc a) (n : Nat) : asc (a.take n) := fun c hc => h c (List.mem_of_mem_take hc)
theorem lay_tx {a : List Nat} (h : asc a) : (PyData.str (tx a)).canLay0 = true := by
  show (tx a).cps.all (fun x => decide (x < 1114112)) = true
  unfold tx
  rw [List.all_toArray, List.all_eq_true]
  intro c hc
  have := h c hc
  exact decide_eq_true (by omega)
theorem eqv_tx (a b : List Nat) : PyData.eqv (.str (tx a)) (.str (tx b)) = decide (a = b) := by
  have e : PyData.eqv (.str (tx a)) (.str (tx b)) = (tx a == tx b) := by simp [PyData.eqv]
  rw [e]
  by_cases h : a = b
  · subst h; simp
  · rw [decide_eq_false h]
    exact beq_false_of_ne fun z => h (tx_inj z)
theorem eq_tx {a b : List Nat} (h1 : asc a) (h2 : asc b) : cmpD .Eq (.str (tx a)) (.str (tx b)) = some (.bool (decide (a = b))) := by
  rw [u_eqD (lay_tx h1) (lay_tx h2) (by simp [PyData.depth]), eqv_tx]
theorem ne_tx {a b : List Nat} (h1 : asc a) (h2 : asc b) : cmpD .NotEq (.str (tx a)) (.str (tx b)) = some (.bool (!decide (a = b))) := by
  rw [u_neD (lay_tx h1) (lay_tx h2) (by simp [PyData.depth]), eqv_tx]
theorem q0 : ("" : Str) = tx [] := rfl
theorem q32 : (" " : Str) = tx [32] := rfl
theorem q40 : ("(" : Str) = tx [40] := rfl
theorem q41 : (")" : Str) = tx [41] := rfl
theorem q44 : ("," : Str) = tx [44] := rfl
theorem q48 : ("0" : Str) = tx [48] := rfl
noncomputable def d10 : List Nat := [48, 49, 50, 51, 52, 53, 54, 55, 56, 57]
theorem q10 : ("0123456789" : Str) = tx d10 := rfl
theorem asc1 {c : Nat} (h : c < 128) : asc [c] := fun x hx => by rw [List.mem_singleton.mp hx]; exact h
@[simp] theorem u_slS (x : Str) (lo hi : Option Int) : slD2 (.str x) lo hi = if okLen x.length = true then some (.str (cutS x lo hi)) else none := rfl
@[simp] theorem u_lenS (x : Str) : Bl.fn .len [.str x] = if okLen x.length = true then some (.int x.length) else none := rfl
theorem cutT (l : List Nat) (i j : Nat) : cutS (tx l) (some (i : Int)) (some (j : Int)) = tx ((l.drop i).take (j - i)) := cut_tx l i j
theorem cut1T (l : List Nat) (i : Nat) : cutS (tx l) (some (i : Int)) (some ((i : Int) + 1)) = tx ((l.drop i).take 1) := by
  have := cut_tx l i (i + 1)
  rw [show i + 1 - i = 1 by omega] at this
  exact this
theorem hd_take (c : Nat) (u : List Nat) : decide (u.take 1 = [c]) = hd c u := by
  cases u with
  | nil => rfl
  | cons a u => by_cases h : a = c <;> simp [hd, h]
theorem sign_eq (cs : List Nat) (hl : cs.length ≤ 1000) (p n : Nat) : callN tb (n + 1) "sign_at" [.str (tx cs), .int (p : Int)] = some (.str (tx ((cs.drop p).take 1))) := by
  rw [c_sign_at, u_run _ _ _ rfl]
  have o : okLen (tx cs).length = true := okLen_of (by rw [tx_len]; omega)
  simp [d_sign_at, startD, o, cut1T]
theorem at_tx {cs : List Nat} {p : Nat} (h : p < cs.length) (hl : cs.length ≤ 1000) : ixD (.str (tx cs)) (.int (p : Int)) = some (.str (tx [cs[p]])) := by
  have o : okLen (tx cs).length = true := okLen_of (by rw [tx_len]; omega)
  show (if okLen (tx cs).length = true then (match atI (tx cs).cps.toList (p : Int) with | some c => some (PyData.str ⟨#[c]⟩) | none => none) else none) = _
  rw [if_pos o, tx_cps]
  have : atI cs (p : Int) = some cs[p] := by
    unfold atI ixN
    simp [h]
  rw [this]
  rfl

/-! ### figures in a text -/
theorem at10 (c : Nat) : (∃ i, StrLaws.At (tx d10) (tx [c]) (tx d10).length i) ↔ isDg c = true := by
  have hx : ∀ i < 10, d10.toArray.extract i (i + 1) = #[48 + i] := by decide
  have l1 : (tx [c]).length = 1 := rfl
  have l10 : (tx d10).length = 10 := rfl
  constructor
  · intro ⟨i, h1, h2⟩
    rw [l1, l10] at h1
    have h3 : ((tx d10).cps.extract i (i + (tx [c]).length) == (tx [c]).cps) = true := h2
    rw [l1] at h3
    have e : (tx d10).cps.extract i (i + 1) = #[48 + i] := hx i (by omega)
    rw [e] at h3
    have h4 : #[48 + i] = #[c] := eq_of_beq h3
    have h5 : 48 + i = c := by simpa using h4
    exact decide_eq_true (by omega)
  · intro h
    have h' : 48 ≤ c ∧ c ≤ 57 := of_decide_eq_true h
    refine ⟨c - 48, by rw [l1, l10]; omega, ?_⟩
    show ((tx d10).cps.extract (c - 48) (c - 48 + (tx [c]).length) == (tx [c]).cps) = true
    have e : (tx d10).cps.extract (c - 48) (c - 48 + 1) = #[48 + (c - 48)] := hx (c - 48) (by omega)
    rw [l1, e, show 48 + (c - 48) = c by omega]
    exact beq_self_eq_true _
theorem ins_dg (c : Nat) : insD (.str (tx [c])) (.str "0123456789") = some (.bool (isDg c)) := by
  rw [q10]
  show some (PyData.bool (!(Builtin.Str.occurrences (tx d10) (tx [c]) 0 (tx d10).length 1).isEmpty)) = _
  have h := at10 c
  rcases StrLaws.occ_head (tx d10) (tx [c]) 1 (Nat.le_refl 1) with ⟨h1, h2⟩ | ⟨i, r, h1, h2, _⟩
  · rw [h1]
    have : isDg c = false := by
      cases e : isDg c with
      | false => rfl
      | true => obtain ⟨i, hi⟩ := h.mpr e; exact absurd hi (h2 i)
    rw [this]; rfl
  · rw [h1, h.mp ⟨i, h2⟩]; rfl
theorem find_dg (c : Nat) : cmpD .GtE (.int (Txt.find (tx d10) (tx [c]))) (.int 0) = some (.bool (isDg c)) := by
  have h := at10 c
  rcases find_whole (tx d10) (tx [c]) with ⟨h1, h2⟩ | ⟨i, h1, h2, _⟩
  · rw [h1]
    have : isDg c = false := by
      cases e : isDg c with
      | false => rfl
      | true => obtain ⟨i, hi⟩ := h.mpr e; exact absurd hi (h2 i)
    rw [this]; rfl
  · rw [h1, h.mp ⟨i, h2⟩, u_ge]
    simp
theorem while1 (gc : Rho → Option PyData) (step : Rho → Option Fl) (n : Nat) (r r1 : Rho) (h1 : gc r = some (.bool true)) (h2 : step r = some (.nx r1)) : whileD gc step (n + 1) r = whileD gc step n r1 := by
  show (match gc r with
    | some (.bool false) => some (Fl.nx r)
    | some (.bool true) => (match step r with
      | some (.nx r1) => whileD gc step n r1
      | some (.ct r1) => whileD gc step n r1
      | some (.bk r1) => some (.nx r1)
      | some (.rt v) => some (.rt v)
      | none => none)
    | _ => none) = _
  rw [h1]
  simp only [h2]
theorem while0 (gc : Rho → Option PyData) (step : Rho → Option Fl) (n : Nat) (r : Rho) (h1 : gc r = some (.bool false)) : whileD gc step (n + 1) r = some (.nx r) := by
  show (match gc r with
    | some (.bool false) => some (Fl.nx r)
    | some (.bool true) => (match step r with
      | some (.nx r1) => whileD gc step n r1
      | some (.ct r1) => whileD gc step n r1
      | some (.bk r1) => some (.nx r1)
      | some (.rt v) => some (.rt v)
      | none => none)
    | _ => none) = _
  rw [h1]
/-- a loop that goes over the figures of a text -/
theorem while_dg (gc : Rho → Option PyData) (step : Rho → Option Fl) (cs : List Nat) (o : Option PyData) (q : Option PyData)
    (h1 : ∀ p : Nat, gc [o, q, some (.int (p : Int))] = some (.bool (match cs.drop p with | [] => false | c :: _ => isDg c)))
    (h2 : ∀ p : Nat, step [o, q, some (.int (p : Int))] = some (.nx [o, q, some (.int ((p + 1 : Nat) : Int))])) :
    ∀ (u : List Nat) (p n : Nat), cs.drop p = u → u.length < n → whileD gc step n [o, q, some (.int (p : Int))] = some (.nx [o, q, some (.int ((p + (dgt u).length : Nat) : Int))]) := by
  intro u
  induction u with
  | nil =>
    intro p n hp hn
    cases n with
    | zero => omega
    | succ n =>
      have := h1 p
      rw [hp] at this
      rw [while0 _ _ _ _ this]
      rfl
  | cons c u ih =>
    intro p n hp hn
    cases n with
    | zero => omega
    | succ n =>
      have := h1 p
      rw [hp] at this
      simp only at this
      cases hc : isDg c with
      | false =>
        rw [hc] at this
        rw [while0 _ _ _ _ this]
        simp [dgt, List.takeWhile_cons, hc]
      | true =>
        rw [hc] at this
        rw [while1 _ _ _ _ _ this (h2 p)]
        have hp' : cs.drop (p + 1) = u := by rw [← List.tail_drop, hp]; rfl
        rw [ih (p + 1) n hp' (by simp only [List.length_cons] at hn; omega)]
        have e : (dgt (c :: u)).length = (dgt u).length + 1 := by simp [dgt, List.takeWhile_cons, hc]
        rw [e, show p + 1 + (dgt u).length = p + ((dgt u).length + 1) by omega]
theorem get_drop {cs : List Nat} {p : Nat} (h : p < cs.length) : cs.drop p = cs[p] :: cs.drop (p + 1) := (List.getElem_cons_drop h).symm
theorem fend_eq (cs : List Nat) (hl : cs.length ≤ 1000) (p n : Nat) : callN tb (n + 1) "figures_end" [.str (tx cs), .int (p : Int)] = some (.int ((p + (dgt (cs.drop p)).length : Nat) : Int)) := by
  rw [c_figures_end, u_run _ _ _ rfl]
  have o : okLen (tx cs).length = true := okLen_of (by rw [tx_len]; omega)
  have o' : okLen cs.length = true := okLen_of (by omega)
  have w := while_dg (ev (callN tb n) (.and (.cmp .Lt (.v 2) (.blt .len [(.v 0)])) (.ins (.ix (.v 0) (.v 2)) (.glb "0123456789")))) (exs (callN tb n) (callE tb n) [.asg (.one 2) (.bin .Add (.v 2) (.k (.int 1)))]) cs (some (.str (tx cs))) (some (.int (p : Int)))
    (fun j => by
      by_cases h : j < cs.length
      · rw [get_drop h]
        have e1 := at_tx h hl
        have e2 := ins_dg cs[j]
        have e3 : ev (callN tb n) (.ins (.ix (.v 0) (.v 2)) (.glb "0123456789")) [some (.str (tx cs)), some (.int (p : Int)), some (.int (j : Int))] = some (.bool (isDg cs[j])) := by
          show (match ixD (.str (tx cs)) (.int (j : Int)) with | some x => insD x (.str "0123456789") | none => none) = _
          rw [e1]; exact e2
        have e4 : ((j : Int) < (cs.length : Int)) := by omega
        simp only [u_and, u_cmp, u_v, u_vrS, u_vr0, u_blt, u_cons, u_nil, u_lenS, tx_len, o', if_true, u_lt, e4, decide_true]
        exact e3
      · have e4 : ¬ ((j : Int) < (cs.length : Int)) := by omega
        rw [List.drop_eq_nil_of_le (by omega)]
        simp only [u_and, u_cmp, u_v, u_vrS, u_vr0, u_blt, u_cons, u_nil, u_lenS, tx_len, o', if_true, u_lt, e4, decide_false])
    (fun p => by simp)
    (cs.drop p) p 1000000 rfl (by rw [List.length_drop]; omega)
  simp [d_figures_end, startD]
  rw [w]
  simp
theorem nat_eq (cs : List Nat) (ha : asc cs) (hl : cs.length ≤ 1000) (p n : Nat) : callN tb (n + 1) "_law_number_at" [.str (tx cs), .int (p : Int)] = some (.int ((p + (dgt (cs.drop p)).length : Nat) : Int)) := by
  rw [c__law_number_at, u_run _ _ _ rfl]
  have o : okLen (tx cs).length = true := okLen_of (by rw [tx_len]; omega)
  have o' : okLen cs.length = true := okLen_of (by omega)
  have w := while_dg (ev (callN tb n) (.and (.cmp .NotEq (.sl (.v 0) (.v 2) (.bin .Add (.v 2) (.k (.int 1)))) (.k (.str ""))) (.cmp .GtE (.sm .find (.k (.str "0123456789")) [(.ix (.v 0) (.v 2))]) (.k (.int 0))))) (exs (callN tb n) (callE tb n) [.asg (.one 2) (.bin .Add (.v 2) (.k (.int 1)))]) cs (some (.str (tx cs))) (some (.int (p : Int)))
    (fun j => by
      have e0 : ev (callN tb n) (.cmp .NotEq (.sl (.v 0) (.v 2) (.bin .Add (.v 2) (.k (.int 1)))) (.k (.str ""))) [some (.str (tx cs)), some (.int (p : Int)), some (.int (j : Int))] = some (.bool (!decide ((cs.drop j).take 1 = []))) := by
        rw [q0]
        simp only [u_cmp, u_sl, u_sl3, u_v, u_vrS, u_vr0, u_k, u_partV, u_partB, u_bin, u_addI, u_partDI, u_slS, o, if_true, cut1T]
        exact ne_tx (asc_take (asc_drop ha _) _) (fun _ h => nomatch h)
      by_cases h : j < cs.length
      · have e1 := at_tx h hl
        have e2 := find_dg cs[j]
        have e3 : ev (callN tb n) (.cmp .GtE (.sm .find (.k (.str "0123456789")) [(.ix (.v 0) (.v 2))]) (.k (.int 0))) [some (.str (tx cs)), some (.int (p : Int)), some (.int (j : Int))] = some (.bool (isDg cs[j])) := by
          rw [q10]
          simp only [u_cmp, u_sm, u_k, u_cons, u_nil, u_ix, u_v, u_vrS, u_vr0, e1]
          exact e2
        rw [get_drop h] at e0 ⊢
        simp only [List.take_succ_cons, List.take_zero, List.cons_ne_nil, decide_false, Bool.not_false, reduceCtorEq] at e0
        rw [u_and]
        show (match ev (callN tb n) (.cmp .NotEq (.sl (.v 0) (.v 2) (.bin .Add (.v 2) (.k (.int 1)))) (.k (.str ""))) [some (.str (tx cs)), some (.int (p : Int)), some (.int (j : Int))] with | some (.bool true) => ev (callN tb n) (.cmp .GtE (.sm .find (.k (.str "0123456789")) [(.ix (.v 0) (.v 2))]) (.k (.int 0))) [some (.str (tx cs)), some (.int (p : Int)), some (.int (j : Int))] | some (.bool false) => some (.bool false) | _ => none) = _
        rw [e0]
        exact e3
      · rw [List.drop_eq_nil_of_le (by omega)] at e0 ⊢
        simp only [List.take_nil, decide_true, Bool.not_true] at e0
        rw [u_and, e0])
    (fun p => by simp)
    (cs.drop p) p 1000000 rfl (by rw [List.length_drop]; omega)
  simp [d__law_number_at, startD]
  rw [w]
  simp

/-! ### number_of -/
theorem int_dg {ds : List Nat} (h : ∀ c ∈ ds, isDg c = true) (hn : ds ≠ []) (hl : ds.length ≤ 640) : Bl.fn .int [.str (tx ds)] = some (.int ((val ds : Nat) : Int)) := by
  show (if decide ((tx ds).length ≤ 640) = true then (match PySem.intText? (tx ds) with
    | some n => some (PyData.int n)
    | none => none) else none) = _
  rw [if_pos (decide_eq_true (by rw [tx_len]; exact hl)), int_tx h hn hl]
theorem asc_dg {ds : List Nat} (h : ∀ c ∈ ds, isDg c = true) : asc ds := fun c hc => by
  have : 48 ≤ c ∧ c ≤ 57 := of_decide_eq_true (h c hc)
  omega
noncomputable def nBody : List PS := [.asg (.one 2) (.bin .Add (.bin .Mult (.v 2) (.bin .Pow (.k (.int 10)) (.k (.int 60)))) (.blt .int [(.sl (.v 0) (.v 3) (.bin .Add (.v 3) (.k (.int 60))))]))]
theorem pow60 : ∃ P : Nat, P = 10 ^ 60 ∧ binD .Pow (.int 10) (.int 60) = some (.int (P : Int)) ∧ ((P : Int)).natAbs.log2 < 3000 := by
  refine ⟨10 ^ 60, rfl, ?_, ?_⟩
  · rw [u_powI, if_pos (by decide)]
    rfl
  · show (10 ^ 60 : Nat).log2 < 3000
    have := log_lt (m := 10 ^ 60) (k := 61) (Nat.pow_lt_pow_right (by decide) (by decide)) (by decide)
    omega
theorem num_step (C : Orc) (E : OrcX) (ds : List Nat) (fi : Option PyData) (m s v P : Nat) (hl : ds.length ≤ 480) (hP : binD .Pow (.int 10) (.int 60) = some (.int (P : Int))) (hm : okMul (m : Int) (P : Int) = true) (hi : Bl.fn .int [.str (tx ((ds.drop s).take 60))] = some (.int (v : Int))) :
    exs C E nBody [some (.str (tx ds)), fi, some (.int (m : Int)), some (.int (s : Int))] = some (.nx [some (.str (tx ds)), fi, some (.int ((m * P + v : Nat) : Int)), some (.int (s : Int))]) := by
  have o : okLen (tx ds).length = true := okLen_of (by rw [tx_len]; omega)
  have ec : cutS (tx ds) (some (s : Int)) (some ((s : Int) + 60)) = tx ((ds.drop s).take 60) := by
    have := cut_tx ds s (s + 60)
    rw [show s + 60 - s = 60 by omega] at this
    exact this
  have e1 : ev C (.bin .Mult (.v 2) (.bin .Pow (.k (.int 10)) (.k (.int 60)))) [some (.str (tx ds)), fi, some (.int (m : Int)), some (.int (s : Int))] = some (.int ((m : Int) * (P : Int))) := by
    rw [u_bin, u_bin, u_k, u_k, u_v]
    simp only [u_vrS, u_vr0]
    rw [hP]
    simp only [u_mulI]
    rw [if_pos hm]
  have e2 : ev C (.blt .int [(.sl (.v 0) (.v 3) (.bin .Add (.v 3) (.k (.int 60))))]) [some (.str (tx ds)), fi, some (.int (m : Int)), some (.int (s : Int))] = some (.int (v : Int)) := by
    simp only [u_blt, u_cons, u_nil, u_sl, u_sl3, u_v, u_vrS, u_vr0, u_k, u_partV, u_partB, u_bin, u_addI, u_partDI, u_slS, o, if_true, ec]
    exact hi
  unfold nBody
  rw [u_ssS, u_asg1, u_bin, e1, e2]
  simp only [u_addI, List.set, u_ss0]
  rw [Int.natCast_add, Int.natCast_mul]
theorem forD1 (t : Tg) (step : Rho → Option Fl) (d : PyData) (ds : List PyData) (r r1 r2 : Rho) (h1 : setTg t d r = some r1) (h2 : step r1 = some (.nx r2)) : forD t step (d :: ds) r = forD t step ds r2 := by
  show (match setTg t d r with
    | some r1 => match step r1 with
      | some (.nx r2) => forD t step ds r2
      | some (.ct r2) => forD t step ds r2
      | some (.bk r2) => some (Fl.nx r2)
      | some (.rt v) => some (.rt v)
      | none => none
    | none => none) = _
  rw [h1]
  simp only [h2]
theorem num_loop (C : Orc) (E : OrcX) (ds : List Nat) (fi : Option PyData) (f : Nat) (h : ∀ c ∈ ds, isDg c = true) (hl : ds.length ≤ 480) : ∀ (N j : Nat) (o : Option PyData), f + 60 * (j + N) ≤ ds.length →
    ∃ o', forD (.one 3) (exs C E nBody) ((List.range' j N).map fun (k : Nat) => PyData.int ((f : Int) + (k : Int) * 60)) [some (.str (tx ds)), fi, some (.int ((val (ds.take (f + 60 * j)) : Nat) : Int)), o] = some (.nx [some (.str (tx ds)), fi, some (.int ((val (ds.take (f + 60 * (j + N))) : Nat) : Int)), o']) := by
  obtain ⟨P, eP, hP, lP⟩ := pow60
  intro N
  induction N with
  | zero => intro j o _; exact ⟨o, rfl⟩
  | succ N ih =>
    intro j o hj
    have hd : ∀ c ∈ ds.take (f + 60 * j), isDg c = true := fun c hc => h c (List.mem_of_mem_take hc)
    have hd2 : ∀ c ∈ (ds.drop (f + 60 * j)).take 60, isDg c = true := fun c hc => h c (List.mem_of_mem_drop (List.mem_of_mem_take hc))
    have l2 : ((ds.drop (f + 60 * j)).take 60).length = 60 := by rw [List.length_take, List.length_drop]; omega
    have hi := int_dg hd2 (by intro z; rw [z] at l2; cases l2) (by omega)
    have hv := val_lt _ hd
    have hm : okMul ((val (ds.take (f + 60 * j)) : Nat) : Int) (P : Int) = true := by
      refine okMul_b ?_ lP
      show (val (ds.take (f + 60 * j))).log2 < 3000
      have := log_lt hv (by rw [List.length_take]; omega)
      omega
    have st := num_step C E ds fi (val (ds.take (f + 60 * j))) (f + 60 * j) _ P hl hP hm hi
    have ev : val (ds.take (f + 60 * j)) * P + val ((ds.drop (f + 60 * j)).take 60) = val (ds.take (f + 60 * (j + 1))) := by
      have e5 : ds.take (f + 60 * (j + 1)) = ds.take (f + 60 * j) ++ (ds.drop (f + 60 * j)).take 60 := by rw [show f + 60 * (j + 1) = (f + 60 * j) + 60 by omega]; exact List.take_add
      rw [e5, val_app, l2, eP]
    rw [ev] at st
    have es : ((f : Int) + (j : Int) * 60) = ((f + 60 * j : Nat) : Int) := by omega
    rw [List.range'_succ, List.map_cons, es]
    rw [forD1 _ _ _ _ _ _ _ rfl st]
    obtain ⟨o', e⟩ := ih (j + 1) (some (.int ((f + 60 * j : Nat) : Int))) (by omega)
    exact ⟨o', by rw [show j + (N + 1) = j + 1 + N by omega]; exact e⟩
theorem num_cond (C : Orc) (ds : List Nat) (h : ∀ c ∈ ds, isDg c = true) (hl : ds.length ≤ 480) (r : Rho) : ev C (.or (.cmp .Eq (.v 0) (.k (.str ""))) (.and (.cmp .Eq (.ix (.v 0) (.k (.int 0))) (.k (.str "0"))) (.cmp .NotEq (.v 0) (.k (.str "0"))))) (some (.str (tx ds)) :: r) = some (.bool (!can ds)) := by
  have a := asc_dg h
  have e1 := eq_tx a (b := []) (fun _ h => nomatch h)
  have e3 := ne_tx a (b := [48]) (asc1 (by decide))
  rw [q0, q48]
  cases ds with
  | nil =>
    simp only [u_or, u_cmp, u_v, u_vr0, u_k, e1, decide_true]
    rfl
  | cons c ds =>
    have e0 := at_tx (cs := c :: ds) (p := 0) (by simp) (by omega)
    have e2 := eq_tx (a := [c]) (b := [48]) (asc1 (a c (by simp))) (asc1 (by decide))
    have e0' : ixD (.str (tx (c :: ds))) (.int 0) = some (.str (tx [c])) := e0
    simp only [u_or, u_and, u_cmp, u_v, u_vr0, u_k, u_ix, e1, e0', e2, e3, reduceCtorEq, decide_false, List.cons.injEq, and_true]
    by_cases hc : c = 48
    · subst hc
      cases ds with
      | nil => simp [can]
      | cons x ds => simp [can]
    · simp [can, hc]
theorem val_nought (ds : List Nat) : val (48 :: ds) = val ds := by
  have := val_app [48] ds
  have z : val [48] = 0 := rfl
  rw [z] at this
  simpa using this
theorem numof_yes (ds : List Nat) (h : ∀ c ∈ ds, isDg c = true) (hl : ds.length ≤ 480) (hc : can ds = true) (n : Nat) : callN tb (n + 1) "number_of" [.str (tx ds)] = some (.int ((val ds : Nat) : Int)) := by
  rw [c_number_of, u_run _ _ _ rfl]
  have o : okLen (tx ds).length = true := okLen_of (by rw [tx_len]; omega)
  have o' : okLen ds.length = true := okLen_of (by omega)
  have c0 := num_cond (callN tb n) ds h hl [none, none, none]
  rw [hc] at c0
  have ht : ∀ c ∈ 48 :: ds.take (ds.length % 60), isDg c = true := by
    intro c hc
    rcases List.mem_cons.mp hc with rfl | hc
    · rfl
    · exact h c (List.mem_of_mem_take hc)
  have i0 := int_dg ht (by simp) (by simp only [List.length_cons, List.length_take]; omega)
  rw [val_nought] at i0
  have ec : cutS (tx ds) none (some ((ds.length : Int) % 60)) = tx (ds.take (ds.length % 60)) := by
    have := cut_to ds (ds.length % 60)
    have e : ((ds.length % 60 : Nat) : Int) = (ds.length : Int) % 60 := by omega
    rw [e] at this
    exact this
  have o2 : okLen (("0" : Str).length + (tx (ds.take (ds.length % 60))).length) = true := okLen_of (by
    rw [tx_len, List.length_take]
    have : ("0" : Str).length = 1 := rfl
    omega)
  have ea : ("0" : Str) ++ tx (ds.take (ds.length % 60)) = tx (48 :: ds.take (ds.length % 60)) := by rw [q48, tx_app]; rfl
  have er : rngS ((ds.length : Int) % 60) (ds.length : Int) 60 = (List.range' 0 (ds.length / 60)).map fun (k : Nat) => PyData.int (((ds.length % 60 : Nat) : Int) + (k : Int) * 60) := by
    unfold rngS
    rw [List.range_eq_range']
    have e1 : rngN ((ds.length : Int) % 60) (ds.length : Int) 60 = ds.length / 60 := by
      unfold rngN
      split <;> omega
    rw [e1]
    rfl
  have ok : PL.okS ((ds.length : Int) % 60) (ds.length : Int) 60 = true := by
    unfold PL.okS
    refine decide_eq_true ⟨by omega, ?_, by omega, ?_, by omega, by omega⟩
    · have : (2 : Int) ^ 40 = 1099511627776 := by decide
      omega
    · have : (2 : Int) ^ 40 = 1099511627776 := by decide
      omega
  obtain ⟨oo, lp⟩ := num_loop (callN tb n) (callE tb n) ds (some (.int ((ds.length : Int) % 60))) (ds.length % 60) h hl (ds.length / 60) 0 none (by omega)
  rw [show ds.length % 60 + 60 * 0 = ds.length % 60 by omega, show ds.length % 60 + 60 * (0 + ds.length / 60) = ds.length by omega, List.take_length] at lp
  have ef : itD (callN tb n) (.rng3 (.v 1) (.blt .len [(.v 0)]) (.k (.int 60))) [some (.str (tx ds)), some (.int ((ds.length : Int) % 60)), some (.int ((val (ds.take (ds.length % 60)) : Nat) : Int)), none] = some ((List.range' 0 (ds.length / 60)).map fun (k : Nat) => PyData.int (((ds.length % 60 : Nat) : Int) + (k : Int) * 60)) := by
    show rngIt3 (ev (callN tb n) (.v 1)) (ev (callN tb n) (.blt .len [(.v 0)])) (ev (callN tb n) (.k (.int 60))) _ = _
    unfold rngIt3
    simp only [u_v, u_vrS, u_vr0, u_k, u_blt, u_cons, u_nil, u_lenS, tx_len, o', if_true]
    rw [if_pos ok, er]
  have h60 : decide ((0 : Int) < 60) = true := by decide
  have dd : d_number_of.body = [.ife (.or (.cmp .Eq (.v 0) (.k (.str ""))) (.and (.cmp .Eq (.ix (.v 0) (.k (.int 0))) (.k (.str "0"))) (.cmp .NotEq (.v 0) (.k (.str "0"))))) [.raise_ "NoText" [(.k (.str "a number is missing, or has a nought ahead"))]] [], .asg (.one 1) (.bin .Mod (.blt .len [(.v 0)]) (.k (.int 60))), .asg (.one 2) (.blt .int [(.bin .Add (.k (.str "0")) (.sl (.v 0) (.k .none) (.v 1)))]), .for_ (.one 3) (.rng3 (.v 1) (.blt .len [(.v 0)]) (.k (.int 60))) nBody, .ret (.v 2)] := rfl
  have ds0 : startD d_number_of.N [.str (tx ds)] = [some (.str (tx ds)), none, none, none] := rfl
  rw [dd, ds0, u_ssS, u_ifS, c0]
  simp only [Bool.not_true, u_ss0]
  rw [u_ssS, u_asg1]
  simp only [u_bin, u_blt, u_cons, u_nil, u_v, u_vr0, u_lenS, tx_len, o', if_true, u_k, u_modI, h60, List.set]
  rw [u_ssS, u_asg1]
  simp only [u_bin, u_blt, u_cons, u_nil, u_v, u_vr0, u_vrS, u_k, u_sl, u_sl3, u_part0, u_partV, u_partD0, u_partDI, u_slS, o, if_true, ec, u_addS, o2, ea, i0, List.set]
  rw [u_ssS, u_for, ef]
  simp only [lp]
  rfl
theorem numof_no (ds : List Nat) (h : ∀ c ∈ ds, isDg c = true) (hl : ds.length ≤ 480) (hc : can ds = false) (n : Nat) : callE tb (n + 1) "number_of" [.str (tx ds)] = some ("NoText" : Str) := by
  have c0 := num_cond (callN tb n) ds h hl [none, none, none]
  rw [hc] at c0
  rw [x_number_of]
  show (match exsX (callN tb n) (callE tb n) d_number_of.body [some (.str (tx ds)), none, none, none] with
    | some (c, _) => if xs.contains c = true then some c else none
    | none => none) = _
  have e : exsX (callN tb n) (callE tb n) d_number_of.body [some (.str (tx ds)), none, none, none] = some (("NoText" : Str), [some (.str (tx ds)), none, none, none]) := by
    unfold d_number_of
    simp only [x_ssS, x_ife1, c0, Bool.not_false, x_raise1, u_cons, u_nil, u_k]
    rfl
  rw [e]
  exact if_pos (by decide +kernel)

/-! ### what the program asks of trees -/
theorem numof_yesX (ds : List Nat) (h : ∀ c ∈ ds, isDg c = true) (hl : ds.length ≤ 480) (hc : can ds = true) (n : Nat) : callE tb (n + 1) "number_of" [.str (tx ds)] = none := by
  have c0 := num_cond (callN tb n) ds h hl [none, none, none]
  rw [hc] at c0
  rw [x_number_of]
  show (match exsX (callN tb n) (callE tb n) d_number_of.body [some (.str (tx ds)), none, none, none] with
    | some (c, _) => if xs.contains c = true then some c else none
    | none => none) = _
  have e : exsX (callN tb n) (callE tb n) d_number_of.body [some (.str (tx ds)), none, none, none] = none := by
    unfold d_number_of
    have q1 : ∀ (e : PX) (t : Tg) (ss : List PS) (r : Rho), evX (callN tb n) (callE tb n) e r = none → (∀ r', exsX (callN tb n) (callE tb n) ss r' = none) → exsX (callN tb n) (callE tb n) (.asg t e :: ss) r = none := by
      intro e t ss r h1 h2
      rw [x_ssS, x_asg1]
      unfold onX
      rw [h1]
      simp only
      split
      · exact h2 _
      · rfl
    rw [x_ssS, x_ife1, c0]
    simp only [Bool.not_true, x_ss0, u_ifS, c0, u_ss0]
    refine q1 _ _ _ _ rfl fun r1 => q1 _ _ _ _ rfl fun r2 => ?_
    rw [x_ssS]
    show (match ex (callN tb n) (callE tb n) _ r2 with | some (.nx r') => exsX (callN tb n) (callE tb n) [.ret (.v 2)] r' | _ => none) = none
    split
    · rename_i r3 _
      rw [x_ssS, x_ret1]
      unfold onX
      rw [x_v]
      simp only
      split
      · rfl
      · rfl
    · rfl
  rw [e]
theorem UT.lay : ∀ t : UT, t.toD.canLay0 = true
  | .n k => rfl
  | .p a b => by simp [UT.toD, PyData.canLay0, PyData.canLayAll0, UT.lay a, UT.lay b]
  | .t m a b => by simp [UT.toD, PyData.canLay0, PyData.canLayAll0, UT.lay a, UT.lay b]
noncomputable def isN : UT → Bool
  | .n _ => true
  | _ => false
theorem whole_eq (t : UT) (n : Nat) : callN tb (n + 1) "is_whole" [t.toD] = some (.bool (isN t)) := by
  cases t <;> rfl
theorem same_eq (a b : UT) (n : Nat) : callN tb (n + 2) "are_same_number" [a.toD, b.toD] = some (.bool (sameN a b)) := by
  rw [c_are_same_number, u_run _ _ _ rfl]
  have w := whole_eq a n
  cases a with
  | n i =>
    have e : cmpD .Eq (UT.n i).toD b.toD = some (.bool (sameN (.n i) b)) := by
      rw [u_eqD (UT.lay _) (UT.lay _) (Nat.le_trans (Nat.min_le_left _ _) (by show (0 : Nat) ≤ 100; omega))]
      cases b with
      | n j =>
        simp only [UT.toD, PyData.eqv, sameN]
        by_cases h : i = j
        · simp [h]
        · have : ¬ ((i : Int) = (j : Int)) := by omega
          simp [h, this]
      | p c d => simp [UT.toD, PyData.eqv, sameN]
      | t m c d => simp [UT.toD, PyData.eqv, sameN]
    generalize (UT.n i).toD = A at *
    generalize b.toD = B at *
    simp only [isN] at w
    simp [d_are_same_number, startD, w, e]
  | p c d =>
    generalize (UT.p c d).toD = A at *
    simp only [isN] at w
    simp [d_are_same_number, startD, w, sameN]
  | t m c d =>
    generalize (UT.t m c d).toD = A at *
    simp only [isN] at w
    simp [d_are_same_number, startD, w, sameN]
theorem front_eq (t : UT) (h : UT.ok true t = true) (n : Nat) : callN tb (n + 2) "front" [t.toD] = some (.int (t.front : Int)) := by
  cases t with
  | n k => rfl
  | p a b => simp [UT.ok] at h
  | t m a b => rfl
theorem halves_eq (a b : UT) (ha : UT.ok true a = true) (hb : UT.ok true b = true) (n : Nat) : callN tb (n + 3) "are_plain_halves" [a.toD, b.toD] = some (.bool (!sameN a b && decide (min a.front b.front = 0))) := by
  rw [c_are_plain_halves, u_run _ _ _ rfl]
  have e1 := same_eq a b n
  have e2 := front_eq a ha n
  have e3 := front_eq b hb n
  generalize a.toD = A at *
  generalize b.toD = B at *
  generalize sameN a b = s at *
  generalize a.front = i at *
  generalize b.front = j at *
  have q : decide ((if (j : Int) < (i : Int) then (j : Int) else (i : Int)) = 0) = decide (min i j = 0) := by
    by_cases h : min i j = 0
    · rw [decide_eq_true h]; exact decide_eq_true (by split <;> omega)
    · rw [decide_eq_false h]; exact decide_eq_false (by split <;> omega)
  cases s with
  | true => simp [d_are_plain_halves, startD, e1]
  | false =>
    simp only [d_are_plain_halves, startD]
    simp only [u_ssS, u_ret, u_and, u_not, u_call, u_cons, u_nil, u_v, u_cmp, u_blt, u_k, List.map_cons, List.map_nil, List.length_cons, List.length_nil, List.cons_append, List.nil_append, List.replicate, u_vr0, u_vrS, e1, e2, e3, u_min, u_eqI, q, Bool.not_false, Bool.true_and, u_outRt]
theorem pair_eq (l : List UT) (n : Nat) : callN tb (n + 3) "is_plain_pair" [.tuple (l.map UT.toD)] = some (.bool (mk false l).isSome) := by
  rw [c_is_plain_pair, u_run _ _ _ rfl]
  match l with
  | [] => rfl
  | [a] => rfl
  | [a, b] =>
    have e := same_eq a b n
    have em : (mk false [a, b]).isSome = !sameN a b := by
      show (if (!false && !sameN a b) = true then some (UT.p a b) else none).isSome = _
      cases sameN a b <;> rfl
    rw [em]
    simp only [List.map_cons, List.map_nil]
    generalize a.toD = A at *
    generalize b.toD = B at *
    generalize sameN a b = s at *
    simp [d_is_plain_pair, startD, at0, at1, e]
  | a :: b :: c :: l =>
    have em : (mk false (a :: b :: c :: l)).isSome = false := by
      unfold mk
      split
      · rename_i h; simp at h
      · rename_i h; simp
      · rfl
    rw [em]
    have h2 : ¬ ((l.length : Int) + 1 + 1 + 1 = 2) := by omega
    simp only [List.map_cons]
    generalize a.toD = A at *
    generalize b.toD = B at *
    generalize c.toD = D at *
    simp [d_is_plain_pair, startD, h2]
theorem triple_eq (l : List UT) (ho : ∀ t ∈ l, UT.ok true t = true) (n : Nat) : callN tb (n + 4) "is_plain_triple" [.tuple (l.map UT.toD)] = some (.bool (mk true l).isSome) := by
  rw [c_is_plain_triple, u_run _ _ _ rfl]
  match l, ho with
  | [], _ => rfl
  | [a], _ => rfl
  | [a, b], _ => rfl
  | [x, a, b], ho =>
    have w := whole_eq x (n + 2)
    have e := halves_eq a b (ho a (by simp)) (ho b (by simp)) n
    cases x with
    | n m =>
      have em : (mk true [.n m, a, b]).isSome = (!sameN a b && decide (min a.front b.front = 0)) := by
        show (if (true && (!sameN a b && decide (min a.front b.front = 0))) = true then some (UT.t m a b) else none).isSome = _
        rw [Bool.true_and]
        cases (!sameN a b && decide (min a.front b.front = 0)) <;> rfl
      rw [em]
      generalize (!sameN a b && decide (min a.front b.front = 0)) = s at *
      simp only [List.map_cons, List.map_nil]
      simp only [isN] at w
      generalize (UT.n m).toD = X at *
      generalize a.toD = A at *
      generalize b.toD = B at *
      simp [d_is_plain_triple, startD, at0, at1, at2, w, e]
    | p c d =>
      have em : (mk true [.p c d, a, b]).isSome = false := rfl
      rw [em]
      simp only [List.map_cons, List.map_nil]
      simp only [isN] at w
      generalize (UT.p c d).toD = X at *
      simp [d_is_plain_triple, startD, at0, w]
    | t m c d =>
      have em : (mk true [.t m c d, a, b]).isSome = false := rfl
      rw [em]
      simp only [List.map_cons, List.map_nil]
      simp only [isN] at w
      generalize (UT.t m c d).toD = X at *
      simp [d_is_plain_triple, startD, at0, w]
  | a :: b :: c :: d :: l, _ =>
    have em : (mk true (a :: b :: c :: d :: l)).isSome = false := by
      unfold mk
      split
      · rename_i h; simp at h
      · rename_i h; simp at h
      · rfl
    rw [em]
    have h2 : ¬ ((l.length : Int) + 1 + 1 + 1 + 1 = 3) := by omega
    simp only [List.map_cons]
    generalize a.toD = A at *
    generalize b.toD = B at *
    generalize c.toD = C at *
    generalize d.toD = D at *
    simp [d_is_plain_triple, startD, h2]
theorem mk_toD {K : Bool} {l : List UT} {t : UT} (h : mk K l = some t) : t.toD = .tuple (l.map UT.toD) := by
  unfold mk at h
  split at h
  · split at h
    · injection h with h; subst h; rfl
    · cases h
  · split at h
    · injection h with h; subst h; rfl
    · cases h
  · cases h
theorem asked_yes (f : Str) (d : PyData) (n : Nat) (h : callN tb n f [d] = some (.bool true)) : callN tb (n + 1) "asked" [d, fnD f] = some d ∧ callE tb (n + 1) "asked" [d, fnD f] = none := by
  have e : ev (callN tb n) (.not (.callv (.v 1) [(.v 0)])) [some d, some (fnD f)] = some (.bool false) := by
    rw [u_not]
    show (match callN tb n f [d] with | some (.bool b) => some (PyData.bool (!b)) | _ => none) = _
    rw [h]; rfl
  constructor
  · rw [c_asked, u_run _ _ _ rfl]
    show outD (exs (callN tb n) (callE tb n) d_asked.body [some d, some (fnD f)]) = _
    simp only [d_asked, u_ssS, u_ifS, e, u_ss0, u_ret, u_v, u_vr0, u_outRt]
  · rw [x_asked]
    show (match exsX (callN tb n) (callE tb n) d_asked.body [some d, some (fnD f)] with
      | some (c, _) => if xs.contains c = true then some c else none
      | none => none) = _
    simp only [d_asked, x_ssS, x_ife1, e, x_ss0, u_ifS, u_ss0, x_ret1, onX, x_v, u_ret, u_v, u_vr0]
theorem asked_no (f : Str) (d : PyData) (n : Nat) (h : callN tb n f [d] = some (.bool false)) : callE tb (n + 1) "asked" [d, fnD f] = some ("NoText" : Str) := by
  have e : ev (callN tb n) (.not (.callv (.v 1) [(.v 0)])) [some d, some (fnD f)] = some (.bool true) := by
    rw [u_not]
    show (match callN tb n f [d] with | some (.bool b) => some (PyData.bool (!b)) | _ => none) = _
    rw [h]; rfl
  rw [x_asked]
  show (match exsX (callN tb n) (callE tb n) d_asked.body [some d, some (fnD f)] with
    | some (c, _) => if xs.contains c = true then some c else none
    | none => none) = _
  have e2 : exsX (callN tb n) (callE tb n) d_asked.body [some d, some (fnD f)] = some (("NoText" : Str), [some d, some (fnD f)]) := by
    simp only [d_asked, x_ssS, x_ife1, e, x_raise1, u_cons, u_nil, u_k]
    rfl
  rw [e2]
  exact if_pos (by decide +kernel)
noncomputable def feD (K : Bool) : Str := if K then "is_count" else "is_part"
noncomputable def fpD (K : Bool) : Str := if K then "is_plain_triple" else "is_plain_pair"
theorem end_eq (K : Bool) (m n : Nat) : callN tb (n + 2) (feD K) [.int (m : Int)] = some (.bool (UT.ok K (.n m))) := by
  have w := whole_eq (.n m) n
  simp only [UT.toD, isN] at w
  cases K with
  | true =>
    show callN tb (n + 2) "is_count" _ = _
    rw [c_is_count, u_run _ _ _ rfl]
    have h : (0 : Int) ≤ (m : Int) := by omega
    simp [d_is_count, startD, w, h, UT.ok]
  | false =>
    show callN tb (n + 2) "is_part" _ = _
    rw [c_is_part, u_run _ _ _ rfl]
    simp [d_is_part, startD, w, UT.ok]
    by_cases h : m = 0
    · simp [h]
    · have h' : ¬ ((m : Int) = 0) := by omega
      simp [h]
      by_cases h2 : m = 1
      · simp [h2]
      · have h3 : ¬ ((m : Int) = 1) := by omega
        simp [h3]
        omega
theorem pl_eq (K : Bool) (l : List UT) (ho : ∀ t ∈ l, UT.ok K t = true) (n : Nat) : callN tb (n + 4) (fpD K) [.tuple (l.map UT.toD)] = some (.bool (mk K l).isSome) := by
  cases K with
  | true => exact triple_eq l ho n
  | false => exact pair_eq l (n + 1)

/-! ### the program's reader of a tree -/
noncomputable def y1 : PX := .cmp .Eq (.call "sign_at" [(.v 0), (.v 4)]) (.k (.str "("))
noncomputable def y2 : PX := .bin .Add (.v 4) (.k (.int 1))
noncomputable def y3 : PX := .call "figures_end" [(.v 0), (.v 4)]
noncomputable def y4 : PX := .call "asked" [(.call "number_of" [(.sl (.v 0) (.v 4) (.v 5))]), (.v 1)]
noncomputable def y5 : PX := .v 5
noncomputable def y6 : PX := .cmp .Eq (.call "sign_at" [(.v 0), (.v 4)]) (.k (.str ")"))
noncomputable def y7 : PX := .cmp .NotEq (.call "sign_at" [(.v 0), (.v 4)]) (.k (.str ","))
noncomputable def y8 : PX := .cmp .NotEq (.v 4) (.blt .len [(.v 0)])
theorem tree_body : d_tree_of.body = [.hand (trF (.k (.int 0)) y1 y2 y3 y4 y5 y6 y7 y8 "NoText" 1000000 1000000) (trX (.k (.int 0)) y1 y2 y3 y4 y5 y6 y7 y8 "NoText" 1000000 1000000)] := rfl
theorem sgn_eq (c : Nat) (hc : c < 128) (q : Str) (hq : q = tx [c]) (cs : List Nat) (ha : asc cs) (hl : cs.length ≤ 480) (n p : Nat) (a b : PyData) (e t : Option PyData) :
    ev (callN tb (n + 1)) (.cmp .Eq (.call "sign_at" [(.v 0), (.v 4)]) (.k (.str q))) (RR (tx cs) a b p e t) = some (.bool (hd c (cs.drop p))) ∧ ev (callN tb (n + 1)) (.cmp .NotEq (.call "sign_at" [(.v 0), (.v 4)]) (.k (.str q))) (RR (tx cs) a b p e t) = some (.bool (!hd c (cs.drop p))) := by
  have s := sign_eq cs (by omega) p n
  have e1 : ev (callN tb (n + 1)) (.call "sign_at" [(.v 0), (.v 4)]) (RR (tx cs) a b p e t) = some (.str (tx ((cs.drop p).take 1))) := s
  have aa := asc_take (asc_drop ha p) 1
  subst hq
  rw [u_cmp, u_cmp, e1]
  simp only [u_k]
  rw [eq_tx aa (asc1 hc), ne_tx aa (asc1 hc), hd_take]
  exact ⟨rfl, rfl⟩
theorem dgt_cut (cs : List Nat) (p : Nat) : (cs.drop p).take (p + (dgt (cs.drop p)).length - p) = dgt (cs.drop p) := by
  rw [show p + (dgt (cs.drop p)).length - p = (dgt (cs.drop p)).length by omega]
  have e := dgt_rst (cs.drop p)
  have : (dgt (cs.drop p) ++ rst (cs.drop p)).take (dgt (cs.drop p)).length = dgt (cs.drop p) := List.take_left
  rwa [e] at this
theorem mok (K : Bool) (cs : List Nat) (ha : asc cs) (hl : cs.length ≤ 480) (n : Nat) : MOk (prm (callN tb (n + 6)) (callE tb (n + 6)) y1 y2 y3 y4 y5 y6 y7 "NoText") K cs (fnD (feD K)) (fnD (fpD K)) := by
  have o : okLen (tx cs).length = true := okLen_of (by rw [tx_len]; omega)
  have hd0 : ∀ p, (dgt (cs.drop p)).length ≤ 480 := fun p => by
    have := congrArg List.length (dgt_rst (cs.drop p))
    rw [List.length_append, List.length_drop] at this
    omega
  have e0 : ∀ p t, evs (callN tb (n + 6)) [(.sl (.v 0) (.v 4) (.v 5))] (RR (tx cs) (fnD (feD K)) (fnD (fpD K)) p (some (.int ((p + (dgt (cs.drop p)).length : Nat) : Int))) t) = some [.str (tx (dgt (cs.drop p)))] := fun p t => by
    unfold RR
    simp only [u_cons, u_nil, u_sl, u_sl3, u_v, u_vrS, u_vr0, u_partV, u_partDI, u_slS, o, if_true, cutT, dgt_cut]
  have en : ∀ p t, ev (callN tb (n + 6)) (.call "number_of" [(.sl (.v 0) (.v 4) (.v 5))]) (RR (tx cs) (fnD (feD K)) (fnD (fpD K)) p (some (.int ((p + (dgt (cs.drop p)).length : Nat) : Int))) t) = callN tb (n + 6) "number_of" [.str (tx (dgt (cs.drop p)))] := fun p t => by
    rw [u_call, e0]
  have ex0 : ∀ p t, evX (callN tb (n + 6)) (callE tb (n + 6)) (.call "number_of" [(.sl (.v 0) (.v 4) (.v 5))]) (RR (tx cs) (fnD (feD K)) (fnD (fpD K)) p (some (.int ((p + (dgt (cs.drop p)).length : Nat) : Int))) t) = callE tb (n + 6) "number_of" [.str (tx (dgt (cs.drop p)))] := fun p t => by
    rw [x_call1, e0]
    have : evsX (callN tb (n + 6)) (callE tb (n + 6)) [(.sl (.v 0) (.v 4) (.v 5))] (RR (tx cs) (fnD (feD K)) (fnD (fpD K)) p (some (.int ((p + (dgt (cs.drop p)).length : Nat) : Int))) t) = none := by
      rw [x_esS, x_sl]
      simp only [x_es0]
      split <;> rfl
    rw [this]
  have v1 : ∀ p e t, ev (callN tb (n + 6)) (.v 1) (RR (tx cs) (fnD (feD K)) (fnD (fpD K)) p e t) = some (fnD (feD K)) := fun p e t => rfl
  have ey : ∀ p t m, callN tb (n + 6) "number_of" [.str (tx (dgt (cs.drop p)))] = some m → evs (callN tb (n + 6)) [(.call "number_of" [(.sl (.v 0) (.v 4) (.v 5))]), (.v 1)] (RR (tx cs) (fnD (feD K)) (fnD (fpD K)) p (some (.int ((p + (dgt (cs.drop p)).length : Nat) : Int))) t) = some [m, fnD (feD K)] := fun p t m h => by
    rw [u_cons, en, h]
    simp only [u_cons, v1, u_nil]
  refine ⟨fun p e t => (sgn_eq 40 (by decide) _ q40 cs ha hl _ p _ _ e t).1, fun p e t => ?_, fun p e t => ?_, fun p t hn => ?_, fun p t hn => ?_, fun p q t => rfl, fun p e t => (sgn_eq 41 (by decide) _ q41 cs ha hl _ p _ _ e t).1, fun l ho hm => ?_, fun l t' ho hm => ?_, fun p e t => (sgn_eq 44 (by decide) _ q44 cs ha hl _ p _ _ e t).2, rfl⟩
  · show ev (callN tb (n + 6)) y2 (RR (tx cs) (fnD (feD K)) (fnD (fpD K)) p e t) = _
    unfold y2 RR
    simp only [u_bin, u_v, u_vrS, u_vr0, u_k, u_addI]
    rfl
  · exact fend_eq cs (by omega) p (n + 5)
  · show evX (callN tb (n + 6)) (callE tb (n + 6)) y4 _ = _
    unfold y4
    rw [x_call1, x_esS, ex0]
    unfold numOk at hn
    cases hc : can (dgt (cs.drop p)) with
    | false =>
      rw [numof_no _ (dgt_all _) (hd0 p) hc]
      rfl
    | true =>
      rw [hc, Bool.true_and] at hn
      have y := numof_yes _ (dgt_all (cs.drop p)) (hd0 p) hc (n + 5)
      rw [numof_yesX _ (dgt_all _) (hd0 p) hc, en, y, ey p t _ y]
      have z : evsX (callN tb (n + 6)) (callE tb (n + 6)) [(.v 1)] (RR (tx cs) (fnD (feD K)) (fnD (fpD K)) p (some (.int ((p + (dgt (cs.drop p)).length : Nat) : Int))) t) = none := by
        rw [x_esS, x_v]
        simp only [x_es0]
        split <;> rfl
      have q := end_eq K (val (dgt (cs.drop p))) (n + 3)
      rw [hn] at q
      have := asked_no (feD K) _ _ q
      simp only [z]
      exact this
  · unfold numOk at hn
    rw [Bool.and_eq_true] at hn
    obtain ⟨hc, hn⟩ := hn
    have y := numof_yes _ (dgt_all (cs.drop p)) (hd0 p) hc (n + 5)
    have q := end_eq K (val (dgt (cs.drop p))) (n + 3)
    rw [hn] at q
    obtain ⟨a1, a2⟩ := asked_yes (feD K) _ _ q
    have z : evsX (callN tb (n + 6)) (callE tb (n + 6)) [(.v 1)] (RR (tx cs) (fnD (feD K)) (fnD (fpD K)) p (some (.int ((p + (dgt (cs.drop p)).length : Nat) : Int))) t) = none := by
      rw [x_esS, x_v]
      simp only [x_es0]
      split <;> rfl
    constructor
    · show evX (callN tb (n + 6)) (callE tb (n + 6)) y4 _ = _
      unfold y4
      rw [x_call1, x_esS, ex0, numof_yesX _ (dgt_all _) (hd0 p) hc, en, y, ey p t _ y]
      simp only [z]
      exact a2
    · show ev (callN tb (n + 6)) y4 _ = _
      unfold y4
      rw [u_call, ey p t _ y]
      exact a1
  · have q := pl_eq K l ho (n + 1)
    rw [hm] at q
    exact asked_no (fpD K) _ _ q
  · have q := pl_eq K l ho (n + 1)
    rw [hm] at q
    obtain ⟨a1, a2⟩ := asked_yes (fpD K) _ _ q
    exact ⟨a2, by rw [mk_toD hm]; exact a1⟩
theorem end_len (cs : List Nat) (hl : cs.length ≤ 480) (p : Nat) (hp : p ≤ cs.length) (C : Orc) (a b : PyData) (e t : Option PyData) : ev C y8 (RR (tx cs) a b p e t) = some (.bool (!(cs.drop p).isEmpty)) := by
  have o : okLen cs.length = true := okLen_of (by omega)
  unfold y8 RR
  simp only [u_cmp, u_v, u_vrS, u_vr0, u_blt, u_cons, u_nil, u_lenS, tx_len, o, if_true, u_neI]
  by_cases h : p = cs.length
  · subst h
    simp
  · have h1 : ¬ ((p : Int) = (cs.length : Int)) := by omega
    have h2 : (cs.drop p).isEmpty = false := by
      rw [List.isEmpty_eq_false_iff]
      intro z
      have := congrArg List.length z
      rw [List.length_drop, List.length_nil] at this
      omega
    rw [decide_eq_false h1, h2]
theorem tree_out (K : Bool) (cs : List Nat) (ha : asc cs) (hl : cs.length ≤ 480) (n : Nat) :
    (∃ t : UT, UT.ok K t = true ∧ cs = t.w ∧ callN tb (n + 7) "tree_of" [.str (tx cs), fnD (feD K), fnD (fpD K)] = some t.toD ∧ callE tb (n + 7) "tree_of" [.str (tx cs), fnD (feD K), fnD (fpD K)] = none) ∨
    ((∀ t : UT, UT.ok K t = true → cs ≠ t.w) ∧ callN tb (n + 7) "tree_of" [.str (tx cs), fnD (feD K), fnD (fpD K)] = none ∧ callE tb (n + 7) "tree_of" [.str (tx cs), fnD (feD K), fnD (fpD K)] = some ("NoText" : Str)) := by
  have m := mok K cs ha hl n
  have r := run3 m 1000000 (by decide) 1000000 [] 0 none none (Nat.zero_le _) (by simp only [sz, List.drop_zero]; omega) (fun _ h => nomatch h)
  rw [List.drop_zero] at r
  have c1 : callN tb (n + 7) "tree_of" [.str (tx cs), fnD (feD K), fnD (fpD K)] = outD (exs (callN tb (n + 6)) (callE tb (n + 6)) d_tree_of.body [some (.str (tx cs)), some (fnD (feD K)), some (fnD (fpD K)), none, none, none, none]) := by
    rw [c_tree_of, u_run _ _ _ rfl]
    rfl
  have c2 : callE tb (n + 7) "tree_of" [.str (tx cs), fnD (feD K), fnD (fpD K)] = (match exsX (callN tb (n + 6)) (callE tb (n + 6)) d_tree_of.body [some (.str (tx cs)), some (fnD (feD K)), some (fnD (fpD K)), none, none, none, none] with
    | some (c, _) => if xs.contains c = true then some c else none
    | none => none) := by
    rw [x_tree_of]
    rfl
  rw [tree_body] at c1 c2
  rw [u_ssS] at c1
  rw [x_ssS] at c2
  have h1 : ∀ C D r, ex C D (.hand (trF (.k (.int 0)) y1 y2 y3 y4 y5 y6 y7 y8 "NoText" 1000000 1000000) (trX (.k (.int 0)) y1 y2 y3 y4 y5 y6 y7 y8 "NoText" 1000000 1000000)) r = trF (.k (.int 0)) y1 y2 y3 y4 y5 y6 y7 y8 "NoText" 1000000 1000000 C D r := fun _ _ _ => rfl
  have h2 : ∀ C D r, exX C D (.hand (trF (.k (.int 0)) y1 y2 y3 y4 y5 y6 y7 y8 "NoText" 1000000 1000000) (trX (.k (.int 0)) y1 y2 y3 y4 y5 y6 y7 y8 "NoText" 1000000 1000000)) r = trX (.k (.int 0)) y1 y2 y3 y4 y5 y6 y7 y8 "NoText" 1000000 1000000 C D r := fun _ _ _ => rfl
  rw [h1] at c1 c2
  rw [h2] at c2
  have ea : mAll (prm (callN tb (n + 6)) (callE tb (n + 6)) y1 y2 y3 y4 y5 y6 y7 "NoText") (ev (callN tb (n + 6)) (.k (.int 0))) (ev (callN tb (n + 6)) y8) 1000000 1000000 [some (.str (tx cs)), some (fnD (feD K)), some (fnD (fpD K)), none, none, none, none] = (match mW (prm (callN tb (n + 6)) (callE tb (n + 6)) y1 y2 y3 y4 y5 y6 y7 "NoText") 1000000 1000000 [] (RR (tx cs) (fnD (feD K)) (fnD (fpD K)) 0 none none) with
      | some (.inl c) => some (.inl c)
      | some (.inr r') => match ev (callN tb (n + 6)) y8 r' with
        | some (.bool true) => some (.inl "NoText")
        | some (.bool false) => match vr 6 r' with
          | some t => some (.inr t)
          | none => none
        | _ => none
      | none => none) := by
    unfold mAll
    rw [if_pos (show (noR [some (.str (tx cs)), some (fnD (feD K)), some (fnD (fpD K)), none, none, none, none] && is3 [some (.str (tx cs)), some (fnD (feD K)), some (fnD (fpD K)), none, none, none, none]) = true from rfl)]
    rw [u_k]
    simp only
    rw [if_pos (show noL (.int 0) = true from rfl)]
    rfl
  unfold trF at c1 c2
  unfold trX at c2
  rw [ea] at c1 c2
  obtain ⟨o, ho⟩ := goN_some K 1000000 [] cs (by omega)
  have no : (∀ t : UT, UT.ok K t = true → cs = t.w → o = some (t, [])) := fun t ht e => by
    have := read_all t ht 1000000 (by rw [← e]; omega)
    rw [← e, ho] at this
    injection this
  rw [ho] at r
  have e0 : stD [] = [] := rfl
  cases o with
  | none =>
    simp only [e0] at r
    rw [r] at c1 c2
    refine .inr ⟨fun t ht e => (by have z := no t ht e; cases z), ?_, ?_⟩
    · rw [c1]; rfl
    · rw [c2]
      exact if_pos (by decide +kernel)
  | some x =>
    obtain ⟨t, u⟩ := x
    simp only [e0] at r
    obtain ⟨p', e', r1, r2, r3⟩ := r
    have el := end_len cs hl p' r3 (callN tb (n + 6)) (fnD (feD K)) (fnD (fpD K)) e' (some t.toD)
    rw [r2] at el
    obtain ⟨k1, k2⟩ := go_only 1000000 [] cs (fun _ h => nomatch h) ho
    rw [r1] at c1 c2
    simp only [el] at c1 c2
    cases u with
    | nil =>
      refine .inl ⟨t, k1, ?_, ?_, ?_⟩
      · rw [List.append_nil] at k2; exact k2
      · rw [c1]; rfl
      · rw [c2]; rfl
    | cons c u =>
      refine .inr ⟨fun t ht e => (by have z := no t ht e; cases z), ?_, ?_⟩
      · rw [c1]; rfl
      · rw [c2]
        exact if_pos (by decide +kernel)

/-! ### read -/
theorem w_mem : ∀ (t : UT) (c : Nat), c ∈ t.w → isDg c = true ∨ c = 40 ∨ c = 41 ∨ c = 44
  | .n k, c, h => .inl (dg_all k c h)
  | .p a b, c, h => by
    simp only [UT.w, List.mem_cons, List.mem_append, List.not_mem_nil, or_false] at h
    rcases h with h | h | h | h | h
    · exact .inr (.inl h)
    · exact w_mem a c h
    · exact .inr (.inr (.inr h))
    · exact w_mem b c h
    · exact .inr (.inr (.inl h))
  | .t m a b, c, h => by
    simp only [UT.w, List.mem_cons, List.mem_append, List.not_mem_nil, or_false] at h
    rcases h with h | h | h | h | h | h | h
    · exact .inr (.inl h)
    · exact .inl (dg_all m c h)
    · exact .inr (.inr (.inr h))
    · exact w_mem a c h
    · exact .inr (.inr (.inr h))
    · exact w_mem b c h
    · exact .inr (.inr (.inl h))
theorem w_blank (t : UT) : 32 ∉ t.w := fun h => by
  rcases w_mem t 32 h with h | h | h | h
  · exact absurd h (by decide)
  · cases h
  · cases h
  · cases h
theorem w_asc (t : UT) : asc t.w := fun c h => by
  rcases w_mem t c h with h | h | h | h
  · have : 48 ≤ c ∧ c ≤ 57 := of_decide_eq_true h
    omega
  · omega
  · omega
  · omega
theorem w_ne : ∀ t : UT, t.w ≠ []
  | .n k => dg_ne k
  | .p a b => fun h => nomatch h
  | .t m a b => fun h => nomatch h
theorem blank_one : ∀ {a b a' b' : List Nat}, 32 ∉ a → 32 ∉ a' → a ++ 32 :: b = a' ++ 32 :: b' → a = a' ∧ b = b'
  | [], b, [], b', _, _, h => by injection h with _ h; exact ⟨rfl, h⟩
  | [], b, c :: a', b', _, h2, h => by
    injection h with h _
    exact absurd (by rw [← h]; simp) h2
  | c :: a, b, [], b', h1, _, h => by
    injection h with h _
    exact absurd (by rw [h]; simp) h1
  | c :: a, b, c' :: a', b', h1, h2, h => by
    injection h with h0 h
    obtain ⟨x, y⟩ := blank_one (fun z => h1 (by simp [z])) (fun z => h2 (by simp [z])) h
    exact ⟨by rw [h0, x], y⟩
theorem at32 (cs : List Nat) (i : Nat) : StrLaws.At (tx cs) (tx [32]) (tx cs).length i ↔ hd 32 (cs.drop i) = true := by
  have l1 : (tx [32]).length = 1 := rfl
  have ex : ((tx cs).cps.extract i (i + 1)).toList = (cs.drop i).take 1 := by
    rw [Array.toList_extract, List.extract_eq_take_drop, tx_cps, show i + 1 - i = 1 by omega]
  constructor
  · intro ⟨h1, h2⟩
    have h3 : ((tx cs).cps.extract i (i + (tx [32]).length) == (tx [32]).cps) = true := h2
    rw [l1] at h3
    have h4 : (tx cs).cps.extract i (i + 1) = (tx [32]).cps := eq_of_beq h3
    rw [h4] at ex
    rw [← hd_take, ← ex]
    rfl
  · intro h
    have hl := (drop1 h).1
    refine ⟨by rw [l1, tx_len]; omega, ?_⟩
    show ((tx cs).cps.extract i (i + (tx [32]).length) == (tx [32]).cps) = true
    rw [l1]
    have h4 : (tx cs).cps.extract i (i + 1) = (tx [32]).cps := by
      rw [← hd_take] at h
      have h5 : (cs.drop i).take 1 = [32] := of_decide_eq_true h
      rw [h5] at ex
      exact Array.toList_inj.mp ex
    rw [h4]
    exact beq_self_eq_true _
theorem part_tx (cs : List Nat) : (32 ∉ cs ∧ Txt.partition (tx cs) (tx [32]) = (tx cs, tx [], tx [])) ∨ ∃ a b, cs = a ++ 32 :: b ∧ 32 ∉ a ∧ Txt.partition (tx cs) (tx [32]) = (tx a, tx [32], tx b) := by
  rcases partition_whole (tx cs) (tx [32]) with ⟨h1, h2⟩ | ⟨i, h1, h2, h3⟩
  · refine .inl ⟨fun hm => ?_, h1⟩
    obtain ⟨a, b, e⟩ := List.append_of_mem hm
    refine h2 a.length ((at32 cs a.length).mpr ?_)
    rw [e, List.drop_left]
    rfl
  · have h4 := (at32 cs i).mp h2
    have h5 := hd_tail h4
    have h6 := (drop1 h4).2
    have l1 : (tx [32]).length = 1 := rfl
    refine .inr ⟨cs.take i, cs.drop (i + 1), ?_, fun hm => ?_, ?_⟩
    · rw [h6, ← h5, List.take_append_drop]
    · obtain ⟨k, hk, e⟩ := List.getElem_of_mem hm
      rw [List.length_take] at hk
      have hk' : k < i := by omega
      refine h3 k hk' ((at32 cs k).mpr ?_)
      rw [List.getElem_take] at e
      rw [get_drop (by omega), e]
      rfl
    · rw [h1, l1]
      have e1 : Builtin.Str.strSub (tx cs) 0 i = tx (cs.take i) := by
        rw [str_tx (Builtin.Str.strSub (tx cs) 0 i)]
        congr 1
        show ((tx cs).cps.extract 0 i).toList = _
        rw [Array.toList_extract, List.extract_eq_take_drop, tx_cps]
        rfl
      have e2 : Builtin.Str.strSub (tx cs) (i + 1) (tx cs).length = tx (cs.drop (i + 1)) := by
        rw [str_tx (Builtin.Str.strSub (tx cs) (i + 1) (tx cs).length)]
        congr 1
        show ((tx cs).cps.extract (i + 1) (tx cs).length).toList = _
        rw [Array.toList_extract, List.extract_eq_take_drop, tx_cps, tx_len, List.take_of_length_le (by rw [List.length_drop]; exact Nat.le_refl _)]
      rw [e1, e2]
theorem read_body (cs : List Nat) (a b : List Nat) (S : Str) (hp : Txt.partition (tx cs) (tx [32]) = (tx a, S, tx b)) (ha : asc a) (hb : asc b) (la : a.length ≤ 480) (lb : b.length ≤ 480) (hl : cs.length ≤ 480) (n : Nat) :
    (∃ s t : UT, UT.ok false s = true ∧ UT.ok true t = true ∧ a = s.w ∧ b = t.w ∧ callN tb (n + 8) "read" [.str (tx cs)] = some (.tuple [s.toD, t.toD])) ∨
    ((∀ s t : UT, UT.ok false s = true → UT.ok true t = true → a = s.w → b ≠ t.w) ∧ callN tb (n + 8) "read" [.str (tx cs)] = none ∧ callE tb (n + 8) "read" [.str (tx cs)] = some ("NoText" : Str)) := by
  have o : okLen (tx cs).length = true := okLen_of (by rw [tx_len]; omega)
  have ep : ∀ r, ev (callN tb (n + 7)) (.ptn (.v 0) (.k (.str " "))) (some (.str (tx cs)) :: r) = some (.tuple [.str (tx a), .str S, .str (tx b)]) := fun r => by
    rw [q32]
    show ptnD (.str (tx cs)) [.str (tx [32])] = _
    show (if (okLen (tx cs).length && !((tx [32]).length == 0)) = true then some (PyData.tuple [.str (Txt.partition (tx cs) (tx [32])).1, .str (Txt.partition (tx cs) (tx [32])).2.1, .str (Txt.partition (tx cs) (tx [32])).2.2]) else none) = _
    rw [if_pos (by rw [o]; rfl), hp]
  have c1 : callN tb (n + 8) "read" [.str (tx cs)] = outD (exs (callN tb (n + 7)) (callE tb (n + 7)) d_read.body [some (.str (tx cs)), none, none, none]) := by
    rw [c_read, u_run _ _ _ rfl]
    rfl
  have c2 : callE tb (n + 8) "read" [.str (tx cs)] = (match exsX (callN tb (n + 7)) (callE tb (n + 7)) d_read.body [some (.str (tx cs)), none, none, none] with
    | some (c, _) => if xs.contains c = true then some c else none
    | none => none) := by
    rw [x_read]
    rfl
  generalize hP : PyData.tuple [.str (tx a), .str S, .str (tx b)] = P at *
  have a0 : ixD P (.int 0) = some (.str (tx a)) := by rw [← hP]; exact at0 _ _
  have a2 : ixD P (.int 2) = some (.str (tx b)) := by rw [← hP]; exact at2 _ _ _ _
  have g1 : ∀ r, evs (callN tb (n + 7)) [(.ix (.v 1) (.k (.int 0))), (.g "is_part"), (.g "is_plain_pair")] (some (.str (tx cs)) :: some P :: r) = some [.str (tx a), fnD (feD false), fnD (fpD false)] := fun r => by
    simp only [u_cons, u_nil, u_ix, u_v, u_vrS, u_vr0, u_k, a0, u_g]
    rfl
  have g2 : ∀ r, evs (callN tb (n + 7)) [(.ix (.v 1) (.k (.int 2))), (.g "is_count"), (.g "is_plain_triple")] (some (.str (tx cs)) :: some P :: r) = some [.str (tx b), fnD (feD true), fnD (fpD true)] := fun r => by
    simp only [u_cons, u_nil, u_ix, u_v, u_vrS, u_vr0, u_k, a2, u_g]
    rfl
  have x2 : ∀ (f h : PX) (g g' : Str) (r : Rho), evsX (callN tb (n + 7)) (callE tb (n + 7)) [(.ix f h), (.g g), (.g g')] r = none := fun f h g g' r => by
    rw [x_esS, x_ix]
    simp only
    split
    · rw [x_esS]
      show (match ev (callN tb (n + 7)) (.g g) r with | some _ => evsX (callN tb (n + 7)) (callE tb (n + 7)) [.g g'] r | none => none) = none
      simp only [u_g]
      rw [x_esS]
      rfl
    · rfl
  have ptX : ∀ r, evX (callN tb (n + 7)) (callE tb (n + 7)) (.ptn (.v 0) (.k (.str " "))) r = none := fun _ => rfl
  have body : d_read.body = [.asg (.one 1) (.ptn (.v 0) (.k (.str " "))), .asg (.one 2) (.call "tree_of" [(.ix (.v 1) (.k (.int 0))), (.g "is_part"), (.g "is_plain_pair")]), .asg (.one 3) (.call "tree_of" [(.ix (.v 1) (.k (.int 2))), (.g "is_count"), (.g "is_plain_triple")]), .ret (.tup [(.v 2), (.v 3)])] := rfl
  rw [body] at c1 c2
  rw [u_ssS, u_asg1, ep] at c1
  rw [x_ssS, x_asg1, u_asg1, ep] at c2
  unfold onX at c2
  rw [ptX] at c2
  simp only [List.set] at c1 c2
  rw [u_ssS, u_asg1, u_call, g1] at c1
  rw [x_ssS, x_asg1, u_asg1, u_call, g1] at c2
  unfold onX at c2
  rw [x_call1, x2, g1] at c2
  simp only at c1 c2
  rcases tree_out false a ha la n with ⟨s, os, es, t1, t2⟩ | ⟨no, t1, t2⟩
  · rw [t1] at c1 c2
    rw [t2] at c2
    simp only [List.set] at c1 c2
    rw [u_ssS, u_asg1, u_call, g2] at c1
    rw [x_ssS, x_asg1, u_asg1, u_call, g2] at c2
    unfold onX at c2
    rw [x_call1, x2, g2] at c2
    simp only at c1 c2
    rcases tree_out true b hb lb n with ⟨t, ot, et, t3, t4⟩ | ⟨no, t3, t4⟩
    · rw [t3] at c1
      refine .inl ⟨s, t, os, ot, es, et, ?_⟩
      rw [c1]
      simp only [List.set, u_ssS, u_ret, u_tup, u_cons, u_nil, u_v, u_vrS, u_vr0]
      rfl
    · refine .inr ⟨fun s' t' _ ot' _ => no t' ot', ?_, ?_⟩
      · rw [c1, t3]; rfl
      · rw [c2, t4]
        exact if_pos (by decide +kernel)
  · refine .inr ⟨fun s' t' os' _ e => absurd e (no s' os'), ?_, ?_⟩
    · rw [c1, t1]; rfl
    · rw [c2, t2]
      exact if_pos (by decide +kernel)
noncomputable def isClk (cs : List Nat) (s t : UT) : Prop := UT.ok false s = true ∧ UT.ok true t = true ∧ cs = s.w ++ 32 :: t.w
theorem read_out (cs : List Nat) (ha : asc cs) (hl : cs.length ≤ 480) (n : Nat) :
    (∃ s t, isClk cs s t ∧ callN tb (n + 8) "read" [.str (tx cs)] = some (.tuple [s.toD, t.toD])) ∨ ((∀ s t, ¬ isClk cs s t) ∧ callN tb (n + 8) "read" [.str (tx cs)] = none ∧ callE tb (n + 8) "read" [.str (tx cs)] = some ("NoText" : Str)) := by
  rcases part_tx cs with ⟨h1, h2⟩ | ⟨a, b, e, h1, h2⟩
  · rcases read_body cs cs [] _ h2 ha (fun _ h => nomatch h) hl (by simp) hl n with ⟨s, t, os, ot, es, et, _⟩ | ⟨_, k1, k2⟩
    · exact absurd et.symm (w_ne t)
    · refine .inr ⟨fun s t h => ?_, k1, k2⟩
      apply h1
      rw [h.2.2]
      simp
  · have la : a.length ≤ 480 := by
      have := congrArg List.length e
      rw [List.length_append] at this
      omega
    have lb : b.length ≤ 480 := by
      have := congrArg List.length e
      rw [List.length_append, List.length_cons] at this
      omega
    have aa : asc a := fun c hc => ha c (by rw [e]; simp [hc])
    have ab : asc b := fun c hc => ha c (by rw [e]; simp [hc])
    rcases read_body cs a b _ h2 aa ab la lb hl n with ⟨s, t, os, ot, es, et, r⟩ | ⟨no, k1, k2⟩
    · exact .inl ⟨s, t, ⟨os, ot, by rw [e, es, et]⟩, r⟩
    · refine .inr ⟨fun s t h => ?_, k1, k2⟩
      obtain ⟨x, y⟩ := blank_one h1 (w_blank s) (e.symm.trans h.2.2)
      exact no s t h.1 h.2.1 x y

/-! ### the law's reader of a tree -/
noncomputable def cnt (u : List Nat) : Nat := u.count 40
noncomputable def tB (K : Bool) (cs : List Nat) (p : Nat) (g : Nat → Option UT × Nat) : Option UT × Nat := match (g (p + 1)).1 with
  | none => (none, p)
  | some a => if (K && !isN a) = true then (none, p) else
    if hd 44 (cs.drop (g (p + 1)).2) = true then match (g ((g (p + 1)).2 + 1)).1 with
      | none => (none, p)
      | some b => if K = true then
          if hd 44 (cs.drop (g ((g (p + 1)).2 + 1)).2) = true then match (g ((g ((g (p + 1)).2 + 1)).2 + 1)).1 with
            | none => (none, p)
            | some c => if hd 41 (cs.drop (g ((g ((g (p + 1)).2 + 1)).2 + 1)).2) = true then (some (.t a.front b c), (g ((g ((g (p + 1)).2 + 1)).2 + 1)).2 + 1) else (none, p)
          else (none, p)
        else if hd 41 (cs.drop (g ((g (p + 1)).2 + 1)).2) = true then (some (.p a b), (g ((g (p + 1)).2 + 1)).2 + 1) else (none, p)
    else (none, p)
noncomputable def tA (K : Bool) (cs : List Nat) : Nat → Nat → Option UT × Nat
  | 0, p => (none, p)
  | f + 1, p => if hd 40 (cs.drop p) = true then tB K cs p (tA K cs f) else if (dgt (cs.drop p)).isEmpty = true then (none, p) else (some (.n (val (dgt (cs.drop p)))), p + (dgt (cs.drop p)).length)
/-- what may be said of an answer: the tree, and what it took of the text -/
noncomputable def tGood (K : Bool) (cs : List Nat) (f p : Nat) (x : Option UT × Nat) : Prop := p ≤ x.2 ∧ ∀ t, x.1 = some t → t.knd K = true ∧ t.dep < f ∧ p + t.w.length ≤ x.2 ∧ x.2 ≤ cs.length
theorem tB_good {K : Bool} {cs : List Nat} {f p : Nat} {g : Nat → Option UT × Nat} (hg : ∀ q, tGood K cs f q (g q)) (hp : hd 40 (cs.drop p) = true) : tGood K cs (f + 1) p (tB K cs p g) := by
  have no : tGood K cs (f + 1) p (none, p) := ⟨Nat.le_refl _, fun t h => nomatch h⟩
  obtain ⟨a1, a2⟩ := hg (p + 1)
  unfold tB
  generalize g (p + 1) = x1 at *
  obtain ⟨r1, e1⟩ := x1
  obtain ⟨b1, b2⟩ := hg (e1 + 1)
  simp only at *
  cases r1 with
  | none => exact no
  | some a =>
    obtain ⟨a3, a4, a5, a6⟩ := a2 a rfl
    simp only
    split
    · exact no
    · rename_i hK
      split
      · generalize g (e1 + 1) = x2 at *
        obtain ⟨r2, e2⟩ := x2
        obtain ⟨c1, c2⟩ := hg (e2 + 1)
        simp only at *
        cases r2 with
        | none => exact no
        | some b =>
          obtain ⟨b3, b4, b5, b6⟩ := b2 b rfl
          simp only
          split
          · rename_i hKt
            subst hKt
            split
            · generalize g (e2 + 1) = x3 at *
              obtain ⟨r3, e3⟩ := x3
              simp only at *
              cases r3 with
              | none => exact no
              | some c =>
                obtain ⟨c3, c4, c5, c6⟩ := c2 c rfl
                simp only
                split
                · rename_i h41
                  have hl := (drop1 h41).1
                  refine ⟨by simp only; omega, fun t h => ?_⟩
                  injection h with h
                  subst h
                  cases a with
                  | n m =>
                    refine ⟨by simp [UT.knd, b3, c3], by simp only [UT.dep]; omega, ?_, by simp only; omega⟩
                    simp only [UT.w, UT.front, List.length_cons, List.length_append, List.length_nil] at a5 ⊢
                    omega
                  | p _ _ => simp [isN] at hK
                  | t _ _ _ => simp [isN] at hK
                · exact no
            · exact no
          · rename_i hKf
            have hKf : K = false := by simpa using hKf
            subst hKf
            split
            · rename_i h41
              have hl := (drop1 h41).1
              refine ⟨by simp only; omega, fun t h => ?_⟩
              injection h with h
              subst h
              refine ⟨by simp [UT.knd, a3, b3], by simp only [UT.dep]; omega, ?_, by simp only; omega⟩
              simp only [UT.w, List.length_cons, List.length_append, List.length_nil]
              omega
            · exact no
      · exact no
theorem tA_good (K : Bool) (cs : List Nat) : ∀ (f p : Nat), tGood K cs f p (tA K cs f p) := by
  intro f
  induction f with
  | zero => intro p; exact ⟨Nat.le_refl _, fun t h => nomatch h⟩
  | succ f ih =>
    intro p
    unfold tA
    split
    · rename_i h; exact tB_good ih h
    · split
      · exact ⟨Nat.le_refl _, fun t h => nomatch h⟩
      · rename_i hd hn
        have l1 := congrArg List.length (dgt_rst (cs.drop p))
        rw [List.length_append, List.length_drop] at l1
        have hne : dgt (cs.drop p) ≠ [] := by simpa using hn
        have hpos := List.length_pos_iff.mpr hne
        refine ⟨by simp only; omega, fun t h => ?_⟩
        injection h with h
        subst h
        refine ⟨rfl, by simp only [UT.dep]; omega, ?_, by simp only; omega⟩
        have := dg_len_le hpos (val_lt _ (dgt_all (cs.drop p)))
        simp only [UT.w]
        omega
/-- what is written is read -/
theorem tA_num {K : Bool} {cs : List Nat} {f p m : Nat} {r : List Nat} (h : cs.drop p = dg m ++ r) (hr : ndg r = true) : tA K cs (f + 1) p = (some (.n m), p + (dg m).length) := by
  have e : tA K cs (f + 1) p = if hd 40 (cs.drop p) = true then tB K cs p (tA K cs f) else if (dgt (cs.drop p)).isEmpty = true then (none, p) else (some (.n (val (dgt (cs.drop p)))), p + (dgt (cs.drop p)).length) := rfl
  obtain ⟨h1, h2⟩ := dgt_of (dg_all m) hr
  rw [e, h, h1, dg_val]
  have h3 : hd 40 (dg m ++ r) = false := by
    obtain ⟨c, r', e, hc⟩ := dg_head m
    rw [e]
    have h' : 48 ≤ c ∧ c ≤ 57 := of_decide_eq_true hc
    simp [hd]
    omega
  rw [h3]
  have h4 : (dg m).isEmpty = false := by
    rw [List.isEmpty_eq_false_iff]; exact dg_ne m
  rw [h4]
  simp
theorem drop_app {cs a b : List Nat} {p : Nat} (h : cs.drop p = a ++ b) : cs.drop (p + a.length) = b := by
  rw [← List.drop_drop, h, List.drop_left]
theorem tA_all {K : Bool} {cs : List Nat} : ∀ (t : UT) (p f : Nat) (r : List Nat), t.knd K = true → t.dep < f → ndg r = true → cs.drop p = t.w ++ r → tA K cs f p = (some t, p + t.w.length) := by
  intro t
  induction t with
  | n k =>
    intro p f r _ hf hr h
    cases f with
    | zero => omega
    | succ f => exact tA_num h hr
  | p a b iha ihb =>
    intro p f r hk hf hr h
    cases f with
    | zero => omega
    | succ f =>
      simp only [UT.knd, Bool.and_eq_true, Bool.not_eq_true'] at hk
      simp only [UT.dep] at hf
      obtain ⟨rfl, ka, kb⟩ := hk
      have h0 : cs.drop p = [40] ++ (a.w ++ ([44] ++ (b.w ++ ([41] ++ r)))) := by rw [h]; simp [UT.w]
      have hp : hd 40 (cs.drop p) = true := by rw [h0]; rfl
      have h1 := drop_app h0
      have h2 := drop_app h1
      have h3 := drop_app h2
      have h4 := drop_app h3
      have r1 := iha (p + 1) f _ ka (by omega) rfl h1
      have r2 := ihb (p + 1 + a.w.length + 1) f _ kb (by omega) rfl h3
      have k2 : hd 44 (cs.drop (p + 1 + a.w.length)) = true := by
        have : p + [40].length + a.w.length = p + 1 + a.w.length := rfl
        rw [this] at h2; rw [h2]; rfl
      have k4 : hd 41 (cs.drop (p + 1 + a.w.length + 1 + b.w.length)) = true := by
        have : p + [40].length + a.w.length + [44].length + b.w.length = p + 1 + a.w.length + 1 + b.w.length := rfl
        rw [this] at h4; rw [h4]; rfl
      unfold tA
      rw [if_pos hp]
      unfold tB
      simp only [r1, r2, Bool.false_and, Bool.false_eq_true, if_false, k2, k4, if_true]
      simp only [UT.w, List.length_cons, List.length_append, List.length_nil]
      congr 1
      omega
  | t m a b iha ihb =>
    intro p f r hk hf hr h
    cases f with
    | zero => omega
    | succ f =>
      simp only [UT.knd, Bool.and_eq_true] at hk
      simp only [UT.dep] at hf
      obtain ⟨rfl, ka, kb⟩ := hk
      have h0 : cs.drop p = [40] ++ (dg m ++ ([44] ++ (a.w ++ ([44] ++ (b.w ++ ([41] ++ r)))))) := by rw [h]; simp [UT.w]
      have hp : hd 40 (cs.drop p) = true := by rw [h0]; rfl
      have h1 := drop_app h0
      have h2 := drop_app h1
      have h3 := drop_app h2
      have h4 := drop_app h3
      have h5 := drop_app h4
      have h6 := drop_app h5
      have r0 : tA true cs f (p + 1) = (some (.n m), p + 1 + (dg m).length) := by
        cases f with
        | zero => omega
        | succ f => exact tA_num h1 rfl
      have r1 := iha (p + 1 + (dg m).length + 1) f _ ka (by omega) rfl h3
      have r2 := ihb (p + 1 + (dg m).length + 1 + a.w.length + 1) f _ kb (by omega) rfl h5
      have k2 : hd 44 (cs.drop (p + 1 + (dg m).length)) = true := by
        have : p + [40].length + (dg m).length = p + 1 + (dg m).length := rfl
        rw [this] at h2; rw [h2]; rfl
      have k4 : hd 44 (cs.drop (p + 1 + (dg m).length + 1 + a.w.length)) = true := by
        have : p + [40].length + (dg m).length + [44].length + a.w.length = p + 1 + (dg m).length + 1 + a.w.length := rfl
        rw [this] at h4; rw [h4]; rfl
      have k6 : hd 41 (cs.drop (p + 1 + (dg m).length + 1 + a.w.length + 1 + b.w.length)) = true := by
        have : p + [40].length + (dg m).length + [44].length + a.w.length + [44].length + b.w.length = p + 1 + (dg m).length + 1 + a.w.length + 1 + b.w.length := rfl
        rw [this] at h6; rw [h6]; rfl
      unfold tA
      rw [if_pos hp]
      unfold tB
      simp only [r0, r1, r2, isN, UT.front, Bool.not_true, Bool.and_false, Bool.false_eq_true, if_false, k2, k4, k6, if_true]
      simp only [UT.w, List.length_cons, List.length_append, List.length_nil]
      congr 1
      omega

noncomputable def tCnd : PX := .or (.cmp .NotEq (.sl (.v 0) (.v 5) (.bin .Add (.v 5) (.k (.int 1)))) (.ix (.k (.str "(,")) (.blt .int [(.cmp .Gt (.v 6) (.k (.int 0)))]))) (.or (.cmp .Is (.v 7) (.k .none)) (.and (.cmp .Eq (.v 6) (.k (.int 0))) (.and (.cmp .Eq (.v 2) (.k (.int 3))) (.isin .tuple (.v 7)))))
noncomputable def tNone : List PS := [.ret (.tup [(.k .none), (.v 1)])]
noncomputable def tBody : List PS := [.asg (.many [7, 3]) (.call "_law_tree_at" [(.v 0), (.bin .Add (.v 5) (.k (.int 1))), (.v 2)]), .ife tCnd tNone [], .asg (.one 4) (.bin .Add (.v 4) (.tup [(.v 7)])), .asg (.one 5) (.v 3)]
noncomputable def tFin : List PS := [.ife (.cmp .NotEq (.sl (.v 0) (.v 5) (.bin .Add (.v 5) (.k (.int 1)))) (.k (.str ")"))) tNone [], .ret (.tup [(.v 4), (.bin .Add (.v 5) (.k (.int 1)))])]
noncomputable def tNum : List PS := [.asg (.one 3) (.call "_law_number_at" [(.v 0), (.v 1)]), .ife (.cmp .Eq (.v 3) (.v 1)) tNone [], .ret (.tup [(.blt .int [(.sl (.v 0) (.v 1) (.v 3))]), (.v 3)])]
theorem treeat_body : d__law_tree_at.body = .ife (.cmp .NotEq (.sl (.v 0) (.v 1) (.bin .Add (.v 1) (.k (.int 1)))) (.k (.str "("))) tNum [] :: .asg (.one 4) (.tup []) :: .asg (.one 5) (.v 1) :: .for_ (.one 6) (.rng1 (.v 2)) tBody :: tFin := rfl
noncomputable def optD : Option UT → PyData
  | some t => t.toD
  | none => .none
noncomputable def mny (K : Bool) : Int := if K then 3 else 2
noncomputable def ST (cs : List Nat) (K : Bool) (p : Nat) (o3 : Option PyData) (d4 : PyData) (h : Nat) (o6 o7 : Option PyData) : Rho := [some (.str (tx cs)), some (.int (p : Int)), some (.int (mny K)), o3, some d4, some (.int (h : Int)), o6, o7]
noncomputable def noT (p : Nat) : PyData := .tuple [.none, .int (p : Int)]
noncomputable def out (x : Option UT × Nat) : PyData := .tuple [optD x.1, .int (x.2 : Int)]
theorem q4044 : ("(," : Str) = tx [40, 44] := rfl
theorem okLen1 {cs : List Nat} (hl : cs.length ≤ 480) : okLen (tx cs).length = true := okLen_of (by rw [tx_len]; omega)
theorem sl_at (C : Orc) (cs : List Nat) (ha : asc cs) (hl : cs.length ≤ 480) (i : Nat) (h c : Nat) (hc : c < 128) (r : Rho) (x : PX) (e0 : vr 0 r = some (.str (tx cs))) (e1 : vr i r = some (.int (h : Int))) (ex : ev C x r = some (.str (tx [c]))) :
    ev C (.cmp .NotEq (.sl (.v 0) (.v i) (.bin .Add (.v i) (.k (.int 1)))) x) r = some (.bool (!hd c (cs.drop h))) := by
  have o := okLen1 hl
  simp only [u_cmp, u_sl, u_sl3, u_v, e0, e1, u_partV, u_partB, u_bin, u_k, u_addI, u_partDI, u_slS, o, if_true, cut1T, ex]
  rw [ne_tx (asc_take (asc_drop ha _) _) (asc1 hc), hd_take]
theorem isT_U (t : UT) : isinD .tuple t.toD = some (.bool (!isN t)) := by cases t <;> rfl
theorem isNon_U (t : UT) : isNon t.toD = false := by cases t <;> rfl
theorem none_ret (C : Orc) (E : OrcX) (p : Nat) (r : Rho) (h : vr 1 r = some (.int (p : Int))) : exs C E tNone r = some (.rt (noT p)) := by
  have o2 : okLen 2 = true := by decide
  unfold tNone
  simp only [u_ssS, u_ret, u_tup, u_cons, u_nil, u_k, u_v, h, List.length_cons, List.length_nil, o2, if_true]
  rfl
/-- a branch that is as it should be -/
noncomputable def tno (K : Bool) (k : Nat) : Option UT → Bool
  | some a => decide (k = 0) && (K && !isN a)
  | none => true
noncomputable def tok (K : Bool) (cs : List Nat) (h k : Nat) (x : Option UT) : Bool := hd (if k = 0 then 40 else 44) (cs.drop h) && !tno K k x
theorem tcnd (C : Orc) (cs : List Nat) (ha : asc cs) (hl : cs.length ≤ 480) (K : Bool) (p h k : Nat) (x : Option UT) (o3 : Option PyData) (d4 : PyData) : ev C tCnd (ST cs K p o3 d4 h (some (.int (k : Int))) (some (optD x))) = some (.bool (!tok K cs h k x)) := by
  generalize hr : ST cs K p o3 d4 h (some (.int (k : Int))) (some (optD x)) = r
  have v0 : vr 0 r = some (.str (tx cs)) := by rw [← hr]; rfl
  have v2 : vr 2 r = some (.int (mny K)) := by rw [← hr]; rfl
  have v5 : vr 5 r = some (.int (h : Int)) := by rw [← hr]; rfl
  have v6 : vr 6 r = some (.int (k : Int)) := by rw [← hr]; rfl
  have v7 : vr 7 r = some (optD x) := by rw [← hr]; rfl
  clear hr
  have ec : ev C (.ix (.k (.str "(,")) (.blt .int [(.cmp .Gt (.v 6) (.k (.int 0)))])) r = some (.str (tx [if k = 0 then 40 else 44])) := by
    rw [q4044]
    simp only [u_ix, u_k, u_blt, u_cons, u_nil, u_cmp, u_v, v6, u_gt, u_intB]
    by_cases hk : k = 0
    · subst hk
      rfl
    · have : (0 : Int) < (k : Int) := by omega
      simp only [this, decide_true, if_true, hk, if_false]
      rfl
  have e2 := sl_at C cs ha hl 5 h (if k = 0 then 40 else 44) (by split <;> decide) r _ v0 v5 ec
  have e3 : ev C (.or (.cmp .Is (.v 7) (.k .none)) (.and (.cmp .Eq (.v 6) (.k (.int 0))) (.and (.cmp .Eq (.v 2) (.k (.int 3))) (.isin .tuple (.v 7))))) r = some (.bool (tno K k x)) := by
    cases x with
    | none => simp only [u_or, u_cmp, u_v, v7, u_k, optD, u_isN]; rfl
    | some a =>
      have k0 : decide ((k : Int) = 0) = decide (k = 0) := by
        by_cases hk : k = 0
        · subst hk; rfl
        · rw [decide_eq_false hk]; exact decide_eq_false (by omega)
      have k3 : decide (mny K = 3) = K := by cases K <;> rfl
      simp only [u_or, u_and, u_cmp, u_isin, u_v, v7, v6, v2, u_k, optD, u_isN, isNon_U, u_eqI, k0, k3, isT_U]
      show _ = some (PyData.bool (decide (k = 0) && (K && !isN a)))
      cases decide (k = 0) <;> cases K <;> rfl
  unfold tCnd
  rw [u_or, e2, e3]
  unfold tok
  generalize tno K k x = c
  cases hd (if k = 0 then 40 else 44) (cs.drop h) <;> cases c <;> rfl
theorem tstep (C : Orc) (E : OrcX) (cs : List Nat) (ha : asc cs) (hl : cs.length ≤ 480) (K : Bool) (p h k : Nat) (x : Option UT × Nat) (fs : List UT) (o3 o7 : Option PyData) (hf : fs.length ≤ 3) (hc : C "_law_tree_at" [.str (tx cs), .int ((h : Int) + 1), .int (mny K)] = some (out x)) :
    (tok K cs h k x.1 = false → exs C E tBody (ST cs K p o3 (.tuple (fs.map UT.toD)) h (some (.int (k : Int))) o7) = some (.rt (noT p))) ∧
    ∀ a, x.1 = some a → tok K cs h k x.1 = true → exs C E tBody (ST cs K p o3 (.tuple (fs.map UT.toD)) h (some (.int (k : Int))) o7) = some (.nx (ST cs K p (some (.int (x.2 : Int))) (.tuple ((fs ++ [a]).map UT.toD)) x.2 (some (.int (k : Int))) (some a.toD))) := by
  have hs : setTg (.many [7, 3]) (out x) (ST cs K p o3 (.tuple (fs.map UT.toD)) h (some (.int (k : Int))) o7) = some (ST cs K p (some (.int (x.2 : Int))) (.tuple (fs.map UT.toD)) h (some (.int (k : Int))) (some (optD x.1))) := rfl
  have e1 : ex C E (.asg (.many [7, 3]) (.call "_law_tree_at" [(.v 0), (.bin .Add (.v 5) (.k (.int 1))), (.v 2)])) (ST cs K p o3 (.tuple (fs.map UT.toD)) h (some (.int (k : Int))) o7) = some (.nx (ST cs K p (some (.int (x.2 : Int))) (.tuple (fs.map UT.toD)) h (some (.int (k : Int))) (some (optD x.1)))) := by
    rw [u_asgM, u_call]
    have : evs C [(.v 0), (.bin .Add (.v 5) (.k (.int 1))), (.v 2)] (ST cs K p o3 (.tuple (fs.map UT.toD)) h (some (.int (k : Int))) o7) = some [.str (tx cs), .int ((h : Int) + 1), .int (mny K)] := rfl
    simp only [this, hc, hs]
  have e2 := tcnd C cs ha hl K p h k x.1 (some (.int (x.2 : Int))) (.tuple (fs.map UT.toD))
  unfold tBody
  rw [u_ssS, e1]
  simp only
  rw [u_ssS, u_ifS, e2]
  refine ⟨fun ht => ?_, fun a ha ht => ?_⟩
  · rw [ht]
    simp only [Bool.not_false]
    rw [none_ret C E p _ rfl]
  · rw [ht, ha]
    simp only [Bool.not_true, u_ss0]
    have o4 : okLen ((fs.map UT.toD).length + [a.toD].length) = true := okLen_of (by rw [List.length_map]; simp only [List.length_cons, List.length_nil]; omega)
    have e4 : ev C (.bin .Add (.v 4) (.tup [(.v 7)])) (ST cs K p (some (.int (x.2 : Int))) (.tuple (fs.map UT.toD)) h (some (.int (k : Int))) (some a.toD)) = some (.tuple ((fs ++ [a]).map UT.toD)) := by
      rw [List.map_append]
      show (if okLen ((fs.map UT.toD).length + [a.toD].length) = true then some (PyData.tuple (fs.map UT.toD ++ [a.toD])) else none) = _
      rw [if_pos o4]
      rfl
    rw [u_ssS, u_asg1]
    simp only [optD, e4]
    rfl
theorem forDr (t : Tg) (step : Rho → Option Fl) (d : PyData) (ds : List PyData) (r r1 : Rho) (v : PyData) (h1 : setTg t d r = some r1) (h2 : step r1 = some (.rt v)) : forD t step (d :: ds) r = some (.rt v) := by
  show (match setTg t d r with
    | some r1 => match step r1 with
      | some (.nx r2) => forD t step ds r2
      | some (.ct r2) => forD t step ds r2
      | some (.bk r2) => some (Fl.nx r2)
      | some (.rt v) => some (.rt v)
      | none => none
    | none => none) = _
  rw [h1]
  simp only [h2]
/-- the branches, one after the other -/
noncomputable def lp (K : Bool) (cs : List Nat) (g : Nat → Option UT × Nat) : List Nat → List UT → Nat → Option (List UT × Nat)
  | [], fs, h => some (fs, h)
  | k :: ks, fs, h => if tok K cs h k (g (h + 1)).1 = true then (match (g (h + 1)).1 with
    | some a => lp K cs g ks (fs ++ [a]) (g (h + 1)).2
    | none => none) else none
theorem lp_run (C : Orc) (E : OrcX) (cs : List Nat) (ha : asc cs) (hl : cs.length ≤ 480) (K : Bool) (p : Nat) (g : Nat → Option UT × Nat) (gm : ∀ q, q ≤ (g q).2) (hg : ∀ q, p ≤ q → C "_law_tree_at" [.str (tx cs), .int ((q : Int) + 1), .int (mny K)] = some (out (g (q + 1)))) :
    ∀ (ks : List Nat) (fs : List UT) (h : Nat) (o3 o6 o7 : Option PyData), p ≤ h → fs.length + ks.length ≤ 3 →
    (lp K cs g ks fs h = none → forD (.one 6) (exs C E tBody) (ks.map fun (k : Nat) => PyData.int (k : Int)) (ST cs K p o3 (.tuple (fs.map UT.toD)) h o6 o7) = some (.rt (noT p))) ∧
    ∀ fs' h', lp K cs g ks fs h = some (fs', h') → ∃ o3' o6' o7', forD (.one 6) (exs C E tBody) (ks.map fun (k : Nat) => PyData.int (k : Int)) (ST cs K p o3 (.tuple (fs.map UT.toD)) h o6 o7) = some (.nx (ST cs K p o3' (.tuple (fs'.map UT.toD)) h' o6' o7')) := by
  intro ks
  induction ks with
  | nil =>
    intro fs h o3 o6 o7 _ _
    refine ⟨(fun e => nomatch e), fun fs' h' e => ?_⟩
    injection e with e
    injection e with e1 e2
    subst e1 e2
    exact ⟨o3, o6, o7, rfl⟩
  | cons k ks ih =>
    intro fs h o3 o6 o7 hp hf
    simp only [List.length_cons] at hf
    have t := tstep C E cs ha hl K p h k (g (h + 1)) fs o3 o7 (by omega) (hg h hp)
    have el : lp K cs g (k :: ks) fs h = if tok K cs h k (g (h + 1)).1 = true then (match (g (h + 1)).1 with
      | some a => lp K cs g ks (fs ++ [a]) (g (h + 1)).2
      | none => none) else none := rfl
    have gm' := gm (h + 1)
    rw [el, List.map_cons]
    clear el
    generalize g (h + 1) = x at *
    cases ht : tok K cs h k x.1 with
    | false =>
      simp only [Bool.false_eq_true, if_false]
      exact ⟨fun _ => forDr _ _ _ _ _ _ _ rfl (t.1 ht), (fun _ _ e => nomatch e)⟩
    | true =>
      simp only [if_true]
      cases hx : x.1 with
      | none =>
        rw [hx] at ht
        unfold tok tno at ht
        simp at ht
      | some a =>
        have st := t.2 a hx ht
        rw [forD1 _ _ _ _ _ _ _ rfl st]
        exact ih (fs ++ [a]) x.2 _ _ _ (by omega) (by rw [List.length_append]; simp only [List.length_cons, List.length_nil]; omega)
noncomputable def ksK (K : Bool) : List Nat := if K then [0, 1, 2] else [0, 1]
theorem tB_lp (K : Bool) (cs : List Nat) (p : Nat) (g : Nat → Option UT × Nat) (hp : hd 40 (cs.drop p) = true) : out (tB K cs p g) = (match lp K cs g (ksK K) [] p with
    | none => noT p
    | some (fs, h) => if hd 41 (cs.drop h) = true then .tuple [.tuple (fs.map UT.toD), .int ((h + 1 : Nat) : Int)] else noT p) := by
  have l1 : ∀ k ks fs h, lp K cs g (k :: ks) fs h = if tok K cs h k (g (h + 1)).1 = true then (match (g (h + 1)).1 with
    | some a => lp K cs g ks (fs ++ [a]) (g (h + 1)).2
    | none => none) else none := fun _ _ _ _ => rfl
  have l0 : ∀ fs h, lp K cs g [] fs h = some (fs, h) := fun _ _ => rfl
  have n0 : ∀ k, tno K k none = true := fun _ => rfl
  have n1 : ∀ a, tno K 0 (some a) = (K && !isN a) := fun _ => rfl
  have n2 : ∀ k a, tno K (k + 1) (some a) = false := fun _ _ => rfl
  have t0 : ∀ x, tok K cs p 0 x = !tno K 0 x := fun x => by
    show (hd 40 (cs.drop p) && _) = _
    rw [hp]; rfl
  have t1 : ∀ h k x, tok K cs h (k + 1) x = (hd 44 (cs.drop h) && !tno K (k + 1) x) := fun _ _ _ => rfl
  have i0 : ksK K = 0 :: (0 + 1) :: (if K = true then [1 + 1] else []) := by cases K <;> rfl
  rw [i0, l1, t0]
  unfold tB
  cases h1 : (g (p + 1)).1 with
  | none => simp only [n0]; rfl
  | some a =>
    simp only [n1]
    cases hK : (K && !isN a) with
    | true => rfl
    | false =>
      simp only [Bool.not_false, if_true, Bool.false_eq_true, if_false]
      rw [l1, t1]
      cases h2 : hd 44 (cs.drop (g (p + 1)).2) with
      | false => rfl
      | true =>
        simp only [Bool.true_and, if_true]
        cases h3 : (g ((g (p + 1)).2 + 1)).1 with
        | none => simp only [n0]; rfl
        | some b =>
          simp only [n2, Bool.not_false, if_true]
          cases K with
          | false =>
            simp only [Bool.false_eq_true, if_false, l0]
            cases hd 41 (cs.drop (g ((g (p + 1)).2 + 1)).2) <;> rfl
          | true =>
            simp only [if_true]
            rw [l1, t1]
            cases h4 : hd 44 (cs.drop (g ((g (p + 1)).2 + 1)).2) with
            | false => rfl
            | true =>
              simp only [Bool.true_and, if_true]
              cases h5 : (g ((g ((g (p + 1)).2 + 1)).2 + 1)).1 with
              | none => simp only [n0]; rfl
              | some c =>
                simp only [n2, Bool.not_false, if_true, l0]
                cases a with
                | n m => cases hd 41 (cs.drop (g ((g ((g (p + 1)).2 + 1)).2 + 1)).2) <;> rfl
                | p _ _ => cases hK
                | t _ _ _ => cases hK
theorem fin_at (C : Orc) (E : OrcX) (cs : List Nat) (ha : asc cs) (hl : cs.length ≤ 480) (K : Bool) (p h : Nat) (d4 : PyData) (o3 o6 o7 : Option PyData) : exs C E tFin (ST cs K p o3 d4 h o6 o7) = some (.rt (if hd 41 (cs.drop h) = true then .tuple [d4, .int ((h + 1 : Nat) : Int)] else noT p)) := by
  have s1 := sl_at C cs ha hl 5 h 41 (by decide) (ST cs K p o3 d4 h o6 o7) (.k (.str ")")) rfl rfl (by rw [q41]; rfl)
  unfold tFin
  rw [u_ssS, u_ifS, s1]
  cases hd 41 (cs.drop h) with
  | true => rfl
  | false =>
    simp only [Bool.not_false, Bool.false_eq_true, if_false]
    rw [none_ret C E p _ rfl]
theorem num_at (cs : List Nat) (ha : asc cs) (hl : cs.length ≤ 480) (K : Bool) (p n : Nat) : exs (callN tb (n + 1)) (callE tb (n + 1)) tNum [some (.str (tx cs)), some (.int (p : Int)), some (.int (mny K)), none, none, none, none, none] = some (.rt (out (if (dgt (cs.drop p)).isEmpty = true then (none, p) else (some (.n (val (dgt (cs.drop p)))), p + (dgt (cs.drop p)).length)))) := by
  have na := nat_eq cs ha (by omega) p n
  have o := okLen1 hl
  have o2 : okLen 2 = true := by decide
  unfold tNum
  rw [u_ssS, u_asg1, u_call]
  simp only [u_cons, u_nil, u_v, u_vrS, u_vr0, na, List.set]
  rw [u_ssS, u_ifS]
  simp only [u_cmp, u_v, u_vrS, u_vr0, u_eqI]
  by_cases he : dgt (cs.drop p) = []
  · rw [he]
    simp only [List.length_nil, Nat.add_zero, decide_true, List.isEmpty_nil, if_true]
    rw [none_ret _ _ p _ rfl]
    rfl
  · have hpos := List.length_pos_iff.mpr he
    have h1 : ¬ (((p + (dgt (cs.drop p)).length : Nat) : Int) = (p : Int)) := by omega
    have h2 : (dgt (cs.drop p)).isEmpty = false := by rw [List.isEmpty_eq_false_iff]; exact he
    have l1 := congrArg List.length (dgt_rst (cs.drop p))
    rw [List.length_append, List.length_drop] at l1
    have iv := int_dg (dgt_all (cs.drop p)) he (by omega)
    rw [decide_eq_false h1, h2]
    simp only [u_ss0, Bool.false_eq_true, if_false]
    rw [u_ssS, u_ret, u_tup]
    simp only [u_cons, u_nil, u_blt, u_sl, u_sl3, u_v, u_vrS, u_vr0, u_partV, u_partDI, u_slS, o, if_true, cutT, dgt_cut, iv, List.length_cons, List.length_nil, o2]
    rfl
theorem cnt_mono {cs : List Nat} {p q : Nat} (h : p ≤ q) : cnt (cs.drop q) ≤ cnt (cs.drop p) := by
  unfold cnt
  obtain ⟨k, rfl⟩ := Nat.le.dest h
  rw [← List.drop_drop]
  exact List.Sublist.count_le 40 (List.drop_sublist _ _)
theorem cnt_open {cs : List Nat} {p : Nat} (h : hd 40 (cs.drop p) = true) : cnt (cs.drop (p + 1)) + 1 = cnt (cs.drop p) := by
  have h1 := hd_tail h
  have h2 := (drop1 h).2
  unfold cnt
  rw [h2, h1]
  simp
theorem treeat_eq (K : Bool) (cs : List Nat) (ha : asc cs) (hl : cs.length ≤ 480) : ∀ (f p n : Nat), cnt (cs.drop p) < f → callN tb (n + f + 1) "_law_tree_at" [.str (tx cs), .int (p : Int), .int (mny K)] = some (out (tA K cs f p)) := by
  intro f
  induction f with
  | zero => intro p n h; omega
  | succ f ih =>
    intro p n hf
    have c1 : callN tb (n + (f + 1) + 1) "_law_tree_at" [.str (tx cs), .int (p : Int), .int (mny K)] = outD (exs (callN tb (n + f + 1)) (callE tb (n + f + 1)) d__law_tree_at.body [some (.str (tx cs)), some (.int (p : Int)), some (.int (mny K)), none, none, none, none, none]) := by
      rw [show n + (f + 1) + 1 = (n + f + 1) + 1 by omega, c__law_tree_at, u_run _ _ _ rfl]
      rfl
    have s0 := sl_at (callN tb (n + f + 1)) cs ha hl 1 p 40 (by decide) [some (.str (tx cs)), some (.int (p : Int)), some (.int (mny K)), none, none, none, none, none] (.k (.str "(")) rfl rfl (by rw [q40]; rfl)
    have ea : tA K cs (f + 1) p = if hd 40 (cs.drop p) = true then tB K cs p (tA K cs f) else if (dgt (cs.drop p)).isEmpty = true then (none, p) else (some (.n (val (dgt (cs.drop p)))), p + (dgt (cs.drop p)).length) := rfl
    rw [c1, treeat_body, u_ssS, u_ifS, s0, ea]
    clear c1 ea s0
    cases hp : hd 40 (cs.drop p) with
    | false =>
      simp only [Bool.not_false, Bool.false_eq_true, if_false]
      rw [num_at cs ha hl K p (n + f)]
      rfl
    | true =>
      have hc := cnt_open hp
      simp only [Bool.not_true, u_ss0, if_true]
      have r1 := lp_run (callN tb (n + f + 1)) (callE tb (n + f + 1)) cs ha hl K p (tA K cs f) (fun q => (tA_good K cs f q).1) (fun q hq => ih (q + 1) n (by have := cnt_mono (cs := cs) (p := p + 1) (q := q + 1) (by omega); omega)) (ksK K) [] p none none none (Nat.le_refl _) (by cases K <;> decide)
      rw [tB_lp K cs p _ hp]
      have it : itD (callN tb (n + f + 1)) (.rng1 (.v 2)) (ST cs K p none (.tuple []) p none none) = some ((ksK K).map fun (k : Nat) => PyData.int (k : Int)) := by
        cases K <;> rfl
      show outD (match (match itD (callN tb (n + f + 1)) (.rng1 (.v 2)) (ST cs K p none (.tuple []) p none none) with | some ds => forD (.one 6) (exs (callN tb (n + f + 1)) (callE tb (n + f + 1)) tBody) ds (ST cs K p none (.tuple []) p none none) | none => none) with | some (.nx r') => exs (callN tb (n + f + 1)) (callE tb (n + f + 1)) tFin r' | o => o) = _
      rw [it]
      simp only
      cases hl2 : lp K cs (tA K cs f) (ksK K) [] p with
      | none =>
        rw [show PyData.tuple [] = PyData.tuple (([] : List UT).map UT.toD) from rfl, r1.1 hl2]
        rfl
      | some y =>
        obtain ⟨fs, h⟩ := y
        obtain ⟨o3, o6, o7, e⟩ := r1.2 fs h hl2
        rw [show PyData.tuple [] = PyData.tuple (([] : List UT).map UT.toD) from rfl, e]
        simp only
        rw [fin_at _ _ cs ha hl]
        rfl

/-! ### trees of parts and of counts -/
noncomputable def pU : PT → UT
  | .z b => .n (if b then 1 else 0)
  | .p a b => .p (pU a) (pU b)
noncomputable def cU : CT → UT
  | .i m => .n m
  | .t m a b => .t m (cU a) (cU b)
theorem pU_toD : ∀ t : PT, (pU t).toD = t.toD
  | .z b => by cases b <;> rfl
  | .p a b => by simp only [pU, UT.toD, PT.toD, pU_toD a, pU_toD b]
theorem cU_toD : ∀ t : CT, (cU t).toD = t.toD
  | .i m => rfl
  | .t m a b => by simp only [cU, UT.toD, CT.toD, cU_toD a, cU_toD b]
theorem pU_dep : ∀ t : PT, (pU t).dep = t.dep
  | .z b => rfl
  | .p a b => by simp only [pU, UT.dep, PT.dep, pU_dep a, pU_dep b]
theorem cU_dep : ∀ t : CT, (cU t).dep = t.dep
  | .i b => rfl
  | .t m a b => by simp only [cU, UT.dep, CT.dep, cU_dep a, cU_dep b]
theorem pU_join (a b : PT) : decide (PT.join a b = .p a b) = !sameN (pU a) (pU b) := by
  cases a with
  | z x => cases b with
    | z y => cases x <;> cases y <;> rfl
    | p c d => simp [PT.join, pU, sameN]
  | p c d => simp [PT.join, pU, sameN]
theorem pU_ok : ∀ t : PT, UT.ok false (pU t) = t.plainB
  | .z b => by cases b <;> rfl
  | .p a b => by
    simp only [pU, UT.ok, PT.plainB, pU_ok a, pU_ok b, pU_join]
    rfl
theorem cU_front : ∀ t : CT, (cU t).front = t.front
  | .i m => rfl
  | .t m a b => rfl
theorem cU_half (a b : CT) : (!sameN (cU a) (cU b) && decide (min (cU a).front (cU b).front = 0)) = CT.half a b := by
  rw [cU_front, cU_front]
  unfold CT.half
  have hm : decide (min a.front b.front = 0) = (decide (a.front = 0) || decide (b.front = 0)) := by
    by_cases h1 : a.front = 0
    · simp [h1]
    · by_cases h2 : b.front = 0
      · simp [h2]
      · simp [h1, h2]
  rw [hm]
  cases a with
  | i x =>
    cases b with
    | i y =>
      simp only [cU, sameN, CT.front, CT.i.injEq]
      by_cases h1 : x = 0
      · by_cases h2 : y = 0
        · simp [h1, h2]
        · simp [h1, h2]; omega
      · by_cases h2 : y = 0
        · simp [h1, h2]
        · simp [h1, h2]
    | t m c d => simp [cU, sameN]
  | t m c d => simp [cU, sameN]
theorem cU_ok : ∀ t : CT, UT.ok true (cU t) = t.plainB
  | .i m => rfl
  | .t m a b => by
    simp only [cU, UT.ok, CT.plainB, cU_ok a, cU_ok b, cU_half]
    rfl
theorem of_ok : ∀ u : UT, UT.ok false u = true → ∃ t : PT, pU t = u
  | .n k, h => by
    have : k ≤ 1 := by simpa [UT.ok] using h
    by_cases h0 : k = 0
    · exact ⟨.z false, by rw [h0]; rfl⟩
    · exact ⟨.z true, by rw [show k = 1 by omega]; rfl⟩
  | .p a b, h => by
    simp only [UT.ok, Bool.and_eq_true] at h
    obtain ⟨s, rfl⟩ := of_ok a h.2.1.1
    obtain ⟨t, rfl⟩ := of_ok b h.2.1.2
    exact ⟨.p s t, rfl⟩
  | .t m a b, h => by simp [UT.ok] at h
theorem of_knd : ∀ u : UT, u.knd true = true → ∃ t : CT, cU t = u
  | .n k, _ => ⟨.i k, rfl⟩
  | .p a b, h => by simp [UT.knd] at h
  | .t m a b, h => by
    simp only [UT.knd, Bool.and_eq_true] at h
    obtain ⟨s, rfl⟩ := of_knd a h.2.1
    obtain ⟨t, rfl⟩ := of_knd b h.2.2
    exact ⟨.t m s t, rfl⟩
theorem ok_knd {K : Bool} : ∀ u : UT, UT.ok K u = true → u.knd K = true
  | .n k, _ => rfl
  | .p a b, h => by
    simp only [UT.ok, Bool.and_eq_true] at h
    simp only [UT.knd, Bool.and_eq_true]
    exact ⟨h.1, ok_knd a h.2.1.1, ok_knd b h.2.1.2⟩
  | .t m a b, h => by
    simp only [UT.ok, Bool.and_eq_true] at h
    simp only [UT.knd, Bool.and_eq_true]
    exact ⟨h.1, ok_knd a h.2.1.1, ok_knd b h.2.1.2⟩
theorem lwhole_U (t : UT) (n : Nat) : callN tb (n + 1) "_law_whole" [t.toD] = some (.bool (isN t)) := by
  cases t with
  | n m =>
    rw [c__law_whole, u_run _ _ _ rfl]
    have h : (0 : Int) ≤ (m : Int) := by omega
    simp [d__law_whole, startD, UT.toD, h, isN]
  | p a b => rfl
  | t m a b => rfl
theorem lpart_U : ∀ (u : UT) (n : Nat), u.knd false = true → u.dep ≤ 60 → callN tb (n + u.dep + u.dep + 3) "_law_is_part" [u.toD] = some (.bool (UT.ok false u)) := by
  intro u
  induction u with
  | n k =>
    intro n _ _
    have w0 := lwhole_U (.n k) (n + (UT.n k).dep + (UT.n k).dep + 1)
    rw [c__law_is_part, u_run _ _ _ rfl]
    have e : decide ((k : Int) < 2) = decide (k ≤ 1) := by
      by_cases h : k ≤ 1
      · rw [decide_eq_true h]; exact decide_eq_true (by omega)
      · rw [decide_eq_false h]; exact decide_eq_false (by omega)
    simp only [UT.toD, isN] at w0 ⊢
    simp [d__law_is_part, startD, w0, e, UT.ok]
  | p a b iha ihb =>
    intro n hk hd
    simp only [UT.knd, Bool.and_eq_true] at hk
    have hd0 := hd
    simp only [UT.dep] at hd
    have hdep : (UT.p a b).dep = max a.dep b.dep + 1 := rfl
    have ea : callN tb (n + (UT.p a b).dep + (UT.p a b).dep + 2) "_law_is_part" [a.toD] = some (.bool (UT.ok false a)) := by
      have := iha (n + (UT.p a b).dep + (UT.p a b).dep - a.dep - a.dep - 1) hk.2.1 (by omega)
      rwa [show n + (UT.p a b).dep + (UT.p a b).dep - a.dep - a.dep - 1 + a.dep + a.dep + 3 = n + (UT.p a b).dep + (UT.p a b).dep + 2 by omega] at this
    have eb : callN tb (n + (UT.p a b).dep + (UT.p a b).dep + 2) "_law_is_part" [b.toD] = some (.bool (UT.ok false b)) := by
      have := ihb (n + (UT.p a b).dep + (UT.p a b).dep - b.dep - b.dep - 1) hk.2.2 (by omega)
      rwa [show n + (UT.p a b).dep + (UT.p a b).dep - b.dep - b.dep - 1 + b.dep + b.dep + 3 = n + (UT.p a b).dep + (UT.p a b).dep + 2 by omega] at this
    have w0 := lwhole_U (.p a b) (n + (UT.p a b).dep + (UT.p a b).dep + 1)
    cases oa : UT.ok false a with
    | false =>
      rw [oa] at ea
      have e0 : UT.ok false (.p a b) = false := by simp [UT.ok, oa]
      rw [e0, c__law_is_part, u_run _ _ _ rfl]
      simp only [UT.toD, isN] at w0 ⊢
      simp [d__law_is_part, startD, w0, at0, at1, ea]
    | true =>
      cases ob : UT.ok false b with
      | false =>
        rw [oa] at ea
        rw [ob] at eb
        have e0 : UT.ok false (.p a b) = false := by simp [UT.ok, ob]
        rw [e0, c__law_is_part, u_run _ _ _ rfl]
        simp only [UT.toD, isN] at w0 ⊢
        simp [d__law_is_part, startD, w0, at0, at1, ea, eb]
      | true =>
        obtain ⟨s, rfl⟩ := of_ok a oa
        obtain ⟨t, rfl⟩ := of_ok b ob
        have := lis_part_eq (.p s t) n (by rw [← pU_dep]; exact hd0)
        rw [← pU_dep, ← pU_toD, ← pU_ok] at this
        exact this
  | t m a b _ _ => intro n hk _; simp [UT.knd] at hk
theorem lcount_U (u : UT) (n : Nat) (hk : u.knd true = true) (hd : u.dep ≤ 60) : callN tb (n + u.dep + u.dep + 4) "_law_is_count" [u.toD] = some (.bool (UT.ok true u)) := by
  obtain ⟨t, rfl⟩ := of_knd u hk
  have := lis_count_eq t n (by rw [← cU_dep]; exact hd)
  rw [← cU_dep, ← cU_toD, ← cU_ok] at this
  exact this
theorem lclock_U (s t : UT) (n : Nat) (hs : s.knd false = true) (ht : t.knd true = true) (ds : s.dep ≤ 50) (dt : t.dep ≤ 50) : callN tb (n + 105) "_law_is_clock" [.tuple [s.toD, t.toD]] = some (.bool (UT.ok false s && UT.ok true t)) := by
  have e1 := lpart_U s (n + 101 - s.dep - s.dep) hs (by omega)
  rw [show n + 101 - s.dep - s.dep + s.dep + s.dep + 3 = n + 104 by omega] at e1
  have e2 := lcount_U t (n + 100 - t.dep - t.dep) ht (by omega)
  rw [show n + 100 - t.dep - t.dep + t.dep + t.dep + 4 = n + 104 by omega] at e2
  rw [c__law_is_clock, u_run _ _ _ rfl]
  generalize s.toD = S at *
  generalize t.toD = T at *
  generalize UT.ok false s = x at *
  generalize UT.ok true t = y at *
  cases x <;> simp [d__law_is_clock, startD, at0, at1, e1, e2]
/-! ### the law's texts of trees -/
noncomputable def lttBody : List PS := [.asg (.one 1) (.bin .Add (.bin .Add (.v 1) (.k (.str ","))) (.call "_law_tree_text" [(.v 2)]))]
theorem ltt_body : d__law_tree_text.body = [.ife (.not (.isin .tuple (.v 0))) [.ret (.blt .str [(.v 0)])] [], .asg (.one 1) (.k (.str "")), .for_ (.one 2) (.seq (.v 0)) lttBody, .ret (.bin .Add (.bin .Add (.k (.str "(")) (.sl (.v 1) (.k (.int 1)) (.k .none))) (.k (.str ")")))] := rfl
theorem ltt_turn (C : Orc) (E : OrcX) (d : PyData) (u v : List Nat) (o : Option PyData) (hd : C "_law_tree_text" [d] = some (.str (tx v))) (hl : u.length + v.length ≤ 1000) :
    exs C E lttBody [o, some (.str (tx u)), some d] = some (.nx [o, some (.str (tx (u ++ 44 :: v))), some d]) := by
  have o1 : okLen ((tx u).length + (tx [44]).length) = true := okLen_of (by rw [tx_len, tx_len]; simp only [List.length_cons, List.length_nil]; omega)
  have o2 : okLen ((tx (u ++ [44])).length + (tx v).length) = true := okLen_of (by rw [tx_len, tx_len, List.length_append]; simp only [List.length_cons, List.length_nil]; omega)
  unfold lttBody
  rw [q44]
  simp only [u_ssS, u_asg1, u_bin, u_call, u_cons, u_nil, u_v, u_vrS, u_vr0, u_k, hd, u_addS, o1, if_true, tx_app, o2, List.set, u_ss0, List.append_assoc, List.cons_append, List.nil_append]
theorem ltt_fin (C : Orc) (E : OrcX) (u : List Nat) (o o2 : Option PyData) (hl : u.length ≤ 1000) : exs C E [.ret (.bin .Add (.bin .Add (.k (.str "(")) (.sl (.v 1) (.k (.int 1)) (.k .none))) (.k (.str ")")))] [o, some (.str (tx (44 :: u))), o2] = some (.rt (.str (tx (40 :: (u ++ [41]))))) := by
  have o0 : okLen (tx (44 :: u)).length = true := okLen_of (by rw [tx_len, List.length_cons]; omega)
  have o1 : okLen ((tx [40]).length + (tx u).length) = true := okLen_of (by rw [tx_len, tx_len]; simp only [List.length_cons, List.length_nil]; omega)
  have o2 : okLen ((tx (40 :: u)).length + (tx [41]).length) = true := okLen_of (by rw [tx_len, tx_len]; simp only [List.length_cons, List.length_nil]; omega)
  have ec : cutS (tx (44 :: u)) (some 1) none = tx u := cut_from (44 :: u) 1
  rw [q40, q41]
  simp only [u_ssS, u_ret, u_bin, u_k, u_sl, u_sl3, u_v, u_vrS, u_vr0, u_partK, u_part0, u_partDI, u_partD0, u_slS, o0, if_true, ec, u_addS, o1, tx_app, o2, List.cons_append, List.nil_append]
theorem ltt_U : ∀ (t : UT) (n : Nat), t.w.length ≤ 480 → callN tb (n + t.dep + 1) "_law_tree_text" [t.toD] = some (.str (tx t.w)) := by
  have tup : ∀ (n : Nat) (ds : List PyData) (u : List Nat) (hu : u.length ≤ 480) (o : Option PyData), forD (.one 2) (exs (callN tb n) (callE tb n) lttBody) ds [some (.tuple ds), some (.str (tx [])), none] = some (.nx [some (.tuple ds), some (.str (tx (44 :: u))), o]) → callN tb (n + 1) "_law_tree_text" [.tuple ds] = some (.str (tx (40 :: (u ++ [41])))) := fun n ds u hu o lp => by
    rw [c__law_tree_text, u_run _ _ _ rfl]
    show outD (exs (callN tb n) (callE tb n) d__law_tree_text.body [some (.tuple ds), none, none]) = _
    have f := ltt_fin (callN tb n) (callE tb n) u (some (.tuple ds)) o (by omega)
    have s1 : ∀ r, itD (callN tb n) (.seq (.v 0)) (some (.tuple ds) :: r) = some ds := fun r => rfl
    rw [ltt_body, u_ssS, u_ifS]
    simp only [u_not, u_isin, u_v, u_vr0, u_isT, Bool.not_true, u_ss0]
    rw [u_ssS, u_asg1, u_k, q0]
    simp only [List.set]
    rw [u_ssS, u_for, s1]
    simp only [lp]
    rw [f]
    rfl
  intro t
  induction t with
  | n k =>
    intro n hl
    rw [c__law_tree_text, u_run _ _ _ rfl]
    have hk := dg_lt k
    have hlog : ((k : Int)).natAbs.log2 < 1920 := log_lt hk hl
    have hs : Bl.fn .str [.int (k : Int)] = some (.str (tx (dg k))) := by
      rw [u_strI, if_pos (decide_eq_true hlog), ← str_dg]
    show outD (exs (callN tb (n + (UT.n k).dep)) (callE tb (n + (UT.n k).dep)) d__law_tree_text.body [some (.int (k : Int)), none, none]) = _
    rw [ltt_body, u_ssS, u_ifS]
    simp only [u_not, u_isin, u_v, u_vr0, u_isT, Bool.not_false, u_ssS, u_ret, u_blt, u_cons, u_nil, hs]
    rfl
  | p a b iha ihb =>
    intro n hl
    have hw : (UT.p a b).w = 40 :: (a.w ++ 44 :: (b.w ++ [41])) := rfl
    have hdep : (UT.p a b).dep = max a.dep b.dep + 1 := rfl
    have hl2 := hl
    rw [hw] at hl2
    simp only [List.length_cons, List.length_append, List.length_nil] at hl2
    generalize hm : max a.dep b.dep = m at *
    have ea : callN tb (n + m + 1) "_law_tree_text" [a.toD] = some (.str (tx a.w)) := by
      have := iha (n + (m - a.dep)) (by omega)
      rwa [show n + (m - a.dep) + a.dep + 1 = n + m + 1 by omega] at this
    have eb : callN tb (n + m + 1) "_law_tree_text" [b.toD] = some (.str (tx b.w)) := by
      have := ihb (n + (m - b.dep)) (by omega)
      rwa [show n + (m - b.dep) + b.dep + 1 = n + m + 1 by omega] at this
    have := tup (n + m + 1) [a.toD, b.toD] (a.w ++ 44 :: b.w) (by simp only [List.length_cons, List.length_append]; omega) (some b.toD) (by
      have f1 := ltt_turn (callN tb (n + m + 1)) (callE tb (n + m + 1)) a.toD [] a.w (some (.tuple [a.toD, b.toD])) ea (by simp only [List.length_nil]; omega)
      have f2 := ltt_turn (callN tb (n + m + 1)) (callE tb (n + m + 1)) b.toD ([] ++ 44 :: a.w) b.w (some (.tuple [a.toD, b.toD])) eb (by simp only [List.length_cons, List.length_append, List.length_nil]; omega)
      rw [forD1 _ _ _ _ _ _ _ rfl f1, forD1 _ _ _ _ _ _ _ rfl f2]
      simp only [List.nil_append, List.cons_append]
      rfl)
    rw [hdep, show n + (m + 1) + 1 = n + m + 1 + 1 by omega, hw]
    simp only [List.append_assoc, List.cons_append] at this
    exact this
  | t k a b iha ihb =>
    intro n hl
    have hw : (UT.t k a b).w = 40 :: (dg k ++ 44 :: (a.w ++ 44 :: (b.w ++ [41]))) := rfl
    have hdep : (UT.t k a b).dep = max a.dep b.dep + 1 := rfl
    have hl2 := hl
    rw [hw] at hl2
    simp only [List.length_cons, List.length_append, List.length_nil] at hl2
    generalize hm : max a.dep b.dep = m at *
    have ea : callN tb (n + m + 1) "_law_tree_text" [a.toD] = some (.str (tx a.w)) := by
      have := iha (n + (m - a.dep)) (by omega)
      rwa [show n + (m - a.dep) + a.dep + 1 = n + m + 1 by omega] at this
    have eb : callN tb (n + m + 1) "_law_tree_text" [b.toD] = some (.str (tx b.w)) := by
      have := ihb (n + (m - b.dep)) (by omega)
      rwa [show n + (m - b.dep) + b.dep + 1 = n + m + 1 by omega] at this
    have ek : callN tb (n + m + 1) "_law_tree_text" [.int (k : Int)] = some (.str (tx (dg k))) := by
      rw [c__law_tree_text, u_run _ _ _ rfl]
      have hk := dg_lt k
      have hlog : ((k : Int)).natAbs.log2 < 1920 := log_lt hk (by omega)
      have hs : Bl.fn .str [.int (k : Int)] = some (.str (tx (dg k))) := by
        rw [u_strI, if_pos (decide_eq_true hlog), ← str_dg]
      show outD (exs (callN tb (n + m)) (callE tb (n + m)) d__law_tree_text.body [some (.int (k : Int)), none, none]) = _
      rw [ltt_body, u_ssS, u_ifS]
      simp only [u_not, u_isin, u_v, u_vr0, u_isT, Bool.not_false, u_ssS, u_ret, u_blt, u_cons, u_nil, hs]
      rfl
    have := tup (n + m + 1) [.int (k : Int), a.toD, b.toD] (dg k ++ 44 :: (a.w ++ 44 :: b.w)) (by simp only [List.length_cons, List.length_append]; omega) (some b.toD) (by
      have f0 := ltt_turn (callN tb (n + m + 1)) (callE tb (n + m + 1)) (.int (k : Int)) [] (dg k) (some (.tuple [.int (k : Int), a.toD, b.toD])) ek (by simp only [List.length_nil]; omega)
      have f1 := ltt_turn (callN tb (n + m + 1)) (callE tb (n + m + 1)) a.toD ([] ++ 44 :: dg k) a.w (some (.tuple [.int (k : Int), a.toD, b.toD])) ea (by simp only [List.length_cons, List.length_append, List.length_nil]; omega)
      have f2 := ltt_turn (callN tb (n + m + 1)) (callE tb (n + m + 1)) b.toD ([] ++ 44 :: dg k ++ 44 :: a.w) b.w (some (.tuple [.int (k : Int), a.toD, b.toD])) eb (by simp only [List.length_cons, List.length_append, List.length_nil]; omega)
      rw [forD1 _ _ _ _ _ _ _ rfl f0, forD1 _ _ _ _ _ _ _ rfl f1, forD1 _ _ _ _ _ _ _ rfl f2]
      simp only [List.nil_append, List.cons_append, List.append_assoc]
      rfl)
    rw [hdep, show n + (m + 1) + 1 = n + m + 1 + 1 by omega, hw]
    simp only [List.append_assoc, List.cons_append] at this
    exact this
theorem lwritten_U (s t : UT) (n : Nat) (ls : s.w.length ≤ 480) (lt : t.w.length ≤ 480) (ds : s.dep ≤ 50) (dt : t.dep ≤ 50) : callN tb (n + 52) "_law_written" [.tuple [s.toD, t.toD]] = some (.str (tx (s.w ++ 32 :: t.w))) := by
  have e1 := ltt_U s (n + 50 - s.dep) ls
  rw [show n + 50 - s.dep + s.dep + 1 = n + 51 by omega] at e1
  have e2 := ltt_U t (n + 50 - t.dep) lt
  rw [show n + 50 - t.dep + t.dep + 1 = n + 51 by omega] at e2
  rw [c__law_written, u_run _ _ _ rfl]
  have o1 : okLen ((tx s.w).length + (tx [32]).length) = true := okLen_of (by rw [tx_len, tx_len]; simp only [List.length_cons, List.length_nil]; omega)
  have o2 : okLen ((tx (s.w ++ [32])).length + (tx t.w).length) = true := okLen_of (by rw [tx_len, tx_len, List.length_append]; simp only [List.length_cons, List.length_nil]; omega)
  generalize s.toD = S at *
  generalize t.toD = T at *
  have body : d__law_written.body = [.ret (.bin .Add (.bin .Add (.call "_law_tree_text" [(.ix (.v 0) (.k (.int 0)))]) (.k (.str " "))) (.call "_law_tree_text" [(.ix (.v 0) (.k (.int 1)))]))] := rfl
  rw [body, q32]
  show outD (exs (callN tb (n + 51)) (callE tb (n + 51)) _ [some (.tuple [S, T])]) = _
  simp only [u_ssS, u_ret, u_bin, u_call, u_cons, u_nil, u_ix, u_v, u_vr0, u_k, u_ix_t, at0, at1, e1, e2, u_addS, o1, if_true, tx_app, o2, u_outRt, List.append_assoc, List.cons_append, List.nil_append]

/-! ### what the law asks for -/
theorem cnt_app (a b : List Nat) : cnt (a ++ b) = cnt a + cnt b := List.count_append
theorem dep_cnt : ∀ t : UT, t.dep ≤ cnt t.w
  | .n k => Nat.zero_le _
  | .p a b => by
    have h1 := dep_cnt a
    have h2 := dep_cnt b
    have e : cnt (UT.p a b).w = 1 + cnt a.w + cnt b.w := by
      unfold cnt
      simp [UT.w]
      omega
    simp only [UT.dep]
    omega
  | .t m a b => by
    have h1 := dep_cnt a
    have h2 := dep_cnt b
    have e : 1 + cnt a.w + cnt b.w ≤ cnt (UT.t m a b).w := by
      unfold cnt
      simp [UT.w]
      omega
    simp only [UT.dep]
    omega
theorem due_eq (cs : List Nat) (ha : asc cs) (hl : cs.length ≤ 480) (hc : cnt cs ≤ 50) (n : Nat) : callN tb (n + 106) "_law_due" [.str (tx cs)] = some (match (tA false cs 51 0).1, (tA true cs 51 ((tA false cs 51 0).2 + 1)).1 with
    | some a, some b => if (UT.ok false a && UT.ok true b && decide (a.w ++ 32 :: b.w = cs)) = true then .tuple [a.toD, b.toD] else .none
    | _, _ => .none) := by
  have o2 : okLen 2 = true := by decide
  have g1 := treeat_eq false cs ha hl 51 0 (n + 53) (by rw [List.drop_zero]; omega)
  obtain ⟨_, a2⟩ := tA_good false cs 51 0
  generalize tA false cs 51 0 = x1 at *
  obtain ⟨r1, e1⟩ := x1
  have g2 := treeat_eq true cs ha hl 51 (e1 + 1) (n + 53) (by have := cnt_mono (cs := cs) (p := 0) (q := e1 + 1) (by omega); rw [List.drop_zero] at this; omega)
  obtain ⟨_, b2⟩ := tA_good true cs 51 (e1 + 1)
  simp only at *
  generalize tA true cs 51 (e1 + 1) = x2 at *
  obtain ⟨r2, e2⟩ := x2
  simp only at *
  have body : d__law_due.body = [.asg (.many [1, 2]) (.call "_law_tree_at" [(.v 0), (.k (.int 0)), (.k (.int 2))]), .asg (.many [3, 4]) (.call "_law_tree_at" [(.v 0), (.bin .Add (.v 2) (.k (.int 1))), (.k (.int 3))]), .ife (.or (.cmp .Is (.v 1) (.k .none)) (.or (.cmp .Is (.v 3) (.k .none)) (.or (.not (.call "_law_is_clock" [(.tup [(.v 1), (.v 3)])])) (.cmp .NotEq (.call "_law_written" [(.tup [(.v 1), (.v 3)])]) (.v 0))))) [.ret (.k .none)] [], .ret (.tup [(.v 1), (.v 3)])] := rfl
  rw [c__law_due, u_run _ _ _ rfl]
  show outD (exs (callN tb (n + 105)) (callE tb (n + 105)) d__law_due.body [some (.str (tx cs)), none, none, none, none]) = _
  rw [body, u_ssS, u_asgM, u_call]
  have g1' : callN tb (n + 105) "_law_tree_at" [.str (tx cs), .int 0, .int 2] = some (.tuple [optD r1, .int (e1 : Int)]) := g1
  have g2' : callN tb (n + 105) "_law_tree_at" [.str (tx cs), .int ((e1 : Int) + 1), .int 3] = some (.tuple [optD r2, .int (e2 : Int)]) := g2
  have s1 : setTg (.many [1, 2]) (.tuple [optD r1, .int (e1 : Int)]) [some (.str (tx cs)), none, none, none, none] = some [some (.str (tx cs)), some (optD r1), some (.int (e1 : Int)), none, none] := rfl
  have s2 : setTg (.many [3, 4]) (.tuple [optD r2, .int (e2 : Int)]) [some (.str (tx cs)), some (optD r1), some (.int (e1 : Int)), none, none] = some [some (.str (tx cs)), some (optD r1), some (.int (e1 : Int)), some (optD r2), some (.int (e2 : Int))] := rfl
  simp only [u_cons, u_nil, u_v, u_vr0, u_k, g1', s1]
  rw [u_ssS, u_asgM, u_call]
  simp only [u_cons, u_nil, u_v, u_vr0, u_vrS, u_bin, u_k, u_addI, g2', s2]
  rw [u_ssS, u_ifS, u_or]
  cases r1 with
  | none =>
    simp only [u_cmp, u_v, u_vrS, u_vr0, u_k, optD, u_isN]
    rfl
  | some a =>
    cases r2 with
    | none =>
      simp only [u_cmp, u_or, u_v, u_vrS, u_vr0, u_k, optD, u_isN, isNon_U]
      rfl
    | some b =>
      obtain ⟨ka, da, la, lc⟩ := a2 a rfl
      obtain ⟨kb, db, lb, _⟩ := b2 b rfl
      have ck := lclock_U a b n ka kb (by omega) (by omega)
      have wr := lwritten_U a b (n + 53) (by omega) (by omega) (by omega) (by omega)
      have asc2 : asc (a.w ++ 32 :: b.w) := asc_app (w_asc a) (asc_app (asc1 (by decide)) (w_asc b))
      have ne := ne_tx asc2 ha
      simp only [u_cmp, u_or, u_not, u_call, u_tup, u_cons, u_nil, u_v, u_vrS, u_vr0, u_k, optD, u_isN, isNon_U, List.length_cons, List.length_nil, o2, if_true, ck]
      have wr' : callN tb (n + 105) "_law_written" [.tuple [a.toD, b.toD]] = some (.str (tx (a.w ++ 32 :: b.w))) := wr
      cases hk : (UT.ok false a && UT.ok true b) with
      | false =>
        simp only [Bool.not_false, Bool.false_and, Bool.false_eq_true, if_false]
        rfl
      | true =>
        simp only [Bool.not_true, Bool.true_and, wr', ne]
        by_cases hw : a.w ++ 32 :: b.w = cs
        · simp only [hw, decide_true, Bool.not_true, if_true, u_ss0]
          simp only [u_ssS, u_ret, u_tup, u_cons, u_nil, u_v, u_vrS, u_vr0, List.length_cons, List.length_nil, o2, if_true, u_outRt]
        · simp only [hw, decide_false, Bool.not_false, Bool.false_eq_true, if_false]
          rfl
theorem due_yes (cs : List Nat) (ha : asc cs) (hl : cs.length ≤ 480) (hc : cnt cs ≤ 50) (s t : UT) (h : isClk cs s t) (n : Nat) : callN tb (n + 106) "_law_due" [.str (tx cs)] = some (.tuple [s.toD, t.toD]) := by
  obtain ⟨h1, h2, h3⟩ := h
  have c1 : cnt cs = cnt s.w + cnt t.w := by
    rw [h3, cnt_app]
    have : cnt (32 :: t.w) = cnt t.w := by unfold cnt; simp
    omega
  have d1 := dep_cnt s
  have d2 := dep_cnt t
  have a1 := tA_all (K := false) (cs := cs) s 0 51 (32 :: t.w) (ok_knd s h1) (by omega) rfl h3
  have e2 : cs.drop (0 + s.w.length + 1) = t.w ++ [] := by
    rw [h3, Nat.zero_add, ← List.drop_drop, List.drop_left, List.append_nil]
    rfl
  have a2 := tA_all (K := true) (cs := cs) t (0 + s.w.length + 1) 51 [] (ok_knd t h2) (by omega) rfl e2
  rw [due_eq cs ha hl hc, a1]
  simp only [a2]
  rw [if_pos (by rw [h1, h2, decide_eq_true h3.symm]; rfl)]
theorem due_no (cs : List Nat) (ha : asc cs) (hl : cs.length ≤ 480) (hc : cnt cs ≤ 50) (h : ∀ s t, ¬ isClk cs s t) (n : Nat) : callN tb (n + 106) "_law_due" [.str (tx cs)] = some .none := by
  rw [due_eq cs ha hl hc]
  split
  · rename_i a b _ _
    rw [if_neg]
    intro z
    simp only [Bool.and_eq_true, decide_eq_true_eq] at z
    exact h a b ⟨z.1.1, z.1.2, z.2.symm⟩
  · rfl

/-! ### the law -/
theorem isxE (c c0 : Str) : isxD c (excD c0) = some (.bool (c == "ValueError" || subX c0 c)) := rfl
theorem isx1 : isxD "ClockError" (excD "NoText") = some (.bool true) := by rw [isxE]; exact congrArg (fun b => some (PyData.bool b)) (by decide +kernel)
theorem isx2 : isxD "ValueError" (excD "NoText") = some (.bool true) := by rw [isxE]; exact congrArg (fun b => some (PyData.bool b)) (by decide +kernel)
theorem isx3 : isxD "NoClock" (excD "NoText") = some (.bool false) := by rw [isxE]; exact congrArg (fun b => some (PyData.bool b)) (by decide +kernel)
theorem isx4 : isxD "NotApart" (excD "NoText") = some (.bool false) := by rw [isxE]; exact congrArg (fun b => some (PyData.bool b)) (by decide +kernel)
theorem sub1 : subX "NoText" "NoText" = true := by decide +kernel
noncomputable def fHand : List PS := [.asg (.one 3) (.and (.isx "ClockError" (.v 2)) (.isx "ValueError" (.v 2))), .ret (.ix (.lst [(.k (.int 0)), (.k .none)]) (.blt .int [(.and (.v 3) (.and (.not (.isx "NoClock" (.v 2))) (.not (.isx "NotApart" (.v 2)))))]))]
theorem found_body : d__law_found.body = [.try_ [.asg (.one 1) (.call "read" [(.v 0)])] "NoText" (some 2) fHand, .ret (.ix (.lst [(.v 1), (.k (.int 0))]) (.blt .int [(.cmp .Is (.v 1) (.k .none))]))] := rfl
theorem found_yes (n : Nat) (d s t : PyData) (h : callN tb n "read" [d] = some (.tuple [s, t])) : callN tb (n + 1) "_law_found" [d] = some (.tuple [s, t]) := by
  rw [c__law_found, u_run _ _ _ rfl]
  show outD (exs (callN tb n) (callE tb n) d__law_found.body [some d, none, none, none]) = _
  have e1 : exs (callN tb n) (callE tb n) [.asg (.one 1) (.call "read" [(.v 0)])] [some d, none, none, none] = some (.nx [some d, some (.tuple [s, t]), none, none]) := by
    simp only [u_ssS, u_asg1, u_call, u_cons, u_nil, u_v, u_vr0, h, List.set, u_ss0]
  rw [found_body, u_ssS, u_try]
  unfold tryD
  rw [e1]
  have o2 : okLen 2 = true := by decide
  simp only [u_ssS, u_ret, u_ix, u_lst, u_cons, u_nil, u_v, u_vrS, u_vr0, u_k, u_blt, u_cmp, u_isN, u_intB, isNon, List.length_cons, List.length_nil, o2, if_true, u_ix_l, Bool.false_eq_true, if_false, at0, u_outRt]
theorem found_no (n : Nat) (d : PyData) (h1 : callN tb n "read" [d] = none) (h2 : callE tb n "read" [d] = some ("NoText" : Str)) : callN tb (n + 1) "_law_found" [d] = some .none := by
  rw [c__law_found, u_run _ _ _ rfl]
  show outD (exs (callN tb n) (callE tb n) d__law_found.body [some d, none, none, none]) = _
  have e1 : exs (callN tb n) (callE tb n) [.asg (.one 1) (.call "read" [(.v 0)])] [some d, none, none, none] = none := by
    simp only [u_ssS, u_asg1, u_call, u_cons, u_nil, u_v, u_vr0, h1]
  have e2 : exsX (callN tb n) (callE tb n) [.asg (.one 1) (.call "read" [(.v 0)])] [some d, none, none, none] = some (("NoText" : Str), [some d, none, none, none]) := by
    simp only [x_ssS, x_asg1, onX, x_call1, x_esS, x_v, x_es0, u_cons, u_nil, u_v, u_vr0, h2]
  have o2 : okLen 2 = true := by decide
  have e4 : exs (callN tb n) (callE tb n) fHand [some d, none, some (excD "NoText"), none] = some (.rt .none) := by
    unfold fHand
    simp only [u_ssS, u_asg1, u_and, u_not, u_isx, u_v, u_vrS, u_vr0, isx1, isx2, isx3, isx4, List.set, u_ret, u_ix, u_lst, u_cons, u_nil, u_k, u_blt, u_intB, List.length_cons, List.length_nil, o2, if_true, u_ix_l, Bool.not_false, at1]
  rw [found_body, u_ssS, u_try]
  unfold tryD
  rw [e1, e2]
  simp only [sub1, if_true, inH, List.set, e4]
  rfl
theorem cnt_cut (cs : List Nat) {p q : Nat} (h : p ≤ q) : cnt (cs.take p) + cnt (cs.drop q) ≤ cnt cs := by
  have h1 := cnt_mono (cs := cs) h
  have h2 := congrArg cnt (List.take_append_drop p cs)
  rw [cnt_app] at h2
  omega
theorem cnt_le (u : List Nat) : cnt u ≤ u.length := List.count_le_length
noncomputable def s17 : List Nat := [40, 41, 44, 44, 48, 49, 32, 49, 40, 48, 41, 50, 45, 95, 32, 10, 9]
noncomputable def some8 : List (List Nat) := [[48, 48], [40, 48, 44, 48, 41], [40, 49, 44, 49, 41], [49, 48], [40, 48, 44, 48, 44, 48, 41], [40, 49, 44, 48, 44, 50, 41], [40, 48, 44, 49, 41], [48, 32, 48]]
theorem chg_body : d__law_changed.body = [.asg (.one 2) (.bin .Mod (.bin .FloorDiv (.v 1) (.k (.int 8))) (.bin .Add (.blt .len [(.v 0)]) (.k (.int 1)))), .asg (.one 3) (.bin .Mod (.v 1) (.k (.int 8))), .ife (.cmp .Eq (.v 3) (.k (.int 0))) [.ret (.bin .Add (.sl (.v 0) (.k .none) (.v 2)) (.sl (.v 0) (.bin .Add (.v 2) (.k (.int 1))) (.k .none)))] [], .ife (.cmp .Lt (.v 3) (.k (.int 5))) [.asg (.one 4) (.ix (.k (.str (tx s17))) (.bin .Mod (.bin .FloorDiv (.v 1) (.k (.int 7))) (.k (.int 17)))), .ret (.bin .Add (.bin .Add (.sl (.v 0) (.k .none) (.v 2)) (.v 4)) (.sl (.v 0) (.bin .Add (.v 2) (.bin .Mod (.v 3) (.k (.int 2)))) (.k .none)))] [], .asg (.one 5) (.bin .Add (.bin .Add (.v 2) (.k (.int 1))) (.bin .Mod (.bin .FloorDiv (.v 1) (.k (.int 800))) (.k (.int 5)))), .ife (.cmp .Eq (.v 3) (.k (.int 5))) [.ret (.bin .Add (.sl (.v 0) (.k .none) (.v 5)) (.sl (.v 0) (.v 2) (.k .none)))] [], .ife (.cmp .Eq (.v 3) (.k (.int 6))) [.ret (.bin .Add (.sl (.v 0) (.k .none) (.v 2)) (.sl (.v 0) (.v 5) (.k .none)))] [], .asg (.one 6) (.lst (some8.map fun l => .k (.str (tx l)))), .ret (.bin .Add (.bin .Add (.sl (.v 0) (.k .none) (.v 2)) (.ix (.v 6) (.bin .Mod (.bin .FloorDiv (.v 1) (.k (.int 800))) (.k (.int 8))))) (.sl (.v 0) (.bin .Add (.v 2) (.k (.int 1))) (.k .none)))] := rfl
theorem cutToT (l : List Nat) (j : Nat) : cutS (tx l) none (some (j : Int)) = tx (l.take j) := cut_to l j
theorem cutFromT (l : List Nat) (i : Nat) : cutS (tx l) (some (i : Int)) none = tx (l.drop i) := cut_from l i
theorem sl_to (C : Orc) (cs : List Nat) (o : okLen (tx cs).length = true) (i j : Nat) (r : Rho) (e0 : vr 0 r = some (.str (tx cs))) (e1 : vr i r = some (.int (j : Int))) : ev C (.sl (.v 0) (.k .none) (.v i)) r = some (.str (tx (cs.take j))) := by
  simp only [u_sl, u_sl3, u_v, e0, e1, u_k, u_part0, u_partV, u_partD0, u_partDI, u_slS, o, if_true, cutToT]
theorem sl_from (C : Orc) (cs : List Nat) (o : okLen (tx cs).length = true) (i j : Nat) (r : Rho) (e0 : vr 0 r = some (.str (tx cs))) (e1 : vr i r = some (.int (j : Int))) : ev C (.sl (.v 0) (.v i) (.k .none)) r = some (.str (tx (cs.drop j))) := by
  simp only [u_sl, u_sl3, u_v, e0, e1, u_k, u_part0, u_partV, u_partD0, u_partDI, u_slS, o, if_true, cutFromT]
theorem sl_fromB (C : Orc) (cs : List Nat) (o : okLen (tx cs).length = true) (a b : PX) (j : Nat) (r : Rho) (e0 : vr 0 r = some (.str (tx cs))) (e1 : ev C (.bin .Add a b) r = some (.int (j : Int))) : ev C (.sl (.v 0) (.bin .Add a b) (.k .none)) r = some (.str (tx (cs.drop j))) := by
  simp only [u_sl, u_sl3, u_v, e0, e1, u_k, u_part0, u_partB, u_partD0, u_partDI, u_slS, o, if_true, cutFromT]
theorem add_tx (C : Orc) (a b : PX) (r : Rho) (x y : List Nat) (h1 : ev C a r = some (.str (tx x))) (h2 : ev C b r = some (.str (tx y))) (hl : x.length + y.length ≤ 2000) : ev C (.bin .Add a b) r = some (.str (tx (x ++ y))) := by
  have o : okLen ((tx x).length + (tx y).length) = true := okLen_of (by rw [tx_len, tx_len]; omega)
  simp only [u_bin, h1, h2, u_addS, o, if_true, tx_app]
noncomputable def chgOk (cs cs' : List Nat) : Prop := asc cs' ∧ cs'.length ≤ cs.length + 7 ∧ cnt cs' ≤ cnt cs + 5
theorem ret_of (C : Orc) (E : OrcX) (e : PX) (r : Rho) (d : PyData) (h : ev C e r = some d) (ss : List PS) : exs C E (.ret e :: ss) r = some (.rt d) := by
  rw [u_ssS, u_ret, h]
theorem chg_mid (cs : List Nat) (ha : asc cs) (p q : Nat) (hpq : p ≤ q) (m : List Nat) (hm : asc m) (h1 : m.length ≤ 7) (h2 : cnt m ≤ 5) : chgOk cs (cs.take p ++ m ++ cs.drop q) := by
  refine ⟨asc_app (asc_app (asc_take ha _) hm) (asc_drop ha _), ?_, ?_⟩
  · simp only [List.length_append, List.length_take, List.length_drop]
    omega
  · have := cnt_cut cs hpq
    rw [cnt_app, cnt_app]
    omega
theorem modN (x m : Int) (hm : 0 < m) : ∃ k : Nat, (k : Int) < m ∧ x % m = (k : Int) := by
  have h0 := Int.emod_nonneg x (Int.ne_of_gt hm)
  have h1 := Int.emod_lt_of_pos x hm
  exact ⟨(x % m).toNat, by omega, by omega⟩
theorem changed_ex (cs : List Nat) (ha : asc cs) (hl : cs.length ≤ 480) (x : Int) (n : Nat) : ∃ cs', chgOk cs cs' ∧ callN tb (n + 1) "_law_changed" [.str (tx cs), .int x] = some (.str (tx cs')) := by
  have o := okLen1 hl
  have o' : okLen cs.length = true := okLen_of (by omega)
  have ltk : ∀ q, (cs.take q).length ≤ 480 := fun q => by rw [List.length_take]; omega
  have ld : ∀ q, (cs.drop q).length ≤ 480 := fun q => by rw [List.length_drop]; omega
  have h8 : okDiv 8 = true := by decide
  have h7 : okDiv 7 = true := by decide
  have h800 : okDiv 800 = true := by decide
  have m8 : decide ((0 : Int) < 8) = true := by decide
  have m17 : decide ((0 : Int) < 17) = true := by decide
  have m5 : decide ((0 : Int) < 5) = true := by decide
  have m2 : decide ((0 : Int) < 2) = true := by decide
  have mL : decide ((0 : Int) < (cs.length : Int) + 1) = true := decide_eq_true (by omega)
  obtain ⟨p, hp, ep⟩ := modN (x / 8) ((cs.length : Int) + 1) (of_decide_eq_true mL)
  have hp : p ≤ cs.length := Int.ofNat_le.mp (Int.le_of_lt_add_one hp)
  obtain ⟨k, _, ek⟩ := modN x 8 (by decide)
  have c0 : callN tb (n + 1) "_law_changed" [.str (tx cs), .int x] = outD (exs (callN tb n) (callE tb n) d__law_changed.body [some (.str (tx cs)), some (.int x), none, none, none, none, none]) := by
    rw [c__law_changed, u_run _ _ _ rfl]
    rfl
  rw [c0, chg_body, u_ssS, u_asg1]
  simp only [u_bin, u_v, u_vrS, u_vr0, u_k, u_divI, h8, if_true, u_blt, u_cons, u_nil, u_lenS, tx_len, o', u_addI, u_modI, mL, ep, List.set]
  rw [u_ssS, u_asg1]
  simp only [u_bin, u_v, u_vrS, u_vr0, u_k, u_modI, m8, if_true, ek, List.set]
  rw [u_ssS, u_ifS]
  simp only [u_cmp, u_v, u_vrS, u_vr0, u_k, u_eqI]
  by_cases k0 : k = 0
  · have k0' : (k : Int) = 0 := by omega
    refine ⟨cs.take p ++ [] ++ cs.drop (p + 1), chg_mid cs ha p (p + 1) (by omega) [] (fun _ h => nomatch h) (by decide) (by decide), ?_⟩
    simp only [k0', decide_true]
    rw [ret_of _ _ _ _ _ (add_tx _ _ _ _ _ _ (sl_to _ cs o 2 p _ rfl rfl) (sl_fromB _ cs o _ _ (p + 1) _ rfl rfl) (Nat.le_trans (Nat.add_le_add (ltk _) (ld _)) (by decide)))]
    rw [List.append_nil]
    rfl
  · have k0' : ¬ ((k : Int) = 0) := by omega
    simp only [k0', decide_false, u_ss0]
    rw [u_ssS, u_ifS]
    simp only [u_cmp, u_v, u_vrS, u_vr0, u_k, u_lt]
    by_cases k5 : k < 5
    · have k5' : (k : Int) < 5 := by omega
      obtain ⟨i, hi, ei⟩ := modN (x / 7) 17 (by decide)
      have hi : i < 17 := Int.ofNat_lt.mp hi
      have ex := at_tx (cs := s17) (p := i) (show i < s17.length from hi) (by decide)
      have hs : ∀ c ∈ s17, c < 128 := by decide
      have hc : s17[i]'hi < 128 := hs _ (List.getElem_mem _)
      obtain ⟨j, hj, ej⟩ : ∃ j : Nat, j ≤ 1 ∧ (k : Int) % 2 = (j : Int) := ⟨k % 2, by omega, by omega⟩
      refine ⟨cs.take p ++ [s17[i]'hi] ++ cs.drop (p + j), chg_mid cs ha p (p + j) (by omega) [s17[i]'hi] (asc1 hc) (by simp) (Nat.le_trans (cnt_le _) (by simp)), ?_⟩
      simp only [k5', decide_true]
      rw [u_ssS, u_asg1, u_ix]
      simp only [u_bin, u_v, u_vrS, u_vr0, u_k, u_divI, h7, if_true, u_modI, m17, ei, ex, List.set]
      rw [ret_of _ _ _ _ _ (add_tx _ _ _ _ _ _ (add_tx _ _ _ _ _ _ (sl_to _ cs o 2 p _ rfl rfl) (rfl : ev _ (.v 4) _ = some (.str (tx [s17[i]'hi]))) (Nat.le_trans (Nat.add_le_add (ltk _) (Nat.le_refl 1)) (by decide))) (sl_fromB _ cs o _ _ (p + j) _ rfl (by
        simp only [u_bin, u_v, u_vrS, u_vr0, u_k, u_modI, m2, if_true, ej, u_addI]
        rfl)) (by rw [List.length_append]; exact Nat.le_trans (Nat.add_le_add (Nat.add_le_add (ltk _) (Nat.le_refl 1)) (ld _)) (by decide)))]
      rfl
    · have k5' : ¬ ((k : Int) < 5) := by omega
      obtain ⟨e, he, ee⟩ := modN (x / 800) 5 (by decide)
      have he : e < 5 := Int.ofNat_lt.mp he
      have ee' : (p : Int) + 1 + (e : Int) = ((p + 1 + e : Nat) : Int) := by omega
      simp only [k5', decide_false, u_ss0]
      rw [u_ssS, u_asg1]
      simp only [u_bin, u_v, u_vrS, u_vr0, u_k, u_divI, h800, if_true, u_modI, m5, ee, u_addI, ee', List.set]
      rw [u_ssS, u_ifS]
      simp only [u_cmp, u_v, u_vrS, u_vr0, u_k, u_eqI]
      by_cases k55 : k = 5
      · have k55' : (k : Int) = 5 := by omega
        refine ⟨cs.take (p + 1 + e) ++ cs.drop p, ⟨asc_app (asc_take ha _) (asc_drop ha _), ?_, ?_⟩, ?_⟩
        · simp only [List.length_append, List.length_take, List.length_drop]
          omega
        · have h1 : cs.take (p + 1 + e) = cs.take p ++ (cs.drop p).take (1 + e) := by
            rw [show p + 1 + e = p + (1 + e) by omega]; exact List.take_add
          have h2 := cnt_cut cs (Nat.le_refl p)
          have h3 := cnt_le ((cs.drop p).take (1 + e))
          rw [List.length_take] at h3
          rw [cnt_app, h1, cnt_app]
          omega
        · simp only [k55', decide_true]
          rw [ret_of _ _ _ _ _ (add_tx _ _ _ _ _ _ (sl_to _ cs o 5 (p + 1 + e) _ rfl rfl) (sl_from _ cs o 2 p _ rfl rfl) (Nat.le_trans (Nat.add_le_add (ltk _) (ld _)) (by decide)))]
          rfl
      · have k55' : ¬ ((k : Int) = 5) := by omega
        simp only [k55', decide_false, u_ss0]
        rw [u_ssS, u_ifS]
        simp only [u_cmp, u_v, u_vrS, u_vr0, u_k, u_eqI]
        by_cases k6 : k = 6
        · have k6' : (k : Int) = 6 := by omega
          refine ⟨cs.take p ++ [] ++ cs.drop (p + 1 + e), chg_mid cs ha p _ (by omega) [] (fun _ h => nomatch h) (by decide) (by decide), ?_⟩
          simp only [k6', decide_true]
          rw [ret_of _ _ _ _ _ (add_tx _ _ _ _ _ _ (sl_to _ cs o 2 p _ rfl rfl) (sl_from _ cs o 5 (p + 1 + e) _ rfl rfl) (Nat.le_trans (Nat.add_le_add (ltk _) (ld _)) (by decide)))]
          rw [List.append_nil]
          rfl
        · have k6' : ¬ ((k : Int) = 6) := by omega
          obtain ⟨i, hi, ei⟩ := modN (x / 800) 8 (by decide)
          have hi : i < 8 := Int.ofNat_lt.mp hi
          have hs : ∀ l ∈ some8, l.length ≤ 7 ∧ cnt l ≤ 5 ∧ ∀ c ∈ l, c < 128 := by decide
          obtain ⟨w1, w2, w3⟩ := hs (some8[i]'hi) (List.getElem_mem _)
          have ex : atI (some8.map fun l => PyData.str (tx l)) (i : Int) = some (.str (tx (some8[i]'hi))) := by
            refine atI_nat ?_
            rw [List.getElem?_map, List.getElem?_eq_getElem hi]
            rfl
          have el : ∀ r, ev (callN tb n) (.lst (some8.map fun l => .k (.str (tx l)))) r = some (.list (some8.map fun l => PyData.str (tx l))) := fun r => rfl
          refine ⟨cs.take p ++ some8[i]'hi ++ cs.drop (p + 1), chg_mid cs ha p (p + 1) (by omega) _ w3 w1 w2, ?_⟩
          simp only [k6', decide_false, u_ss0]
          rw [u_ssS, u_asg1, el]
          simp only [List.set]
          rw [ret_of _ _ _ _ _ (add_tx _ _ _ _ _ _ (add_tx _ _ _ _ _ _ (sl_to _ cs o 2 p _ rfl rfl) (show ev _ (.ix (.v 6) (.bin .Mod (.bin .FloorDiv (.v 1) (.k (.int 800))) (.k (.int 8)))) _ = some (.str (tx (some8[i]'hi))) by
            simp only [u_ix, u_bin, u_v, u_vrS, u_vr0, u_k, u_divI, h800, if_true, u_modI, m8, ei, u_ix_l, ex]) (Nat.le_trans (Nat.add_le_add (ltk _) w1) (by decide))) (sl_fromB _ cs o _ _ (p + 1) _ rfl rfl) (by rw [List.length_append]; exact Nat.le_trans (Nat.add_le_add (Nat.add_le_add (ltk _) w1) (ld _)) (by decide)))]
          rfl

theorem clock_ex (n : Nat) (x : Int) : ∃ (s : PT) (t : CT), s.dep ≤ 4 ∧ t.dep ≤ 4 ∧ t.le 1000 = true ∧ callN tb (n + 20) "_law_clock" [.int x, .int 4] = some (.tuple [s.toD, t.toD]) := by
  obtain ⟨a, _, ea⟩ := drawn_ex (n + 18) x 3
  obtain ⟨b, _, eb⟩ := drawn_ex (n + 18) x 4
  obtain ⟨s, hs, es⟩ := any_part_ex 4 (n + 13) a
  obtain ⟨t, ht, lt, et⟩ := any_count_ex 4 (n + 13) b
  have ps := lplain_part_eq s (n + 18 - s.dep) (by omega)
  have pt := lplain_count_eq t (n + 17 - t.dep) (by omega)
  rw [show n + 18 - s.dep + s.dep + 1 = n + 19 by omega] at ps
  rw [show n + 17 - t.dep + t.dep + 2 = n + 19 by omega] at pt
  have ds := PT.plain_dep s
  have dt := CT.plain_dep t
  refine ⟨s.plain, t.plain, by omega, by omega, ?_, ?_⟩
  · refine CT.le_mono (m := 29 * (t.dep + 1)) ?_ _ (CT.plain_le (s := 0) t lt)
    have : 29 * (t.dep + 1) ≤ 29 * 5 := Nat.mul_le_mul_left _ (by omega)
    omega
  · rw [c__law_clock, u_run _ _ _ rfl]
    have e4 : ((4 : Nat) : Int) = 4 := rfl
    rw [e4] at es et
    simp [d__law_clock, startD, ea, eb, es, et, ps, pt]
theorem UT.depD : ∀ t : UT, t.toD.depth = t.dep
  | .n k => rfl
  | .p a b => by simp [UT.toD, PyData.depth, PyData.depthAll, PL.UT.dep, UT.depD a, UT.depD b]
  | .t m a b => by simp [UT.toD, PyData.depth, PyData.depthAll, PL.UT.dep, UT.depD a, UT.depD b]
theorem UT.eqvR : ∀ t : UT, PyData.eqv t.toD t.toD = true
  | .n k => by simp [UT.toD, PyData.eqv]
  | .p a b => by simp [UT.toD, PyData.eqv, PyData.eqvAll, UT.eqvR a, UT.eqvR b]
  | .t m a b => by simp [UT.toD, PyData.eqv, PyData.eqvAll, UT.eqvR a, UT.eqvR b]
theorem pair_self (s t : UT) (ds : s.dep ≤ 50) (dt : t.dep ≤ 50) : cmpD .Eq (.tuple [s.toD, t.toD]) (.tuple [s.toD, t.toD]) = some (.bool true) := by
  have l : (PyData.tuple [s.toD, t.toD]).canLay0 = true := by simp [PyData.canLay0, PyData.canLayAll0, UT.lay s, UT.lay t]
  have d : (PyData.tuple [s.toD, t.toD]).depth ≤ 51 := by
    simp only [PyData.depth, PyData.depthAll, UT.depD]
    omega
  rw [u_eqD l l (by omega)]
  have : PyData.eqv (.tuple [s.toD, t.toD]) (.tuple [s.toD, t.toD]) = true := by simp [PyData.eqv, PyData.eqvAll, UT.eqvR s, UT.eqvR t]
  rw [this]
noncomputable def lTail : List PS := [.asg (.one 5) (.call "_law_found" [(.v 3)]), .ret (.and (.cmp .Eq (.v 5) (.call "_law_due" [(.v 3)])) (.or (.cmp .Is (.v 5) (.k .none)) (.call "_law_is_clock" [(.v 5)])))]
theorem tail_true (cs : List Nat) (ha : asc cs) (hl : cs.length ≤ 480) (hc : cnt cs ≤ 50) (o0 o1 o2 o4 o5 : Option PyData) : outD (exs (callN tb 114) (callE tb 114) lTail [o0, o1, o2, some (.str (tx cs)), o4, o5]) = some (.bool true) := by
  unfold lTail
  rcases read_out cs ha hl 105 with ⟨s, t, h, r⟩ | ⟨h, r1, r2⟩
  · have f := found_yes 113 _ _ _ r
    have d := due_yes cs ha hl hc s t h 8
    have c1 : cnt cs = cnt s.w + cnt t.w := by
      rw [h.2.2, cnt_app]
      have : cnt (32 :: t.w) = cnt t.w := by unfold cnt; simp
      omega
    have d1 := dep_cnt s
    have d2 := dep_cnt t
    have k := lclock_U s t 9 (ok_knd s h.1) (ok_knd t h.2.1) (by omega) (by omega)
    rw [h.1, h.2.1] at k
    have q := pair_self s t (by omega) (by omega)
    generalize s.toD = S at *
    generalize t.toD = T at *
    have f' : callN tb 114 "_law_found" [.str (tx cs)] = some (.tuple [S, T]) := f
    have d' : callN tb 114 "_law_due" [.str (tx cs)] = some (.tuple [S, T]) := d
    have k' : callN tb 114 "_law_is_clock" [.tuple [S, T]] = some (.bool true) := k
    simp only [u_ssS, u_asg1, u_ret, u_and, u_or, u_cmp, u_call, u_cons, u_nil, u_v, u_vrS, u_vr0, u_k, f', d', List.set, q, u_isN, isNon, k', u_outRt]
  · have f' : callN tb 114 "_law_found" [.str (tx cs)] = some .none := found_no 113 _ r1 r2
    have d' : callN tb 114 "_law_due" [.str (tx cs)] = some .none := due_no cs ha hl hc h 8
    have q : cmpD .Eq .none .none = some (.bool true) := rfl
    simp only [u_ssS, u_asg1, u_ret, u_and, u_or, u_cmp, u_call, u_cons, u_nil, u_v, u_vrS, u_vr0, u_k, f', d', List.set, q, u_isN, isNon, u_outRt]
noncomputable def lStep : List PS := [.asg (.one 3) (.call "_law_changed" [(.v 3), (.call "_law_drawn" [(.v 1), (.v 4)])])]
theorem loop_ex (num : Int) (o0 o2 o5 : Option PyData) : ∀ (ks : List Int) (cs : List Nat) (o4 : Option PyData), asc cs → cs.length + 7 * ks.length ≤ 480 → ∃ cs' o', forD (.one 4) (exs (callN tb 114) (callE tb 114) lStep) (ks.map PyData.int) [o0, some (.int num), o2, some (.str (tx cs)), o4, o5] = some (.nx [o0, some (.int num), o2, some (.str (tx cs')), o', o5]) ∧ asc cs' ∧ cs'.length ≤ cs.length + 7 * ks.length ∧ cnt cs' ≤ cnt cs + 5 * ks.length := by
  intro ks
  induction ks with
  | nil => intro cs o4 ha hl; exact ⟨cs, o4, rfl, ha, by simp, by simp⟩
  | cons k ks ih =>
    intro cs o4 ha hl
    simp only [List.length_cons] at hl
    obtain ⟨m, _, em⟩ := drawn_ex 113 num k
    obtain ⟨cs1, ⟨a1, l1, c1⟩, e1⟩ := changed_ex cs ha (by omega) m 113
    have st : exs (callN tb 114) (callE tb 114) lStep [o0, some (.int num), o2, some (.str (tx cs)), some (.int k), o5] = some (.nx [o0, some (.int num), o2, some (.str (tx cs1)), some (.int k), o5]) := by
      unfold lStep
      simp only [u_ssS, u_asg1, u_call, u_cons, u_nil, u_v, u_vrS, u_vr0, em, e1, List.set, u_ss0]
    obtain ⟨cs', o', e, a, l, c⟩ := ih cs1 (some (.int k)) a1 (by omega)
    refine ⟨cs', o', ?_, a, by simp only [List.length_cons]; omega, by simp only [List.length_cons]; omega⟩
    rw [List.map_cons, forD1 _ _ _ _ _ _ _ rfl st]
    exact e
theorem pU_len : ∀ t : PT, (pU t).w.length + 3 ≤ 4 * 2 ^ t.dep ∧ cnt (pU t).w + 1 ≤ 2 ^ t.dep
  | .z b => by cases b <;> decide
  | .p a b => by
    obtain ⟨h1, k1⟩ := pU_len a
    obtain ⟨h2, k2⟩ := pU_len b
    have h3 : 2 ^ a.dep ≤ 2 ^ (max a.dep b.dep) := Nat.pow_le_pow_right (by decide) (by omega)
    have h4 : 2 ^ b.dep ≤ 2 ^ (max a.dep b.dep) := Nat.pow_le_pow_right (by decide) (by omega)
    have e : cnt (pU (.p a b)).w = 1 + cnt (pU a).w + cnt (pU b).w := by
      unfold cnt
      simp [pU, UT.w]
      omega
    rw [e]
    simp only [pU, UT.w, PT.dep, List.length_cons, List.length_append, List.length_nil, Nat.pow_succ]
    omega
theorem dg_cnt (m : Nat) : cnt (dg m) = 0 := by
  unfold cnt
  rw [List.count_eq_zero]
  intro h
  exact absurd (dg_all m 40 h) (by decide)
theorem cU_len : ∀ t : CT, t.le 1000 = true → (cU t).w.length + 8 ≤ 12 * 2 ^ t.dep ∧ cnt (cU t).w + 1 ≤ 2 ^ t.dep
  | .i m, h => by
    have hm : m ≤ 1000 := by simpa [CT.le] using h
    have h1 := dg_len_le (m := m) (k := 4) (by decide) (by omega)
    have h2 := dg_cnt m
    simp only [cU, UT.w, CT.dep]
    omega
  | .t m a b, h => by
    simp only [CT.le, Bool.and_eq_true, decide_eq_true_eq] at h
    obtain ⟨h1, k1⟩ := cU_len a h.1.2
    obtain ⟨h2, k2⟩ := cU_len b h.2
    have h0 := dg_len_le (m := m) (k := 4) (by decide) (by omega)
    have h3 : 2 ^ a.dep ≤ 2 ^ (max a.dep b.dep) := Nat.pow_le_pow_right (by decide) (by omega)
    have h4 : 2 ^ b.dep ≤ 2 ^ (max a.dep b.dep) := Nat.pow_le_pow_right (by decide) (by omega)
    have h5 := dg_cnt m
    have e : cnt (cU (.t m a b)).w = 1 + cnt (dg m) + cnt (cU a).w + cnt (cU b).w := by
      unfold cnt
      simp [cU, UT.w]
      omega
    rw [e]
    simp only [cU, UT.w, CT.dep, List.length_cons, List.length_append, List.length_nil, Nat.pow_succ]
    omega
theorem text_ex (s : PT) (t : CT) (hs : s.dep ≤ 4) (ht : t.dep ≤ 4) (lt : t.le 1000 = true) : ∃ cs, asc cs ∧ cs.length ≤ 246 ∧ cnt cs ≤ 30 ∧ callN tb 114 "_law_written" [.tuple [s.toD, t.toD]] = some (.str (tx cs)) := by
  obtain ⟨h1, k1⟩ := pU_len s
  obtain ⟨h2, k2⟩ := cU_len t lt
  have h3 : 2 ^ s.dep ≤ 2 ^ 4 := Nat.pow_le_pow_right (by decide) hs
  have h4 : 2 ^ t.dep ≤ 2 ^ 4 := Nat.pow_le_pow_right (by decide) ht
  have h5 : (2 : Nat) ^ 4 = 16 := by decide
  have w := lwritten_U (pU s) (cU t) 62 (by omega) (by omega) (by rw [pU_dep]; omega) (by rw [cU_dep]; omega)
  rw [pU_toD, cU_toD] at w
  refine ⟨_, asc_app (w_asc _) (asc_app (asc1 (by decide)) (w_asc _)), ?_, ?_, w⟩
  · simp only [List.length_append, List.length_cons, List.length_nil]
    omega
  · rw [cnt_app, cnt_app]
    have : cnt [32] = 0 := by decide
    omega
noncomputable def lRest : List PS := .asg (.one 3) (.call "_law_written" [(.v 2)]) :: .for_ (.one 4) (.rng1 (.bin .Mult (.bin .Mod (.v 1) (.k (.int 3))) (.bin .Add (.k (.int 1)) (.bin .Mod (.bin .FloorDiv (.v 1) (.k (.int 15))) (.k (.int 2)))))) lStep :: lTail
theorem rest_true (num : Int) (s : PT) (t : CT) (hs : s.dep ≤ 4) (ht : t.dep ≤ 4) (lt : t.le 1000 = true) (o0 : Option PyData) : outD (exs (callN tb 114) (callE tb 114) lRest [o0, some (.int num), some (.tuple [s.toD, t.toD]), none, none, none]) = some (.bool true) := by
  obtain ⟨cs, a0, l0, c0, w⟩ := text_ex s t hs ht lt
  generalize PyData.tuple [s.toD, t.toD] = D at *
  have h15 : okDiv 15 = true := by decide
  have m3 : decide ((0 : Int) < 3) = true := by decide
  have m2 : decide ((0 : Int) < 2) = true := by decide
  obtain ⟨j, hj, ej⟩ : ∃ j : Nat, j ≤ 4 ∧ num % 3 * (1 + num / 15 % 2) = (j : Int) := by
    have h1 : num % 3 = 0 ∨ num % 3 = 1 ∨ num % 3 = 2 := by omega
    have h2 : num / 15 % 2 = 0 ∨ num / 15 % 2 = 1 := by omega
    rcases h1 with h1 | h1 | h1 <;> rcases h2 with h2 | h2 <;> rw [h1, h2]
    · exact ⟨0, by omega, rfl⟩
    · exact ⟨0, by omega, rfl⟩
    · exact ⟨1, by omega, rfl⟩
    · exact ⟨2, by omega, rfl⟩
    · exact ⟨2, by omega, rfl⟩
    · exact ⟨4, by omega, rfl⟩
  have mm : okMul (num % 3) (1 + num / 15 % 2) = true := okMul_l (by omega) (by omega)
  have it : ∀ r, vr 1 r = some (.int num) → itD (callN tb 114) (.rng1 (.bin .Mult (.bin .Mod (.v 1) (.k (.int 3))) (.bin .Add (.k (.int 1)) (.bin .Mod (.bin .FloorDiv (.v 1) (.k (.int 15))) (.k (.int 2)))))) r = some (((List.range j).map fun (k : Nat) => ((k : Nat) : Int)).map PyData.int) := fun r h1 => by
    show rngIt1 (ev (callN tb 114) (.bin .Mult (.bin .Mod (.v 1) (.k (.int 3))) (.bin .Add (.k (.int 1)) (.bin .Mod (.bin .FloorDiv (.v 1) (.k (.int 15))) (.k (.int 2)))))) r = _
    unfold rngIt1
    have e : ev (callN tb 114) (.bin .Mult (.bin .Mod (.v 1) (.k (.int 3))) (.bin .Add (.k (.int 1)) (.bin .Mod (.bin .FloorDiv (.v 1) (.k (.int 15))) (.k (.int 2))))) r = some (.int (j : Int)) := by
      simp only [u_bin, u_v, h1, u_k, u_modI, m3, if_true, u_divI, h15, m2, u_addI, u_mulI, mm, ej]
    rw [e]
    have ok : okR (j : Int) = true := decide_eq_true ⟨by omega, by omega⟩
    simp only [ok, if_true]
    unfold rngD
    rw [List.map_map, show ((j : Int) - 0).toNat = j by omega]
    exact congrArg some (List.map_congr_left fun k _ => by simp)
  obtain ⟨cs', o', lp, a1, l1, c1⟩ := loop_ex num o0 (some D) none ((List.range j).map fun (k : Nat) => ((k : Nat) : Int)) cs none a0 (by rw [List.length_map, List.length_range]; omega)
  rw [List.length_map, List.length_range] at l1 c1
  unfold lRest
  rw [u_ssS, u_asg1, u_call]
  simp only [u_cons, u_nil, u_v, u_vrS, u_vr0, w, List.set]
  rw [u_ssS, u_for, it _ rfl]
  simp only [lp]
  exact tail_true cs' a1 (by omega) (by omega) _ _ _ _ _
theorem law_true (ns : List Int) (h : ns.length ≤ 63) : callN tb 115 "law" [.list (ns.map PyData.int)] = some (.bool true) := by
  obtain ⟨m0, _, e0⟩ := mixed_ex 112 ns 0 (by decide)
  obtain ⟨m1, _, e1⟩ := mixed_ex 112 ns 1 (by decide)
  obtain ⟨m2, _, e2⟩ := mixed_ex 112 ns 2 (by decide)
  obtain ⟨m3, _, e3⟩ := mixed_ex 112 ns 3 (by decide)
  obtain ⟨s, t, hs, ht, lt, ec⟩ := clock_ex 94 m0
  obtain ⟨s', hs', es'⟩ := any_part_ex 2 110 m2
  obtain ⟨t', ht', lt', et'⟩ := any_count_ex 2 110 m3
  have r1 := rest_true m1 s t hs ht lt (some (.list (ns.map PyData.int)))
  have r2 := rest_true m1 s' t' (by omega) (by omega) (CT.le_mono (by omega) _ lt') (some (.list (ns.map PyData.int)))
  have h3 : okDiv 3 = true := by decide
  have m5 : decide ((0 : Int) < 5) = true := by decide
  have o2 : okLen 2 = true := by decide
  generalize ns.map PyData.int = L at *
  have es : callN tb 114 "_law_any_part" [.int m2, .int 2] = some s'.toD := es'
  have et : callN tb 114 "_law_any_count" [.int m3, .int 2] = some t'.toD := et'
  have ec' : callN tb 114 "_law_clock" [.int m0, .int 4] = some (.tuple [s.toD, t.toD]) := ec
  have e0' : callN tb 114 "_law_mixed" [.list L, .int 0] = some (.int m0) := e0
  have e1' : callN tb 114 "_law_mixed" [.list L, .int 1] = some (.int m1) := e1
  have e2' : callN tb 114 "_law_mixed" [.list L, .int 2] = some (.int m2) := e2
  have e3' : callN tb 114 "_law_mixed" [.list L, .int 3] = some (.int m3) := e3
  have body : d_law.body = .asg (.one 1) (.call "_law_mixed" [(.v 0), (.k (.int 1))]) :: .asg (.one 2) (.call "_law_clock" [(.call "_law_mixed" [(.v 0), (.k (.int 0))]), (.k (.int 4))]) :: .ife (.cmp .Eq (.bin .Mod (.bin .FloorDiv (.v 1) (.k (.int 3))) (.k (.int 5))) (.k (.int 1))) [.asg (.one 2) (.tup [(.call "_law_any_part" [(.call "_law_mixed" [(.v 0), (.k (.int 2))]), (.k (.int 2))]), (.call "_law_any_count" [(.call "_law_mixed" [(.v 0), (.k (.int 3))]), (.k (.int 2))])])] [] :: lRest := rfl
  rw [c_law, u_run _ _ _ rfl]
  show outD (exs (callN tb 114) (callE tb 114) d_law.body [some (.list L), none, none, none, none, none]) = _
  generalize s.toD = S at *
  generalize t.toD = T at *
  generalize s'.toD = S' at *
  generalize t'.toD = T' at *
  rw [body, u_ssS, u_asg1, u_call]
  simp only [u_cons, u_nil, u_v, u_vr0, u_k, e1', List.set]
  rw [u_ssS, u_asg1, u_call]
  simp only [u_cons, u_nil, u_call, u_v, u_vr0, u_k, e0', ec', List.set]
  rw [u_ssS, u_ifS]
  simp only [u_cmp, u_bin, u_v, u_vrS, u_vr0, u_k, u_divI, h3, if_true, u_modI, m5, u_eqI]
  by_cases hm : m1 / 3 % 5 = 1
  · simp only [hm, decide_true]
    rw [u_ssS, u_asg1, u_tup]
    simp only [u_cons, u_nil, u_call, u_v, u_vr0, u_k, e2', e3', es, et, List.length_cons, List.length_nil, o2, if_true, List.set, u_ss0]
    exact r2
  · simp only [hm, decide_false, u_ss0]
    exact r1

noncomputable def top (i : Nat) : Stmt := PySem.Challenge.pw_treeclock_k03_whole_read.main.body.getD i (.Pass ⟨0, 0, 0, 0⟩)
theorem sc_is_part : FnScope d_is_part.N d_is_part.ps (defScope (top 6)) := ⟨rfl, rfl, rfl, by decide +kernel, rfl, by decide +kernel, by decide +kernel⟩
theorem sc_is_count : FnScope d_is_count.N d_is_count.ps (defScope (top 7)) := ⟨rfl, rfl, rfl, by decide +kernel, rfl, by decide +kernel, by decide +kernel⟩
theorem sc_front : FnScope d_front.N d_front.ps (defScope (top 8)) := ⟨rfl, rfl, rfl, by decide +kernel, rfl, by decide +kernel, by decide +kernel⟩
theorem sc_are_plain_halves : FnScope d_are_plain_halves.N d_are_plain_halves.ps (defScope (top 9)) := ⟨rfl, rfl, rfl, by decide +kernel, rfl, by decide +kernel, by decide +kernel⟩
theorem sc_are_same_number : FnScope d_are_same_number.N d_are_same_number.ps (defScope (top 10)) := ⟨rfl, rfl, rfl, by decide +kernel, rfl, by decide +kernel, by decide +kernel⟩
theorem sc_is_whole : FnScope d_is_whole.N d_is_whole.ps (defScope (top 11)) := ⟨rfl, rfl, rfl, by decide +kernel, rfl, by decide +kernel, by decide +kernel⟩
theorem sc_is_tuple_of : FnScope d_is_tuple_of.N d_is_tuple_of.ps (defScope (top 12)) := ⟨rfl, rfl, rfl, by decide +kernel, rfl, by decide +kernel, by decide +kernel⟩
theorem sc_read : FnScope d_read.N d_read.ps (defScope (top 15)) := ⟨rfl, rfl, rfl, by decide +kernel, rfl, by decide +kernel, by decide +kernel⟩
theorem sc_tree_of : FnScope d_tree_of.N d_tree_of.ps (defScope (top 16)) := ⟨rfl, rfl, rfl, by decide +kernel, rfl, by decide +kernel, by decide +kernel⟩
theorem sc_asked : FnScope d_asked.N d_asked.ps (defScope (top 17)) := ⟨rfl, rfl, rfl, by decide +kernel, rfl, by decide +kernel, by decide +kernel⟩
theorem sc_is_plain_pair : FnScope d_is_plain_pair.N d_is_plain_pair.ps (defScope (top 18)) := ⟨rfl, rfl, rfl, by decide +kernel, rfl, by decide +kernel, by decide +kernel⟩
theorem sc_is_plain_triple : FnScope d_is_plain_triple.N d_is_plain_triple.ps (defScope (top 19)) := ⟨rfl, rfl, rfl, by decide +kernel, rfl, by decide +kernel, by decide +kernel⟩
theorem sc_sign_at : FnScope d_sign_at.N d_sign_at.ps (defScope (top 20)) := ⟨rfl, rfl, rfl, by decide +kernel, rfl, by decide +kernel, by decide +kernel⟩
theorem sc_figures_end : FnScope d_figures_end.N d_figures_end.ps (defScope (top 21)) := ⟨rfl, rfl, rfl, by decide +kernel, rfl, by decide +kernel, by decide +kernel⟩
theorem sc_number_of : FnScope d_number_of.N d_number_of.ps (defScope (top 22)) := ⟨rfl, rfl, rfl, by decide +kernel, rfl, by decide +kernel, by decide +kernel⟩
theorem sc__law_cell_at : FnScope d__law_cell_at.N d__law_cell_at.ps (defScope (top 24)) := ⟨rfl, rfl, rfl, by decide +kernel, rfl, by decide +kernel, by decide +kernel⟩
theorem sc__law_mixed : FnScope d__law_mixed.N d__law_mixed.ps (defScope (top 25)) := ⟨rfl, rfl, rfl, by decide +kernel, rfl, by decide +kernel, by decide +kernel⟩
theorem sc__law_drawn : FnScope d__law_drawn.N d__law_drawn.ps (defScope (top 26)) := ⟨rfl, rfl, rfl, by decide +kernel, rfl, by decide +kernel, by decide +kernel⟩
theorem sc__law_any_part : FnScope d__law_any_part.N d__law_any_part.ps (defScope (top 27)) := ⟨rfl, rfl, rfl, by decide +kernel, rfl, by decide +kernel, by decide +kernel⟩
theorem sc__law_any_count : FnScope d__law_any_count.N d__law_any_count.ps (defScope (top 28)) := ⟨rfl, rfl, rfl, by decide +kernel, rfl, by decide +kernel, by decide +kernel⟩
theorem sc__law_plain_part : FnScope d__law_plain_part.N d__law_plain_part.ps (defScope (top 29)) := ⟨rfl, rfl, rfl, by decide +kernel, rfl, by decide +kernel, by decide +kernel⟩
theorem sc__law_more : FnScope d__law_more.N d__law_more.ps (defScope (top 30)) := ⟨rfl, rfl, rfl, by decide +kernel, rfl, by decide +kernel, by decide +kernel⟩
theorem sc__law_front : FnScope d__law_front.N d__law_front.ps (defScope (top 31)) := ⟨rfl, rfl, rfl, by decide +kernel, rfl, by decide +kernel, by decide +kernel⟩
theorem sc__law_plain_count : FnScope d__law_plain_count.N d__law_plain_count.ps (defScope (top 32)) := ⟨rfl, rfl, rfl, by decide +kernel, rfl, by decide +kernel, by decide +kernel⟩
theorem sc__law_whole : FnScope d__law_whole.N d__law_whole.ps (defScope (top 33)) := ⟨rfl, rfl, rfl, by decide +kernel, rfl, by decide +kernel, by decide +kernel⟩
theorem sc__law_is_part : FnScope d__law_is_part.N d__law_is_part.ps (defScope (top 34)) := ⟨rfl, rfl, rfl, by decide +kernel, rfl, by decide +kernel, by decide +kernel⟩
theorem sc__law_is_count : FnScope d__law_is_count.N d__law_is_count.ps (defScope (top 35)) := ⟨rfl, rfl, rfl, by decide +kernel, rfl, by decide +kernel, by decide +kernel⟩
theorem sc__law_is_clock : FnScope d__law_is_clock.N d__law_is_clock.ps (defScope (top 36)) := ⟨rfl, rfl, rfl, by decide +kernel, rfl, by decide +kernel, by decide +kernel⟩
theorem sc__law_clock : FnScope d__law_clock.N d__law_clock.ps (defScope (top 37)) := ⟨rfl, rfl, rfl, by decide +kernel, rfl, by decide +kernel, by decide +kernel⟩
theorem sc__law_tree_text : FnScope d__law_tree_text.N d__law_tree_text.ps (defScope (top 38)) := ⟨rfl, rfl, rfl, by decide +kernel, rfl, by decide +kernel, by decide +kernel⟩
theorem sc__law_written : FnScope d__law_written.N d__law_written.ps (defScope (top 39)) := ⟨rfl, rfl, rfl, by decide +kernel, rfl, by decide +kernel, by decide +kernel⟩
theorem sc__law_changed : FnScope d__law_changed.N d__law_changed.ps (defScope (top 40)) := ⟨rfl, rfl, rfl, by decide +kernel, rfl, by decide +kernel, by decide +kernel⟩
theorem sc__law_number_at : FnScope d__law_number_at.N d__law_number_at.ps (defScope (top 41)) := ⟨rfl, rfl, rfl, by decide +kernel, rfl, by decide +kernel, by decide +kernel⟩
theorem sc__law_tree_at : FnScope d__law_tree_at.N d__law_tree_at.ps (defScope (top 42)) := ⟨rfl, rfl, rfl, by decide +kernel, rfl, by decide +kernel, by decide +kernel⟩
theorem sc__law_due : FnScope d__law_due.N d__law_due.ps (defScope (top 43)) := ⟨rfl, rfl, rfl, by decide +kernel, rfl, by decide +kernel, by decide +kernel⟩
theorem sc__law_found : FnScope d__law_found.N d__law_found.ps (defScope (top 44)) := ⟨rfl, rfl, rfl, by decide +kernel, rfl, by decide +kernel, by decide +kernel⟩
theorem sc_law : FnScope d_law.N d_law.ps (defScope (top 45)) := ⟨rfl, rfl, rfl, by decide +kernel, rfl, by decide +kernel, by decide +kernel⟩
theorem ok_is_part {X : Cx} {k : Nat} {C : Orc} {E : OrcX} (hx : Hz X ⟨d_is_part.N, (defScope (top 6)).names, fs, xs⟩ k C E) : GS X C E (defBody (top 6)) d_is_part.body := (gs1 (st_if (g_call hx.toHx (by decide +kernel) (ag1 (g_v hx.toHx (by decide +kernel)) (by rfl) ag0)) (gs1 (st_ret (g_or (g_cmp hx.toHx (g_v hx.toHx (by decide +kernel)) (g_k (by decide +kernel)) (by rfl)) (g_one (g_cmp hx.toHx (g_v hx.toHx (by decide +kernel)) (g_k (by decide +kernel)) (by rfl))))) gs0) gs0) (gs1 (st_if (g_or (g_not (g_call hx.toHx (by decide +kernel) (ag1 (g_v hx.toHx (by decide +kernel)) (by rfl) (ag1 (g_k (by decide +kernel)) (by rfl) ag0)))) (g_one (g_call hx.toHx (by decide +kernel) (ag1 (g_ix (g_v hx.toHx (by decide +kernel)) (g_k (by decide +kernel)) (by rfl)) (by rfl) (ag1 (g_ix (g_v hx.toHx (by decide +kernel)) (g_k (by decide +kernel)) (by rfl)) (by rfl) ag0))))) (gs1 (st_ret (g_k (by decide +kernel))) gs0) gs0) (gs1 (st_ret (g_and (g_call hx.toHx (by decide +kernel) (ag1 (g_ix (g_v hx.toHx (by decide +kernel)) (g_k (by decide +kernel)) (by rfl)) (by rfl) ag0)) (g_one (g_call hx.toHx (by decide +kernel) (ag1 (g_ix (g_v hx.toHx (by decide +kernel)) (g_k (by decide +kernel)) (by rfl)) (by rfl) ag0))))) gs0)))
theorem ok_is_count {X : Cx} {k : Nat} {C : Orc} {E : OrcX} (hx : Hz X ⟨d_is_count.N, (defScope (top 7)).names, fs, xs⟩ k C E) : GS X C E (defBody (top 7)) d_is_count.body := (gs1 (st_if (g_call hx.toHx (by decide +kernel) (ag1 (g_v hx.toHx (by decide +kernel)) (by rfl) ag0)) (gs1 (st_ret (g_cmp hx.toHx (g_v hx.toHx (by decide +kernel)) (g_k (by decide +kernel)) (by rfl))) gs0) gs0) (gs1 (st_if (g_or (g_not (g_call hx.toHx (by decide +kernel) (ag1 (g_v hx.toHx (by decide +kernel)) (by rfl) (ag1 (g_k (by decide +kernel)) (by rfl) ag0)))) (g_or (g_not (g_call hx.toHx (by decide +kernel) (ag1 (g_ix (g_v hx.toHx (by decide +kernel)) (g_k (by decide +kernel)) (by rfl)) (by rfl) ag0))) (g_one (g_cmp hx.toHx (g_ix (g_v hx.toHx (by decide +kernel)) (g_k (by decide +kernel)) (by rfl)) (g_k (by decide +kernel)) (by rfl))))) (gs1 (st_ret (g_k (by decide +kernel))) gs0) gs0) (gs1 (st_ret (g_and (g_call hx.toHx (by decide +kernel) (ag1 (g_ix (g_v hx.toHx (by decide +kernel)) (g_k (by decide +kernel)) (by rfl)) (by rfl) ag0)) (g_and (g_call hx.toHx (by decide +kernel) (ag1 (g_ix (g_v hx.toHx (by decide +kernel)) (g_k (by decide +kernel)) (by rfl)) (by rfl) ag0)) (g_one (g_call hx.toHx (by decide +kernel) (ag1 (g_ix (g_v hx.toHx (by decide +kernel)) (g_k (by decide +kernel)) (by rfl)) (by rfl) (ag1 (g_ix (g_v hx.toHx (by decide +kernel)) (g_k (by decide +kernel)) (by rfl)) (by rfl) ag0))))))) gs0)))
theorem ok_front {X : Cx} {k : Nat} {C : Orc} {E : OrcX} (hx : Hz X ⟨d_front.N, (defScope (top 8)).names, fs, xs⟩ k C E) : GS X C E (defBody (top 8)) d_front.body := (gs1 (st_ret (g_ife (g_call hx.toHx (by decide +kernel) (ag1 (g_v hx.toHx (by decide +kernel)) (by rfl) ag0)) (g_v hx.toHx (by decide +kernel)) (g_ix (g_v hx.toHx (by decide +kernel)) (g_k (by decide +kernel)) (by rfl)))) gs0)
theorem ok_are_plain_halves {X : Cx} {k : Nat} {C : Orc} {E : OrcX} (hx : Hz X ⟨d_are_plain_halves.N, (defScope (top 9)).names, fs, xs⟩ k C E) : GS X C E (defBody (top 9)) d_are_plain_halves.body := (gs1 (st_ret (g_and (g_not (g_call hx.toHx (by decide +kernel) (ag1 (g_v hx.toHx (by decide +kernel)) (by rfl) (ag1 (g_v hx.toHx (by decide +kernel)) (by rfl) ag0)))) (g_one (g_cmp hx.toHx (g_blt hx.toHx .min (by decide +kernel) (ag1 (g_call hx.toHx (by decide +kernel) (ag1 (g_v hx.toHx (by decide +kernel)) (by rfl) ag0)) (by rfl) (ag1 (g_call hx.toHx (by decide +kernel) (ag1 (g_v hx.toHx (by decide +kernel)) (by rfl) ag0)) (by rfl) ag0))) (g_k (by decide +kernel)) (by rfl))))) gs0)
theorem ok_are_same_number {X : Cx} {k : Nat} {C : Orc} {E : OrcX} (hx : Hz X ⟨d_are_same_number.N, (defScope (top 10)).names, fs, xs⟩ k C E) : GS X C E (defBody (top 10)) d_are_same_number.body := (gs1 (st_ret (g_and (g_call hx.toHx (by decide +kernel) (ag1 (g_v hx.toHx (by decide +kernel)) (by rfl) ag0)) (g_one (g_cmp hx.toHx (g_v hx.toHx (by decide +kernel)) (g_v hx.toHx (by decide +kernel)) (by rfl))))) gs0)
theorem ok_is_whole {X : Cx} {k : Nat} {C : Orc} {E : OrcX} (hx : Hz X ⟨d_is_whole.N, (defScope (top 11)).names, fs, xs⟩ k C E) : GS X C E (defBody (top 11)) d_is_whole.body := (gs1 (st_ret (g_and (g_isin hx.toHx .int (by decide +kernel) (g_v hx.toHx (by decide +kernel)) (by rfl)) (g_one (g_not (g_isin hx.toHx .bool (by decide +kernel) (g_v hx.toHx (by decide +kernel)) (by rfl)))))) gs0)
theorem ok_is_tuple_of {X : Cx} {k : Nat} {C : Orc} {E : OrcX} (hx : Hz X ⟨d_is_tuple_of.N, (defScope (top 12)).names, fs, xs⟩ k C E) : GS X C E (defBody (top 12)) d_is_tuple_of.body := (gs1 (st_ret (g_and (g_isin hx.toHx .tuple (by decide +kernel) (g_v hx.toHx (by decide +kernel)) (by rfl)) (g_one (g_cmp hx.toHx (g_blt hx.toHx .len (by decide +kernel) (ag1 (g_v hx.toHx (by decide +kernel)) (by rfl) ag0)) (g_v hx.toHx (by decide +kernel)) (by rfl))))) gs0)
theorem ok_read {X : Cx} {k : Nat} {C : Orc} {E : OrcX} (hx : Hz X ⟨d_read.N, (defScope (top 15)).names, fs, xs⟩ k C E) : GS X C E (defBody (top 15)) d_read.body := (gs1 (st_asg hx.toHs (g_ptn (g_v hx.toHx (by decide +kernel)) (g_k (by decide +kernel)) (fun _ _ => rfl) (by rfl) (by rfl)) (by decide +kernel) (by rfl) (by rfl) (by rfl)) (gs1 (st_asg hx.toHs (g_call hx.toHx (by decide +kernel) (ag1 (g_ix (g_v hx.toHx (by decide +kernel)) (g_k (by decide +kernel)) (by rfl)) (by rfl) (ag1 (g_g hx.toHx (by decide +kernel)) (by rfl) (ag1 (g_g hx.toHx (by decide +kernel)) (by rfl) ag0)))) (by decide +kernel) (by rfl) (by rfl) (by rfl)) (gs1 (st_asg hx.toHs (g_call hx.toHx (by decide +kernel) (ag1 (g_ix (g_v hx.toHx (by decide +kernel)) (g_k (by decide +kernel)) (by rfl)) (by rfl) (ag1 (g_g hx.toHx (by decide +kernel)) (by rfl) (ag1 (g_g hx.toHx (by decide +kernel)) (by rfl) ag0)))) (by decide +kernel) (by rfl) (by rfl) (by rfl)) (gs1 (st_ret (g_tup (ag1 (g_v hx.toHx (by decide +kernel)) (by rfl) (ag1 (g_v hx.toHx (by decide +kernel)) (by rfl) ag0)))) gs0))))
theorem okw_read {X : Cx} {k : Nat} {C : Orc} {E : OrcX} (hx : Hz X ⟨d_read.N, (defScope (top 15)).names, fs, xs⟩ k C E) : GW X C E (defBody (top 15)) d_read.body := gw_of (gx1 (xt_asg hx.toHs (x_no (by rfl)) (by decide +kernel) (by rfl) (by rfl) (by rfl)) (st_asg hx.nox.toHs (g_ptn (g_v hx.nox.toHx (by decide +kernel)) (g_k (by decide +kernel)) (fun _ _ => rfl) (by rfl) (by rfl)) (by decide +kernel) (by rfl) (by rfl) (by rfl)) (gx1 (xt_asg hx.toHs (xg_call hx.hx (by decide +kernel) (ag1 (g_ix (g_v hx.toHx.nox (by decide +kernel)) (g_k (by decide +kernel)) (by rfl)) (by rfl) (ag1 (g_g hx.toHx.nox (by decide +kernel)) (by rfl) (ag1 (g_g hx.toHx.nox (by decide +kernel)) (by rfl) ag0))) (xag1 (x_no (by rfl)) (g_ix (g_v hx.toHx.nox (by decide +kernel)) (g_k (by decide +kernel)) (by rfl)) (by rfl) (xag1 (x_no (by rfl)) (g_g hx.toHx.nox (by decide +kernel)) (by rfl) (xag1 (x_no (by rfl)) (g_g hx.toHx.nox (by decide +kernel)) (by rfl) xag0)))) (by decide +kernel) (by rfl) (by rfl) (by rfl)) (st_asg hx.nox.toHs (g_call hx.nox.toHx (by decide +kernel) (ag1 (g_ix (g_v hx.nox.toHx (by decide +kernel)) (g_k (by decide +kernel)) (by rfl)) (by rfl) (ag1 (g_g hx.nox.toHx (by decide +kernel)) (by rfl) (ag1 (g_g hx.nox.toHx (by decide +kernel)) (by rfl) ag0)))) (by decide +kernel) (by rfl) (by rfl) (by rfl)) (gx1 (xt_asg hx.toHs (xg_call hx.hx (by decide +kernel) (ag1 (g_ix (g_v hx.toHx.nox (by decide +kernel)) (g_k (by decide +kernel)) (by rfl)) (by rfl) (ag1 (g_g hx.toHx.nox (by decide +kernel)) (by rfl) (ag1 (g_g hx.toHx.nox (by decide +kernel)) (by rfl) ag0))) (xag1 (x_no (by rfl)) (g_ix (g_v hx.toHx.nox (by decide +kernel)) (g_k (by decide +kernel)) (by rfl)) (by rfl) (xag1 (x_no (by rfl)) (g_g hx.toHx.nox (by decide +kernel)) (by rfl) (xag1 (x_no (by rfl)) (g_g hx.toHx.nox (by decide +kernel)) (by rfl) xag0)))) (by decide +kernel) (by rfl) (by rfl) (by rfl)) (st_asg hx.nox.toHs (g_call hx.nox.toHx (by decide +kernel) (ag1 (g_ix (g_v hx.nox.toHx (by decide +kernel)) (g_k (by decide +kernel)) (by rfl)) (by rfl) (ag1 (g_g hx.nox.toHx (by decide +kernel)) (by rfl) (ag1 (g_g hx.nox.toHx (by decide +kernel)) (by rfl) ag0)))) (by decide +kernel) (by rfl) (by rfl) (by rfl)) (gx1 (xt_ret (xg_tup (xag1 (x_no (by rfl)) (g_v hx.toHx.nox (by decide +kernel)) (by rfl) (xag1 (x_no (by rfl)) (g_v hx.toHx.nox (by decide +kernel)) (by rfl) xag0)))) (st_ret (g_tup (ag1 (g_v hx.nox.toHx (by decide +kernel)) (by rfl) (ag1 (g_v hx.nox.toHx (by decide +kernel)) (by rfl) ag0)))) gx0))))
theorem pss_tree_of {X : Cx} {k : Nat} {C : Orc} {E : OrcX} (hx : Hz X ⟨d_tree_of.N, (defScope (top 16)).names, fs, xs⟩ k C E) (H₀ : Hp) : PSs X (defBody (top 16)) (tAll X H₀ (prm C E (.cmp .Eq (.call "sign_at" [(.v 0), (.v 4)]) (.k (.str "("))) (.bin .Add (.v 4) (.k (.int 1))) (.call "figures_end" [(.v 0), (.v 4)]) (.call "asked" [(.call "number_of" [(.sl (.v 0) (.v 4) (.v 5))]), (.v 1)]) (.v 5) (.cmp .Eq (.call "sign_at" [(.v 0), (.v 4)]) (.k (.str ")"))) (.cmp .NotEq (.call "sign_at" [(.v 0), (.v 4)]) (.k (.str ","))) "NoText") (ev C (.k (.int 0))) (ev C (.k (.bool true))) (ev C (.neg (.k (.int 1)))) (ev C (.cmp .NotEq (.v 4) (.blt .len [(.v 0)])))) :=
  tree_pss (x1 := exX C E (.raise_ "NoText" [(.k (.str "a comma or a bracket is missing"))])) (x2 := exX C E (.raise_ "NoText" [(.k (.str "something stands behind the end of a tree"))])) hx (by decide +kernel) (g_k (by decide +kernel)) (g_k (by decide +kernel)) (g_cmp hx.toHx (g_call hx.toHx (by decide +kernel) (ag1 (g_v hx.toHx (by decide +kernel)) (by rfl) (ag1 (g_v hx.toHx (by decide +kernel)) (by rfl) ag0))) (g_k (by decide +kernel)) (by rfl)) (g_bin (g_v hx.toHx (by decide +kernel)) (g_k (by decide +kernel))) (g_call hx.toHx (by decide +kernel) (ag1 (g_v hx.toHx (by decide +kernel)) (by rfl) (ag1 (g_v hx.toHx (by decide +kernel)) (by rfl) ag0))) (g_call hx.toHx (by decide +kernel) (ag1 (g_call hx.toHx (by decide +kernel) (ag1 (g_sl (g_v hx.toHx (by decide +kernel)) (so1 (g_v hx.toHx (by decide +kernel)) (by rfl)) (so1 (g_v hx.toHx (by decide +kernel)) (by rfl))) (by rfl) ag0)) (by rfl) (ag1 (g_v hx.toHx (by decide +kernel)) (by rfl) ag0))) (xg_call hx.hx (by decide +kernel) (ag1 (g_call hx.toHx.nox (by decide +kernel) (ag1 (g_sl (g_v hx.toHx.nox (by decide +kernel)) (so1 (g_v hx.toHx.nox (by decide +kernel)) (by rfl)) (so1 (g_v hx.toHx.nox (by decide +kernel)) (by rfl))) (by rfl) ag0)) (by rfl) (ag1 (g_v hx.toHx.nox (by decide +kernel)) (by rfl) ag0)) (xag1 (xg_call hx.hx (by decide +kernel) (ag1 (g_sl (g_v hx.toHx.nox (by decide +kernel)) (so1 (g_v hx.toHx.nox (by decide +kernel)) (by rfl)) (so1 (g_v hx.toHx.nox (by decide +kernel)) (by rfl))) (by rfl) ag0) (xag1 (x_no (by rfl)) (g_sl (g_v hx.toHx.nox (by decide +kernel)) (so1 (g_v hx.toHx.nox (by decide +kernel)) (by rfl)) (so1 (g_v hx.toHx.nox (by decide +kernel)) (by rfl))) (by rfl) xag0)) (g_call hx.toHx.nox (by decide +kernel) (ag1 (g_sl (g_v hx.toHx.nox (by decide +kernel)) (so1 (g_v hx.toHx.nox (by decide +kernel)) (by rfl)) (so1 (g_v hx.toHx.nox (by decide +kernel)) (by rfl))) (by rfl) ag0)) (by rfl) (xag1 (x_no (by rfl)) (g_v hx.toHx.nox (by decide +kernel)) (by rfl) xag0))) (g_v hx.toHx (by decide +kernel)) (g_cmp hx.toHx (g_call hx.toHx (by decide +kernel) (ag1 (g_v hx.toHx (by decide +kernel)) (by rfl) (ag1 (g_v hx.toHx (by decide +kernel)) (by rfl) ag0))) (g_k (by decide +kernel)) (by rfl)) (g_bin (g_v hx.toHx (by decide +kernel)) (g_k (by decide +kernel))) (g_cmp hx.toHx (g_call hx.toHx (by decide +kernel) (ag1 (g_v hx.toHx (by decide +kernel)) (by rfl) (ag1 (g_v hx.toHx (by decide +kernel)) (by rfl) ag0))) (g_k (by decide +kernel)) (by rfl)) (xt_raise hx (by decide +kernel) (ag1 (g_k (by decide +kernel)) (by rfl) ag0)) (fun r => ⟨_, rfl⟩) (g_neg (g_k (by decide +kernel))) (g_bin (g_v hx.toHx (by decide +kernel)) (g_k (by decide +kernel))) (g_cmp hx.toHx (g_v hx.toHx (by decide +kernel)) (g_blt hx.toHx .len (by decide +kernel) (ag1 (g_v hx.toHx (by decide +kernel)) (by rfl) ag0)) (by rfl)) (xt_raise hx (by decide +kernel) (ag1 (g_k (by decide +kernel)) (by rfl) ag0)) (fun r => ⟨_, rfl⟩) (by rfl) H₀
theorem ok_tree_of {X : Cx} {k : Nat} {C : Orc} {E : OrcX} (hx : Hz X ⟨d_tree_of.N, (defScope (top 16)).names, fs, xs⟩ k C E) : GS X C E (defBody (top 16)) d_tree_of.body := tree_gs (pss_tree_of hx)
theorem okw_tree_of {X : Cx} {k : Nat} {C : Orc} {E : OrcX} (hx : Hz X ⟨d_tree_of.N, (defScope (top 16)).names, fs, xs⟩ k C E) : GW X C E (defBody (top 16)) d_tree_of.body := tree_gw (pss_tree_of hx)
theorem ok_asked {X : Cx} {k : Nat} {C : Orc} {E : OrcX} (hx : Hz X ⟨d_asked.N, (defScope (top 17)).names, fs, xs⟩ k C E) : GS X C E (defBody (top 17)) d_asked.body := (gs1 (st_if (g_not (g_callv hx (g_v hx.toHx (by decide +kernel)) (ag1 (g_v hx.toHx (by decide +kernel)) (by rfl) ag0))) (gs1 st_raise gs0) gs0) (gs1 (st_ret (g_v hx.toHx (by decide +kernel))) gs0))
theorem okw_asked {X : Cx} {k : Nat} {C : Orc} {E : OrcX} (hx : Hz X ⟨d_asked.N, (defScope (top 17)).names, fs, xs⟩ k C E) : GW X C E (defBody (top 17)) d_asked.body := gw_of (gx1 (xt_if (g_not (g_callv hx.nox (g_v hx.nox.toHx (by decide +kernel)) (ag1 (g_v hx.nox.toHx (by decide +kernel)) (by rfl) ag0))) (gx1 (xt_raise hx (by decide +kernel) (ag1 (g_k (by decide +kernel)) (by rfl) ag0)) st_raise gx0) gx0) (st_if (g_not (g_callv hx.nox (g_v hx.nox.toHx (by decide +kernel)) (ag1 (g_v hx.nox.toHx (by decide +kernel)) (by rfl) ag0))) (gs1 st_raise gs0) gs0) (gx1 (xt_ret (x_no (by rfl))) (st_ret (g_v hx.nox.toHx (by decide +kernel))) gx0))
theorem ok_is_plain_pair {X : Cx} {k : Nat} {C : Orc} {E : OrcX} (hx : Hz X ⟨d_is_plain_pair.N, (defScope (top 18)).names, fs, xs⟩ k C E) : GS X C E (defBody (top 18)) d_is_plain_pair.body := (gs1 (st_ret (g_and (g_cmp hx.toHx (g_blt hx.toHx .len (by decide +kernel) (ag1 (g_v hx.toHx (by decide +kernel)) (by rfl) ag0)) (g_k (by decide +kernel)) (by rfl)) (g_one (g_not (g_call hx.toHx (by decide +kernel) (ag1 (g_ix (g_v hx.toHx (by decide +kernel)) (g_k (by decide +kernel)) (by rfl)) (by rfl) (ag1 (g_ix (g_v hx.toHx (by decide +kernel)) (g_k (by decide +kernel)) (by rfl)) (by rfl) ag0))))))) gs0)
theorem ok_is_plain_triple {X : Cx} {k : Nat} {C : Orc} {E : OrcX} (hx : Hz X ⟨d_is_plain_triple.N, (defScope (top 19)).names, fs, xs⟩ k C E) : GS X C E (defBody (top 19)) d_is_plain_triple.body := (gs1 (st_ret (g_and (g_cmp hx.toHx (g_blt hx.toHx .len (by decide +kernel) (ag1 (g_v hx.toHx (by decide +kernel)) (by rfl) ag0)) (g_k (by decide +kernel)) (by rfl)) (g_and (g_call hx.toHx (by decide +kernel) (ag1 (g_ix (g_v hx.toHx (by decide +kernel)) (g_k (by decide +kernel)) (by rfl)) (by rfl) ag0)) (g_one (g_call hx.toHx (by decide +kernel) (ag1 (g_ix (g_v hx.toHx (by decide +kernel)) (g_k (by decide +kernel)) (by rfl)) (by rfl) (ag1 (g_ix (g_v hx.toHx (by decide +kernel)) (g_k (by decide +kernel)) (by rfl)) (by rfl) ag0))))))) gs0)
theorem ok_sign_at {X : Cx} {k : Nat} {C : Orc} {E : OrcX} (hx : Hz X ⟨d_sign_at.N, (defScope (top 20)).names, fs, xs⟩ k C E) : GS X C E (defBody (top 20)) d_sign_at.body := (gs1 (st_ret (g_sl (g_v hx.toHx (by decide +kernel)) (so1 (g_v hx.toHx (by decide +kernel)) (by rfl)) (so1 (g_bin (g_v hx.toHx (by decide +kernel)) (g_k (by decide +kernel))) (by rfl)))) gs0)
theorem ok_figures_end {X : Cx} {k : Nat} {C : Orc} {E : OrcX} (hx : Hz X ⟨d_figures_end.N, (defScope (top 21)).names, fs, xs⟩ k C E) : GS X C E (defBody (top 21)) d_figures_end.body := (gs1 (st_asg hx.toHs (g_v hx.toHx (by decide +kernel)) (by decide +kernel) (by rfl) (by rfl) (by rfl)) (gs1 (st_while hx.toHs (g_and (g_cmp hx.toHx (g_v hx.toHx (by decide +kernel)) (g_blt hx.toHx .len (by decide +kernel) (ag1 (g_v hx.toHx (by decide +kernel)) (by rfl) ag0)) (by rfl)) (g_one (g_ins (g_ix (g_v hx.toHx (by decide +kernel)) (g_v hx.toHx (by decide +kernel)) (by rfl)) (g_glb hx.toHx (hx.ks _ _ (by rfl)) (by decide +kernel)) (by rfl)))) (gs1 (st_asg hx.toHs (g_bin (g_v hx.toHx (by decide +kernel)) (g_k (by decide +kernel))) (by decide +kernel) (by rfl) (by rfl) (by rfl)) gs0)) (gs1 (st_ret (g_v hx.toHx (by decide +kernel))) gs0)))
theorem ok_number_of {X : Cx} {k : Nat} {C : Orc} {E : OrcX} (hx : Hz X ⟨d_number_of.N, (defScope (top 22)).names, fs, xs⟩ k C E) : GS X C E (defBody (top 22)) d_number_of.body := (gs1 (st_if (g_or (g_cmp hx.toHx (g_v hx.toHx (by decide +kernel)) (g_k (by decide +kernel)) (by rfl)) (g_one (g_and (g_cmp hx.toHx (g_ix (g_v hx.toHx (by decide +kernel)) (g_k (by decide +kernel)) (by rfl)) (g_k (by decide +kernel)) (by rfl)) (g_one (g_cmp hx.toHx (g_v hx.toHx (by decide +kernel)) (g_k (by decide +kernel)) (by rfl)))))) (gs1 st_raise gs0) gs0) (gs1 (st_asg hx.toHs (g_bin (g_blt hx.toHx .len (by decide +kernel) (ag1 (g_v hx.toHx (by decide +kernel)) (by rfl) ag0)) (g_k (by decide +kernel))) (by decide +kernel) (by rfl) (by rfl) (by rfl)) (gs1 (st_asg hx.toHs (g_blt hx.toHx .int (by decide +kernel) (ag1 (g_bin (g_k (by decide +kernel)) (g_sl (g_v hx.toHx (by decide +kernel)) so0 (so1 (g_v hx.toHx (by decide +kernel)) (by rfl)))) (by rfl) ag0)) (by decide +kernel) (by rfl) (by rfl) (by rfl)) (gs1 (st_for hx.toHs (by decide +kernel) (ig_rng3 hx.toHx (by decide +kernel) (g_v hx.toHx (by decide +kernel)) (g_blt hx.toHx .len (by decide +kernel) (ag1 (g_v hx.toHx (by decide +kernel)) (by rfl) ag0)) (g_k (by decide +kernel)) (by rfl) (by rfl) (by rfl)) (gs1 (st_asg hx.toHs (g_bin (g_bin (g_v hx.toHx (by decide +kernel)) (g_bin (g_k (by decide +kernel)) (g_k (by decide +kernel)))) (g_blt hx.toHx .int (by decide +kernel) (ag1 (g_sl (g_v hx.toHx (by decide +kernel)) (so1 (g_v hx.toHx (by decide +kernel)) (by rfl)) (so1 (g_bin (g_v hx.toHx (by decide +kernel)) (g_k (by decide +kernel))) (by rfl))) (by rfl) ag0))) (by decide +kernel) (by rfl) (by rfl) (by rfl)) gs0)) (gs1 (st_ret (g_v hx.toHx (by decide +kernel))) gs0)))))
theorem okw_number_of {X : Cx} {k : Nat} {C : Orc} {E : OrcX} (hx : Hz X ⟨d_number_of.N, (defScope (top 22)).names, fs, xs⟩ k C E) : GW X C E (defBody (top 22)) d_number_of.body := gw_of (gx1 (xt_if (g_or (g_cmp hx.nox.toHx (g_v hx.nox.toHx (by decide +kernel)) (g_k (by decide +kernel)) (by rfl)) (g_one (g_and (g_cmp hx.nox.toHx (g_ix (g_v hx.nox.toHx (by decide +kernel)) (g_k (by decide +kernel)) (by rfl)) (g_k (by decide +kernel)) (by rfl)) (g_one (g_cmp hx.nox.toHx (g_v hx.nox.toHx (by decide +kernel)) (g_k (by decide +kernel)) (by rfl)))))) (gx1 (xt_raise hx (by decide +kernel) (ag1 (g_k (by decide +kernel)) (by rfl) ag0)) st_raise gx0) gx0) (st_if (g_or (g_cmp hx.nox.toHx (g_v hx.nox.toHx (by decide +kernel)) (g_k (by decide +kernel)) (by rfl)) (g_one (g_and (g_cmp hx.nox.toHx (g_ix (g_v hx.nox.toHx (by decide +kernel)) (g_k (by decide +kernel)) (by rfl)) (g_k (by decide +kernel)) (by rfl)) (g_one (g_cmp hx.nox.toHx (g_v hx.nox.toHx (by decide +kernel)) (g_k (by decide +kernel)) (by rfl)))))) (gs1 st_raise gs0) gs0) (gx1 (xt_asg hx.toHs (x_no (by rfl)) (by decide +kernel) (by rfl) (by rfl) (by rfl)) (st_asg hx.nox.toHs (g_bin (g_blt hx.nox.toHx .len (by decide +kernel) (ag1 (g_v hx.nox.toHx (by decide +kernel)) (by rfl) ag0)) (g_k (by decide +kernel))) (by decide +kernel) (by rfl) (by rfl) (by rfl)) (gx1 (xt_asg hx.toHs (x_no (by rfl)) (by decide +kernel) (by rfl) (by rfl) (by rfl)) (st_asg hx.nox.toHs (g_blt hx.nox.toHx .int (by decide +kernel) (ag1 (g_bin (g_k (by decide +kernel)) (g_sl (g_v hx.nox.toHx (by decide +kernel)) so0 (so1 (g_v hx.nox.toHx (by decide +kernel)) (by rfl)))) (by rfl) ag0)) (by decide +kernel) (by rfl) (by rfl) (by rfl)) (gx1 (xt_none (by rfl)) (st_for hx.nox.toHs (by decide +kernel) (ig_rng3 hx.nox.toHx (by decide +kernel) (g_v hx.nox.toHx (by decide +kernel)) (g_blt hx.nox.toHx .len (by decide +kernel) (ag1 (g_v hx.nox.toHx (by decide +kernel)) (by rfl) ag0)) (g_k (by decide +kernel)) (by rfl) (by rfl) (by rfl)) (gs1 (st_asg hx.nox.toHs (g_bin (g_bin (g_v hx.nox.toHx (by decide +kernel)) (g_bin (g_k (by decide +kernel)) (g_k (by decide +kernel)))) (g_blt hx.nox.toHx .int (by decide +kernel) (ag1 (g_sl (g_v hx.nox.toHx (by decide +kernel)) (so1 (g_v hx.nox.toHx (by decide +kernel)) (by rfl)) (so1 (g_bin (g_v hx.nox.toHx (by decide +kernel)) (g_k (by decide +kernel))) (by rfl))) (by rfl) ag0))) (by decide +kernel) (by rfl) (by rfl) (by rfl)) gs0)) (gx1 (xt_ret (x_no (by rfl))) (st_ret (g_v hx.nox.toHx (by decide +kernel))) gx0)))))
theorem ok__law_cell_at {X : Cx} {k : Nat} {C : Orc} {E : OrcX} (hx : Hz X ⟨d__law_cell_at.N, (defScope (top 24)).names, fs, xs⟩ k C E) : GS X C E (defBody (top 24)) d__law_cell_at.body := (gs1 (st_if (g_cmp hx.toHx (g_v hx.toHx (by decide +kernel)) (g_blt hx.toHx .len (by decide +kernel) (ag1 (g_v hx.toHx (by decide +kernel)) (by rfl) ag0)) (by rfl)) (gs1 (st_ret (g_ix (g_v hx.toHx (by decide +kernel)) (g_v hx.toHx (by decide +kernel)) (by rfl))) gs0) gs0) (gs1 (st_ret (g_k (by decide +kernel))) gs0))
theorem ok__law_mixed {X : Cx} {k : Nat} {C : Orc} {E : OrcX} (hx : Hz X ⟨d__law_mixed.N, (defScope (top 25)).names, fs, xs⟩ k C E) : GS X C E (defBody (top 25)) d__law_mixed.body := (gs1 (st_asg hx.toHs (g_bin (g_bin (g_bin (g_bin (g_call hx.toHx (by decide +kernel) (ag1 (g_v hx.toHx (by decide +kernel)) (by rfl) (ag1 (g_v hx.toHx (by decide +kernel)) (by rfl) ag0))) (g_bin (g_k (by decide +kernel)) (g_v hx.toHx (by decide +kernel)))) (g_k (by decide +kernel))) (g_k (by decide +kernel))) (g_k (by decide +kernel))) (by decide +kernel) (by rfl) (by rfl) (by rfl)) (gs1 (st_ret (g_bin (g_bin (g_bin (g_bin (g_v hx.toHx (by decide +kernel)) (g_v hx.toHx (by decide +kernel))) (g_bin (g_k (by decide +kernel)) (g_v hx.toHx (by decide +kernel)))) (g_v hx.toHx (by decide +kernel))) (g_k (by decide +kernel)))) gs0))
theorem ok__law_drawn {X : Cx} {k : Nat} {C : Orc} {E : OrcX} (hx : Hz X ⟨d__law_drawn.N, (defScope (top 26)).names, fs, xs⟩ k C E) : GS X C E (defBody (top 26)) d__law_drawn.body := (gs1 (st_asg hx.toHs (g_bin (g_bin (g_bin (g_bin (g_v hx.toHx (by decide +kernel)) (g_bin (g_k (by decide +kernel)) (g_v hx.toHx (by decide +kernel)))) (g_k (by decide +kernel))) (g_k (by decide +kernel))) (g_k (by decide +kernel))) (by decide +kernel) (by rfl) (by rfl) (by rfl)) (gs1 (st_ret (g_bin (g_bin (g_bin (g_bin (g_v hx.toHx (by decide +kernel)) (g_v hx.toHx (by decide +kernel))) (g_bin (g_k (by decide +kernel)) (g_v hx.toHx (by decide +kernel)))) (g_v hx.toHx (by decide +kernel))) (g_k (by decide +kernel)))) gs0))
theorem ok__law_any_part {X : Cx} {k : Nat} {C : Orc} {E : OrcX} (hx : Hz X ⟨d__law_any_part.N, (defScope (top 27)).names, fs, xs⟩ k C E) : GS X C E (defBody (top 27)) d__law_any_part.body := (gs1 (st_if (g_or (g_cmp hx.toHx (g_v hx.toHx (by decide +kernel)) (g_k (by decide +kernel)) (by rfl)) (g_one (g_cmp hx.toHx (g_bin (g_v hx.toHx (by decide +kernel)) (g_k (by decide +kernel))) (g_k (by decide +kernel)) (by rfl)))) (gs1 (st_ret (g_bin (g_bin (g_v hx.toHx (by decide +kernel)) (g_k (by decide +kernel))) (g_k (by decide +kernel)))) gs0) gs0) (gs1 (st_asg hx.toHs (g_call hx.toHx (by decide +kernel) (ag1 (g_call hx.toHx (by decide +kernel) (ag1 (g_v hx.toHx (by decide +kernel)) (by rfl) (ag1 (g_k (by decide +kernel)) (by rfl) ag0))) (by rfl) (ag1 (g_bin (g_v hx.toHx (by decide +kernel)) (g_k (by decide +kernel))) (by rfl) ag0))) (by decide +kernel) (by rfl) (by rfl) (by rfl)) (gs1 (st_ret (g_tup (ag1 (g_v hx.toHx (by decide +kernel)) (by rfl) (ag1 (g_call hx.toHx (by decide +kernel) (ag1 (g_call hx.toHx (by decide +kernel) (ag1 (g_v hx.toHx (by decide +kernel)) (by rfl) (ag1 (g_k (by decide +kernel)) (by rfl) ag0))) (by rfl) (ag1 (g_bin (g_v hx.toHx (by decide +kernel)) (g_k (by decide +kernel))) (by rfl) ag0))) (by rfl) ag0)))) gs0)))
theorem ok__law_any_count {X : Cx} {k : Nat} {C : Orc} {E : OrcX} (hx : Hz X ⟨d__law_any_count.N, (defScope (top 28)).names, fs, xs⟩ k C E) : GS X C E (defBody (top 28)) d__law_any_count.body := (gs1 (st_if (g_or (g_cmp hx.toHx (g_v hx.toHx (by decide +kernel)) (g_k (by decide +kernel)) (by rfl)) (g_one (g_cmp hx.toHx (g_bin (g_v hx.toHx (by decide +kernel)) (g_k (by decide +kernel))) (g_k (by decide +kernel)) (by rfl)))) (gs1 (st_ret (g_bin (g_bin (g_v hx.toHx (by decide +kernel)) (g_k (by decide +kernel))) (g_ix (g_tup (ag1 (g_k (by decide +kernel)) (by rfl) (ag1 (g_k (by decide +kernel)) (by rfl) ag0))) (g_blt hx.toHx .int (by decide +kernel) (ag1 (g_cmp hx.toHx (g_bin (g_bin (g_v hx.toHx (by decide +kernel)) (g_k (by decide +kernel))) (g_k (by decide +kernel))) (g_k (by decide +kernel)) (by rfl)) (by rfl) ag0)) (by rfl)))) gs0) gs0) (gs1 (st_asg hx.toHs (g_call hx.toHx (by decide +kernel) (ag1 (g_call hx.toHx (by decide +kernel) (ag1 (g_v hx.toHx (by decide +kernel)) (by rfl) (ag1 (g_k (by decide +kernel)) (by rfl) ag0))) (by rfl) (ag1 (g_bin (g_v hx.toHx (by decide +kernel)) (g_k (by decide +kernel))) (by rfl) ag0))) (by decide +kernel) (by rfl) (by rfl) (by rfl)) (gs1 (st_ret (g_tup (ag1 (g_bin (g_bin (g_v hx.toHx (by decide +kernel)) (g_k (by decide +kernel))) (g_k (by decide +kernel))) (by rfl) (ag1 (g_v hx.toHx (by decide +kernel)) (by rfl) (ag1 (g_call hx.toHx (by decide +kernel) (ag1 (g_call hx.toHx (by decide +kernel) (ag1 (g_v hx.toHx (by decide +kernel)) (by rfl) (ag1 (g_k (by decide +kernel)) (by rfl) ag0))) (by rfl) (ag1 (g_bin (g_v hx.toHx (by decide +kernel)) (g_k (by decide +kernel))) (by rfl) ag0))) (by rfl) ag0))))) gs0)))
theorem ok__law_plain_part {X : Cx} {k : Nat} {C : Orc} {E : OrcX} (hx : Hz X ⟨d__law_plain_part.N, (defScope (top 29)).names, fs, xs⟩ k C E) : GS X C E (defBody (top 29)) d__law_plain_part.body := (gs1 (st_if (g_not (g_isin hx.toHx .tuple (by decide +kernel) (g_v hx.toHx (by decide +kernel)) (by rfl))) (gs1 (st_ret (g_v hx.toHx (by decide +kernel))) gs0) gs0) (gs1 (st_asg hx.toHs (g_call hx.toHx (by decide +kernel) (ag1 (g_ix (g_v hx.toHx (by decide +kernel)) (g_k (by decide +kernel)) (by rfl)) (by rfl) ag0)) (by decide +kernel) (by rfl) (by rfl) (by rfl)) (gs1 (st_asg hx.toHs (g_call hx.toHx (by decide +kernel) (ag1 (g_ix (g_v hx.toHx (by decide +kernel)) (g_k (by decide +kernel)) (by rfl)) (by rfl) ag0)) (by decide +kernel) (by rfl) (by rfl) (by rfl)) (gs1 (st_if (g_and (g_cmp hx.toHx (g_v hx.toHx (by decide +kernel)) (g_v hx.toHx (by decide +kernel)) (by rfl)) (g_one (g_cmp hx.toHx (g_v hx.toHx (by decide +kernel)) (g_tup (ag1 (g_k (by decide +kernel)) (by rfl) (ag1 (g_k (by decide +kernel)) (by rfl) ag0))) (by rfl)))) (gs1 (st_ret (g_v hx.toHx (by decide +kernel))) gs0) gs0) (gs1 (st_ret (g_tup (ag1 (g_v hx.toHx (by decide +kernel)) (by rfl) (ag1 (g_v hx.toHx (by decide +kernel)) (by rfl) ag0)))) gs0)))))
theorem ok__law_more {X : Cx} {k : Nat} {C : Orc} {E : OrcX} (hx : Hz X ⟨d__law_more.N, (defScope (top 30)).names, fs, xs⟩ k C E) : GS X C E (defBody (top 30)) d__law_more.body := (gs1 (st_if (g_isin hx.toHx .tuple (by decide +kernel) (g_v hx.toHx (by decide +kernel)) (by rfl)) (gs1 (st_ret (g_tup (ag1 (g_bin (g_ix (g_v hx.toHx (by decide +kernel)) (g_k (by decide +kernel)) (by rfl)) (g_v hx.toHx (by decide +kernel))) (by rfl) (ag1 (g_ix (g_v hx.toHx (by decide +kernel)) (g_k (by decide +kernel)) (by rfl)) (by rfl) (ag1 (g_ix (g_v hx.toHx (by decide +kernel)) (g_k (by decide +kernel)) (by rfl)) (by rfl) ag0))))) gs0) gs0) (gs1 (st_ret (g_bin (g_v hx.toHx (by decide +kernel)) (g_v hx.toHx (by decide +kernel)))) gs0))
theorem ok__law_front {X : Cx} {k : Nat} {C : Orc} {E : OrcX} (hx : Hz X ⟨d__law_front.N, (defScope (top 31)).names, fs, xs⟩ k C E) : GS X C E (defBody (top 31)) d__law_front.body := (gs1 (st_if (g_isin hx.toHx .tuple (by decide +kernel) (g_v hx.toHx (by decide +kernel)) (by rfl)) (gs1 (st_ret (g_ix (g_v hx.toHx (by decide +kernel)) (g_k (by decide +kernel)) (by rfl))) gs0) gs0) (gs1 (st_ret (g_v hx.toHx (by decide +kernel))) gs0))
theorem ok__law_plain_count {X : Cx} {k : Nat} {C : Orc} {E : OrcX} (hx : Hz X ⟨d__law_plain_count.N, (defScope (top 32)).names, fs, xs⟩ k C E) : GS X C E (defBody (top 32)) d__law_plain_count.body := (gs1 (st_if (g_not (g_isin hx.toHx .tuple (by decide +kernel) (g_v hx.toHx (by decide +kernel)) (by rfl))) (gs1 (st_ret (g_v hx.toHx (by decide +kernel))) gs0) gs0) (gs1 (st_asg hx.toHs (g_call hx.toHx (by decide +kernel) (ag1 (g_ix (g_v hx.toHx (by decide +kernel)) (g_k (by decide +kernel)) (by rfl)) (by rfl) ag0)) (by decide +kernel) (by rfl) (by rfl) (by rfl)) (gs1 (st_asg hx.toHs (g_call hx.toHx (by decide +kernel) (ag1 (g_ix (g_v hx.toHx (by decide +kernel)) (g_k (by decide +kernel)) (by rfl)) (by rfl) ag0)) (by decide +kernel) (by rfl) (by rfl) (by rfl)) (gs1 (st_asg hx.toHs (g_blt hx.toHx .min (by decide +kernel) (ag1 (g_call hx.toHx (by decide +kernel) (ag1 (g_v hx.toHx (by decide +kernel)) (by rfl) ag0)) (by rfl) (ag1 (g_call hx.toHx (by decide +kernel) (ag1 (g_v hx.toHx (by decide +kernel)) (by rfl) ag0)) (by rfl) ag0))) (by decide +kernel) (by rfl) (by rfl) (by rfl)) (gs1 (st_if (g_and (g_cmp hx.toHx (g_v hx.toHx (by decide +kernel)) (g_v hx.toHx (by decide +kernel)) (by rfl)) (g_one (g_cmp hx.toHx (g_v hx.toHx (by decide +kernel)) (g_v hx.toHx (by decide +kernel)) (by rfl)))) (gs1 (st_ret (g_bin (g_ix (g_v hx.toHx (by decide +kernel)) (g_k (by decide +kernel)) (by rfl)) (g_v hx.toHx (by decide +kernel)))) gs0) gs0) (gs1 (st_ret (g_tup (ag1 (g_bin (g_ix (g_v hx.toHx (by decide +kernel)) (g_k (by decide +kernel)) (by rfl)) (g_v hx.toHx (by decide +kernel))) (by rfl) (ag1 (g_call hx.toHx (by decide +kernel) (ag1 (g_v hx.toHx (by decide +kernel)) (by rfl) (ag1 (g_neg (g_v hx.toHx (by decide +kernel))) (by rfl) ag0))) (by rfl) (ag1 (g_call hx.toHx (by decide +kernel) (ag1 (g_v hx.toHx (by decide +kernel)) (by rfl) (ag1 (g_neg (g_v hx.toHx (by decide +kernel))) (by rfl) ag0))) (by rfl) ag0))))) gs0))))))
theorem ok__law_whole {X : Cx} {k : Nat} {C : Orc} {E : OrcX} (hx : Hz X ⟨d__law_whole.N, (defScope (top 33)).names, fs, xs⟩ k C E) : GS X C E (defBody (top 33)) d__law_whole.body := (gs1 (st_ret (g_and (g_isin hx.toHx .int (by decide +kernel) (g_v hx.toHx (by decide +kernel)) (by rfl)) (g_and (g_not (g_isin hx.toHx .bool (by decide +kernel) (g_v hx.toHx (by decide +kernel)) (by rfl))) (g_one (g_cmp hx.toHx (g_v hx.toHx (by decide +kernel)) (g_k (by decide +kernel)) (by rfl)))))) gs0)
theorem ok__law_is_part {X : Cx} {k : Nat} {C : Orc} {E : OrcX} (hx : Hz X ⟨d__law_is_part.N, (defScope (top 34)).names, fs, xs⟩ k C E) : GS X C E (defBody (top 34)) d__law_is_part.body := (gs1 (st_if (g_call hx.toHx (by decide +kernel) (ag1 (g_v hx.toHx (by decide +kernel)) (by rfl) ag0)) (gs1 (st_ret (g_cmp hx.toHx (g_v hx.toHx (by decide +kernel)) (g_k (by decide +kernel)) (by rfl))) gs0) gs0) (gs1 (st_if (g_or (g_not (g_isin hx.toHx .tuple (by decide +kernel) (g_v hx.toHx (by decide +kernel)) (by rfl))) (g_one (g_cmp hx.toHx (g_blt hx.toHx .len (by decide +kernel) (ag1 (g_v hx.toHx (by decide +kernel)) (by rfl) ag0)) (g_k (by decide +kernel)) (by rfl)))) (gs1 (st_ret (g_k (by decide +kernel))) gs0) gs0) (gs1 (st_ret (g_and (g_call hx.toHx (by decide +kernel) (ag1 (g_ix (g_v hx.toHx (by decide +kernel)) (g_k (by decide +kernel)) (by rfl)) (by rfl) ag0)) (g_and (g_call hx.toHx (by decide +kernel) (ag1 (g_ix (g_v hx.toHx (by decide +kernel)) (g_k (by decide +kernel)) (by rfl)) (by rfl) ag0)) (g_one (g_cmp hx.toHx (g_call hx.toHx (by decide +kernel) (ag1 (g_v hx.toHx (by decide +kernel)) (by rfl) ag0)) (g_v hx.toHx (by decide +kernel)) (by rfl)))))) gs0)))
theorem ok__law_is_count {X : Cx} {k : Nat} {C : Orc} {E : OrcX} (hx : Hz X ⟨d__law_is_count.N, (defScope (top 35)).names, fs, xs⟩ k C E) : GS X C E (defBody (top 35)) d__law_is_count.body := (gs1 (st_if (g_call hx.toHx (by decide +kernel) (ag1 (g_v hx.toHx (by decide +kernel)) (by rfl) ag0)) (gs1 (st_ret (g_k (by decide +kernel))) gs0) gs0) (gs1 (st_if (g_or (g_not (g_isin hx.toHx .tuple (by decide +kernel) (g_v hx.toHx (by decide +kernel)) (by rfl))) (g_or (g_cmp hx.toHx (g_blt hx.toHx .len (by decide +kernel) (ag1 (g_v hx.toHx (by decide +kernel)) (by rfl) ag0)) (g_k (by decide +kernel)) (by rfl)) (g_one (g_not (g_call hx.toHx (by decide +kernel) (ag1 (g_ix (g_v hx.toHx (by decide +kernel)) (g_k (by decide +kernel)) (by rfl)) (by rfl) ag0)))))) (gs1 (st_ret (g_k (by decide +kernel))) gs0) gs0) (gs1 (st_ret (g_and (g_call hx.toHx (by decide +kernel) (ag1 (g_ix (g_v hx.toHx (by decide +kernel)) (g_k (by decide +kernel)) (by rfl)) (by rfl) ag0)) (g_and (g_call hx.toHx (by decide +kernel) (ag1 (g_ix (g_v hx.toHx (by decide +kernel)) (g_k (by decide +kernel)) (by rfl)) (by rfl) ag0)) (g_one (g_cmp hx.toHx (g_call hx.toHx (by decide +kernel) (ag1 (g_v hx.toHx (by decide +kernel)) (by rfl) ag0)) (g_v hx.toHx (by decide +kernel)) (by rfl)))))) gs0)))
theorem ok__law_is_clock {X : Cx} {k : Nat} {C : Orc} {E : OrcX} (hx : Hz X ⟨d__law_is_clock.N, (defScope (top 36)).names, fs, xs⟩ k C E) : GS X C E (defBody (top 36)) d__law_is_clock.body := (gs1 (st_if (g_or (g_not (g_isin hx.toHx .tuple (by decide +kernel) (g_v hx.toHx (by decide +kernel)) (by rfl))) (g_one (g_cmp hx.toHx (g_blt hx.toHx .len (by decide +kernel) (ag1 (g_v hx.toHx (by decide +kernel)) (by rfl) ag0)) (g_k (by decide +kernel)) (by rfl)))) (gs1 (st_ret (g_k (by decide +kernel))) gs0) gs0) (gs1 (st_ret (g_and (g_call hx.toHx (by decide +kernel) (ag1 (g_ix (g_v hx.toHx (by decide +kernel)) (g_k (by decide +kernel)) (by rfl)) (by rfl) ag0)) (g_one (g_call hx.toHx (by decide +kernel) (ag1 (g_ix (g_v hx.toHx (by decide +kernel)) (g_k (by decide +kernel)) (by rfl)) (by rfl) ag0))))) gs0))
theorem ok__law_clock {X : Cx} {k : Nat} {C : Orc} {E : OrcX} (hx : Hz X ⟨d__law_clock.N, (defScope (top 37)).names, fs, xs⟩ k C E) : GS X C E (defBody (top 37)) d__law_clock.body := (gs1 (st_asg hx.toHs (g_call hx.toHx (by decide +kernel) (ag1 (g_call hx.toHx (by decide +kernel) (ag1 (g_call hx.toHx (by decide +kernel) (ag1 (g_v hx.toHx (by decide +kernel)) (by rfl) (ag1 (g_k (by decide +kernel)) (by rfl) ag0))) (by rfl) (ag1 (g_v hx.toHx (by decide +kernel)) (by rfl) ag0))) (by rfl) ag0)) (by decide +kernel) (by rfl) (by rfl) (by rfl)) (gs1 (st_ret (g_tup (ag1 (g_v hx.toHx (by decide +kernel)) (by rfl) (ag1 (g_call hx.toHx (by decide +kernel) (ag1 (g_call hx.toHx (by decide +kernel) (ag1 (g_call hx.toHx (by decide +kernel) (ag1 (g_v hx.toHx (by decide +kernel)) (by rfl) (ag1 (g_k (by decide +kernel)) (by rfl) ag0))) (by rfl) (ag1 (g_v hx.toHx (by decide +kernel)) (by rfl) ag0))) (by rfl) ag0)) (by rfl) ag0)))) gs0))
theorem ok__law_tree_text {X : Cx} {k : Nat} {C : Orc} {E : OrcX} (hx : Hz X ⟨d__law_tree_text.N, (defScope (top 38)).names, fs, xs⟩ k C E) : GS X C E (defBody (top 38)) d__law_tree_text.body := (gs1 (st_if (g_not (g_isin hx.toHx .tuple (by decide +kernel) (g_v hx.toHx (by decide +kernel)) (by rfl))) (gs1 (st_ret (g_blt hx.toHx .str (by decide +kernel) (ag1 (g_v hx.toHx (by decide +kernel)) (by rfl) ag0))) gs0) gs0) (gs1 (st_asg hx.toHs (g_k (by decide +kernel)) (by decide +kernel) (by rfl) (by rfl) (by rfl)) (gs1 (st_for hx.toHs (by decide +kernel) (ig_seq (g_v hx.toHx (by decide +kernel)) (by rfl)) (gs1 (st_asg hx.toHs (g_bin (g_bin (g_v hx.toHx (by decide +kernel)) (g_k (by decide +kernel))) (g_call hx.toHx (by decide +kernel) (ag1 (g_v hx.toHx (by decide +kernel)) (by rfl) ag0))) (by decide +kernel) (by rfl) (by rfl) (by rfl)) gs0)) (gs1 (st_ret (g_bin (g_bin (g_k (by decide +kernel)) (g_sl (g_v hx.toHx (by decide +kernel)) (so1 (g_k (by decide +kernel)) (by rfl)) so0)) (g_k (by decide +kernel)))) gs0))))
theorem ok__law_written {X : Cx} {k : Nat} {C : Orc} {E : OrcX} (hx : Hz X ⟨d__law_written.N, (defScope (top 39)).names, fs, xs⟩ k C E) : GS X C E (defBody (top 39)) d__law_written.body := (gs1 (st_ret (g_bin (g_bin (g_call hx.toHx (by decide +kernel) (ag1 (g_ix (g_v hx.toHx (by decide +kernel)) (g_k (by decide +kernel)) (by rfl)) (by rfl) ag0)) (g_k (by decide +kernel))) (g_call hx.toHx (by decide +kernel) (ag1 (g_ix (g_v hx.toHx (by decide +kernel)) (g_k (by decide +kernel)) (by rfl)) (by rfl) ag0)))) gs0)
set_option maxHeartbeats 0 in
theorem ok__law_changed {X : Cx} {k : Nat} {C : Orc} {E : OrcX} (hx : Hz X ⟨d__law_changed.N, (defScope (top 40)).names, fs, xs⟩ k C E) : GS X C E (defBody (top 40)) d__law_changed.body := (gs1 (st_asg hx.toHs (g_bin (g_bin (g_v hx.toHx (by decide +kernel)) (g_k (by decide +kernel))) (g_bin (g_blt hx.toHx .len (by decide +kernel) (ag1 (g_v hx.toHx (by decide +kernel)) (by rfl) ag0)) (g_k (by decide +kernel)))) (by decide +kernel) (by rfl) (by rfl) (by rfl)) (gs1 (st_asg hx.toHs (g_bin (g_v hx.toHx (by decide +kernel)) (g_k (by decide +kernel))) (by decide +kernel) (by rfl) (by rfl) (by rfl)) (gs1 (st_if (g_cmp hx.toHx (g_v hx.toHx (by decide +kernel)) (g_k (by decide +kernel)) (by rfl)) (gs1 (st_ret (g_bin (g_sl (g_v hx.toHx (by decide +kernel)) so0 (so1 (g_v hx.toHx (by decide +kernel)) (by rfl))) (g_sl (g_v hx.toHx (by decide +kernel)) (so1 (g_bin (g_v hx.toHx (by decide +kernel)) (g_k (by decide +kernel))) (by rfl)) so0))) gs0) gs0) (gs1 (st_if (g_cmp hx.toHx (g_v hx.toHx (by decide +kernel)) (g_k (by decide +kernel)) (by rfl)) (gs1 (st_asg hx.toHs (g_ix (g_k (by decide +kernel)) (g_bin (g_bin (g_v hx.toHx (by decide +kernel)) (g_k (by decide +kernel))) (g_k (by decide +kernel))) (by rfl)) (by decide +kernel) (by rfl) (by rfl) (by rfl)) (gs1 (st_ret (g_bin (g_bin (g_sl (g_v hx.toHx (by decide +kernel)) so0 (so1 (g_v hx.toHx (by decide +kernel)) (by rfl))) (g_v hx.toHx (by decide +kernel))) (g_sl (g_v hx.toHx (by decide +kernel)) (so1 (g_bin (g_v hx.toHx (by decide +kernel)) (g_bin (g_v hx.toHx (by decide +kernel)) (g_k (by decide +kernel)))) (by rfl)) so0))) gs0)) gs0) (gs1 (st_asg hx.toHs (g_bin (g_bin (g_v hx.toHx (by decide +kernel)) (g_k (by decide +kernel))) (g_bin (g_bin (g_v hx.toHx (by decide +kernel)) (g_k (by decide +kernel))) (g_k (by decide +kernel)))) (by decide +kernel) (by rfl) (by rfl) (by rfl)) (gs1 (st_if (g_cmp hx.toHx (g_v hx.toHx (by decide +kernel)) (g_k (by decide +kernel)) (by rfl)) (gs1 (st_ret (g_bin (g_sl (g_v hx.toHx (by decide +kernel)) so0 (so1 (g_v hx.toHx (by decide +kernel)) (by rfl))) (g_sl (g_v hx.toHx (by decide +kernel)) (so1 (g_v hx.toHx (by decide +kernel)) (by rfl)) so0))) gs0) gs0) (gs1 (st_if (g_cmp hx.toHx (g_v hx.toHx (by decide +kernel)) (g_k (by decide +kernel)) (by rfl)) (gs1 (st_ret (g_bin (g_sl (g_v hx.toHx (by decide +kernel)) so0 (so1 (g_v hx.toHx (by decide +kernel)) (by rfl))) (g_sl (g_v hx.toHx (by decide +kernel)) (so1 (g_v hx.toHx (by decide +kernel)) (by rfl)) so0))) gs0) gs0) (gs1 (st_asg hx.toHs (g_lst (ag1 (g_k (by decide +kernel)) (by rfl) (ag1 (g_k (by decide +kernel)) (by rfl) (ag1 (g_k (by decide +kernel)) (by rfl) (ag1 (g_k (by decide +kernel)) (by rfl) (ag1 (g_k (by decide +kernel)) (by rfl) (ag1 (g_k (by decide +kernel)) (by rfl) (ag1 (g_k (by decide +kernel)) (by rfl) (ag1 (g_k (by decide +kernel)) (by rfl) ag0))))))))) (by decide +kernel) (by rfl) (by rfl) (by rfl)) (gs1 (st_ret (g_bin (g_bin (g_sl (g_v hx.toHx (by decide +kernel)) so0 (so1 (g_v hx.toHx (by decide +kernel)) (by rfl))) (g_ix (g_v hx.toHx (by decide +kernel)) (g_bin (g_bin (g_v hx.toHx (by decide +kernel)) (g_k (by decide +kernel))) (g_k (by decide +kernel))) (by rfl))) (g_sl (g_v hx.toHx (by decide +kernel)) (so1 (g_bin (g_v hx.toHx (by decide +kernel)) (g_k (by decide +kernel))) (by rfl)) so0))) gs0)))))))))
theorem ok__law_number_at {X : Cx} {k : Nat} {C : Orc} {E : OrcX} (hx : Hz X ⟨d__law_number_at.N, (defScope (top 41)).names, fs, xs⟩ k C E) : GS X C E (defBody (top 41)) d__law_number_at.body := (gs1 (st_asg hx.toHs (g_v hx.toHx (by decide +kernel)) (by decide +kernel) (by rfl) (by rfl) (by rfl)) (gs1 (st_while hx.toHs (g_and (g_cmp hx.toHx (g_sl (g_v hx.toHx (by decide +kernel)) (so1 (g_v hx.toHx (by decide +kernel)) (by rfl)) (so1 (g_bin (g_v hx.toHx (by decide +kernel)) (g_k (by decide +kernel))) (by rfl))) (g_k (by decide +kernel)) (by rfl)) (g_one (g_cmp hx.toHx (g_sm .find (g_k (by decide +kernel)) (ag1 (g_ix (g_v hx.toHx (by decide +kernel)) (g_v hx.toHx (by decide +kernel)) (by rfl)) (by rfl) ag0) (fun _ _ => rfl) (by rfl) (by rfl)) (g_k (by decide +kernel)) (by rfl)))) (gs1 (st_asg hx.toHs (g_bin (g_v hx.toHx (by decide +kernel)) (g_k (by decide +kernel))) (by decide +kernel) (by rfl) (by rfl) (by rfl)) gs0)) (gs1 (st_ret (g_v hx.toHx (by decide +kernel))) gs0)))
theorem ok__law_tree_at {X : Cx} {k : Nat} {C : Orc} {E : OrcX} (hx : Hz X ⟨d__law_tree_at.N, (defScope (top 42)).names, fs, xs⟩ k C E) : GS X C E (defBody (top 42)) d__law_tree_at.body := (gs1 (st_if (g_cmp hx.toHx (g_sl (g_v hx.toHx (by decide +kernel)) (so1 (g_v hx.toHx (by decide +kernel)) (by rfl)) (so1 (g_bin (g_v hx.toHx (by decide +kernel)) (g_k (by decide +kernel))) (by rfl))) (g_k (by decide +kernel)) (by rfl)) (gs1 (st_asg hx.toHs (g_call hx.toHx (by decide +kernel) (ag1 (g_v hx.toHx (by decide +kernel)) (by rfl) (ag1 (g_v hx.toHx (by decide +kernel)) (by rfl) ag0))) (by decide +kernel) (by rfl) (by rfl) (by rfl)) (gs1 (st_if (g_cmp hx.toHx (g_v hx.toHx (by decide +kernel)) (g_v hx.toHx (by decide +kernel)) (by rfl)) (gs1 (st_ret (g_tup (ag1 (g_k (by decide +kernel)) (by rfl) (ag1 (g_v hx.toHx (by decide +kernel)) (by rfl) ag0)))) gs0) gs0) (gs1 (st_ret (g_tup (ag1 (g_blt hx.toHx .int (by decide +kernel) (ag1 (g_sl (g_v hx.toHx (by decide +kernel)) (so1 (g_v hx.toHx (by decide +kernel)) (by rfl)) (so1 (g_v hx.toHx (by decide +kernel)) (by rfl))) (by rfl) ag0)) (by rfl) (ag1 (g_v hx.toHx (by decide +kernel)) (by rfl) ag0)))) gs0))) gs0) (gs1 (st_asg hx.toHs (g_tup ag0) (by decide +kernel) (by rfl) (by rfl) (by rfl)) (gs1 (st_asg hx.toHs (g_v hx.toHx (by decide +kernel)) (by decide +kernel) (by rfl) (by rfl) (by rfl)) (gs1 (st_for hx.toHs (by decide +kernel) (ig_rng1 hx.toHx (by decide +kernel) (g_v hx.toHx (by decide +kernel)) (by rfl)) (gs1 (st_asg hx.toHs (g_call hx.toHx (by decide +kernel) (ag1 (g_v hx.toHx (by decide +kernel)) (by rfl) (ag1 (g_bin (g_v hx.toHx (by decide +kernel)) (g_k (by decide +kernel))) (by rfl) (ag1 (g_v hx.toHx (by decide +kernel)) (by rfl) ag0)))) (by decide +kernel) (by rfl) (by rfl) (by rfl)) (gs1 (st_if (g_or (g_cmp hx.toHx (g_sl (g_v hx.toHx (by decide +kernel)) (so1 (g_v hx.toHx (by decide +kernel)) (by rfl)) (so1 (g_bin (g_v hx.toHx (by decide +kernel)) (g_k (by decide +kernel))) (by rfl))) (g_ix (g_k (by decide +kernel)) (g_blt hx.toHx .int (by decide +kernel) (ag1 (g_cmp hx.toHx (g_v hx.toHx (by decide +kernel)) (g_k (by decide +kernel)) (by rfl)) (by rfl) ag0)) (by rfl)) (by rfl)) (g_or (g_cmp hx.toHx (g_v hx.toHx (by decide +kernel)) (g_k (by decide +kernel)) (by rfl)) (g_one (g_and (g_cmp hx.toHx (g_v hx.toHx (by decide +kernel)) (g_k (by decide +kernel)) (by rfl)) (g_and (g_cmp hx.toHx (g_v hx.toHx (by decide +kernel)) (g_k (by decide +kernel)) (by rfl)) (g_one (g_isin hx.toHx .tuple (by decide +kernel) (g_v hx.toHx (by decide +kernel)) (by rfl)))))))) (gs1 (st_ret (g_tup (ag1 (g_k (by decide +kernel)) (by rfl) (ag1 (g_v hx.toHx (by decide +kernel)) (by rfl) ag0)))) gs0) gs0) (gs1 (st_asg hx.toHs (g_bin (g_v hx.toHx (by decide +kernel)) (g_tup (ag1 (g_v hx.toHx (by decide +kernel)) (by rfl) ag0))) (by decide +kernel) (by rfl) (by rfl) (by rfl)) (gs1 (st_asg hx.toHs (g_v hx.toHx (by decide +kernel)) (by decide +kernel) (by rfl) (by rfl) (by rfl)) gs0))))) (gs1 (st_if (g_cmp hx.toHx (g_sl (g_v hx.toHx (by decide +kernel)) (so1 (g_v hx.toHx (by decide +kernel)) (by rfl)) (so1 (g_bin (g_v hx.toHx (by decide +kernel)) (g_k (by decide +kernel))) (by rfl))) (g_k (by decide +kernel)) (by rfl)) (gs1 (st_ret (g_tup (ag1 (g_k (by decide +kernel)) (by rfl) (ag1 (g_v hx.toHx (by decide +kernel)) (by rfl) ag0)))) gs0) gs0) (gs1 (st_ret (g_tup (ag1 (g_v hx.toHx (by decide +kernel)) (by rfl) (ag1 (g_bin (g_v hx.toHx (by decide +kernel)) (g_k (by decide +kernel))) (by rfl) ag0)))) gs0))))))
theorem ok__law_due {X : Cx} {k : Nat} {C : Orc} {E : OrcX} (hx : Hz X ⟨d__law_due.N, (defScope (top 43)).names, fs, xs⟩ k C E) : GS X C E (defBody (top 43)) d__law_due.body := (gs1 (st_asg hx.toHs (g_call hx.toHx (by decide +kernel) (ag1 (g_v hx.toHx (by decide +kernel)) (by rfl) (ag1 (g_k (by decide +kernel)) (by rfl) (ag1 (g_k (by decide +kernel)) (by rfl) ag0)))) (by decide +kernel) (by rfl) (by rfl) (by rfl)) (gs1 (st_asg hx.toHs (g_call hx.toHx (by decide +kernel) (ag1 (g_v hx.toHx (by decide +kernel)) (by rfl) (ag1 (g_bin (g_v hx.toHx (by decide +kernel)) (g_k (by decide +kernel))) (by rfl) (ag1 (g_k (by decide +kernel)) (by rfl) ag0)))) (by decide +kernel) (by rfl) (by rfl) (by rfl)) (gs1 (st_if (g_or (g_cmp hx.toHx (g_v hx.toHx (by decide +kernel)) (g_k (by decide +kernel)) (by rfl)) (g_or (g_cmp hx.toHx (g_v hx.toHx (by decide +kernel)) (g_k (by decide +kernel)) (by rfl)) (g_or (g_not (g_call hx.toHx (by decide +kernel) (ag1 (g_tup (ag1 (g_v hx.toHx (by decide +kernel)) (by rfl) (ag1 (g_v hx.toHx (by decide +kernel)) (by rfl) ag0))) (by rfl) ag0))) (g_one (g_cmp hx.toHx (g_call hx.toHx (by decide +kernel) (ag1 (g_tup (ag1 (g_v hx.toHx (by decide +kernel)) (by rfl) (ag1 (g_v hx.toHx (by decide +kernel)) (by rfl) ag0))) (by rfl) ag0)) (g_v hx.toHx (by decide +kernel)) (by rfl)))))) (gs1 (st_ret (g_k (by decide +kernel))) gs0) gs0) (gs1 (st_ret (g_tup (ag1 (g_v hx.toHx (by decide +kernel)) (by rfl) (ag1 (g_v hx.toHx (by decide +kernel)) (by rfl) ag0)))) gs0))))
theorem ok__law_found {X : Cx} {k : Nat} {C : Orc} {E : OrcX} (hx : Hz X ⟨d__law_found.N, (defScope (top 44)).names, fs, xs⟩ k C E) : GS X C E (defBody (top 44)) d__law_found.body := (gs1 (st_try hx (by decide +kernel) (by decide +kernel) (gs1 (st_asg hx.nox.toHs (g_call hx.nox.toHx (by decide +kernel) (ag1 (g_v hx.nox.toHx (by decide +kernel)) (by rfl) ag0)) (by decide +kernel) (by rfl) (by rfl) (by rfl)) gs0) (gx1 (xt_asg hx.toHs (xg_call hx.hx (by decide +kernel) (ag1 (g_v hx.toHx.nox (by decide +kernel)) (by rfl) ag0) (xag1 (x_no (by rfl)) (g_v hx.toHx.nox (by decide +kernel)) (by rfl) xag0)) (by decide +kernel) (by rfl) (by rfl) (by rfl)) (st_asg hx.nox.toHs (g_call hx.nox.toHx (by decide +kernel) (ag1 (g_v hx.nox.toHx (by decide +kernel)) (by rfl) ag0)) (by decide +kernel) (by rfl) (by rfl) (by rfl)) gx0) (fun _ hh nd hfn => (gs1 (hs_asg hh nd hfn (g_and (h_isx hh (by decide +kernel) (h_v hh (by decide +kernel)) (by rfl)) (g_one (h_isx hh (by decide +kernel) (h_v hh (by decide +kernel)) (by rfl)))) (by decide +kernel) (by rfl) (by rfl)) (gs1 (st_ret (g_ix (g_lst (ag1 (g_k (by decide +kernel)) (by rfl) (ag1 (g_k (by decide +kernel)) (by rfl) ag0))) (h_int hh (by decide +kernel) (g_and (h_v hh (by decide +kernel)) (g_and (g_not (h_isx hh (by decide +kernel) (h_v hh (by decide +kernel)) (by rfl))) (g_one (g_not (h_isx hh (by decide +kernel) (h_v hh (by decide +kernel)) (by rfl)))))) (by rfl)) (by rfl))) gs0)))) (gs1 (st_ret (g_ix (g_lst (ag1 (g_v hx.toHx (by decide +kernel)) (by rfl) (ag1 (g_k (by decide +kernel)) (by rfl) ag0))) (g_blt hx.toHx .int (by decide +kernel) (ag1 (g_cmp hx.toHx (g_v hx.toHx (by decide +kernel)) (g_k (by decide +kernel)) (by rfl)) (by rfl) ag0)) (by rfl))) gs0))
theorem ok_law {X : Cx} {k : Nat} {C : Orc} {E : OrcX} (hx : Hz X ⟨d_law.N, (defScope (top 45)).names, fs, xs⟩ k C E) : GS X C E (defBody (top 45)) d_law.body := (gs1 (st_asg hx.toHs (g_call hx.toHx (by decide +kernel) (ag1 (g_v hx.toHx (by decide +kernel)) (by rfl) (ag1 (g_k (by decide +kernel)) (by rfl) ag0))) (by decide +kernel) (by rfl) (by rfl) (by rfl)) (gs1 (st_asg hx.toHs (g_call hx.toHx (by decide +kernel) (ag1 (g_call hx.toHx (by decide +kernel) (ag1 (g_v hx.toHx (by decide +kernel)) (by rfl) (ag1 (g_k (by decide +kernel)) (by rfl) ag0))) (by rfl) (ag1 (g_k (by decide +kernel)) (by rfl) ag0))) (by decide +kernel) (by rfl) (by rfl) (by rfl)) (gs1 (st_if (g_cmp hx.toHx (g_bin (g_bin (g_v hx.toHx (by decide +kernel)) (g_k (by decide +kernel))) (g_k (by decide +kernel))) (g_k (by decide +kernel)) (by rfl)) (gs1 (st_asg hx.toHs (g_tup (ag1 (g_call hx.toHx (by decide +kernel) (ag1 (g_call hx.toHx (by decide +kernel) (ag1 (g_v hx.toHx (by decide +kernel)) (by rfl) (ag1 (g_k (by decide +kernel)) (by rfl) ag0))) (by rfl) (ag1 (g_k (by decide +kernel)) (by rfl) ag0))) (by rfl) (ag1 (g_call hx.toHx (by decide +kernel) (ag1 (g_call hx.toHx (by decide +kernel) (ag1 (g_v hx.toHx (by decide +kernel)) (by rfl) (ag1 (g_k (by decide +kernel)) (by rfl) ag0))) (by rfl) (ag1 (g_k (by decide +kernel)) (by rfl) ag0))) (by rfl) ag0))) (by decide +kernel) (by rfl) (by rfl) (by rfl)) gs0) gs0) (gs1 (st_asg hx.toHs (g_call hx.toHx (by decide +kernel) (ag1 (g_v hx.toHx (by decide +kernel)) (by rfl) ag0)) (by decide +kernel) (by rfl) (by rfl) (by rfl)) (gs1 (st_for hx.toHs (by decide +kernel) (ig_rng1 hx.toHx (by decide +kernel) (g_bin (g_bin (g_v hx.toHx (by decide +kernel)) (g_k (by decide +kernel))) (g_bin (g_k (by decide +kernel)) (g_bin (g_bin (g_v hx.toHx (by decide +kernel)) (g_k (by decide +kernel))) (g_k (by decide +kernel))))) (by rfl)) (gs1 (st_asg hx.toHs (g_call hx.toHx (by decide +kernel) (ag1 (g_v hx.toHx (by decide +kernel)) (by rfl) (ag1 (g_call hx.toHx (by decide +kernel) (ag1 (g_v hx.toHx (by decide +kernel)) (by rfl) (ag1 (g_v hx.toHx (by decide +kernel)) (by rfl) ag0))) (by rfl) ag0))) (by decide +kernel) (by rfl) (by rfl) (by rfl)) gs0)) (gs1 (st_asg hx.toHs (g_call hx.toHx (by decide +kernel) (ag1 (g_v hx.toHx (by decide +kernel)) (by rfl) ag0)) (by decide +kernel) (by rfl) (by rfl) (by rfl)) (gs1 (st_ret (g_and (g_cmp hx.toHx (g_v hx.toHx (by decide +kernel)) (g_call hx.toHx (by decide +kernel) (ag1 (g_v hx.toHx (by decide +kernel)) (by rfl) ag0)) (by rfl)) (g_one (g_or (g_cmp hx.toHx (g_v hx.toHx (by decide +kernel)) (g_k (by decide +kernel)) (by rfl)) (g_one (g_call hx.toHx (by decide +kernel) (ag1 (g_v hx.toHx (by decide +kernel)) (by rfl) ag0))))))) gs0)))))))
/-- a def stands behind the top as the text says -/
noncomputable def TxtOf (K : PySem.W.Frag) (x : Str) (ps : List Str) (st : Stmt) : Prop := ∃ f fd, PySem.W.nsIn K mainGlobals x = some (some (.ref f)) ∧ Fun K x x st f fd ∧ Binds K fd ps []
noncomputable def BindOk (x : Str) (ps : List Str) (st : Stmt) : Prop := ∀ (kV doc pm : Value) (an : Option Addr) (cdv ct : Value) (us : List Value), us.length = ps.length → bindArgs (PySem.W.fnOf x x (defArgs st) (defBody st) (defScope st) .none kV doc pm an cdv ct) ⟨us, []⟩ = pure (ps.zip us)
theorem lenS {α : Type} {n : Nat} {l : List α} (h : l.length = n + 1) : ∃ a t, l = a :: t ∧ t.length = n := by
  cases l with
  | nil => cases h
  | cons a t => exact ⟨a, t, rfl, Nat.succ.inj h⟩
theorem bo1 {x p : Str} {st : Stmt} (h : ∀ (kV doc pm : Value) (an : Option Addr) (cdv ct u : Value), bindArgs (PySem.W.fnOf x x (defArgs st) (defBody st) (defScope st) .none kV doc pm an cdv ct) ⟨[u], []⟩ = pure [(p, u)]) : BindOk x [p] st := fun kV doc pm an cdv ct us hl => by
  obtain ⟨u, rfl⟩ := List.length_eq_one_iff.mp hl
  exact h kV doc pm an cdv ct u
theorem bo2 {x p q : Str} {st : Stmt} (h : ∀ (kV doc pm : Value) (an : Option Addr) (cdv ct u v : Value), bindArgs (PySem.W.fnOf x x (defArgs st) (defBody st) (defScope st) .none kV doc pm an cdv ct) ⟨[u, v], []⟩ = pure [(p, u), (q, v)]) : BindOk x [p, q] st := fun kV doc pm an cdv ct us hl => by
  obtain ⟨u, t, rfl, h1⟩ := lenS hl
  obtain ⟨v, t, rfl, h2⟩ := lenS h1
  cases List.length_eq_zero_iff.mp h2
  exact h kV doc pm an cdv ct u v
theorem bo3 {x p q r : Str} {st : Stmt} (h : ∀ (kV doc pm : Value) (an : Option Addr) (cdv ct u v z : Value), bindArgs (PySem.W.fnOf x x (defArgs st) (defBody st) (defScope st) .none kV doc pm an cdv ct) ⟨[u, v, z], []⟩ = pure [(p, u), (q, v), (r, z)]) : BindOk x [p, q, r] st := fun kV doc pm an cdv ct us hl => by
  obtain ⟨u, t, rfl, h1⟩ := lenS hl
  obtain ⟨v, t, rfl, h2⟩ := lenS h1
  obtain ⟨z, t, rfl, h3⟩ := lenS h2
  cases List.length_eq_zero_iff.mp h3
  exact h kV doc pm an cdv ct u v z
theorem mk {K : PySem.W.Frag} {f : Addr} {od an : Option Addr} {sl : Array (Option Value)} {oc kV dc pm cd ct : Value} {x : Str} {ps : List Str} {st : Stmt} (b : BindOk x ps st) (a : PySem.W.nsIn K mainGlobals x = some (some (.ref f)))
    (l : K.lookup f = some ⟨oc, od, .func (PySem.W.fnOf x x (defArgs st) (defBody st) (defScope st) .none kV dc pm an cd ct), sl⟩) (c : PySem.W.codeIn K cd x = true) (k : PySem.W.keepIn K (.ref f) = true) : TxtOf K x ps st :=
  have F := fun_mk (st := st) l c k
  ⟨f, _, a, F, F.binds (ps := ps) b⟩
theorem fc_cons {Q : Str → Prop} {a : Str} {l : List Str} (h : Q a) (t : ∀ f, l.contains f = true → Q f) (f : Str) (hf : (a :: l).contains f = true) : Q f := by
  rw [List.contains_cons] at hf
  rcases Bool.or_eq_true_iff.mp hf with z | z
  · rw [eq_of_beq z]; exact h
  · exact t f z
theorem fc_nil {Q : Str → Prop} (f : Str) (hf : ([] : List Str).contains f = true) : Q f := by simp at hf
theorem bd_is_part : BindOk "is_part" ["thing"] (top 6) := bo1 fun _ _ _ _ _ _ _ => rfl
theorem bd_is_count : BindOk "is_count" ["thing"] (top 7) := bo1 fun _ _ _ _ _ _ _ => rfl
theorem bd_front : BindOk "front" ["count"] (top 8) := bo1 fun _ _ _ _ _ _ _ => rfl
theorem bd_are_plain_halves : BindOk "are_plain_halves" ["one", "other"] (top 9) := bo2 fun _ _ _ _ _ _ _ _ => rfl
theorem bd_are_same_number : BindOk "are_same_number" ["one", "other"] (top 10) := bo2 fun _ _ _ _ _ _ _ _ => rfl
theorem bd_is_whole : BindOk "is_whole" ["thing"] (top 11) := bo1 fun _ _ _ _ _ _ _ => rfl
theorem bd_is_tuple_of : BindOk "is_tuple_of" ["thing", "size"] (top 12) := bo2 fun _ _ _ _ _ _ _ _ => rfl
theorem bd_read : BindOk "read" ["text"] (top 15) := bo1 fun _ _ _ _ _ _ _ => rfl
theorem bd_tree_of : BindOk "tree_of" ["text", "is_end", "is_plain"] (top 16) := bo3 fun _ _ _ _ _ _ _ _ _ => rfl
theorem bd_asked : BindOk "asked" ["tree", "is_right"] (top 17) := bo2 fun _ _ _ _ _ _ _ _ => rfl
theorem bd_is_plain_pair : BindOk "is_plain_pair" ["branches"] (top 18) := bo1 fun _ _ _ _ _ _ _ => rfl
theorem bd_is_plain_triple : BindOk "is_plain_triple" ["branches"] (top 19) := bo1 fun _ _ _ _ _ _ _ => rfl
theorem bd_sign_at : BindOk "sign_at" ["text", "place"] (top 20) := bo2 fun _ _ _ _ _ _ _ _ => rfl
theorem bd_figures_end : BindOk "figures_end" ["text", "start"] (top 21) := bo2 fun _ _ _ _ _ _ _ _ => rfl
theorem bd_number_of : BindOk "number_of" ["figures"] (top 22) := bo1 fun _ _ _ _ _ _ _ => rfl
theorem bd__law_cell_at : BindOk "_law_cell_at" ["_law_script", "_law_k"] (top 24) := bo2 fun _ _ _ _ _ _ _ _ => rfl
theorem bd__law_mixed : BindOk "_law_mixed" ["_law_script", "_law_k"] (top 25) := bo2 fun _ _ _ _ _ _ _ _ => rfl
theorem bd__law_drawn : BindOk "_law_drawn" ["_law_number", "_law_k"] (top 26) := bo2 fun _ _ _ _ _ _ _ _ => rfl
theorem bd__law_any_part : BindOk "_law_any_part" ["_law_number", "_law_deep"] (top 27) := bo2 fun _ _ _ _ _ _ _ _ => rfl
theorem bd__law_any_count : BindOk "_law_any_count" ["_law_number", "_law_deep"] (top 28) := bo2 fun _ _ _ _ _ _ _ _ => rfl
theorem bd__law_plain_part : BindOk "_law_plain_part" ["_law_tree"] (top 29) := bo1 fun _ _ _ _ _ _ _ => rfl
theorem bd__law_more : BindOk "_law_more" ["_law_count", "_law_by"] (top 30) := bo2 fun _ _ _ _ _ _ _ _ => rfl
theorem bd__law_front : BindOk "_law_front" ["_law_count"] (top 31) := bo1 fun _ _ _ _ _ _ _ => rfl
theorem bd__law_plain_count : BindOk "_law_plain_count" ["_law_tree"] (top 32) := bo1 fun _ _ _ _ _ _ _ => rfl
theorem bd__law_whole : BindOk "_law_whole" ["_law_thing"] (top 33) := bo1 fun _ _ _ _ _ _ _ => rfl
theorem bd__law_is_part : BindOk "_law_is_part" ["_law_thing"] (top 34) := bo1 fun _ _ _ _ _ _ _ => rfl
theorem bd__law_is_count : BindOk "_law_is_count" ["_law_thing"] (top 35) := bo1 fun _ _ _ _ _ _ _ => rfl
theorem bd__law_is_clock : BindOk "_law_is_clock" ["_law_thing"] (top 36) := bo1 fun _ _ _ _ _ _ _ => rfl
theorem bd__law_clock : BindOk "_law_clock" ["_law_number", "_law_deep"] (top 37) := bo2 fun _ _ _ _ _ _ _ _ => rfl
theorem bd__law_tree_text : BindOk "_law_tree_text" ["_law_tree"] (top 38) := bo1 fun _ _ _ _ _ _ _ => rfl
theorem bd__law_written : BindOk "_law_written" ["_law_clock_here"] (top 39) := bo1 fun _ _ _ _ _ _ _ => rfl
theorem bd__law_changed : BindOk "_law_changed" ["_law_text", "_law_number"] (top 40) := bo2 fun _ _ _ _ _ _ _ _ => rfl
theorem bd__law_number_at : BindOk "_law_number_at" ["_law_text", "_law_at"] (top 41) := bo2 fun _ _ _ _ _ _ _ _ => rfl
theorem bd__law_tree_at : BindOk "_law_tree_at" ["_law_text", "_law_at", "_law_many"] (top 42) := bo3 fun _ _ _ _ _ _ _ _ _ => rfl
theorem bd__law_due : BindOk "_law_due" ["_law_text"] (top 43) := bo1 fun _ _ _ _ _ _ _ => rfl
theorem bd__law_found : BindOk "_law_found" ["_law_text"] (top 44) := bo1 fun _ _ _ _ _ _ _ => rfl
theorem bd_law : BindOk "law" ["_law_script"] (top 45) := bo1 fun _ _ _ _ _ _ _ => rfl
structure TxtAll (K : PySem.W.Frag) : Prop where
  t_is_part : TxtOf K "is_part" d_is_part.ps (top 6)
  t_is_count : TxtOf K "is_count" d_is_count.ps (top 7)
  t_front : TxtOf K "front" d_front.ps (top 8)
  t_are_plain_halves : TxtOf K "are_plain_halves" d_are_plain_halves.ps (top 9)
  t_are_same_number : TxtOf K "are_same_number" d_are_same_number.ps (top 10)
  t_is_whole : TxtOf K "is_whole" d_is_whole.ps (top 11)
  t_is_tuple_of : TxtOf K "is_tuple_of" d_is_tuple_of.ps (top 12)
  t_read : TxtOf K "read" d_read.ps (top 15)
  t_tree_of : TxtOf K "tree_of" d_tree_of.ps (top 16)
  t_asked : TxtOf K "asked" d_asked.ps (top 17)
  t_is_plain_pair : TxtOf K "is_plain_pair" d_is_plain_pair.ps (top 18)
  t_is_plain_triple : TxtOf K "is_plain_triple" d_is_plain_triple.ps (top 19)
  t_sign_at : TxtOf K "sign_at" d_sign_at.ps (top 20)
  t_figures_end : TxtOf K "figures_end" d_figures_end.ps (top 21)
  t_number_of : TxtOf K "number_of" d_number_of.ps (top 22)
  t__law_cell_at : TxtOf K "_law_cell_at" d__law_cell_at.ps (top 24)
  t__law_mixed : TxtOf K "_law_mixed" d__law_mixed.ps (top 25)
  t__law_drawn : TxtOf K "_law_drawn" d__law_drawn.ps (top 26)
  t__law_any_part : TxtOf K "_law_any_part" d__law_any_part.ps (top 27)
  t__law_any_count : TxtOf K "_law_any_count" d__law_any_count.ps (top 28)
  t__law_plain_part : TxtOf K "_law_plain_part" d__law_plain_part.ps (top 29)
  t__law_more : TxtOf K "_law_more" d__law_more.ps (top 30)
  t__law_front : TxtOf K "_law_front" d__law_front.ps (top 31)
  t__law_plain_count : TxtOf K "_law_plain_count" d__law_plain_count.ps (top 32)
  t__law_whole : TxtOf K "_law_whole" d__law_whole.ps (top 33)
  t__law_is_part : TxtOf K "_law_is_part" d__law_is_part.ps (top 34)
  t__law_is_count : TxtOf K "_law_is_count" d__law_is_count.ps (top 35)
  t__law_is_clock : TxtOf K "_law_is_clock" d__law_is_clock.ps (top 36)
  t__law_clock : TxtOf K "_law_clock" d__law_clock.ps (top 37)
  t__law_tree_text : TxtOf K "_law_tree_text" d__law_tree_text.ps (top 38)
  t__law_written : TxtOf K "_law_written" d__law_written.ps (top 39)
  t__law_changed : TxtOf K "_law_changed" d__law_changed.ps (top 40)
  t__law_number_at : TxtOf K "_law_number_at" d__law_number_at.ps (top 41)
  t__law_tree_at : TxtOf K "_law_tree_at" d__law_tree_at.ps (top 42)
  t__law_due : TxtOf K "_law_due" d__law_due.ps (top 43)
  t__law_found : TxtOf K "_law_found" d__law_found.ps (top 44)
  t_law : TxtOf K "law" d_law.ps (top 45)
  fig : ∃ tk, PySem.W.nsIn K mainGlobals "FIGURES" = some (some (.str "0123456789" tk))
  blt : ∀ x ∈ bltNames, PySem.W.nsIn K mainGlobals x = some none
  xno : ∀ c ∈ xcNames, c ∉ xs → PySem.W.nsIn K mainGlobals c = some none
  xyes : ∃ ad : Str → Addr, ∀ c ∈ xs, PySem.W.nsIn K mainGlobals c = some (some (.ref (ad c))) ∧ ClsOk K (ad c) ∧ PySem.W.kitOne K (.ref (ad c)) (.type "ValueError") = some true ∧ ∀ d ∈ xs, PySem.W.exmOne K (.ref (ad c)) (.ref (ad d)) = some (subX c d) ∧ PySem.W.kitOne K (.ref (ad c)) (.ref (ad d)) = some (subX c d)
theorem xc_ok {K : PySem.W.Frag} {h : Heap} {mg : Str → Option Value} (X : K.In h) (G : h.Ns mainGlobals mg) (T : TxtAll K) : XcOk K mg ∧ ∀ c, xs.contains c = true → xcNames.contains c = true ∧ ∃ Ca, mg c = some (.ref Ca) := by
  obtain ⟨ad, hy⟩ := T.xyes
  have sub : ∀ c ∈ xs, c ∈ xcNames := by
    have h : xs.all (fun c => xcNames.contains c) = true := by decide +kernel
    intro c hc
    simpa using List.all_eq_true.mp h c hc
  have key : ∀ c Ca, xcNames.contains c = true → mg c = some (.ref Ca) → c ∈ xs ∧ Ca = ad c := fun c Ca hc hm => by
    have hc' : c ∈ xcNames := by simpa using hc
    by_cases hx : c ∈ xs
    · have e := hm.symm.trans (PySem.W.mg_of X G (hy c hx).1)
      injection e with e; injection e with e
      exact ⟨hx, e⟩
    · rw [PySem.W.mg_none_of X G (T.xno c hc' hx)] at hm; cases hm
  refine ⟨fun c Ca hc hm => ?_, fun c hc => ?_⟩
  · obtain ⟨hx, rfl⟩ := key c Ca hc hm
    obtain ⟨_, h2, h3, h4⟩ := hy c hx
    refine ⟨h2, h3, fun d Cd hd hmd => ?_⟩
    obtain ⟨hxd, rfl⟩ := key d Cd hd hmd
    exact h4 d hxd
  · have hx : c ∈ xs := by simpa using hc
    exact ⟨by simpa using sub c hx, ad c, PySem.W.mg_of X G (hy c hx).1⟩
noncomputable def AOk (P : Program) (w : World) (K : PySem.W.Frag) (mg : Str → Option Value) (base : Heap) (f : Str) : Prop := (∃ D st fa fd, tb.df f = some D ∧ D.name = f ∧ DOk K mg fs tb.xs (tb.dx f) D st fa fd) ∨ (tb.df f = none ∧ ∃ k g, tb.fo f = some (k, g) ∧ FOk2 P w K mg base f k g)
theorem aok {P : Program} {w : World} {K : PySem.W.Frag} {h : Heap} {mg : Str → Option Value} {base : Heap} (D : Df) (st : Stmt) (X : K.In h) (G : h.Ns mainGlobals mg) (t : TxtOf K D.name D.ps st) (sc : FnScope D.N D.ps (defScope st)) (hD : tb.df D.name = some D)
    (ok : ∀ {X : Cx} {k : Nat} {C : Orc} {E : OrcX}, Hz X ⟨D.N, (defScope st).names, fs, xs⟩ k C E → GS X C E (defBody st) D.body) (okx : tb.dx D.name = true → ∀ {X : Cx} {k : Nat} {C : Orc} {E : OrcX}, Hz X ⟨D.N, (defScope st).names, fs, xs⟩ k C E → GW X C E (defBody st) D.body) : AOk P w K mg base D.name := by
  obtain ⟨f, fd, a, F, b⟩ := t
  exact .inl ⟨D, st, f, fd, hD, rfl, F, PySem.W.mg_of X G a, b, sc, ok, okx⟩
theorem all_ok {P : Program} {w : World} {K : PySem.W.Frag} {h : Heap} {mg : Str → Option Value} {base : Heap} (X : K.In h) (G : h.Ns mainGlobals mg) (T : TxtAll K) : ∀ f, fs.contains f = true → AOk P w K mg base f :=
  fc_cons (aok d_is_part (top 6) X G T.t_is_part sc_is_part rfl ok_is_part (fun z => absurd z (by decide +kernel))) (fc_cons (aok d_is_count (top 7) X G T.t_is_count sc_is_count rfl ok_is_count (fun z => absurd z (by decide +kernel))) (fc_cons (aok d_front (top 8) X G T.t_front sc_front rfl ok_front (fun z => absurd z (by decide +kernel))) (fc_cons (aok d_are_plain_halves (top 9) X G T.t_are_plain_halves sc_are_plain_halves rfl ok_are_plain_halves (fun z => absurd z (by decide +kernel))) (fc_cons (aok d_are_same_number (top 10) X G T.t_are_same_number sc_are_same_number rfl ok_are_same_number (fun z => absurd z (by decide +kernel))) (fc_cons (aok d_is_whole (top 11) X G T.t_is_whole sc_is_whole rfl ok_is_whole (fun z => absurd z (by decide +kernel))) (fc_cons (aok d_is_tuple_of (top 12) X G T.t_is_tuple_of sc_is_tuple_of rfl ok_is_tuple_of (fun z => absurd z (by decide +kernel))) (fc_cons (aok d_read (top 15) X G T.t_read sc_read rfl ok_read (fun _ => okw_read)) (fc_cons (aok d_tree_of (top 16) X G T.t_tree_of sc_tree_of rfl ok_tree_of (fun _ => okw_tree_of)) (fc_cons (aok d_asked (top 17) X G T.t_asked sc_asked rfl ok_asked (fun _ => okw_asked)) (fc_cons (aok d_is_plain_pair (top 18) X G T.t_is_plain_pair sc_is_plain_pair rfl ok_is_plain_pair (fun z => absurd z (by decide +kernel))) (fc_cons (aok d_is_plain_triple (top 19) X G T.t_is_plain_triple sc_is_plain_triple rfl ok_is_plain_triple (fun z => absurd z (by decide +kernel))) (fc_cons (aok d_sign_at (top 20) X G T.t_sign_at sc_sign_at rfl ok_sign_at (fun z => absurd z (by decide +kernel))) (fc_cons (aok d_figures_end (top 21) X G T.t_figures_end sc_figures_end rfl ok_figures_end (fun z => absurd z (by decide +kernel))) (fc_cons (aok d_number_of (top 22) X G T.t_number_of sc_number_of rfl ok_number_of (fun _ => okw_number_of)) (fc_cons (aok d__law_cell_at (top 24) X G T.t__law_cell_at sc__law_cell_at rfl ok__law_cell_at (fun z => absurd z (by decide +kernel))) (fc_cons (aok d__law_mixed (top 25) X G T.t__law_mixed sc__law_mixed rfl ok__law_mixed (fun z => absurd z (by decide +kernel))) (fc_cons (aok d__law_drawn (top 26) X G T.t__law_drawn sc__law_drawn rfl ok__law_drawn (fun z => absurd z (by decide +kernel))) (fc_cons (aok d__law_any_part (top 27) X G T.t__law_any_part sc__law_any_part rfl ok__law_any_part (fun z => absurd z (by decide +kernel))) (fc_cons (aok d__law_any_count (top 28) X G T.t__law_any_count sc__law_any_count rfl ok__law_any_count (fun z => absurd z (by decide +kernel))) (fc_cons (aok d__law_plain_part (top 29) X G T.t__law_plain_part sc__law_plain_part rfl ok__law_plain_part (fun z => absurd z (by decide +kernel))) (fc_cons (aok d__law_more (top 30) X G T.t__law_more sc__law_more rfl ok__law_more (fun z => absurd z (by decide +kernel))) (fc_cons (aok d__law_front (top 31) X G T.t__law_front sc__law_front rfl ok__law_front (fun z => absurd z (by decide +kernel))) (fc_cons (aok d__law_plain_count (top 32) X G T.t__law_plain_count sc__law_plain_count rfl ok__law_plain_count (fun z => absurd z (by decide +kernel))) (fc_cons (aok d__law_whole (top 33) X G T.t__law_whole sc__law_whole rfl ok__law_whole (fun z => absurd z (by decide +kernel))) (fc_cons (aok d__law_is_part (top 34) X G T.t__law_is_part sc__law_is_part rfl ok__law_is_part (fun z => absurd z (by decide +kernel))) (fc_cons (aok d__law_is_count (top 35) X G T.t__law_is_count sc__law_is_count rfl ok__law_is_count (fun z => absurd z (by decide +kernel))) (fc_cons (aok d__law_is_clock (top 36) X G T.t__law_is_clock sc__law_is_clock rfl ok__law_is_clock (fun z => absurd z (by decide +kernel))) (fc_cons (aok d__law_clock (top 37) X G T.t__law_clock sc__law_clock rfl ok__law_clock (fun z => absurd z (by decide +kernel))) (fc_cons (aok d__law_tree_text (top 38) X G T.t__law_tree_text sc__law_tree_text rfl ok__law_tree_text (fun z => absurd z (by decide +kernel))) (fc_cons (aok d__law_written (top 39) X G T.t__law_written sc__law_written rfl ok__law_written (fun z => absurd z (by decide +kernel))) (fc_cons (aok d__law_changed (top 40) X G T.t__law_changed sc__law_changed rfl ok__law_changed (fun z => absurd z (by decide +kernel))) (fc_cons (aok d__law_number_at (top 41) X G T.t__law_number_at sc__law_number_at rfl ok__law_number_at (fun z => absurd z (by decide +kernel))) (fc_cons (aok d__law_tree_at (top 42) X G T.t__law_tree_at sc__law_tree_at rfl ok__law_tree_at (fun z => absurd z (by decide +kernel))) (fc_cons (aok d__law_due (top 43) X G T.t__law_due sc__law_due rfl ok__law_due (fun z => absurd z (by decide +kernel))) (fc_cons (aok d__law_found (top 44) X G T.t__law_found sc__law_found rfl ok__law_found (fun z => absurd z (by decide +kernel))) (fc_cons (aok d_law (top 45) X G T.t_law sc_law rfl ok_law (fun z => absurd z (by decide +kernel))) (fc_nil)))))))))))))))))))))))))))))))))))))
noncomputable def spLaw (K : PySem.W.Frag) : Sp := fun vs H Q _ => ∃ (a : Addr) (ns : List Int), vs = [.ref a] ∧ SqL K H a (ns.map V.int) ∧ ns.length ≤ 63 ∧ ∀ H', Q (.bl true) H'
theorem law_ok {P : Program} {w : World} {K : PySem.W.Frag} {h : Heap} {mg : Str → Option Value} {fa : Addr} (X : K.In h) (G : h.Ns mainGlobals mg) (hfa : mg "law" = some (.ref fa)) (T : TxtAll K) :
    ∃ fd : FuncData, (∀ (s : Shared) (v : Value), BindsTo s fd ⟨[v], []⟩ [("_law_script", v)]) ∧ ∀ base : Heap, K.In base → base.Ns mainGlobals mg → FnOk P w K mg base CX0 230 fa fd ["_law_script"] (spLaw K) := by
  obtain ⟨f, fd, a, F, b⟩ := T.t_law
  have e := hfa.symm.trans (PySem.W.mg_of X G a)
  cases e
  have hb : ∀ x ∈ bltNames, mg x = none := fun x hx => PySem.W.mg_none_of X G (T.blt x hx)
  obtain ⟨xk, xb⟩ := xc_ok X G T
  have okL : DOk K mg fs xs (tb.dx "law") d_law (top 45) fa fd := ⟨F, PySem.W.mg_of X G a, b, sc_law, ok_law, fun z => absurd z (by decide +kernel)⟩
  refine ⟨fd, ?_, fun base _ _ => ?_⟩
  · obtain ⟨oc, od, kV, doc, pm, an, cdv, ct, osl, e1, lk, hcd⟩ := F.ex
    intro s v
    rw [e1]
    exact .of_eq rfl
  · refine (fn_norm (funs_ok (P := P) (w := w) (base := base) tb fs (kst_of (let ⟨tk, z⟩ := T.fig; ⟨tk, PySem.W.mg_of X G z⟩)) htb hto hb xk xb (all_ok X G T) 115 "law" d_law (top 45) fa fd rfl rfl okL)).imp fun vs H Q E hq => ?_
    obtain ⟨r, ns, rfl, hS, hl, q⟩ := hq
    refine ⟨rfl, [.list (ns.map PyData.int)], .bool true, ?_, law_true ns hl, fun v H' _ bv => ?_⟩
    · simp only [Brs, Br]
      exact ⟨_, _, rfl, ⟨r, _, rfl, hS, brs_ints ns⟩, rfl⟩
    · simp only [Br] at bv
      subst bv
      exact q H'
theorem walk {l : PySem.W.OpenLaw} {q : Program} {loose : List Str} {XP : (Str → Option Value) → Heap → Prop} {YP : World → Heap → Prop} {d : DefRec} {K : Params → PySem.W.Frag} (hn : l.most = some 63) (hdf : d.params.defaults = [])
    (hY : ∀ (w : World) (h : Heap), YP w h → (K w.params).In h)
    (F : ∀ (w : World) (mg : Str → Option Value) (fa : Addr) (h : Heap), (K w.params).In h → h.Ns mainGlobals mg → mg d.name = some (.ref fa) →
      ∃ fd : FuncData, (∀ (s : Shared) (u : Value), BindsTo s fd ⟨[u], []⟩ [("_law_script", u)]) ∧ ∀ base : Heap, (K w.params).In base → base.Ns mainGlobals mg → FnOk l.prog w (K w.params) mg base CX0 230 fa fd ["_law_script"] (spLaw (K w.params))) :
    PySem.W.WalkO q loose XP YP l.row.toRowW d [] (fun f vs => PySem.call f vs) :=
  L2.walk_of (n := 63) (k := 230) (x := "_law_script") (CX := fun _ => CX0) (sp := fun w => spLaw (K w.params)) hn (by decide) hdf ⟨rfl, by decide, by decide⟩ hY F (fun _ _ a ns hl _ hS => ⟨a, ns, rfl, hS, hl, fun _ => rfl⟩) fun _ _ _ _ _ z => z
theorem kit_mk {K : PySem.W.Frag} {a b : Addr} {cd : ClassData} {v : Bool} (h1 : PySem.W.clsIn K b = some cd) (h2 : PySem.W.typeIn K (.ref b) = some (.type "type")) (h3 : PySem.W.subIn K (.ref a) (.ref b) = some v) : PySem.W.kitCls K (.ref a) (.ref b) = some v := by
  show (if ((PySem.W.clsIn K b).isSome && PySem.W.typeIn K (.ref b) == some (.type "type")) = true then PySem.W.subIn K (.ref a) (.ref b) else none) = some v
  rw [h1, h2, if_pos (show ((some cd).isSome && some (Value.type "type") == some (Value.type "type")) = true from (by decide : (true && some (Value.type "type") == some (Value.type "type")) = true))]
  exact h3
theorem kit_one {K : PySem.W.Frag} {a b : Addr} {v : Bool} (h : PySem.W.kitCls K (.ref a) (.ref b) = some v) (hd : (Value.ref a == Value.ref b) = false) : PySem.W.kitOne K (.ref a) (.ref b) = some v := by
  unfold PySem.W.kitOne
  rw [hd, if_neg Bool.false_ne_true]
  exact h
theorem kit_self {K : PySem.W.Frag} {a : Addr} : PySem.W.kitOne K (.ref a) (.ref a) = some true := by
  unfold PySem.W.kitOne
  rw [if_pos (beq_self_eq_true _)]
theorem kit_val {K : PySem.W.Frag} {a : Addr} (h : PySem.W.subIn K (.ref a) (.type "ValueError") = some true) : PySem.W.kitOne K (.ref a) (.type "ValueError") = some true := by
  have hz : (Value.ref a == Value.type "ValueError") = false := rfl
  have hm : PySem.W.kitMeta "ValueError" = true := by decide +kernel
  unfold PySem.W.kitOne PySem.W.kitCls
  rw [hz, if_neg Bool.false_ne_true]
  simp only
  rw [hm, if_pos rfl]
  exact h
theorem exm_mk {K : PySem.W.Frag} {a b : Addr} {v : Bool} (h : PySem.W.kitCls K (.ref a) (.ref b) = some v) (hs : PySem.W.subIn K (.ref b) (.type "BaseException") = some true) : PySem.W.exmOne K (.ref a) (.ref b) = some v := by
  unfold PySem.W.exmOne
  rw [hs, if_pos (by decide)]
  exact h
theorem xyes_mk {K : PySem.W.Frag} {a0 a1 a2 a3 : Addr} {c0 c1 c2 c3 : ClassData} (n0 : PySem.W.nsIn K mainGlobals "ClockError" = some (some (.ref a0))) (n1 : PySem.W.nsIn K mainGlobals "NoClock" = some (some (.ref a1))) (n2 : PySem.W.nsIn K mainGlobals "NoText" = some (some (.ref a2))) (n3 : PySem.W.nsIn K mainGlobals "NotApart" = some (some (.ref a3))) (gs : PySem.W.specialIn K (.builtin "object.__class__") "__get__" = some (some (.builtin "getset_descriptor.__get__"))) (tk : PySem.W.takesIn K (.builtin "object.__class__") = some true) (ex0 : PySem.W.excIn K a0 veMro "ValueError.__new__" = true) (ga0 : PySem.W.findIn K (.ref a0) "__getattribute__" = some (some (.builtin "BaseException.__getattribute__"))) (nh0 : PySem.W.findIn K (.ref a0) "__getattr__" = some none) (cl0 : PySem.W.findIn K (.ref a0) "__class__" = some (some (.builtin "object.__class__"))) (mo0 : PySem.W.mroIn K a0 (.type "object") = some true) (mb0 : PySem.W.mroIn K a0 (.type "BaseException") = some true) (ci0 : PySem.W.clsIn K a0 = some c0) (ty0 : PySem.W.typeIn K (.ref a0) = some (.type "type")) (sb0 : PySem.W.subIn K (.ref a0) (.type "BaseException") = some true) (sv0 : PySem.W.subIn K (.ref a0) (.type "ValueError") = some true) (ex1 : PySem.W.excIn K a1 veMro "ValueError.__new__" = true) (ga1 : PySem.W.findIn K (.ref a1) "__getattribute__" = some (some (.builtin "BaseException.__getattribute__"))) (nh1 : PySem.W.findIn K (.ref a1) "__getattr__" = some none) (cl1 : PySem.W.findIn K (.ref a1) "__class__" = some (some (.builtin "object.__class__"))) (mo1 : PySem.W.mroIn K a1 (.type "object") = some true) (mb1 : PySem.W.mroIn K a1 (.type "BaseException") = some true) (ci1 : PySem.W.clsIn K a1 = some c1) (ty1 : PySem.W.typeIn K (.ref a1) = some (.type "type")) (sb1 : PySem.W.subIn K (.ref a1) (.type "BaseException") = some true) (sv1 : PySem.W.subIn K (.ref a1) (.type "ValueError") = some true) (ex2 : PySem.W.excIn K a2 veMro "ValueError.__new__" = true) (ga2 : PySem.W.findIn K (.ref a2) "__getattribute__" = some (some (.builtin "BaseException.__getattribute__"))) (nh2 : PySem.W.findIn K (.ref a2) "__getattr__" = some none) (cl2 : PySem.W.findIn K (.ref a2) "__class__" = some (some (.builtin "object.__class__"))) (mo2 : PySem.W.mroIn K a2 (.type "object") = some true) (mb2 : PySem.W.mroIn K a2 (.type "BaseException") = some true) (ci2 : PySem.W.clsIn K a2 = some c2) (ty2 : PySem.W.typeIn K (.ref a2) = some (.type "type")) (sb2 : PySem.W.subIn K (.ref a2) (.type "BaseException") = some true) (sv2 : PySem.W.subIn K (.ref a2) (.type "ValueError") = some true) (ex3 : PySem.W.excIn K a3 veMro "ValueError.__new__" = true) (ga3 : PySem.W.findIn K (.ref a3) "__getattribute__" = some (some (.builtin "BaseException.__getattribute__"))) (nh3 : PySem.W.findIn K (.ref a3) "__getattr__" = some none) (cl3 : PySem.W.findIn K (.ref a3) "__class__" = some (some (.builtin "object.__class__"))) (mo3 : PySem.W.mroIn K a3 (.type "object") = some true) (mb3 : PySem.W.mroIn K a3 (.type "BaseException") = some true) (ci3 : PySem.W.clsIn K a3 = some c3) (ty3 : PySem.W.typeIn K (.ref a3) = some (.type "type")) (sb3 : PySem.W.subIn K (.ref a3) (.type "BaseException") = some true) (sv3 : PySem.W.subIn K (.ref a3) (.type "ValueError") = some true) (s00 : PySem.W.subIn K (.ref a0) (.ref a0) = some true) (s01 : PySem.W.subIn K (.ref a0) (.ref a1) = some false) (s02 : PySem.W.subIn K (.ref a0) (.ref a2) = some false) (s03 : PySem.W.subIn K (.ref a0) (.ref a3) = some false) (s10 : PySem.W.subIn K (.ref a1) (.ref a0) = some true) (s11 : PySem.W.subIn K (.ref a1) (.ref a1) = some true) (s12 : PySem.W.subIn K (.ref a1) (.ref a2) = some false) (s13 : PySem.W.subIn K (.ref a1) (.ref a3) = some false) (s20 : PySem.W.subIn K (.ref a2) (.ref a0) = some true) (s21 : PySem.W.subIn K (.ref a2) (.ref a1) = some false) (s22 : PySem.W.subIn K (.ref a2) (.ref a2) = some true) (s23 : PySem.W.subIn K (.ref a2) (.ref a3) = some false) (s30 : PySem.W.subIn K (.ref a3) (.ref a0) = some true) (s31 : PySem.W.subIn K (.ref a3) (.ref a1) = some false) (s32 : PySem.W.subIn K (.ref a3) (.ref a2) = some false) (s33 : PySem.W.subIn K (.ref a3) (.ref a3) = some true) (d01 : (Value.ref a0 == Value.ref a1) = false) (d02 : (Value.ref a0 == Value.ref a2) = false) (d03 : (Value.ref a0 == Value.ref a3) = false) (d10 : (Value.ref a1 == Value.ref a0) = false) (d12 : (Value.ref a1 == Value.ref a2) = false) (d13 : (Value.ref a1 == Value.ref a3) = false) (d20 : (Value.ref a2 == Value.ref a0) = false) (d21 : (Value.ref a2 == Value.ref a1) = false) (d23 : (Value.ref a2 == Value.ref a3) = false) (d30 : (Value.ref a3 == Value.ref a0) = false) (d31 : (Value.ref a3 == Value.ref a1) = false) (d32 : (Value.ref a3 == Value.ref a2) = false) :
    ∃ ad : Str → Addr, ∀ c ∈ xs, PySem.W.nsIn K mainGlobals c = some (some (.ref (ad c))) ∧ ClsOk K (ad c) ∧ PySem.W.kitOne K (.ref (ad c)) (.type "ValueError") = some true ∧ ∀ d ∈ xs, PySem.W.exmOne K (.ref (ad c)) (.ref (ad d)) = some (subX c d) ∧ PySem.W.kitOne K (.ref (ad c)) (.ref (ad d)) = some (subX c d) := by
  refine ⟨fun c => if c == ("ClockError" : Str) then a0 else if c == ("NoClock" : Str) then a1 else if c == ("NoText" : Str) then a2 else if c == ("NotApart" : Str) then a3 else 0, ?_⟩
  have two : ∀ (P : Str → Prop), P "ClockError" → P "NoClock" → P "NoText" → P "NotApart" → ∀ c ∈ xs, P c := fun P p0 p1 p2 p3 c hc => by
    simp only [xs, List.mem_cons, List.not_mem_nil, or_false] at hc
    rcases hc with rfl | rfl | rfl | rfl
    · exact p0
    · exact p1
    · exact p2
    · exact p3
  refine two _ ?_ ?_ ?_ ?_
  · refine ⟨n0, ⟨ex0, ga0, nh0, cl0, mo0, mb0, gs, tk⟩, kit_val sv0, two _ ?_ ?_ ?_ ?_⟩
    · exact ⟨exm_mk (kit_mk ci0 ty0 s00) sb0, kit_self⟩
    · exact ⟨exm_mk (kit_mk ci1 ty1 s01) sb1, kit_one (kit_mk ci1 ty1 s01) d01⟩
    · exact ⟨exm_mk (kit_mk ci2 ty2 s02) sb2, kit_one (kit_mk ci2 ty2 s02) d02⟩
    · exact ⟨exm_mk (kit_mk ci3 ty3 s03) sb3, kit_one (kit_mk ci3 ty3 s03) d03⟩
  · refine ⟨n1, ⟨ex1, ga1, nh1, cl1, mo1, mb1, gs, tk⟩, kit_val sv1, two _ ?_ ?_ ?_ ?_⟩
    · exact ⟨exm_mk (kit_mk ci0 ty0 s10) sb0, kit_one (kit_mk ci0 ty0 s10) d10⟩
    · exact ⟨exm_mk (kit_mk ci1 ty1 s11) sb1, kit_self⟩
    · exact ⟨exm_mk (kit_mk ci2 ty2 s12) sb2, kit_one (kit_mk ci2 ty2 s12) d12⟩
    · exact ⟨exm_mk (kit_mk ci3 ty3 s13) sb3, kit_one (kit_mk ci3 ty3 s13) d13⟩
  · refine ⟨n2, ⟨ex2, ga2, nh2, cl2, mo2, mb2, gs, tk⟩, kit_val sv2, two _ ?_ ?_ ?_ ?_⟩
    · exact ⟨exm_mk (kit_mk ci0 ty0 s20) sb0, kit_one (kit_mk ci0 ty0 s20) d20⟩
    · exact ⟨exm_mk (kit_mk ci1 ty1 s21) sb1, kit_one (kit_mk ci1 ty1 s21) d21⟩
    · exact ⟨exm_mk (kit_mk ci2 ty2 s22) sb2, kit_self⟩
    · exact ⟨exm_mk (kit_mk ci3 ty3 s23) sb3, kit_one (kit_mk ci3 ty3 s23) d23⟩
  · refine ⟨n3, ⟨ex3, ga3, nh3, cl3, mo3, mb3, gs, tk⟩, kit_val sv3, two _ ?_ ?_ ?_ ?_⟩
    · exact ⟨exm_mk (kit_mk ci0 ty0 s30) sb0, kit_one (kit_mk ci0 ty0 s30) d30⟩
    · exact ⟨exm_mk (kit_mk ci1 ty1 s31) sb1, kit_one (kit_mk ci1 ty1 s31) d31⟩
    · exact ⟨exm_mk (kit_mk ci2 ty2 s32) sb2, kit_one (kit_mk ci2 ty2 s32) d32⟩
    · exact ⟨exm_mk (kit_mk ci3 ty3 s33) sb3, kit_self⟩

end My
open PySem PySem.W PyProof.Rows
set_option maxRecDepth 100000 in
set_option maxHeartbeats 0 in
theorem PySem.Challenge.cw_treeclock_k03_whole_read_holds : PySem.Challenge.rw_treeclock_k03_whole_read.Holds := by
  w_on; o_law; k_head; (case hw => w_witness2)
  k_fill
  refine My.walk (l := PySem.Challenge.rw_treeclock_k03_whole_read) rfl rfl (fun w h Y => PySem.W.kIn_of Y) ?F
  case F =>
    intro w mg fa h KX G hmg
    have t_is_part : My.TxtOf (L2.KOf KX) "is_part" My.d_is_part.ps (My.top 6) := by
      dsimp only [L2.KOf]
      refine' My.mk My.bd_is_part ?a ?l ?c ?k
      (case a => k_is); (case l => k_is); (case c => k_is); (case k => k_is)
    have t_is_count : My.TxtOf (L2.KOf KX) "is_count" My.d_is_count.ps (My.top 7) := by
      dsimp only [L2.KOf]
      refine' My.mk My.bd_is_count ?a ?l ?c ?k
      (case a => k_is); (case l => k_is); (case c => k_is); (case k => k_is)
    have t_front : My.TxtOf (L2.KOf KX) "front" My.d_front.ps (My.top 8) := by
      dsimp only [L2.KOf]
      refine' My.mk My.bd_front ?a ?l ?c ?k
      (case a => k_is); (case l => k_is); (case c => k_is); (case k => k_is)
    have t_are_plain_halves : My.TxtOf (L2.KOf KX) "are_plain_halves" My.d_are_plain_halves.ps (My.top 9) := by
      dsimp only [L2.KOf]
      refine' My.mk My.bd_are_plain_halves ?a ?l ?c ?k
      (case a => k_is); (case l => k_is); (case c => k_is); (case k => k_is)
    have t_are_same_number : My.TxtOf (L2.KOf KX) "are_same_number" My.d_are_same_number.ps (My.top 10) := by
      dsimp only [L2.KOf]
      refine' My.mk My.bd_are_same_number ?a ?l ?c ?k
      (case a => k_is); (case l => k_is); (case c => k_is); (case k => k_is)
    have t_is_whole : My.TxtOf (L2.KOf KX) "is_whole" My.d_is_whole.ps (My.top 11) := by
      dsimp only [L2.KOf]
      refine' My.mk My.bd_is_whole ?a ?l ?c ?k
      (case a => k_is); (case l => k_is); (case c => k_is); (case k => k_is)
    have t_is_tuple_of : My.TxtOf (L2.KOf KX) "is_tuple_of" My.d_is_tuple_of.ps (My.top 12) := by
      dsimp only [L2.KOf]
      refine' My.mk My.bd_is_tuple_of ?a ?l ?c ?k
      (case a => k_is); (case l => k_is); (case c => k_is); (case k => k_is)
    have t_read : My.TxtOf (L2.KOf KX) "read" My.d_read.ps (My.top 15) := by
      dsimp only [L2.KOf]
      refine' My.mk My.bd_read ?a ?l ?c ?k
      (case a => k_is); (case l => k_is); (case c => k_is); (case k => k_is)
    have t_tree_of : My.TxtOf (L2.KOf KX) "tree_of" My.d_tree_of.ps (My.top 16) := by
      dsimp only [L2.KOf]
      refine' My.mk My.bd_tree_of ?a ?l ?c ?k
      (case a => k_is); (case l => k_is); (case c => k_is); (case k => k_is)
    have t_asked : My.TxtOf (L2.KOf KX) "asked" My.d_asked.ps (My.top 17) := by
      dsimp only [L2.KOf]
      refine' My.mk My.bd_asked ?a ?l ?c ?k
      (case a => k_is); (case l => k_is); (case c => k_is); (case k => k_is)
    have t_is_plain_pair : My.TxtOf (L2.KOf KX) "is_plain_pair" My.d_is_plain_pair.ps (My.top 18) := by
      dsimp only [L2.KOf]
      refine' My.mk My.bd_is_plain_pair ?a ?l ?c ?k
      (case a => k_is); (case l => k_is); (case c => k_is); (case k => k_is)
    have t_is_plain_triple : My.TxtOf (L2.KOf KX) "is_plain_triple" My.d_is_plain_triple.ps (My.top 19) := by
      dsimp only [L2.KOf]
      refine' My.mk My.bd_is_plain_triple ?a ?l ?c ?k
      (case a => k_is); (case l => k_is); (case c => k_is); (case k => k_is)
    have t_sign_at : My.TxtOf (L2.KOf KX) "sign_at" My.d_sign_at.ps (My.top 20) := by
      dsimp only [L2.KOf]
      refine' My.mk My.bd_sign_at ?a ?l ?c ?k
      (case a => k_is); (case l => k_is); (case c => k_is); (case k => k_is)
    have t_figures_end : My.TxtOf (L2.KOf KX) "figures_end" My.d_figures_end.ps (My.top 21) := by
      dsimp only [L2.KOf]
      refine' My.mk My.bd_figures_end ?a ?l ?c ?k
      (case a => k_is); (case l => k_is); (case c => k_is); (case k => k_is)
    have t_number_of : My.TxtOf (L2.KOf KX) "number_of" My.d_number_of.ps (My.top 22) := by
      dsimp only [L2.KOf]
      refine' My.mk My.bd_number_of ?a ?l ?c ?k
      (case a => k_is); (case l => k_is); (case c => k_is); (case k => k_is)
    have t__law_cell_at : My.TxtOf (L2.KOf KX) "_law_cell_at" My.d__law_cell_at.ps (My.top 24) := by
      dsimp only [L2.KOf]
      refine' My.mk My.bd__law_cell_at ?a ?l ?c ?k
      (case a => k_is); (case l => k_is); (case c => k_is); (case k => k_is)
    have t__law_mixed : My.TxtOf (L2.KOf KX) "_law_mixed" My.d__law_mixed.ps (My.top 25) := by
      dsimp only [L2.KOf]
      refine' My.mk My.bd__law_mixed ?a ?l ?c ?k
      (case a => k_is); (case l => k_is); (case c => k_is); (case k => k_is)
    have t__law_drawn : My.TxtOf (L2.KOf KX) "_law_drawn" My.d__law_drawn.ps (My.top 26) := by
      dsimp only [L2.KOf]
      refine' My.mk My.bd__law_drawn ?a ?l ?c ?k
      (case a => k_is); (case l => k_is); (case c => k_is); (case k => k_is)
    have t__law_any_part : My.TxtOf (L2.KOf KX) "_law_any_part" My.d__law_any_part.ps (My.top 27) := by
      dsimp only [L2.KOf]
      refine' My.mk My.bd__law_any_part ?a ?l ?c ?k
      (case a => k_is); (case l => k_is); (case c => k_is); (case k => k_is)
    have t__law_any_count : My.TxtOf (L2.KOf KX) "_law_any_count" My.d__law_any_count.ps (My.top 28) := by
      dsimp only [L2.KOf]
      refine' My.mk My.bd__law_any_count ?a ?l ?c ?k
      (case a => k_is); (case l => k_is); (case c => k_is); (case k => k_is)
    have t__law_plain_part : My.TxtOf (L2.KOf KX) "_law_plain_part" My.d__law_plain_part.ps (My.top 29) := by
      dsimp only [L2.KOf]
      refine' My.mk My.bd__law_plain_part ?a ?l ?c ?k
      (case a => k_is); (case l => k_is); (case c => k_is); (case k => k_is)
    have t__law_more : My.TxtOf (L2.KOf KX) "_law_more" My.d__law_more.ps (My.top 30) := by
      dsimp only [L2.KOf]
      refine' My.mk My.bd__law_more ?a ?l ?c ?k
      (case a => k_is); (case l => k_is); (case c => k_is); (case k => k_is)
    have t__law_front : My.TxtOf (L2.KOf KX) "_law_front" My.d__law_front.ps (My.top 31) := by
      dsimp only [L2.KOf]
      refine' My.mk My.bd__law_front ?a ?l ?c ?k
      (case a => k_is); (case l => k_is); (case c => k_is); (case k => k_is)
    have t__law_plain_count : My.TxtOf (L2.KOf KX) "_law_plain_count" My.d__law_plain_count.ps (My.top 32) := by
      dsimp only [L2.KOf]
      refine' My.mk My.bd__law_plain_count ?a ?l ?c ?k
      (case a => k_is); (case l => k_is); (case c => k_is); (case k => k_is)
    have t__law_whole : My.TxtOf (L2.KOf KX) "_law_whole" My.d__law_whole.ps (My.top 33) := by
      dsimp only [L2.KOf]
      refine' My.mk My.bd__law_whole ?a ?l ?c ?k
      (case a => k_is); (case l => k_is); (case c => k_is); (case k => k_is)
    have t__law_is_part : My.TxtOf (L2.KOf KX) "_law_is_part" My.d__law_is_part.ps (My.top 34) := by
      dsimp only [L2.KOf]
      refine' My.mk My.bd__law_is_part ?a ?l ?c ?k
      (case a => k_is); (case l => k_is); (case c => k_is); (case k => k_is)
    have t__law_is_count : My.TxtOf (L2.KOf KX) "_law_is_count" My.d__law_is_count.ps (My.top 35) := by
      dsimp only [L2.KOf]
      refine' My.mk My.bd__law_is_count ?a ?l ?c ?k
      (case a => k_is); (case l => k_is); (case c => k_is); (case k => k_is)
    have t__law_is_clock : My.TxtOf (L2.KOf KX) "_law_is_clock" My.d__law_is_clock.ps (My.top 36) := by
      dsimp only [L2.KOf]
      refine' My.mk My.bd__law_is_clock ?a ?l ?c ?k
      (case a => k_is); (case l => k_is); (case c => k_is); (case k => k_is)
    have t__law_clock : My.TxtOf (L2.KOf KX) "_law_clock" My.d__law_clock.ps (My.top 37) := by
      dsimp only [L2.KOf]
      refine' My.mk My.bd__law_clock ?a ?l ?c ?k
      (case a => k_is); (case l => k_is); (case c => k_is); (case k => k_is)
    have t__law_tree_text : My.TxtOf (L2.KOf KX) "_law_tree_text" My.d__law_tree_text.ps (My.top 38) := by
      dsimp only [L2.KOf]
      refine' My.mk My.bd__law_tree_text ?a ?l ?c ?k
      (case a => k_is); (case l => k_is); (case c => k_is); (case k => k_is)
    have t__law_written : My.TxtOf (L2.KOf KX) "_law_written" My.d__law_written.ps (My.top 39) := by
      dsimp only [L2.KOf]
      refine' My.mk My.bd__law_written ?a ?l ?c ?k
      (case a => k_is); (case l => k_is); (case c => k_is); (case k => k_is)
    have t__law_changed : My.TxtOf (L2.KOf KX) "_law_changed" My.d__law_changed.ps (My.top 40) := by
      dsimp only [L2.KOf]
      refine' My.mk My.bd__law_changed ?a ?l ?c ?k
      (case a => k_is); (case l => k_is); (case c => k_is); (case k => k_is)
    have t__law_number_at : My.TxtOf (L2.KOf KX) "_law_number_at" My.d__law_number_at.ps (My.top 41) := by
      dsimp only [L2.KOf]
      refine' My.mk My.bd__law_number_at ?a ?l ?c ?k
      (case a => k_is); (case l => k_is); (case c => k_is); (case k => k_is)
    have t__law_tree_at : My.TxtOf (L2.KOf KX) "_law_tree_at" My.d__law_tree_at.ps (My.top 42) := by
      dsimp only [L2.KOf]
      refine' My.mk My.bd__law_tree_at ?a ?l ?c ?k
      (case a => k_is); (case l => k_is); (case c => k_is); (case k => k_is)
    have t__law_due : My.TxtOf (L2.KOf KX) "_law_due" My.d__law_due.ps (My.top 43) := by
      dsimp only [L2.KOf]
      refine' My.mk My.bd__law_due ?a ?l ?c ?k
      (case a => k_is); (case l => k_is); (case c => k_is); (case k => k_is)
    have t__law_found : My.TxtOf (L2.KOf KX) "_law_found" My.d__law_found.ps (My.top 44) := by
      dsimp only [L2.KOf]
      refine' My.mk My.bd__law_found ?a ?l ?c ?k
      (case a => k_is); (case l => k_is); (case c => k_is); (case k => k_is)
    have t_law : My.TxtOf (L2.KOf KX) "law" My.d_law.ps (My.top 45) := by
      dsimp only [L2.KOf]
      refine' My.mk My.bd_law ?a ?l ?c ?k
      (case a => k_is); (case l => k_is); (case c => k_is); (case k => k_is)
    have fig0 : ∃ tk, PySem.W.nsIn (L2.KOf KX) mainGlobals "FIGURES" = some (some (.str ⟨#[48, 49, 50, 51, 52, 53, 54, 55, 56, 57]⟩ tk)) := by
      dsimp only [L2.KOf]
      exact ⟨_, by k_is⟩
    have fig : ∃ tk, PySem.W.nsIn (L2.KOf KX) mainGlobals "FIGURES" = some (some (.str "0123456789" tk)) := by
      obtain ⟨tk, h⟩ := fig0
      have q : (⟨#[48, 49, 50, 51, 52, 53, 54, 55, 56, 57]⟩ : Str) = ("0123456789" : Str) := rfl
      exact ⟨tk, by rw [h, q]⟩
    have hb : ∀ x ∈ PL.bltNames, PySem.W.nsIn (L2.KOf KX) mainGlobals x = some none := by
      dsimp only [L2.KOf]
      intro x hx
      simp only [PL.bltNames, List.mem_cons, List.not_mem_nil, or_false] at hx
      rcases hx with rfl | rfl | rfl | rfl | rfl | rfl | rfl | rfl | rfl | rfl | rfl | rfl | rfl | rfl | rfl | rfl | rfl | rfl <;> k_is
    have xno : ∀ c ∈ PL.xcNames, c ∉ My.xs → PySem.W.nsIn (L2.KOf KX) mainGlobals c = some none := by
      dsimp only [L2.KOf]
      intro x hx hn
      simp only [PL.xcNames, List.mem_cons, List.not_mem_nil, or_false] at hx
      rcases hx with rfl | rfl | rfl | rfl <;> first | k_is | exact absurd (by decide +kernel) hn
    have xyes : ∃ ad : Str → Addr, ∀ c ∈ My.xs, PySem.W.nsIn (L2.KOf KX) mainGlobals c = some (some (.ref (ad c))) ∧ PL.ClsOk (L2.KOf KX) (ad c) ∧ PySem.W.kitOne (L2.KOf KX) (.ref (ad c)) (.type "ValueError") = some true ∧ ∀ d ∈ My.xs, PySem.W.exmOne (L2.KOf KX) (.ref (ad c)) (.ref (ad d)) = some (PL.subX c d) ∧ PySem.W.kitOne (L2.KOf KX) (.ref (ad c)) (.ref (ad d)) = some (PL.subX c d) := by
      dsimp only [L2.KOf]
      refine' My.xyes_mk ?n0 ?n1 ?n2 ?n3 ?gs ?tk ?ex0 ?ga0 ?nh0 ?cl0 ?mo0 ?mb0 ?ci0 ?ty0 ?sb0 ?sv0 ?ex1 ?ga1 ?nh1 ?cl1 ?mo1 ?mb1 ?ci1 ?ty1 ?sb1 ?sv1 ?ex2 ?ga2 ?nh2 ?cl2 ?mo2 ?mb2 ?ci2 ?ty2 ?sb2 ?sv2 ?ex3 ?ga3 ?nh3 ?cl3 ?mo3 ?mb3 ?ci3 ?ty3 ?sb3 ?sv3 ?s00 ?s01 ?s02 ?s03 ?s10 ?s11 ?s12 ?s13 ?s20 ?s21 ?s22 ?s23 ?s30 ?s31 ?s32 ?s33 ?d01 ?d02 ?d03 ?d10 ?d12 ?d13 ?d20 ?d21 ?d23 ?d30 ?d31 ?d32
      (case n0 => k_is)
      (case n1 => k_is)
      (case n2 => k_is)
      (case n3 => k_is)
      (case gs => k_is)
      (case tk => k_is)
      (case ex0 => kernel_rfl)
      (case ga0 => k_is)
      (case nh0 => k_is)
      (case cl0 => k_is)
      (case mo0 => k_is)
      (case mb0 => k_is)
      (case ci0 => k_is)
      (case ty0 => k_is)
      (case sb0 => k_is)
      (case sv0 => k_is)
      (case ex1 => kernel_rfl)
      (case ga1 => k_is)
      (case nh1 => k_is)
      (case cl1 => k_is)
      (case mo1 => k_is)
      (case mb1 => k_is)
      (case ci1 => k_is)
      (case ty1 => k_is)
      (case sb1 => k_is)
      (case sv1 => k_is)
      (case ex2 => kernel_rfl)
      (case ga2 => k_is)
      (case nh2 => k_is)
      (case cl2 => k_is)
      (case mo2 => k_is)
      (case mb2 => k_is)
      (case ci2 => k_is)
      (case ty2 => k_is)
      (case sb2 => k_is)
      (case sv2 => k_is)
      (case ex3 => kernel_rfl)
      (case ga3 => k_is)
      (case nh3 => k_is)
      (case cl3 => k_is)
      (case mo3 => k_is)
      (case mb3 => k_is)
      (case ci3 => k_is)
      (case ty3 => k_is)
      (case sb3 => k_is)
      (case sv3 => k_is)
      (case s00 => k_is)
      (case s01 => k_is)
      (case s02 => k_is)
      (case s03 => k_is)
      (case s10 => k_is)
      (case s11 => k_is)
      (case s12 => k_is)
      (case s13 => k_is)
      (case s20 => k_is)
      (case s21 => k_is)
      (case s22 => k_is)
      (case s23 => k_is)
      (case s30 => k_is)
      (case s31 => k_is)
      (case s32 => k_is)
      (case s33 => k_is)
      (case d01 => decide)
      (case d02 => decide)
      (case d03 => decide)
      (case d10 => decide)
      (case d12 => decide)
      (case d13 => decide)
      (case d20 => decide)
      (case d21 => decide)
      (case d23 => decide)
      (case d30 => decide)
      (case d31 => decide)
      (case d32 => decide)
    exact My.law_ok KX G hmg ⟨t_is_part, t_is_count, t_front, t_are_plain_halves, t_are_same_number, t_is_whole, t_is_tuple_of, t_read, t_tree_of, t_asked, t_is_plain_pair, t_is_plain_triple, t_sign_at, t_figures_end, t_number_of, t__law_cell_at, t__law_mixed, t__law_drawn, t__law_any_part, t__law_any_count, t__law_plain_part, t__law_more, t__law_front, t__law_plain_count, t__law_whole, t__law_is_part, t__law_is_count, t__law_is_clock, t__law_clock, t__law_tree_text, t__law_written, t__law_changed, t__law_number_at, t__law_tree_at, t__law_due, t__law_found, t_law, fig, hb, xno, xyes⟩

