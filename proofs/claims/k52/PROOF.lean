import PyProof.Rows.All
import Wide.All
import OpenK.AllK
import Wide.FinOn
import Lean
import PyProof.EqAt
import PyProof.EqKinds
import PyProof.TupleCall
import PyProof.ZipIter
import PyProof.EnumMake
import PyProof.Rows.FactsT2
import PyProof.Rows.EnumRows
import PyProof.P3In
import PyProof.NeData
import PyProof.Rows.SumAny
import PyProof.Rows.MinMaxN
import PyProof.Rows.ListRangeD
import PyProof.Rows.Range3
import PyProof.Rows.RuleM_int
import PyProof.Rows.SortShell
import PySem.Challenge.RW_heapstill_k52_heap_of_a_tree
set_option Elab.async false
set_option linter.all false
set_option maxRecDepth 100000
/-! THE HAND LAYER, for ints, bools, texts, own classes, LISTS and tuples (index, slices, in, append, pop ..), calls, loops. Paste it whole ahead of your own text; what your proof does not reach may be deleted. -/
namespace L2
open PySem PySem.Spec PyProof.Rows
/-- a key: an int or a str -/
noncomputable abbrev Key := Sum Int Str
noncomputable def keyIs : Key → Value → Bool
  | .inl k, v => Value.isInt k v
  | .inr x, v => Value.isStrOf x v
noncomputable def keyH (w : World) : Key → Int
  | .inl k => hashInt k
  | .inr x => hashStr w x
theorem keyIs_shape : ∀ {k : Key} {v : Value}, keyIs k v = true → (∃ i t, k = Sum.inl i ∧ v = Value.int i t) ∨ (∃ x t, k = Sum.inr x ∧ v = Value.str x t)
  | .inl i, v, h => by
    obtain ⟨t, e⟩ := Value.isInt_shape (k := i) (v := v) h
    exact .inl ⟨i, t, rfl, e⟩
  | .inr x, v, h => by
    obtain ⟨t, e⟩ := Value.isStrOf_shape (x := x) (v := v) h
    exact .inr ⟨x, t, rfl, e⟩
theorem key_ll (a b : Int) : decide ((Sum.inl a : Key) = Sum.inl b) = (a == b) := by
  by_cases e : a = b
  · subst e; simp
  · have h : ¬ (Sum.inl a : Key) = Sum.inl b := fun q => e (Sum.inl.inj q)
    rw [decide_eq_false h]
    exact (beq_eq_false_iff_ne.mpr e).symm
theorem key_rr (a b : Str) : decide ((Sum.inr a : Key) = Sum.inr b) = decide (a = b) := by
  by_cases e : a = b
  · subst e; simp
  · have h : ¬ (Sum.inr a : Key) = Sum.inr b := fun q => e (Sum.inr.inj q)
    rw [decide_eq_false h, decide_eq_false e]
theorem key_lr (a : Int) (b : Str) : decide ((Sum.inl a : Key) = Sum.inr b) = false := decide_eq_false (fun q => nomatch q)
theorem key_rl (a : Str) (b : Int) : decide ((Sum.inr a : Key) = Sum.inl b) = false := decide_eq_false (fun q => nomatch q)
noncomputable def mixKind (prog : Program) (w : World) : PySem.KeyKind prog w Key where
  is := keyIs
  hash := keyH w
  inj := fun v a b ha hb => by
    rcases keyIs_shape ha with ⟨i, t, rfl, rfl⟩ | ⟨x, t, rfl, rfl⟩
    · rcases keyIs_shape hb with ⟨j, u, rfl, e⟩ | ⟨y, u, rfl, e⟩
      · injection e with e1 _; rw [e1]
      · exact nomatch e
    · rcases keyIs_shape hb with ⟨j, u, rfl, e⟩ | ⟨y, u, rfl, e⟩
      · exact nomatch e
      · injection e with e1 _; rw [e1]
  byValue := fun k v h => by
    rcases keyIs_shape h with ⟨i, t, rfl, rfl⟩ | ⟨x, t, rfl, rfl⟩ <;> rfl
  pyHash := fun hv h => by
    rcases keyIs_shape hv with ⟨i, t, rfl, rfl⟩ | ⟨x, t, rfl, rfl⟩
    · exact wpAny_pyHash_int h
    · exact wpAny_pyHash_str h
  eqBool := fun hu hv h => by
    rcases keyIs_shape hu with ⟨i, t, rfl, rfl⟩ | ⟨x, t, rfl, rfl⟩
    · rcases keyIs_shape hv with ⟨j, u, rfl, rfl⟩ | ⟨y, u, rfl, rfl⟩
      · rw [key_ll] at h; exact wpAny_eqBool_int h
      · rw [key_lr] at h; exact SeqAt.EqAt.int_str i t y u _ _ _ _ h
    · rcases keyIs_shape hv with ⟨j, u, rfl, rfl⟩ | ⟨y, u, rfl, rfl⟩
      · rw [key_rl] at h; exact SeqAt.EqAt.str_int x t j u _ _ _ _ h
      · rw [key_rr] at h; exact wpAny_eqBool_str h
  «strs» := fun k x t v h => by
    rcases keyIs_shape h with ⟨i, u, rfl, e⟩ | ⟨y, u, rfl, e⟩
    · exact nomatch e
    · injection e with e1 _
      subst e1
      cases v <;> rfl
end L2
namespace L2
open PySem PySem.Spec PyProof.Rows
/-- a value, without the heap -/
inductive V where
  | non | bl (b : Bool) | int (i : Int) | str (x : Str) | byt (b : Array UInt8) | flt (b : UInt64) | ref (a : Addr) | ty (n : String)
  deriving DecidableEq
noncomputable def RelV : V → Value → Prop
  | .non, u => u = Value.none
  | .bl b, u => u = Value.bool b
  | .int i, u => ∃ t, u = Value.int i t
  | .str x, u => ∃ t, u = Value.str x t
  | .byt b, u => ∃ t, u = Value.bytes b t
  | .flt b, u => ∃ t, u = Value.float b t
  | .ref a, u => u = Value.ref a
  | .ty n, u => u = Value.type n
noncomputable abbrev Vals : List V → List Value → Prop := Paired RelV
theorem Vals.length {xs : List V} {us : List Value} (r : Vals xs us) : xs.length = us.length := Paired.length r
theorem Vals.get : ∀ {xs : List V} {us : List Value} {i : Nat} {x : V}, Vals xs us → xs[i]? = some x → ∃ u, us[i]? = some u ∧ RelV x u
  | _, _, _, _, .nil, e => by simp at e
  | _, _, 0, _, .cons r _, e => by simp at e; subst e; exact ⟨_, rfl, r⟩
  | _, _, i + 1, x, .cons _ t, e => by
    obtain ⟨u, h1, h2⟩ := Vals.get (i := i) (x := x) t (by simpa using e)
    exact ⟨u, by simpa using h1, h2⟩
theorem Vals.set {x : V} {u : Value} (r : RelV x u) : ∀ {xs : List V} {us : List Value} (i : Nat), Vals xs us → Vals (xs.set i x) (us.set i u)
  | _, _, _, .nil => .nil
  | _, _, 0, .cons _ t => .cons r t
  | _, _, i + 1, .cons q t => .cons q (Vals.set r i t)
theorem Vals.append : ∀ {xs ys : List V} {us ws : List Value}, Vals xs us → Vals ys ws → Vals (xs ++ ys) (us ++ ws)
  | _, _, _, _, .nil, s => s
  | _, _, _, _, .cons r t, s => .cons r (Vals.append t s)
theorem Vals.take : ∀ {xs : List V} {us : List Value} (n : Nat), Vals xs us → Vals (xs.take n) (us.take n)
  | _, _, 0, _ => .nil
  | _, _, _ + 1, .nil => .nil
  | _, _, n + 1, .cons r t => .cons r (Vals.take n t)
theorem Vals.drop : ∀ {xs : List V} {us : List Value} (n : Nat), Vals xs us → Vals (xs.drop n) (us.drop n)
  | _, _, 0, r => r
  | _, _, _ + 1, .nil => .nil
  | _, _, n + 1, .cons _ t => Vals.drop n t
theorem Vals.none_of : ∀ {xs : List V} {us : List Value} {i : Nat}, Vals xs us → xs[i]? = none → us[i]? = none := fun {xs us i} r e => by
  have h1 := r.length
  have h2 : xs.length ≤ i := List.getElem?_eq_none_iff.mp e
  exact List.getElem?_eq_none_iff.mpr (by omega)
noncomputable def RelO : Option V → Option Value → Prop
  | some v, some u => RelV v u
  | none, none => True
  | _, _ => False
noncomputable def KV {κ : Type} : List (κ × V) → List (κ × Value) → Prop := Paired fun (p : κ × V) (q : κ × Value) => p.1 = q.1 ∧ RelV p.2 q.2
/-- a key of a dict (00_mix): an int or a text -/
noncomputable def kV : Key → V
  | .inl i => .int i
  | .inr x => .str x
/-- what stands at a tracked address -/
inductive HO where
  /-- a list -/
  | lst (xs : List V)
  /-- a tuple (never changes) -/
  | tup (xs : List V)
  /-- a dict whose keys are ints and texts; one whose keys are tuples of ints and texts (the empty one is both) -/
  | dK (kvs : List (Key × V)) | dT (kvs : List (List Key × V))
  /-- a set of ints: its members, its size -/
  | set (S : Int → Bool) (n : Nat)
  /-- an instance of the class at C, its dict at dx, its attributes -/
  | ins (C dx : Addr) (fs : List (Str × V))
  /-- the dict of the instance at x -/
  | own (x : Addr)
  /-- the dict of an exception -/
  | xd (fs : List (Str × V))
  /-- a bound method, f of x -/
  | met (f x : Addr)
  /-- a range object lo, lo + 1, .. below hi -/
  | rng (lo hi : Int)
  /-- a thing that is known to the object (the script; a dict while a loop walks it): read, never written while it is so -/
  | frz (o : Obj) (u : HO)
  /-- a code object's table -/
  | tbl (ps : Array Value)
  /-- any other thing, by what is true of its one object (a def of one's own: SetO a S n := HO.ext fun h => ..) -/
  | ext (φ : Heap → Prop)
noncomputable abbrev Hp := Addr → Option HO
noncomputable def upd (H : Hp) (a : Addr) (o : HO) : Hp := fun b => if b = a then some o else H b
theorem upd_same {H : Hp} {a : Addr} {o : HO} : upd H a o a = some o := by unfold upd; rw [if_pos rfl]
theorem upd_ne {H : Hp} {a b : Addr} {o : HO} (h : b ≠ a) : upd H a o b = H b := by unfold upd; rw [if_neg h]
/-- two objects of different content stand apart -/
theorem ne_of {H : Hp} {a b : Addr} {o u : HO} (h : H a = some o) (h' : H b = some u) (d : o ≠ u) : a ≠ b := by
  intro e; subst e; rw [h] at h'; exact d (Option.some.inj h')
theorem ne_of_none {H : Hp} {a b : Addr} {o : HO} (h : H a = some o) (h' : H b = none) : a ≠ b := by
  intro e; subst e; rw [h] at h'; cases h'
section
variable (P : Program) (w : World)
noncomputable def ObjOk (H : Hp) (h : Heap) (a : Addr) : HO → Prop
  | .lst xs => xs.length ≤ sizeLine ∧ ∃ (its : List Value) (n : Nat), Vals xs its ∧ h.get? a = some { cls := .type "list", data := .seq its.toArray n }
  | .tup xs => xs.length ≤ sizeLine ∧ ∃ its : List Value, Vals xs its ∧ IsTup h a its.toArray
  | .dK kvs => kvs.length ≤ sizeLine ∧ (a == sysModules) = false ∧ ∃ vs, KV kvs vs ∧ h.DictOf (mixKind P w) a vs
  | .dT kvs => kvs.length ≤ sizeLine ∧ (a == sysModules) = false ∧ ∃ xs : List (List Key × Addr × Value),
      Paired (fun (p : List Key × V) (q : List Key × Addr × Value) => p.1 = q.1 ∧ H q.2.1 = some (.tup (p.1.map kV)) ∧ RelV p.2 q.2.2) kvs xs ∧
      ∃ o es ep, h.get? a = some o ∧ o.ExactDict ∧ o.data = .dict es ep ∧ es.toList = xs.map (entryOfKey (tupleKind (mixKind P w))) ∧ (xs.map (·.1)).Nodup
  | .set S n => h.SetOf (intKind P w) a S n
  | .ins C dx fs => H dx = some (.own a) ∧ fs.length ≤ 1000 ∧ dx ≠ a ∧ h.get? a = some (PySem.W.instObj C dx) ∧
      ∃ mA, h.Ns1 dx mA ∧ (∀ f, RelO (fs.lookup f) (mA f)) ∧ PySem.Within mA (fs.map (·.1))
  | .own _ => ∃ o, h.get? a = some o
  | .xd fs => ∃ mA, h.Ns1 a mA ∧ ∀ f, RelO (fs.lookup f) (mA f)
  | .rng lo hi => ∃ t u v, h.get? a = some { cls := .type "range", data := .fields #[.int lo t, .int hi u, .int 1 v] }
  | .frz o u => h.get? a = some o ∧ ObjOk H h a u
  | .tbl ps => h.get? a = some { cls := .none, data := .fields ps }
  | .met f x => h.get? a = some (PySem.W.methodObj (.ref f) (.ref x))
  | .ext φ => φ h ∧ (∃ o, h.get? a = some o) ∧ ∀ h1 h2 : Heap, φ h1 → (∀ o, h1.get? a = some o → h2.get? a = some o) → φ h2
/-- the abstract heap is held -/
noncomputable def HOk (H : Hp) (h : Heap) : Prop := ∀ a o, H a = some o → ObjOk P w H h a o
end
section
variable {P : Program} {w : World} {H H' : Hp} {h h' : Heap} {a : Addr} {o : HO}
theorem ObjOk.lt (x : ObjOk P w H h a o) : a < h.objs.size := by
  cases o with
  | lst xs => obtain ⟨_, _, _, _, e⟩ := x; exact Heap.lt_size e
  | tup xs => obtain ⟨_, _, _, p⟩ := x; exact p.lt
  | dK kvs => obtain ⟨_, _, _, _, o, _, _, e, _⟩ := x; exact Heap.lt_size e
  | dT kvs => obtain ⟨_, _, _, _, o, _, _, e, _⟩ := x; exact Heap.lt_size e
  | set S n => obtain ⟨o, _, _, _, e, _⟩ := x; exact Heap.lt_size e
  | ins C dx fs => obtain ⟨_, _, _, e, _⟩ := x; exact Heap.lt_size e
  | own y => obtain ⟨_, e⟩ := x; exact Heap.lt_size e
  | xd fs => obtain ⟨_, ⟨_, _, _, e, _⟩, _⟩ := x; exact Heap.lt_size e
  | rng lo hi => obtain ⟨_, _, _, e⟩ := x; exact Heap.lt_size e
  | frz ob u => obtain ⟨e, _⟩ := x; exact Heap.lt_size e
  | tbl ps => exact Heap.lt_size (show h.get? a = some _ from x)
  | met f y => exact Heap.lt_size (show h.get? a = some _ from x)
  | ext φ => obtain ⟨_, ⟨_, e⟩, _⟩ := x; exact Heap.lt_size e
theorem Paired.mapP {α β : Type} {F G : α → β → Prop} : ∀ {l₁ : List α} {l₂ : List β}, Paired F l₁ l₂ → (∀ a b, F a b → G a b) → Paired G l₁ l₂
  | _, _, .nil, _ => .nil
  | _, _, .cons r t, f => .cons (f _ _ r) (Paired.mapP t f)
/-- what an object's description leans on: its own object, its own dict, the tuples -/
theorem ObjOk.stay (x : ObjOk P w H h a o) (k : ∀ b u, (b = a ∨ H b = some (.own a)) → h.get? b = some u → h'.get? b = some u)
    (ho : ∀ b, H b = some (.own a) → H' b = some (.own a)) (ht : ∀ b xs, H b = some (.tup xs) → H' b = some (.tup xs)) : ObjOk P w H' h' a o := by
  induction o with
  | lst xs => obtain ⟨z, its, n, r, e⟩ := x; exact ⟨z, its, n, r, k _ _ (.inl rfl) e⟩
  | tup xs => obtain ⟨z, its, r, ob, e, c⟩ := x; exact ⟨z, its, r, ob, k _ _ (.inl rfl) e, c⟩
  | dK kvs => obtain ⟨z, y, vs, r, ob, es, ep, e, c⟩ := x; exact ⟨z, y, vs, r, ob, es, ep, k _ _ (.inl rfl) e, c⟩
  | dT kvs =>
    obtain ⟨z, y, xs, r, ob, es, ep, e, c⟩ := x
    exact ⟨z, y, xs, Paired.mapP r fun p q z => ⟨z.1, ht _ _ z.2.1, z.2.2⟩, ob, es, ep, k _ _ (.inl rfl) e, c⟩
  | set S n => obtain ⟨ob, es, ep, t, e, c⟩ := x; exact ⟨ob, es, ep, t, k _ _ (.inl rfl) e, c⟩
  | ins C dx fs =>
    obtain ⟨d, z, ne, e, mA, ⟨od, es, ep, e2, c⟩, r⟩ := x
    exact ⟨ho _ d, z, ne, k _ _ (.inl rfl) e, mA, ⟨od, es, ep, k _ _ (.inr d) e2, c⟩, r⟩
  | own y => obtain ⟨ob, e⟩ := x; exact ⟨ob, k _ _ (.inl rfl) e⟩
  | xd fs => obtain ⟨mA, ⟨od, es, ep, e, c⟩, r⟩ := x; exact ⟨mA, ⟨od, es, ep, k _ _ (.inl rfl) e, c⟩, r⟩
  | rng lo hi => obtain ⟨t, u, v, e⟩ := x; exact ⟨t, u, v, k _ _ (.inl rfl) e⟩
  | frz ob u ih => obtain ⟨e, q⟩ := x; exact ⟨k _ _ (.inl rfl) e, ih q⟩
  | tbl ps =>
    have e : h.get? a = some { cls := .none, data := .fields ps } := x
    show h'.get? a = some { cls := .none, data := .fields ps }
    exact k a _ (.inl rfl) e
  | met f y =>
    have e : h.get? a = some (PySem.W.methodObj (.ref f) (.ref y)) := x
    show h'.get? a = some (PySem.W.methodObj (.ref f) (.ref y))
    exact k a _ (.inl rfl) e
  | ext φ => obtain ⟨p, ⟨o, e⟩, st⟩ := x; exact ⟨st _ _ p fun o q => k _ _ (.inl rfl) q, ⟨o, k _ _ (.inl rfl) e⟩, st⟩
theorem HOk.lt (x : HOk P w H h) (e : H a = some o) : a < h.objs.size := (x a o e).lt
theorem HOk.fresh (x : HOk P w H h) (e : h.objs.size ≤ a) : H a = none := by
  cases q : H a with
  | none => rfl
  | some u => exact absurd (Nat.lt_of_lt_of_le (x.lt q) e) (Nat.lt_irrefl _)
/-- every object of the heap is kept -/
theorem HOk.kept (x : HOk P w H h) (k : ∀ b u, h.get? b = some u → h'.get? b = some u) : HOk P w H h' := fun a o e =>
  (x a o e).stay (fun b u _ q => k b u q) (fun _ q => q) fun _ _ q => q
/-- a new object is laid and tracked -/
theorem HOk.laid (x : HOk P w H h) (k : ∀ b u, h.get? b = some u → h'.get? b = some u) (hp : h.objs.size ≤ a) (new : ObjOk P w (upd H a o) h' a o) : HOk P w (upd H a o) h' := fun b u e => by
  have hn := x.fresh hp
  by_cases hb : b = a
  · subst hb; rw [upd_same] at e; cases e; exact new
  · rw [upd_ne hb] at e
    exact (x b u e).stay (fun c v _ q => k c v q) (fun c q => by rw [upd_ne (ne_of_none q hn)]; exact q) fun c xs q => by rw [upd_ne (ne_of_none q hn)]; exact q
end
/-- what may be read as u: it is u, or a known u -/
noncomputable def Rd (H : Hp) (a : Addr) (u : HO) : Prop := H a = some u ∨ ∃ o, H a = some (.frz o u)
theorem Rd.of {H : Hp} {a : Addr} {u : HO} (h : H a = some u) : Rd H a u := .inl h
theorem Rd.ok {P : Program} {w : World} {H : Hp} {h : Heap} {a : Addr} {u : HO} (r : Rd H a u) (x : HOk P w H h) : ObjOk P w H h a u := by
  rcases r with r | ⟨o, r⟩
  · exact x a u r
  · obtain ⟨_, q⟩ := x a _ r
    exact q
/-- what may be written -/
noncomputable def Mut : Option HO → Prop
  | some (.lst _) => True
  | some (.dK _) => True
  | some (.dT _) => True
  | some (.set _ _) => True
  | some (.ins _ _ _) => True
  | some (.ext _) => True
  | _ => False
section
variable {P : Program} {w : World} {H : Hp} {h h' : Heap} {x e : Addr} {o' : HO}
/-- the object at e is changed: x itself, or the dict of the instance x -/
theorem HOk.write (ok : HOk P w H h) (mu : Mut (H x)) (he : e = x ∨ H e = some (.own x)) (k : ∀ b u, b ≠ e → h.get? b = some u → h'.get? b = some u) (heo : ∃ u, h'.get? e = some u)
    (new : ObjOk P w (upd H x o') h' x o') : HOk P w (upd H x o') h' := fun b u q => by
  have nown : ∀ c y, H c = some (.own y) → c ≠ x := fun c y r z => by subst z; rw [r] at mu; exact mu
  have ntup : ∀ c xs, H c = some (.tup xs) → c ≠ x := fun c xs r z => by subst z; rw [r] at mu; exact mu
  by_cases hb : b = x
  · subst hb; rw [upd_same] at q; cases q; exact new
  · rw [upd_ne hb] at q
    by_cases hbe : b = e
    · have q' : H b = some (.own x) := by
        rcases he with z | z
        · exact absurd (hbe.trans z) hb
        · rw [hbe]; exact z
      rw [q] at q'; cases q'
      obtain ⟨v, hv⟩ := heo
      exact ⟨v, by rw [hbe]; exact hv⟩
    · refine (ok b u q).stay (fun c v hc r => k c v ?_ r) (fun c r => by rw [upd_ne (nown c b r)]; exact r) fun c xs r => by rw [upd_ne (ntup c xs r)]; exact r
      rcases hc with rfl | hc
      · exact hbe
      · rintro rfl
        rcases he with z | z
        · exact nown c b hc z
        · rw [hc] at z; cases z; exact hb rfl
end
/-! ### kept unless tracked; of the frames at fs (the callers') the slots may change (an exception that passes writes there); of the records at ex (iterators) nothing is said -/
structure Un (fs ex : List Addr) (H H' : Hp) (h h' : Heap) : Prop where
  keep : ∀ b o, h.get? b = some o → H b = none → b ∉ fs → b ∉ ex → h'.get? b = some o
  slot : ∀ b o, h.get? b = some o → H b = none → b ∈ fs → b ∉ ex → ∃ sl, h'.get? b = some { o with slots := sl }
  free : ∀ b o, h.get? b = some o → H b = none → b ∉ ex → H' b = none
  there : ∀ b o, h.get? b = some o → b ∉ ex → ∃ o', h'.get? b = some o'
  tups : ∀ b xs, H b = some (.tup xs) → H' b = some (.tup xs)
  frzs : ∀ b o u, H b = some (.frz o u) → H' b = some (.frz o u)
  tbls : ∀ b ps, H b = some (.tbl ps) → ∃ more, H' b = some (.tbl (ps ++ more))
section
variable {fs fs' ex ex' : List Addr} {H H1 H2 : Hp} {h h1 h2 h' : Heap} {a x e : Addr} {o : HO}
theorem Un.any (u : Un fs ex H H1 h h1) {b : Addr} {ob : Obj} (q : h.get? b = some ob) (n : H b = none) (hx : b ∉ ex) : ∃ sl, h1.get? b = some { ob with slots := sl } := by
  by_cases hb : b ∈ fs
  · exact u.slot b ob q n hb hx
  · exact ⟨ob.slots, u.keep b ob q n hb hx⟩
theorem Un.trans (a : Un fs ex H H1 h h1) (b : Un fs ex H1 H2 h1 h2) : Un fs ex H H2 h h2 where
  keep := fun c ob q n hc hx => b.keep c ob (a.keep c ob q n hc hx) (a.free c ob q n hx) hc hx
  slot := fun c ob q n hc hx => by
    obtain ⟨sl, e1⟩ := a.slot c ob q n hc hx
    obtain ⟨sl', e2⟩ := b.slot c _ e1 (a.free c ob q n hx) hc hx
    exact ⟨sl', e2⟩
  free := fun c ob q n hx => by
    obtain ⟨o', e1⟩ := a.there c ob q hx
    exact b.free c o' e1 (a.free c ob q n hx) hx
  there := fun c ob q hx => by
    obtain ⟨o', e1⟩ := a.there c ob q hx
    exact b.there c o' e1 hx
  tups := fun c xs q => b.tups c xs (a.tups c xs q)
  frzs := fun c ob xs q => b.frzs c ob xs (a.frzs c ob xs q)
  tbls := fun c ps q => by
    obtain ⟨m1, e1⟩ := a.tbls c ps q
    obtain ⟨m2, e2⟩ := b.tbls c _ e1
    exact ⟨m1 ++ m2, by rw [e2, Array.append_assoc]⟩
theorem Un.kept (k : ∀ b u, h.get? b = some u → h'.get? b = some u) : Un fs ex H H h h' :=
  ⟨fun b ob q _ _ _ => k b ob q, fun b ob q _ _ _ => ⟨ob.slots, k b ob q⟩, fun _ _ _ n _ => n, fun b ob q _ => ⟨ob, k b ob q⟩, fun _ _ q => q, fun _ _ _ q => q, fun _ ps q => ⟨#[], by rw [q]; simp⟩⟩
theorem Un.refl : Un fs ex H H h h := Un.kept fun _ _ q => q
theorem Un.laid (k : ∀ b u, h.get? b = some u → h'.get? b = some u) (hp : h.objs.size ≤ a) (hn : H a = none) : Un fs ex H (upd H a o) h h' where
  keep := fun b u q _ _ _ => k b u q
  slot := fun b u q _ _ _ => ⟨u.slots, k b u q⟩
  free := fun b u q n _ => by rw [upd_ne (Nat.ne_of_lt (Nat.lt_of_lt_of_le (Heap.lt_size q) hp))]; exact n
  there := fun b u q _ => ⟨u, k b u q⟩
  tups := fun b xs q => by rw [upd_ne (ne_of_none q hn)]; exact q
  frzs := fun b u xs q => by rw [upd_ne (ne_of_none q hn)]; exact q
  tbls := fun b ps q => ⟨#[], by rw [upd_ne (ne_of_none q hn), q]; simp⟩
theorem Un.write (mu : Mut (H x)) (he : e = x ∨ H e = some (.own x)) (k : ∀ b u, b ≠ e → h.get? b = some u → h'.get? b = some u) (heo : ∃ u, h'.get? e = some u) : Un fs ex H (upd H x o) h h' := by
  have hx : ∀ b, H b = none → b ≠ x := fun b n z => by subst z; rw [n] at mu; exact mu
  have hb : ∀ b, H b = none → b ≠ e := fun b n z => by
    subst z
    rcases he with r | r
    · exact hx b n r
    · rw [n] at r; cases r
  have hm : ∀ b u, H b = some u → ¬ Mut (some u) → b ≠ x := fun b u q nm z => by subst z; rw [q] at mu; exact nm mu
  refine ⟨fun b u q n _ _ => k b u (hb b n) q, fun b u q n _ _ => ⟨u.slots, k b u (hb b n) q⟩, fun b u q n _ => by rw [upd_ne (hx b n)]; exact n, fun b u q _ => ?_,
    fun b xs q => by rw [upd_ne (hm b _ q fun z => z)]; exact q, fun b u xs q => by rw [upd_ne (hm b _ q fun z => z)]; exact q, fun b ps q => ⟨#[], by rw [upd_ne (hm b _ q fun z => z), q]; simp⟩⟩
  by_cases hbe : b = e
  · subst hbe; exact heo
  · exact ⟨u, k b u hbe q⟩
theorem Un.mono (u : Un fs ex H H1 h h1) (hs : ∀ b ∈ fs, b ∈ fs') (hx : ∀ b ∈ ex, b ∈ ex') : Un fs' ex' H H1 h h1 :=
  ⟨fun b ob q n hb he => u.keep b ob q n (fun z => hb (hs b z)) fun z => he (hx b z), fun _ _ q n _ he => u.any q n fun z => he (hx _ z), fun b ob q n he => u.free b ob q n fun z => he (hx b z), fun b ob q he => u.there b ob q fun z => he (hx b z), u.tups, u.frzs, u.tbls⟩
end
/-! ### the heap without what is tracked -/
noncomputable def trk (h : Heap) (H : Hp) : List Addr := (List.range h.objs.size).filter fun a => (H a).isSome
noncomputable def hidT (h : Heap) (H : Hp) : Heap := PySem.W.hideAll h (trk h H)
theorem hidT_size (h : Heap) (H : Hp) : (hidT h H).objs.size = h.objs.size := PySem.W.hideAll_size _ _
theorem hidT_get {h : Heap} {H : Hp} {b : Addr} {o : Obj} (e : h.get? b = some o) (n : H b = none) : (hidT h H).get? b = some o :=
  PySem.W.hideAll_get _ e fun hm => by
    have q : (H b).isSome = true := (List.mem_filter.mp hm).2
    rw [n] at q; simp at q
theorem of_hidT {h : Heap} {H : Hp} {b : Addr} {o : Obj} (e : (hidT h H).get? b = some o) : h.get? b = some o ∧ H b = none := by
  have e' : h.get? b = some o := PySem.W.of_hideAll (trk h H) e
  refine ⟨e', ?_⟩
  cases q : H b with
  | none => rfl
  | some x =>
    have hm : b ∈ trk h H := List.mem_filter.mpr ⟨List.mem_range.mpr (Heap.lt_size e'), by simp [q]⟩
    have z : (hidT h H).get? b = none := PySem.W.hideAll_none (trk h H) hm
    rw [z] at e; cases e
/-! ### OpenK's ledger, filled with every new object but one -/
noncomputable def allNews (g h : Heap) (L : Addr) : List (Addr × Obj) := (List.range h.objs.size).filterMap fun a => if a = L ∨ (g.get? a).isSome = true then none else (h.get? a).map fun o => (a, o)
noncomputable def rest (g h : Heap) (L d : Addr) : List (Addr × Obj) := (allNews g h L).filter fun p => decide (p.1 ≠ d)
end L2
namespace L2
open PySem PySem.Spec PyProof.Rows
/-- the module's facts, over the base: the heap at the law's entry without what is tracked there -/
structure Mod (K : PySem.W.Frag) (mg : Str → Option Value) (base : Heap) : Prop where
  kin : K.In base
  glob : base.Ns mainGlobals mg
  blt : ∃ mb, base.Ns builtinsNs mb ∧ ∀ x : Str, x ≠ "__name__" → mb x = bootBuiltins x
  nolimit : base.NoLimit
/-- the context: a def's body (or a comprehension's block) running. base: fixed through the whole law; s₀, H₀: the entry; outer: the frames whose slots others may change (a def's callers); stack: all frames that run;
   ex: iterators that were made ahead of the entry and are walked here (a comprehension's); fn: the names whose cells were made at the entry (a def: all; a comprehension's block: its own); calm: not within an except suite; pn: pins that every state bears; xe: what is wanted of an exception that leaves the code -/
structure Cx where
  prog : Program
  w : World
  K : PySem.W.Frag
  mg : Str → Option Value
  base : Heap
  A : Around
  N : List Str
  s₀ : Shared
  H₀ : Hp
  env : Env
  outer : List Env
  stack : List Env
  ex : List Addr
  fn : Str → Bool
  calm : Bool
  pn : List (Addr × Obj)
  xe : Value → Shared → Prop
/-- the callers' frames -/
noncomputable def frs (l : List Env) : List Addr := l.filterMap (·.frame)
noncomputable abbrev Cx.fs (X : Cx) : List Addr := frs X.outer
noncomputable def Vis (sc : Scope) (x : Str) : Prop := sc.names.lookup x = some .local ∨ sc.names.lookup x = some .cell ∨ sc.names.lookup x = some .free
noncomputable def Loc (sc : Scope) (x : Str) : Prop := sc.names.lookup x = some .local ∨ sc.names.lookup x = some .cell
noncomputable def Look (env : Env) (h : Heap) (m : Str → Option Value) (x : Str) (u : Value) : Prop :=
  (env.kindOf x = some .local ∧ m x = some u) ∨ ((env.kindOf x = some .cell ∨ env.kindOf x = some .free) ∧ ∃ c, env.cells.lookup x = some c ∧ h.IsCell c (some u))
structure Cx.Ok (X : Cx) : Prop where
  mod : Mod X.K X.mg X.base
  kind : X.env.scope.kind = .function
  glob : X.env.globals = mainGlobals
  blt : X.env.builtins = builtinsNs
  above : X.s₀.heap.objs.size ≤ X.env.locals
  inj : ∀ x y c, X.env.cells.lookup x = some c → X.env.cells.lookup y = some c → x = y
  has : ∀ x, (X.env.kindOf x = some .cell ∨ X.env.kindOf x = some .free) → ∃ c, X.env.cells.lookup x = some c
  cab : ∀ x c, X.fn x = true → X.env.cells.lookup x = some c → X.s₀.heap.objs.size ≤ c
  hd : X.calm = true → X.A.handled = none
  frames : X.A.frames = some X.stack
  stk : X.stack = X.outer ∨ (X.stack = X.env :: X.outer ∧ X.env.frame = some X.env.locals)
  exf : ∀ b ∈ X.ex, b ≠ X.env.locals ∧ ∀ x c, X.env.cells.lookup x = some c → c ≠ b
  bs : ∀ b o, X.base.get? b = some o → X.s₀.heap.get? b = some o ∧ X.H₀ b = none
  bsz : X.base.objs.size ≤ X.s₀.heap.objs.size
  noex : ∀ b o, X.base.get? b = some o → b ∉ X.ex
  exfs : ∀ b ∈ X.ex, b ∉ X.fs
  funs : X.s₀.heap.FunFrames X.base X.outer
  frf : ∀ b ∈ X.fs, X.H₀ b = none
structure Inv (X : Cx) (pins : List (Addr × Obj)) (σ : List (Option V)) (H : Hp) (s : Shared) : Prop where
  ok : X.Ok
  os : s.os = X.s₀.os
  bare : AllBare s.gens
  base : Un X.fs X.ex X.H₀ H X.s₀.heap s.heap
  loc : ∃ m, s.heap.Ns X.env.locals m ∧ ∀ (i : Nat) (x : Str) (v : V), X.N[i]? = some x → σ[i]? = some (some v) → Vis X.env.scope x → ∃ u, RelV v u ∧ Look X.env s.heap m x u
  cell : ∀ x c, X.env.cells.lookup x = some c → ∃ v, s.heap.IsCell c v
  free : H X.env.locals = none
  freeC : ∀ x c, X.env.cells.lookup x = some c → H c = none
  pin : ∀ p ∈ X.pn ++ pins, s.heap.get? p.1 = some p.2 ∧ H p.1 = none ∧ p.1 ≠ X.env.locals ∧ p.1 ∉ X.fs ∧ ∀ v, p.2.data ≠ .cell v
  hok : HOk X.prog X.w H s.heap
  len : σ.length = X.N.length
section
variable {X : Cx} {pins : List (Addr × Obj)} {σ : List (Option V)} {H H' : Hp} {s : Shared} {h' : Heap}
theorem Cx.Ok.nofr (ok : X.Ok) {b : Addr} {o : Obj} (e : X.base.get? b = some o) : b ∉ X.fs := fun hb => by
  have := (ok.funs.mem hb).1
  rw [e] at this; cases this
theorem Inv.bs (I : Inv X pins σ H s) : ∀ b o, X.base.get? b = some o → s.heap.get? b = some o ∧ H b = none := fun b o e =>
  ⟨I.base.keep b o (I.ok.bs b o e).1 (I.ok.bs b o e).2 (I.ok.nofr e) (I.ok.noex b o e), I.base.free b o (I.ok.bs b o e).1 (I.ok.bs b o e).2 (I.ok.noex b o e)⟩
theorem Inv.bk (I : Inv X pins σ H s) : ∀ b o, X.base.get? b = some o → s.heap.get? b = some o := fun b o e => (I.bs b o e).1
theorem Inv.mod (I : Inv X pins σ H s) : Mod X.K X.mg X.base := I.ok.mod
theorem Inv.kIn (I : Inv X pins σ H s) : X.K.In s.heap := I.ok.mod.kin.keeps I.bk
theorem Inv.nolimit (I : Inv X pins σ H s) : s.heap.NoLimit := I.ok.mod.nolimit.keeps I.bk
/-- the frame over the base: for OpenK's rules (K.In X.base is I.mod.kin) -/
theorem Inv.fr (I : Inv X pins σ H s) : ∃ m, Fr X.base X.env.locals s.heap m :=
  let ⟨m, hn, _⟩ := I.loc
  ⟨m, hn, I.bk, Nat.le_trans I.ok.bsz I.ok.above⟩
theorem Inv.lt (I : Inv X pins σ H s) : X.env.locals < s.heap.objs.size := let ⟨_, hn, _⟩ := I.loc; hn.lt
theorem Inv.sz (I : Inv X pins σ H s) : X.s₀.heap.objs.size ≤ s.heap.objs.size := Nat.le_trans I.ok.above (Nat.le_of_lt I.lt)
theorem Inv.nofs (I : Inv X pins σ H s) {a : Addr} (h : s.heap.objs.size ≤ a) : a ∉ X.fs := fun hb => by
  obtain ⟨_, o, ho, _⟩ := I.ok.funs.mem hb
  exact absurd (Nat.lt_of_lt_of_le (Heap.lt_size ho) (Nat.le_trans I.sz h)) (Nat.lt_irrefl _)
theorem Inv.cne (I : Inv X pins σ H s) : ∀ x c, X.env.cells.lookup x = some c → c ≠ X.env.locals := fun x c e z => by
  obtain ⟨v, o, ho, hd⟩ := I.cell x c e
  obtain ⟨m, ⟨o', es, ep, ho', hd', _⟩, _⟩ := I.loc
  rw [z, ho'] at ho; cases ho; rw [hd'] at hd; cases hd
theorem Inv.funs (I : Inv X pins σ H s) : s.heap.FunFrames X.base X.outer := by
  have all : ∀ (l : List Env), (∀ b ∈ frs l, b ∈ X.fs) → X.s₀.heap.FunFrames X.base l → s.heap.FunFrames X.base l := by
    intro l
    induction l with
    | nil => intro _ _; trivial
    | cons env r ih =>
      intro hs hl
      obtain ⟨hk, ⟨L, o, hf, hn, ho, hd⟩, hr⟩ := hl
      have hL : L ∈ X.fs := hs L (by unfold frs; rw [List.filterMap_cons, hf]; exact List.mem_cons_self)
      obtain ⟨sl, e⟩ := I.base.slot L o ho (I.ok.frf L hL) hL fun z => I.ok.exfs L z hL
      exact ⟨hk, ⟨L, _, hf, hn, e, hd⟩, ih (fun b hb => hs b (by unfold frs; rw [List.filterMap_cons, hf]; exact List.mem_cons_of_mem _ hb)) hr⟩
  exact all X.outer (fun _ hb => hb) I.ok.funs
/-- the frames that run, for a call -/
theorem Inv.stack (I : Inv X pins σ H s) : s.heap.FunFrames X.base X.stack := by
  rcases I.ok.stk with e | ⟨e, hf⟩
  · rw [e]; exact I.funs
  · rw [e]
    obtain ⟨m, hn, _⟩ := I.loc
    refine .cons (by rw [I.ok.kind]; decide) hf hn ?_ I.funs
    exact Heap.get?_none_of_le (Nat.le_trans I.ok.bsz I.ok.above)
theorem Inv.stkSub (I : Inv X pins σ H s) : ∀ b ∈ frs X.stack, b ∈ X.env.locals :: X.fs := fun b hb => by
  rcases I.ok.stk with e | ⟨e, hf⟩
  · rw [e] at hb; exact List.mem_cons_of_mem _ hb
  · rw [e] at hb
    unfold frs at hb
    rw [List.filterMap_cons, hf] at hb
    exact hb
theorem Inv.stkFree (I : Inv X pins σ H s) : ∀ b ∈ frs X.stack, H b = none := fun b hb => by
  rcases List.mem_cons.mp (I.stkSub b hb) with e | hb
  · rw [e]; exact I.free
  · obtain ⟨_, o, ho, _⟩ := I.ok.funs.mem hb
    exact I.base.free b o ho (I.ok.frf b hb) fun z => I.ok.exfs b z hb
/-- THE STEP: the untracked objects but the frame and the records at ch are kept (the callers' frames up to slots), the frame's map is kept, the new abstract heap is held -/
theorem Inv.step {g' : Array GenState} {t' : Nat} {d' : Drawn} {ch : List Addr} (I : Inv X pins σ H s)
    (hch : ∀ b ∈ ch, (b ∈ X.ex ∨ X.s₀.heap.objs.size ≤ b) ∧ b ≠ X.env.locals ∧ (∀ x c, X.env.cells.lookup x = some c → c ≠ b) ∧ ∀ p ∈ X.pn ++ pins, p.1 ≠ b)
    (keep : ∀ b o, b ≠ X.env.locals → b ∉ X.fs → b ∉ ch → s.heap.get? b = some o → H b = none → h'.get? b = some o)
    (slot : ∀ b o, b ≠ X.env.locals → b ∈ X.fs → b ∉ ch → s.heap.get? b = some o → H b = none → ∃ sl, h'.get? b = some { o with slots := sl }) (free : ∀ b o, b ∉ ch → s.heap.get? b = some o → H b = none → H' b = none)
    (there : ∀ b o, b ∉ ch → s.heap.get? b = some o → ∃ o', h'.get? b = some o')
    (tups : ∀ b xs, H b = some (.tup xs) → H' b = some (.tup xs)) (frzs : ∀ b o u, H b = some (.frz o u) → H' b = some (.frz o u)) (tbls : ∀ b ps, H b = some (.tbl ps) → ∃ more, H' b = some (.tbl (ps ++ more)))
    (ns : ∀ m, s.heap.Ns X.env.locals m → h'.Ns X.env.locals m) (hok : HOk X.prog X.w H' h') (hg : AllBare g') :
    Inv X pins σ H' { s with heap := h', gens := g', drawn := d', toks := t' } := by
  have neL : ∀ b o, X.s₀.heap.get? b = some o → b ≠ X.env.locals := fun b o e => Nat.ne_of_lt (Nat.lt_of_lt_of_le (Heap.lt_size e) I.ok.above)
  have neC : ∀ b o, X.s₀.heap.get? b = some o → b ∉ X.ex → b ∉ ch := fun b o e hx hb => by
    rcases (hch b hb).1 with z | z
    · exact hx z
    · exact absurd (Nat.lt_of_lt_of_le (Heap.lt_size e) z) (Nat.lt_irrefl _)
  have cellK : ∀ x c, X.env.cells.lookup x = some c → ∀ v, s.heap.IsCell c v → h'.IsCell c v := fun x c e v ⟨o, ho, hd⟩ => by
    have nch : c ∉ ch := fun z => (hch c z).2.2.1 x c e rfl
    by_cases hc : c ∈ X.fs
    · obtain ⟨sl, q⟩ := slot c o (I.cne x c e) hc nch ho (I.freeC x c e)
      exact ⟨_, q, hd⟩
    · exact ⟨o, keep c o (I.cne x c e) hc nch ho (I.freeC x c e), hd⟩
  refine ⟨I.ok, I.os, hg, ⟨fun b o e n hb hx => ?_, fun b o e n hb hx => ?_, fun b o e n hx => ?_, fun b o e hx => ?_, fun b xs e => tups b xs (I.base.tups b xs e), fun b o xs e => frzs b o xs (I.base.frzs b o xs e), fun b ps e => ?_⟩, ?_, fun x c e => ?_, ?_, fun x c e => ?_, fun p hp => ?_, hok, I.len⟩
  · exact keep b o (neL b o e) hb (neC b o e hx) (I.base.keep b o e n hb hx) (I.base.free b o e n hx)
  · obtain ⟨sl, e1⟩ := I.base.slot b o e n hb hx
    obtain ⟨sl', e2⟩ := slot b _ (neL b o e) hb (neC b o e hx) e1 (I.base.free b o e n hx)
    exact ⟨sl', e2⟩
  · obtain ⟨o', e1⟩ := I.base.there b o e hx
    exact free b o' (neC b o e hx) e1 (I.base.free b o e n hx)
  · obtain ⟨o', e1⟩ := I.base.there b o e hx
    exact there b o' (neC b o e hx) e1
  · obtain ⟨m1, e1⟩ := I.base.tbls b ps e
    obtain ⟨m2, e2⟩ := tbls b _ e1
    exact ⟨m1 ++ m2, by rw [e2, Array.append_assoc]⟩
  · obtain ⟨m, hn, hl⟩ := I.loc
    refine ⟨m, ns m hn, fun i x v e1 e2 e3 => ?_⟩
    obtain ⟨u, r, l⟩ := hl i x v e1 e2 e3
    refine ⟨u, r, ?_⟩
    rcases l with l | ⟨k, c, e, z⟩
    · exact .inl l
    · exact .inr ⟨k, c, e, cellK x c e _ z⟩
  · obtain ⟨v, z⟩ := I.cell x c e
    exact ⟨v, cellK x c e v z⟩
  · obtain ⟨m, ⟨o, _, _, ho, _⟩, _⟩ := I.loc
    exact free _ o (fun z => (hch _ z).2.1 rfl) ho I.free
  · obtain ⟨v, o, ho, hd⟩ := I.cell x c e
    exact free c o (fun z => (hch c z).2.2.1 x c e rfl) ho (I.freeC x c e)
  · obtain ⟨e, n, ne, nf, d⟩ := I.pin p hp
    have nch : p.1 ∉ ch := fun z => (hch p.1 z).2.2.2 p hp rfl
    exact ⟨keep p.1 p.2 ne nf nch e n, free p.1 p.2 nch e n, ne, nf, d⟩
/-- .. where the frame's own object is kept too -/
theorem Inv.un {t' : Nat} (I : Inv X pins σ H s) (u : Un X.fs [] H H' s.heap h') (hok : HOk X.prog X.w H' h') : Inv X pins σ H' { s with heap := h', toks := t' } := by
  obtain ⟨m, ⟨o, es, ep, ho, r⟩, _⟩ := id I.loc
  obtain ⟨sl, hL⟩ := u.any ho I.free (by simp)
  exact I.step (g' := s.gens) (d' := s.drawn) (ch := []) (fun _ z => nomatch z) (fun b o _ hb _ e n => u.keep b o e n hb (by simp)) (fun b o _ hb _ e n => u.slot b o e n hb (by simp)) (fun b o _ e n => u.free b o e n (by simp)) (fun b o _ e => u.there b o e (by simp)) u.tups u.frzs u.tbls (fun m' hm => by
    obtain ⟨o', es', ep', ho', r'⟩ := hm
    rw [ho] at ho'; cases ho'
    exact ⟨_, es', ep', hL, r'⟩) hok I.bare
/-- behind a call (or a comprehension's block): the slots of this frame may have changed too, the records at ch may have turned -/
theorem Inv.call {g' : Array GenState} {t' : Nat} {d' : Drawn} {ch : List Addr} (I : Inv X pins σ H s) (u : Un (frs X.stack) ch H H' s.heap h') (hok : HOk X.prog X.w H' h') (hg : AllBare g')
    (hch : ∀ b ∈ ch, (b ∈ X.ex ∨ X.s₀.heap.objs.size ≤ b) ∧ b ≠ X.env.locals ∧ (∀ x c, X.env.cells.lookup x = some c → c ≠ b) ∧ ∀ p ∈ X.pn ++ pins, p.1 ≠ b) :
    Inv X pins σ H' { s with heap := h', gens := g', drawn := d', toks := t' } := by
  obtain ⟨m, ⟨o, es, ep, ho, r⟩, _⟩ := id I.loc
  obtain ⟨sl, hL⟩ := u.any ho I.free fun z => (hch _ z).2.1 rfl
  exact I.step (ch := ch) hch (fun b o hL hb hc e n => u.keep b o e n (fun z => (List.mem_cons.mp (I.stkSub b z)).elim hL hb) hc) (fun b o _ _ hc e n => u.any e n hc) (fun b o hc e n => u.free b o e n hc) (fun b o hc e => u.there b o e hc) u.tups u.frzs u.tbls (fun m' hm => by
    obtain ⟨o', es', ep', ho', r'⟩ := hm
    rw [ho] at ho'; cases ho'
    exact ⟨_, es', ep', hL, r'⟩) hok hg
/-- an untracked record of ours (an iterator) has turned -/
theorem Inv.turned {t' : Nat} {it : Addr} (I : Inv X pins σ H s) (k : ∀ b o, b ≠ it → s.heap.get? b = some o → h'.get? b = some o) (hn : H it = none) (hL : it ≠ X.env.locals)
    (h1 : it ∈ X.ex ∨ X.s₀.heap.objs.size ≤ it) (h2 : ∀ x c, X.env.cells.lookup x = some c → c ≠ it) (h3 : ∀ p ∈ X.pn ++ pins, p.1 ≠ it) : Inv X pins σ H { s with heap := h', toks := t' } := by
  have nit : ∀ b u, H b = some u → b ≠ it := fun b u e z => by rw [z, hn] at e; cases e
  refine I.step (g' := s.gens) (d' := s.drawn) (ch := [it]) (fun b hb => ?_) (fun b o _ _ hc e _ => k b o (fun z => hc (by simp [z])) e) (fun b o _ _ hc e _ => ⟨o.slots, k b o (fun z => hc (by simp [z])) e⟩) (fun _ _ _ _ n => n)
    (fun b o hc e => ⟨o, k b o (fun z => hc (by simp [z])) e⟩) (fun _ _ e => e) (fun _ _ _ e => e) (fun b ps e => ⟨#[], by rw [e]; simp⟩) (fun m hm => ?_) (fun b u e => ?_) I.bare
  · have e : b = it := by simpa using hb
    subst e
    exact ⟨h1, hL, h2, h3⟩
  · obtain ⟨o, es, ep, ho, r⟩ := hm
    exact ⟨o, es, ep, k _ o (Ne.symm hL) ho, r⟩
  · refine (I.hok b u e).stay (fun c v hc q => k c v ?_ q) (fun _ q => q) fun _ _ q => q
    rcases hc with z | z
    · rw [z]; exact nit b u e
    · exact nit c _ z
theorem Inv.tok (I : Inv X pins σ H s) (t : Nat) : Inv X pins σ H { s with toks := t } := I.un (h' := s.heap) (t' := t) Un.refl I.hok
/-- all objects kept -/
theorem Inv.kept {t' : Nat} (I : Inv X pins σ H s) (k : ∀ b u, s.heap.get? b = some u → h'.get? b = some u) : Inv X pins σ H { s with heap := h', toks := t' } := I.un (Un.kept k) (I.hok.kept k)
/-- a new object laid and tracked -/
theorem Inv.laid {a : Addr} {o : HO} {t' : Nat} (I : Inv X pins σ H s) (k : ∀ b u, s.heap.get? b = some u → h'.get? b = some u) (hp : s.heap.objs.size ≤ a) (new : ObjOk X.prog X.w (upd H a o) h' a o) :
    Inv X pins σ (upd H a o) { s with heap := h', toks := t' } := I.un (Un.laid k hp (I.hok.fresh hp)) (I.hok.laid k hp new)
/-- an object written -/
theorem Inv.write {x e : Addr} {o : HO} {t' : Nat} (I : Inv X pins σ H s) (mu : Mut (H x)) (he : e = x ∨ H e = some (.own x)) (k : ∀ b u, b ≠ e → s.heap.get? b = some u → h'.get? b = some u) (heo : ∃ u, h'.get? e = some u)
    (new : ObjOk X.prog X.w (upd H x o) h' x o) : Inv X pins σ (upd H x o) { s with heap := h', toks := t' } := I.un (Un.write mu he k heo) (I.hok.write mu he k heo new)
/-- forgetting slots, pins -/
theorem Inv.weak {σ' : List (Option V)} (I : Inv X pins σ H s) (hl : σ'.length = σ.length) (w : ∀ (i : Nat) v, σ'[i]? = some (some v) → σ[i]? = some (some v)) : Inv X pins σ' H s :=
  ⟨I.ok, I.os, I.bare, I.base, let ⟨m, hn, hl'⟩ := I.loc; ⟨m, hn, fun i x v e1 e2 e3 => hl' i x v e1 (w i v e2) e3⟩, I.cell, I.free, I.freeC, I.pin, I.hok, hl.trans I.len⟩
theorem Inv.pins_of {pins' : List (Addr × Obj)} (I : Inv X pins σ H s) (h : ∀ p ∈ pins', s.heap.get? p.1 = some p.2 ∧ H p.1 = none ∧ p.1 ≠ X.env.locals ∧ p.1 ∉ X.fs ∧ ∀ v, p.2.data ≠ .cell v) : Inv X pins' σ H s :=
  ⟨I.ok, I.os, I.bare, I.base, I.loc, I.cell, I.free, I.freeC, fun p hp => (List.mem_append.mp hp).elim (fun z => I.pin p (List.mem_append_left _ z)) (h p), I.hok, I.len⟩
theorem nodup_ix {N : List Str} (hN : N.Nodup) {i j : Nat} {x : Str} (a : N[i]? = some x) (b : N[j]? = some x) : i = j := by
  obtain ⟨h1, e1⟩ := List.getElem?_eq_some_iff.mp a
  obtain ⟨h2, e2⟩ := List.getElem?_eq_some_iff.mp b
  exact (List.getElem_inj hN).mp (e1.trans e2.symm)
/-- a name is stored; what changed -/
theorem store_ok2 {M : Model} {A : Around} {E : Value → Shared → Prop} {i : Nat} {x : Str} {v : V} {u : Value} {Q : Unit → Shared → Prop} (I : Inv X pins σ H s) (hN : X.N.Nodup) (hi : X.N[i]? = some x) (hx : Loc X.env.scope x) (r : RelV v u)
    (h : ∀ s', Inv X pins (σ.set i (some v)) H s' → (∃ a, Heap.SameBut a s.heap s'.heap ∧ (a = X.env.locals ∨ X.env.cells.lookup x = some a)) → Q () s') (hf : X.fn x = true ∨ X.env.scope.names.lookup x = some .local := by first | exact .inl rfl | exact .inr rfl | assumption) : wpAny M A (storeName X.env x u) Q E s := by
  obtain ⟨m, hn, hl⟩ := id I.loc
  have hcls : (X.env.scope.kind == .class || (X.env.scope.kind == .module && X.env.locals != X.env.globals)) = false := by rw [I.ok.kind]; rfl
  have hiσ : i < σ.length := by rw [I.len]; exact (List.getElem?_eq_some_iff.mp hi).1
  have cne := I.cne
  have tracked : ∀ {a : Addr} {h' : Heap}, (∃ o, s.heap.get? a = some o ∧ H a = none) → Heap.SameBut a s.heap h' → HOk X.prog X.w H h' := fun {a h'} ha hs b ob e => by
    obtain ⟨_, _, hfree⟩ := ha
    refine (I.hok b ob e).stay (fun c w' hc q => (hs.2 c ?_).trans q) (fun _ q => q) fun _ _ q => q
    rintro rfl
    rcases hc with rfl | hc
    · rw [hfree] at e; cases e
    · rw [hfree] at hc; cases hc
  rcases hx with hk | hk
  · refine wpAny_storeName_local hk hn (fun h' hn' hs => ?_) hcls
    obtain ⟨oL, _, _, hoL, _⟩ := id hn
    refine h _ ⟨I.ok, I.os, I.bare, ⟨fun b o e n hb hx => ?_, fun b o e n hb hx => ?_, I.base.free, fun b o e hx => ?_, I.base.tups, I.base.frzs, I.base.tbls⟩, ⟨_, hn', fun j y v' e1 e2 e3 => ?_⟩, fun y c e => ?_, I.free, I.freeC, fun p hp => ?_, tracked ⟨oL, hoL, I.free⟩ hs, by simpa using I.len⟩ ⟨_, hs, .inl rfl⟩
    · exact (hs.2 b (Nat.ne_of_lt (Nat.lt_of_lt_of_le (Heap.lt_size e) I.ok.above))).trans (I.base.keep b o e n hb hx)
    · obtain ⟨sl, e1⟩ := I.base.slot b o e n hb hx
      exact ⟨sl, (hs.2 b (Nat.ne_of_lt (Nat.lt_of_lt_of_le (Heap.lt_size e) I.ok.above))).trans e1⟩
    · obtain ⟨o', e1⟩ := I.base.there b o e hx
      exact ⟨o', (hs.2 b (Nat.ne_of_lt (Nat.lt_of_lt_of_le (Heap.lt_size e) I.ok.above))).trans e1⟩
    · by_cases hj : j = i
      · subst hj
        rw [hi] at e1; cases e1
        rw [List.getElem?_set_self hiσ] at e2
        cases e2
        exact ⟨u, r, .inl ⟨hk, by simp⟩⟩
      · rw [List.getElem?_set_ne (Ne.symm hj)] at e2
        obtain ⟨u', r', q⟩ := hl j y v' e1 e2 e3
        refine ⟨u', r', ?_⟩
        rcases q with ⟨k, e⟩ | ⟨k, c, e, z⟩
        · refine .inl ⟨k, ?_⟩
          have : y ≠ x := fun e => hj (nodup_ix hN e1 (e ▸ hi))
          simp [this, e]
        · exact .inr ⟨k, c, e, z.sameBut hs (cne y c e)⟩
    · obtain ⟨w', z⟩ := I.cell y c e
      exact ⟨w', z.sameBut hs (cne y c e)⟩
    · obtain ⟨e, n, ne, nf, d⟩ := I.pin p hp
      exact ⟨(hs.2 p.1 ne).trans e, n, ne, nf, d⟩
  · have hfn : X.fn x = true := by
      rcases hf with z | z
      · exact z
      · rw [z] at hk; cases hk
    obtain ⟨c, hc⟩ := I.ok.has x (.inl hk)
    obtain ⟨w', z⟩ := I.cell x c hc
    refine wpAny_storeName_cell I.ok.kind hk hc z (fun h' hc' hs => ?_)
    obtain ⟨oc, hoc, hocd⟩ := id z
    refine h { s with heap := h' } ⟨I.ok, I.os, I.bare, ⟨fun b o e n hb hx => ?_, fun b o e n hb hx => ?_, I.base.free, fun b o e hx => ?_, I.base.tups, I.base.frzs, I.base.tbls⟩, ⟨m, hn.sameBut hs (Ne.symm (cne x c hc)), fun j y v' e1 e2 e3 => ?_⟩, fun y c' e => ?_, I.free, I.freeC, fun p hp => ?_, tracked ⟨oc, hoc, I.freeC x c hc⟩ hs, by simpa using I.len⟩ ⟨c, hs, .inr hc⟩
    · exact (hs.2 b (Nat.ne_of_lt (Nat.lt_of_lt_of_le (Heap.lt_size e) (I.ok.cab x c hfn hc)))).trans (I.base.keep b o e n hb hx)
    · obtain ⟨sl, e1⟩ := I.base.slot b o e n hb hx
      exact ⟨sl, (hs.2 b (Nat.ne_of_lt (Nat.lt_of_lt_of_le (Heap.lt_size e) (I.ok.cab x c hfn hc)))).trans e1⟩
    · obtain ⟨o', e1⟩ := I.base.there b o e hx
      exact ⟨o', (hs.2 b (Nat.ne_of_lt (Nat.lt_of_lt_of_le (Heap.lt_size e) (I.ok.cab x c hfn hc)))).trans e1⟩
    · by_cases hj : j = i
      · subst hj
        rw [hi] at e1; cases e1
        rw [List.getElem?_set_self hiσ] at e2
        cases e2
        exact ⟨u, r, .inr ⟨.inl hk, c, hc, hc'⟩⟩
      · rw [List.getElem?_set_ne (Ne.symm hj)] at e2
        obtain ⟨u', r', q⟩ := hl j y v' e1 e2 e3
        refine ⟨u', r', ?_⟩
        rcases q with q | ⟨k, c', e, z'⟩
        · exact .inl q
        · refine .inr ⟨k, c', e, z'.sameBut hs ?_⟩
          rintro rfl
          exact hj (nodup_ix hN e1 (I.ok.inj _ _ _ e hc ▸ hi))
    · by_cases hcc : c' = c
      · subst hcc; exact ⟨_, hc'⟩
      · obtain ⟨w2, z2⟩ := I.cell y c' e
        exact ⟨w2, z2.sameBut hs hcc⟩
    · obtain ⟨e, n, ne, nf, d⟩ := I.pin p hp
      refine ⟨(hs.2 p.1 ?_).trans e, n, ne, nf, d⟩
      intro q
      rw [q, hoc] at e
      have q' : oc = p.2 := Option.some.inj e
      exact d w' (by rw [← q']; exact hocd)
theorem store_ok {M : Model} {A : Around} {E : Value → Shared → Prop} {i : Nat} {x : Str} {v : V} {u : Value} {Q : Unit → Shared → Prop} (I : Inv X pins σ H s) (hN : X.N.Nodup) (hi : X.N[i]? = some x) (hx : Loc X.env.scope x) (r : RelV v u)
    (h : ∀ s', Inv X pins (σ.set i (some v)) H s' → Q () s') (hf : X.fn x = true ∨ X.env.scope.names.lookup x = some .local := by first | exact .inl rfl | exact .inr rfl | assumption) : wpAny M A (storeName X.env x u) Q E s :=
  store_ok2 I hN hi hx r (fun s' I' _ => h s' I') hf
/-- behind a call or a block, the state as it is -/
theorem Inv.call' {s' : Shared} {ch : List Addr} (I : Inv X pins σ H s) (ho : s'.os = s.os) (u : Un (frs X.stack) ch H H' s.heap s'.heap) (hok : HOk X.prog X.w H' s'.heap) (hg : AllBare s'.gens)
    (hch : ∀ b ∈ ch, (b ∈ X.ex ∨ X.s₀.heap.objs.size ≤ b) ∧ b ≠ X.env.locals ∧ (∀ x c, X.env.cells.lookup x = some c → c ≠ b) ∧ ∀ p ∈ X.pn ++ pins, p.1 ≠ b) : Inv X pins σ H' s' := by
  obtain ⟨h', g', d', t', o'⟩ := s'
  have e : o' = s.os := ho
  subst e
  exact I.call (g' := g') (t' := t') (d' := d') u hok hg hch
end
/-! ### the judgements -/
/-- an exception: its class, its own dict's address (where it has one), the abstract heap behind it -/
noncomputable abbrev XK := Value → Option Addr → Hp → Prop
noncomputable abbrev St := List (Option V)
noncomputable abbrev VK := V → Hp → Prop
/-- an expression's reading; a test's; an argument list's -/
noncomputable abbrev TE := St → Hp → VK → Prop
noncomputable abbrev TT := St → Hp → (Bool → Hp → Prop) → Prop
noncomputable abbrev TA := St → Hp → (List V → Hp → Prop) → Prop
/-- what is wanted behind a statement -/
structure Ends where
  nx : St → Hp → Prop
  rt : VK
  bk : St → Hp → Prop := fun _ _ => False
  ct : St → Hp → Prop := fun _ _ => False
noncomputable abbrev TS := Ends → St → Hp → Prop
noncomputable def EP (X : Cx) (pins : List (Addr × Obj)) (σ : St) (Q : VK) (u : Value) (s' : Shared) : Prop := ∃ v H', Inv X pins σ H' s' ∧ RelV v u ∧ Q v H'
noncomputable def TP (X : Cx) (pins : List (Addr × Obj)) (σ : St) (Q : Bool → Hp → Prop) (b : Bool) (s' : Shared) : Prop := ∃ H', Inv X pins σ H' s' ∧ Q b H'
noncomputable def AP (X : Cx) (pins : List (Addr × Obj)) (σ : St) (Q : List V → Hp → Prop) (us : List Value) (s' : Shared) : Prop := ∃ vs H', Inv X pins σ H' s' ∧ Vals vs us ∧ Q vs H'
noncomputable def SP (X : Cx) (pins : List (Addr × Obj)) (D : Ends) (f : Flow) (s' : Shared) : Prop :=
  match f with
  | .next => ∃ σ' H', Inv X pins σ' H' s' ∧ D.nx σ' H'
  | .brk => ∃ σ' H', Inv X pins σ' H' s' ∧ D.bk σ' H'
  | .cont => ∃ σ' H', Inv X pins σ' H' s' ∧ D.ct σ' H'
  | .ret u => ∃ v σ' H', Inv X pins σ' H' s' ∧ RelV v u ∧ D.rt v H'
noncomputable def PE (X : Cx) (e : Expr) (t : TE) : Prop :=
  ∀ (pins : List (Addr × Obj)) (s : Shared) (σ : St) (H : Hp) (Q : VK), Inv X pins σ H s → t σ H Q → wpAny (model X.prog X.w) X.A (eval e X.env) (EP X pins σ Q) X.xe s
noncomputable def PT (X : Cx) (e : Expr) (t : TT) : Prop :=
  ∀ (pins : List (Addr × Obj)) (s : Shared) (σ : St) (H : Hp) (Q : Bool → Hp → Prop), Inv X pins σ H s → t σ H Q → wpAny (model X.prog X.w) X.A (isTrue e X.env (eval e X.env)) (TP X pins σ Q) X.xe s
/-- a test whatever its 'whole' is (and, or) -/
noncomputable def PW (X : Cx) (e : Expr) (t : TT) : Prop :=
  ∀ (whole : Sem Value) (pins : List (Addr × Obj)) (s : Shared) (σ : St) (H : Hp) (Q : Bool → Hp → Prop), Inv X pins σ H s → t σ H Q → wpAny (model X.prog X.w) X.A (isTrue e X.env whole) (TP X pins σ Q) X.xe s
theorem PW.pt {X : Cx} {e : Expr} {t : TT} (h : PW X e t) : PT X e t := h _
/-- an argument list (no star), from the left -/
noncomputable def PA (X : Cx) (es : List Expr) (t : TA) : Prop :=
  ∀ (pos : Pos) (pins : List (Addr × Obj)) (s : Shared) (σ : St) (H : Hp) (Q : List V → Hp → Prop), Inv X pins σ H s → t σ H Q → wpAny (model X.prog X.w) X.A (spliced (backTo pos (starEach es X.env))) (AP X pins σ Q) X.xe s
noncomputable def PS (X : Cx) (st : Stmt) (t : TS) : Prop :=
  ∀ (pins : List (Addr × Obj)) (s : Shared) (σ : St) (H : Hp) (D : Ends), Inv X pins σ H s → t D σ H → wpAny (model X.prog X.w) X.A (exec st X.env) (SP X pins D) X.xe s
noncomputable def PSs (X : Cx) (st : List Stmt) (t : TS) : Prop :=
  ∀ (pins : List (Addr × Obj)) (s : Shared) (σ : St) (H : Hp) (D : Ends), Inv X pins σ H s → t D σ H → wpAny (model X.prog X.w) X.A (execs st X.env) (SP X pins D) X.xe s
/-- weaken the end -/
theorem thn {α : Type} {t : Sem α} {Q Q' : α → Shared → Prop} {M : Model} {A : Around} {E : Value → Shared → Prop} {s : Shared} (h : wpAny M A t Q E s) (hQ : ∀ a s, Q a s → Q' a s) : wpAny M A t Q' E s := wpAny_mono h hQ fun _ _ x => x
end L2
namespace L2
open PySem PySem.Spec PyProof.Rows
section
variable {X : Cx}
/-! ### names and constants -/
noncomputable def tVar (i : Nat) : TE := fun σ H Q => ∃ v, σ[i]? = some (some v) ∧ Q v H
noncomputable def tC (v : V) : TE := fun _ H Q => Q v H
theorem pe_var {i : Nat} {x : Str} {pos : Pos} (hN : X.N[i]? = some x) (hv : Vis X.env.scope x) (hd : (x == ("__debug__" : Str)) = false := by decide) (hcd : (x == ("__classdict__" : Str)) = false := by decide) : PE X (.Name x pos) (tVar i) := by
  intro pins s σ H Q I h
  obtain ⟨v, e, h⟩ := h
  obtain ⟨m, hn, hl⟩ := I.loc
  obtain ⟨u, r, l⟩ := hl i x v hN e hv
  have fin : EP X pins σ Q u s := ⟨v, H, I, r, h⟩
  rcases l with ⟨hk, hm⟩ | ⟨hk, c, hc, hcell⟩
  · exact wpAny_Name (wpAny_loadName_local I.ok.kind hk hn hm fin) hd
  · rcases hk with hk | hk
    · exact wpAny_Name (wpAny_loadName_cell I.ok.kind hk hc hcell fin) hd
    · exact wpAny_Name (wpAny_loadName_free I.ok.kind hk hc hcell fin hcd) hd
theorem pe_int {i j pos} : PE X (.Constant (.int i) j pos) (tC (.int i)) := fun _ _ _ H _ I h => wpAny_Constant_int ⟨.int i, H, I.tok _, ⟨_, rfl⟩, h⟩
theorem pe_bl {b j pos} : PE X (.Constant (.bool b) j pos) (tC (.bl b)) := fun _ _ _ H _ I h => Constant_bool ⟨.bl b, H, I, rfl, h⟩
theorem pe_non {j pos} : PE X (.Constant .none j pos) (tC .non) := fun _ _ _ H _ I h => Constant_none ⟨.non, H, I, rfl, h⟩
theorem pe_str {x j pos} : PE X (.Constant (.str x) j pos) (tC (.str x)) := fun _ _ _ H _ I h => Calls.Constant_str ⟨.str x, H, I.tok _, ⟨_, rfl⟩, h⟩
/-- a global name of the def -/
noncomputable def Gl (X : Cx) (x : Str) : Prop := X.env.kindOf x = some .globalImplicit
theorem ld_glob {E : Value → Shared → Prop} {pins : List (Addr × Obj)} {s : Shared} {σ : St} {H : Hp} {x : Str} {u : Value} {pos : Pos} {Q : Value → Shared → Prop} (I : Inv X pins σ H s) (hg : Gl X x) (hm : X.mg x = some u) (h : Q u s)
    (hd : (x == ("__debug__" : Str)) = false := by decide) : wpAny (model X.prog X.w) X.A (eval (.Name x pos) X.env) Q E s :=
  Calls.Name_function_global I.ok.kind hg (Calls.loadGlobal_global (by rw [I.ok.glob]; exact I.mod.glob.keeps I.bk) hm h) hd
theorem ld_blt {E : Value → Shared → Prop} {pins : List (Addr × Obj)} {s : Shared} {σ : St} {H : Hp} {x : Str} {u : Value} {pos : Pos} {Q : Value → Shared → Prop} (I : Inv X pins σ H s) (hg : Gl X x) (hm : X.mg x = none) (hv : bootBuiltins x = some u) (h : Q u s)
    (hn : x ≠ "__name__" := by decide) (hd : (x == ("__debug__" : Str)) = false := by decide) : wpAny (model X.prog X.w) X.A (eval (.Name x pos) X.env) Q E s := by
  obtain ⟨mb, h1, h2⟩ := I.mod.blt
  exact Calls.Name_function_global I.ok.kind hg (Calls.loadGlobal_builtin (by rw [I.ok.glob]; exact I.mod.glob.keeps I.bk) hm (by rw [I.ok.blt]; exact h1.keeps I.bk) ((h2 x hn).trans hv) h) hd
/-- a module's constant, a class, a function, as a value -/
theorem pe_glob {x : Str} {v : V} {u : Value} {pos : Pos} (hg : Gl X x) (hm : X.mg x = some u) (r : RelV v u) (hd : (x == ("__debug__" : Str)) = false := by decide) : PE X (.Name x pos) (tC v) :=
  fun _ _ _ H _ I h => ld_glob I hg hm ⟨v, H, I, r, h⟩ hd
theorem pe_bltn {x : Str} {v : V} {u : Value} {pos : Pos} (hg : Gl X x) (hm : X.mg x = none) (hv : bootBuiltins x = some u) (r : RelV v u) (hn : x ≠ "__name__" := by decide) (hd : (x == ("__debug__" : Str)) = false := by decide) : PE X (.Name x pos) (tC v) :=
  fun _ _ _ H _ I h => ld_blt I hg hm hv ⟨v, H, I, r, h⟩ hn hd
/-! ### arithmetic -/
variable {a b : Expr} {ta tb : TE} {pos : Pos}
/-! ### comparisons -/
/-! ### and, or, not -/
variable {tA tB' : TT} {rest : List Expr}
noncomputable def tAnd (t u : TT) : TT := fun σ H Q => t σ H fun c H1 => if c = true then u σ H1 Q else Q false H1
noncomputable def tOr (t u : TT) : TT := fun σ H Q => t σ H fun c H1 => if c = true then Q true H1 else u σ H1 Q
noncomputable def tNot (t : TT) : TT := fun σ H Q => t σ H fun c H1 => Q (!c) H1
theorem pw_and1 (ha : PT X a tA) : PW X (.BoolOp .And [a] pos) tA := by
  intro wh pins s σ H Q I h
  refine isTrue_and (thn (ha pins s σ H Q I h) fun c s1 e => ?_)
  cases c with
  | true => exact isTrue_and_nil e
  | false => exact e
theorem pw_or1 (ha : PT X a tA) : PW X (.BoolOp .Or [a] pos) tA := by
  intro wh pins s σ H Q I h
  refine isTrue_or (thn (ha pins s σ H Q I h) fun c s1 e => ?_)
  cases c with
  | false => exact isTrue_or_nil e
  | true => exact e
theorem pw_and (ha : PT X a tA) (hb : PW X (.BoolOp .And (b :: rest) pos) tB') : PW X (.BoolOp .And (a :: b :: rest) pos) (tAnd tA tB') := by
  intro wh pins s σ H Q I h
  refine isTrue_and (thn (ha pins s σ H _ I h) fun c s1 ⟨H1, I1, q1⟩ => ?_)
  cases c with
  | true => exact hb wh pins s1 σ H1 Q I1 q1
  | false => exact ⟨H1, I1, q1⟩
theorem pw_or (ha : PT X a tA) (hb : PW X (.BoolOp .Or (b :: rest) pos) tB') : PW X (.BoolOp .Or (a :: b :: rest) pos) (tOr tA tB') := by
  intro wh pins s σ H Q I h
  refine isTrue_or (thn (ha pins s σ H _ I h) fun c s1 ⟨H1, I1, q1⟩ => ?_)
  cases c with
  | true => exact ⟨H1, I1, q1⟩
  | false => exact hb wh pins s1 σ H1 Q I1 q1
theorem pt_not (ha : PT X a tA) : PT X (.UnaryOp .Not a pos) (tNot tA) := by
  intro pins s σ H Q I h
  exact isTrue_not (ha pins s σ H (fun c H1 => Q (!c) H1) I h)
theorem pe_one {op} {t : TE} (h : PE X a t) : PE X (.BoolOp op [a] pos) t := fun pins s σ H Q I hw => BoolOp_one (h pins s σ H Q I hw)
end
end L2
namespace L2
open PySem PySem.Spec PyProof.Rows
/-! ### a list, a tuple that is read: tracked, frozen, or an object of the module -/
noncomputable def SqL (K : PySem.W.Frag) (H : Hp) (a : Addr) (xs : List V) : Prop :=
  Rd H a (.lst xs) ∨
    ∃ (o : Obj) (its : Array Value) (n : Nat), K.lookup a = some o ∧ o.cls = .type "list" ∧ o.dict = none ∧ o.data = .seq its n ∧ its.size ≤ sizeLine ∧ Vals xs its.toList
noncomputable def SqT (K : PySem.W.Frag) (H : Hp) (a : Addr) (xs : List V) : Prop :=
  Rd H a (.tup xs) ∨
    ∃ (o : Obj) (its : Array Value) (n : Nat), K.lookup a = some o ∧ o.cls = .type "tuple" ∧ o.data = .seq its n ∧ its.size ≤ sizeLine ∧ Vals xs its.toList
noncomputable def absV : Value → Option V
  | .none => some .non
  | .bool b => some (.bl b)
  | .int i _ => some (.int i)
  | .str x _ => some (.str x)
  | .bytes b _ => some (.byt b)
  | .float b _ => some (.flt b)
  | .ref a => some (.ref a)
  | .type n => some (.ty n)
  | _ => none
theorem RelV.abs {x : V} {u : Value} (r : RelV x u) : absV u = some x := by
  cases x with
  | non => cases r; rfl
  | bl _ => cases r; rfl
  | int _ => obtain ⟨t, rfl⟩ := r; rfl
  | str _ => obtain ⟨t, rfl⟩ := r; rfl
  | byt _ => obtain ⟨t, rfl⟩ := r; rfl
  | flt _ => obtain ⟨t, rfl⟩ := r; rfl
  | ref _ => cases r; rfl
  | ty _ => cases r; rfl
theorem RelV.inj {x y : V} {u : Value} (r : RelV x u) (q : RelV y u) : x = y := Option.some.inj (r.abs.symm.trans q.abs)
theorem Vals.inj : ∀ {xs ys : List V} {us : List Value}, Vals xs us → Vals ys us → xs = ys
  | _, _, _, .nil, .nil => rfl
  | _, _, _, .cons r t, .cons r' t' => by rw [r.inj r', Vals.inj t t']
section
variable {X : Cx} {pins : List (Addr × Obj)} {σ : St} {H : Hp} {s : Shared} {a : Addr} {xs ys : List V}
theorem SqL.of {K : PySem.W.Frag} (h : H a = some (.lst xs)) : SqL K H a xs := .inl (.inl h)
theorem SqT.of {K : PySem.W.Frag} (h : H a = some (.tup xs)) : SqT K H a xs := .inl (.inl h)
theorem Inv.list (I : Inv X pins σ H s) (h : SqL X.K H a xs) : ∃ its : List Value, Vals xs its ∧ PlainL s.heap a its.toArray ∧ xs.length ≤ sizeLine := by
  rcases h with h | ⟨o, its, n, hk, hc, hd, hs, hz, r⟩
  · obtain ⟨z, its, n, r, e⟩ := h.ok I.hok
    exact ⟨its, r, ⟨_, n, e, rfl, rfl, rfl⟩, z⟩
  · refine ⟨its.toList, r, ⟨o, n, I.kIn a o hk, hc, hd, by simpa using hs⟩, ?_⟩
    have e := r.length
    simp only [Array.length_toList] at e
    omega
theorem Inv.tuple (I : Inv X pins σ H s) (h : SqT X.K H a xs) : ∃ its : List Value, Vals xs its ∧ IsTup s.heap a its.toArray ∧ xs.length ≤ sizeLine := by
  rcases h with h | ⟨o, its, n, hk, hc, hs, hz, r⟩
  · obtain ⟨z, its, r, p⟩ := h.ok I.hok
    exact ⟨its, r, p, z⟩
  · refine ⟨its.toList, r, ⟨o, I.kIn a o hk, hc, n, by simpa using hs⟩, ?_⟩
    have e := r.length
    simp only [Array.length_toList] at e
    omega
theorem Inv.list_inj (I : Inv X pins σ H s) (h : SqL X.K H a xs) (h' : SqL X.K H a ys) : xs = ys := by
  obtain ⟨its, r, ⟨o, n, e, _, _, d⟩, _⟩ := I.list h
  obtain ⟨its', r', ⟨o', n', e', _, _, d'⟩, _⟩ := I.list h'
  rw [e] at e'; cases e'
  rw [d] at d'
  injection d' with d1 _
  have : its = its' := by simpa using congrArg Array.toList d1
  subst this
  exact r.inj r'
theorem Inv.tuple_inj (I : Inv X pins σ H s) (h : SqT X.K H a xs) (h' : SqT X.K H a ys) : xs = ys := by
  obtain ⟨its, r, ⟨o, e, _, n, d⟩, _⟩ := I.tuple h
  obtain ⟨its', r', ⟨o', e', _, n', d'⟩, _⟩ := I.tuple h'
  rw [e] at e'; cases e'
  rw [d] at d'
  injection d' with d1 _
  have : its = its' := by simpa using congrArg Array.toList d1
  subst this
  exact r.inj r'
end
/-! ### another wish about exceptions -/
noncomputable abbrev Cx.wish (X : Cx) (E : Value → Shared → Prop) : Cx := { X with xe := E }
/-- no exception leaves -/
noncomputable abbrev Cx.nox (X : Cx) : Cx := X.wish fun _ _ => False
theorem Cx.Ok.wish {X : Cx} (ok : X.Ok) (E : Value → Shared → Prop) : (X.wish E).Ok :=
  ⟨ok.mod, ok.kind, ok.glob, ok.blt, ok.above, ok.inj, ok.has, ok.cab, ok.hd, ok.frames, ok.stk, ok.exf, ok.bs, ok.bsz, ok.noex, ok.exfs, ok.funs, ok.frf⟩
theorem Cx.Ok.unwish {X : Cx} {E : Value → Shared → Prop} (ok : (X.wish E).Ok) : X.Ok :=
  ⟨ok.mod, ok.kind, ok.glob, ok.blt, ok.above, ok.inj, ok.has, ok.cab, ok.hd, ok.frames, ok.stk, ok.exf, ok.bs, ok.bsz, ok.noex, ok.exfs, ok.funs, ok.frf⟩
section
variable {X : Cx} {pins : List (Addr × Obj)} {σ : St} {H : Hp} {s : Shared} {E : Value → Shared → Prop}
theorem Inv.wish (I : Inv X pins σ H s) (E : Value → Shared → Prop) : Inv (X.wish E) pins σ H s := ⟨I.ok.wish E, I.os, I.bare, I.base, I.loc, I.cell, I.free, I.freeC, I.pin, I.hok, I.len⟩
theorem Inv.unwish (I : Inv (X.wish E) pins σ H s) : Inv X pins σ H s := ⟨I.ok.unwish, I.os, I.bare, I.base, I.loc, I.cell, I.free, I.freeC, I.pin, I.hok, I.len⟩
theorem SP.unwish {D : Ends} {f : Flow} {s' : Shared} (h : SP (X.wish E) pins D f s') : SP X pins D f s' := by
  cases f with
  | next => obtain ⟨σ', H', I, q⟩ := h; exact ⟨σ', H', I.unwish, q⟩
  | brk => obtain ⟨σ', H', I, q⟩ := h; exact ⟨σ', H', I.unwish, q⟩
  | cont => obtain ⟨σ', H', I, q⟩ := h; exact ⟨σ', H', I.unwish, q⟩
  | ret u => obtain ⟨v, σ', H', I, r, q⟩ := h; exact ⟨v, σ', H', I.unwish, r, q⟩
theorem PE.nox {e : Expr} {t : TE} (h : PE X.nox e t) : PE X e t := fun pins s σ H Q I hw =>
  wpAny_mono (h pins s σ H Q (I.wish _) hw) (fun _ _ ⟨v, H', I', r, q⟩ => ⟨v, H', I'.unwish, r, q⟩) fun _ _ z => False.elim z
theorem PT.nox {e : Expr} {t : TT} (h : PT X.nox e t) : PT X e t := fun pins s σ H Q I hw =>
  wpAny_mono (h pins s σ H Q (I.wish _) hw) (fun _ _ ⟨H', I', q⟩ => ⟨H', I'.unwish, q⟩) fun _ _ z => False.elim z
theorem PSs.nox {st : List Stmt} {t : TS} (h : PSs X.nox st t) : PSs X st t := fun pins s σ H D I hw =>
  wpAny_mono (h pins s σ H D (I.wish _) hw) (fun _ _ q => q.unwish) fun _ _ z => False.elim z
end
/-! ### blocks and small statements -/
section
variable {X : Cx} {st : Stmt} {rest : List Stmt} {t u : TS} {e : Expr} {te : TE} {pos : Pos}
noncomputable def tNext : TS := fun D σ H => D.nx σ H
noncomputable def tSeq (t u : TS) : TS := fun D σ H => t { D with nx := u D } σ H
theorem pss_nil : PSs X [] tNext := fun _ _ σ H _ I h => wpAny_execs_nil ⟨σ, H, I, h⟩
theorem pss_cons (h1 : PS X st t) (h2 : PSs X rest u) : PSs X (st :: rest) (tSeq t u) := by
  intro pins s σ H D I h
  refine wpAny_execs_cons (thn (h1 pins s σ H { D with nx := u D } I h) fun f s1 q => ?_)
  cases f with
  | next =>
    obtain ⟨σ', H', I', q⟩ := q
    exact h2 pins s1 σ' H' D I' q
  | ret v => exact q
  | brk => exact q
  | cont => exact q
noncomputable def tBreak : TS := fun D σ H => D.bk σ H
noncomputable def tCont : TS := fun D σ H => D.ct σ H
theorem ps_pass : PS X (.Pass pos) tNext := fun _ _ σ H _ I h => wpAny_Pass ⟨σ, H, I, h⟩
theorem ps_break : PS X (.Break pos) tBreak := fun _ _ σ H _ I h => wpAny_Break ⟨σ, H, I, h⟩
theorem ps_continue : PS X (.Continue pos) tCont := fun _ _ σ H _ I h => wpAny_Continue ⟨σ, H, I, h⟩
/-- in a def's body nothing is shown -/
theorem Inv.quiet {pins : List (Addr × Obj)} {σ : St} {H : Hp} {s : Shared} (I : Inv X pins σ H s) : interactive X.env = false := by simp [interactive, I.ok.kind]
/-- a docstring -/
theorem ps_doc {x j pos pos'} : PS X (.Expr (.Constant (.str x) j pos) pos') tNext := fun _ s σ H _ I h => wpAny_Expr (Calls.Constant_str (show SP X _ _ .next { s with toks := s.toks + 1 } from ⟨σ, H, I.tok _, h⟩)) I.quiet
/-- an expression whose value is dropped -/
noncomputable def tDrop (te : TE) : TS := fun D σ H => te σ H fun _ H1 => D.nx σ H1
theorem ps_expr (he : PE X e te) (hs : swapsWith e none pos.line X.env = pure false := by rfl) : PS X (.Expr e pos) (tDrop te) := by
  intro pins s σ H D I h
  exact wpAny_Expr_any (thn (he pins s σ H _ I h) fun v s1 ⟨x, H1, I1, r1, q1⟩ => ⟨σ, H1, I1, q1⟩) I.quiet hs
noncomputable def tRet (te : TE) : TS := fun D σ H => te σ H D.rt
theorem ps_ret (he : PE X e te) : PS X (.Return (some e) pos) (tRet te) := by
  intro pins s σ H D I h
  exact wpAny_Return_some (thn (he pins s σ H _ I h) fun v s1 ⟨x, H1, I1, r1, q1⟩ => ⟨x, σ, H1, I1, r1, q1⟩)
noncomputable def tRetN : TS := fun D _ H => D.rt .non H
theorem ps_retN : PS X (.Return none pos) tRetN := fun _ _ σ H _ I h => wpAny_Return_none ⟨.non, σ, H, I, rfl, h⟩
noncomputable def tIfS (c : TT) (t u : TS) : TS := fun D σ H => c σ H fun b H1 => if b = true then t D σ H1 else u D σ H1
theorem ps_if {c : Expr} {a b : List Stmt} {tc : TT} (hc : PT X c tc) (ha : PSs X a t) (hb : PSs X b u) : PS X (.If c a b pos) (tIfS tc t u) := by
  intro pins s σ H D I h
  refine wpAny_If (thn (hc pins s σ H _ I h) fun d s1 ⟨H1, I1, q1⟩ => ?_)
  cases d with
  | true => exact ha pins s1 σ H1 D I1 q1
  | false => exact hb pins s1 σ H1 D I1 q1
/-- code that the proof never comes to -/
noncomputable def tNever : TS := fun _ _ _ => False
theorem ps_never : PS X st tNever := fun _ _ _ _ _ _ h => h.elim
end
/-! ### targets -/
noncomputable abbrev TG := V → St → Hp → (St → Hp → Prop) → Prop
noncomputable abbrev TGs := List V → St → Hp → (St → Hp → Prop) → Prop
noncomputable def PG (X : Cx) (target : Expr) (t : TG) : Prop :=
  ∀ (pins : List (Addr × Obj)) (s : Shared) (σ : St) (H : Hp) (v : V) (u : Value) (Q : St → Hp → Prop), Inv X pins σ H s → RelV v u → t v σ H Q →
    wpAny (model X.prog X.w) X.A (assign target X.env u) (fun _ s' => ∃ σ' H', Inv X pins σ' H' s' ∧ Q σ' H') X.xe s
/-- several targets, one after another -/
noncomputable def PGs (X : Cx) (ts : List Expr) (t : TGs) : Prop :=
  ∀ (pins : List (Addr × Obj)) (s : Shared) (σ : St) (H : Hp) (vs : List V) (us : List Value) (Q : St → Hp → Prop), Inv X pins σ H s → Vals vs us → t vs σ H Q →
    wpAny (model X.prog X.w) X.A (assignInOrder ((assignEach ts X.env).map (·.2)) us) (fun _ s' => ∃ σ' H', Inv X pins σ' H' s' ∧ Q σ' H') X.xe s
/-- o[i] = v, by values -/
noncomputable abbrev TSet := V → V → V → Hp → (Hp → Prop) → Prop
noncomputable def PSet (X : Cx) (t : TSet) : Prop :=
  ∀ (pins : List (Addr × Obj)) (s : Shared) (σ : St) (H : Hp) (o i v : V) (ov iv u : Value) (Q : Hp → Prop), Inv X pins σ H s → RelV o ov → RelV i iv → RelV v u → t o i v H Q →
    wpAny (model X.prog X.w) X.A (setItem ov iv u) (fun _ s' => ∃ H', Inv X pins σ H' s' ∧ Q H') X.xe s
/-- a op= b, by values -/
noncomputable abbrev TIp := V → V → Hp → VK → Prop
noncomputable def PIp (X : Cx) (op : Operator) (t : TIp) : Prop :=
  ∀ (pins : List (Addr × Obj)) (s : Shared) (σ : St) (H : Hp) (x y : V) (v u : Value) (Q : VK), Inv X pins σ H s → RelV x v → RelV y u → t x y H Q →
    wpAny (model X.prog X.w) X.A (inplaceOp op v u) (EP X pins σ Q) X.xe s
section
variable {X : Cx} {pos : Pos}
noncomputable def gName (i : Nat) : TG := fun v σ H Q => Q (σ.set i (some v)) H
theorem pg_name {i : Nat} {x : Str} (hN : X.N.Nodup) (hi : X.N[i]? = some x) (hx : Loc X.env.scope x) (hf : X.fn x = true ∨ X.env.scope.names.lookup x = some .local := by first | exact .inl rfl | exact .inr rfl | assumption) : PG X (.Name x pos) (gName i) := by
  intro pins s σ H v u Q I r h
  exact wpAny_assign_Name (store_ok I hN hi hx r (fun s' I' => ⟨_, H, I', h⟩) hf)
noncomputable def gNil : TGs := fun vs σ H Q => vs = [] ∧ Q σ H
noncomputable def gCons (t : TG) (u : TGs) : TGs := fun vs σ H Q => ∃ v r, vs = v :: r ∧ t v σ H fun σ' H' => u r σ' H' Q
theorem pgs_nil : PGs X [] gNil := by
  intro pins s σ H vs us Q I r h
  obtain ⟨e, h⟩ := h
  subst e
  cases r
  exact assignInOrder_nil ⟨σ, H, I, h⟩
theorem pgs_cons {e : Expr} {es : List Expr} {t : TG} {u : TGs} (h1 : PG X e t) (h2 : PGs X es u)
    (hs : (assignEach (e :: es) X.env).map (·.2) = assign e X.env :: (assignEach es X.env).map (·.2) := by rfl) : PGs X (e :: es) (gCons t u) := by
  intro pins s σ H vs us Q I r h
  obtain ⟨v, vr, e1, h⟩ := h
  subst e1
  cases r with
  | cons r rr =>
    rw [hs]
    refine assignInOrder_cons (thn (h1 pins s σ H _ _ _ I r h) fun _ s1 ⟨σ1, H1, I1, q1⟩ => ?_)
    exact h2 pins s1 σ1 H1 _ _ Q I1 rr q1
/-- (a, b, ..) = a tuple of that length -/
noncomputable def gTup (K : PySem.W.Frag) (n : Nat) (t : TGs) : TG := fun v σ H Q => ∃ a xs, v = .ref a ∧ SqT K H a xs ∧ xs.length = n ∧ t xs σ H Q
theorem pg_tup {es : List Expr} {k : Nat} {t : TGs} {n : Nat} (hc : X.calm = true) (h : PGs X es t)
    (hn : (assignEach es X.env).length = n := by rfl) (hst : (assignEach es X.env).findIdx? (·.1) = none := by rfl) : PG X (.Tuple es k pos) (gTup X.K n t) := by
  intro pins s σ H v u Q I r hw
  obtain ⟨a, xs, e1, hq, hl, hw⟩ := hw
  subst e1
  cases r
  obtain ⟨its, rv, ht, hz⟩ := I.tuple hq
  refine assign_Tuple_tuple (I.ok.hd hc) ht (by simp [hn, ← hl, rv.length]) hst fun h' hx => ?_
  have I1 : Inv X pins σ H { s with heap := h' } := I.kept (t' := s.toks) fun b o e => hx b o (Nat.ne_of_lt (Heap.lt_size e)) e
  exact h pins _ σ H xs _ Q I1 (by simpa using rv) hw
/-- o[i] = .. -/
noncomputable def gSub (to ti : TE) (t : TSet) : TG := fun v σ H Q => to σ H fun o H1 => ti σ H1 fun i H2 => t o i v H2 fun H3 => Q σ H3
theorem pg_sub {o i : Expr} {to ti : TE} {t : TSet} (ho : PE X o to) (hi : PE X i ti) (hs : PSet X t)
    (ha : ∀ v, assign (.Subscript o i pos) X.env v = (do
      let ov ← holding [v] (eval o X.env)
      let iv ← holding [v, ov] (eval i X.env)
      standAt pos
      holding [v, ov, iv] (setItem ov iv v)
      release [v, ov, iv] []) := by intro _; rfl) : PG X (.Subscript o i pos) (gSub to ti t) := by
  intro pins s σ H v u Q I r h
  rw [ha]
  refine wpAny_bind (wpAny_holding (thn (ho pins s σ H _ I h) fun ov s1 ⟨x, H1, I1, r1, q1⟩ => ?_))
  refine wpAny_bind (wpAny_holding (thn (hi pins s1 σ H1 _ I1 q1) fun iv s2 ⟨y, H2, I2, r2, q2⟩ => ?_))
  refine wpAny_bind (wpAny_standAt (wpAny_bind (wpAny_holding (thn (hs pins s2 σ H2 x y v ov iv u _ I2 r1 r2 r q2) fun _ s3 ⟨H3, I3, q3⟩ => ?_))))
  exact wpAny_release ⟨σ, H3, I3, q3⟩
/-- target = value -/
noncomputable def tAsg (te : TE) (g : TG) : TS := fun D σ H => te σ H fun x H1 => g x σ H1 D.nx
theorem ps_asg {tg e : Expr} {te : TE} {g : TG} (he : PE X e te) (hg : PG X tg g) (hs : swapsWithSole [tg] e pos.line X.env = pure false := by rfl) (hw : swappedStores [tg] e X.env = pure none := by rfl)
    (h1 : (assignEach [tg] X.env).map (·.2) = [assign tg X.env] := by rfl) : PS X (.Assign [tg] e pos) (tAsg te g) := by
  intro pins s σ H D I h
  refine wpAny_Assign_stores (thn (he pins s σ H _ I h) fun v s1 ⟨x, H1, I1, r1, q1⟩ => ?_) hs hw
  rw [h1]
  exact thn (hg pins s1 σ H1 x v _ I1 r1 q1) fun _ s2 q => q
/-- name = value -/
theorem ps_set {i : Nat} {x : Str} {e : Expr} {te : TE} {pos' : Pos} (hN : X.N.Nodup) (hi : X.N[i]? = some x) (hx : Loc X.env.scope x) (he : PE X e te) (hs : swapsWith e (some (.Name x pos')) pos.line X.env = pure false := by rfl) (hf : X.fn x = true ∨ X.env.scope.names.lookup x = some .local := by first | exact .inl rfl | exact .inr rfl | assumption) :
    PS X (.Assign [.Name x pos'] e pos) (tAsg te (gName i)) := by
  intro pins s σ H D I h
  refine wpAny_Assign_Name (thn (he pins s σ H _ I h) fun v s1 ⟨y, H1, I1, r1, q1⟩ => ?_) hs
  exact store_ok I1 hN hi hx r1 (fun s2 I2 => ⟨_, H1, I2, q1⟩) hf
/-- o[i] op= e -/
noncomputable def tAugS (to ti te : TE) (tget : V → V → Hp → VK → Prop) (tip : TIp) (tset : TSet) : TS := fun D σ H => to σ H fun o H1 => ti σ H1 fun i H2 => tget o i H2 fun x H3 => te σ H3 fun y H4 => tip x y H4 fun z H5 => tset o i z H5 fun H6 => D.nx σ H6
/-- o[i], by values -/
noncomputable def PGet (X : Cx) (t : V → V → Hp → VK → Prop) : Prop :=
  ∀ (pins : List (Addr × Obj)) (s : Shared) (σ : St) (H : Hp) (o i : V) (ov iv : Value) (Q : VK), Inv X pins σ H s → RelV o ov → RelV i iv → t o i H Q →
    wpAny (model X.prog X.w) X.A (getItem ov iv) (EP X pins σ Q) X.xe s
theorem ps_augS {o i e : Expr} {to ti te : TE} {tget : V → V → Hp → VK → Prop} {tip : TIp} {tset : TSet} {op : Operator} {tpos : Pos} (ho : PE X o to) (hi : PE X i ti) (hg : PGet X tget) (he : PE X e te) (hp : PIp X op tip) (hs : PSet X tset)
    (ha : ∀ ov iv new, augStore i ov iv new = (do holding [new, ov, iv] (setItem ov iv new); release [new, ov, iv] []; pure .next) := by intros; rfl) : PS X (.AugAssign (.Subscript o i tpos) op e pos) (tAugS to ti te tget tip tset) := by
  intro pins s σ H D I h
  refine wpAny_AugAssign_SubscriptAny (thn (ho pins s σ H _ I h) fun ov s1 ⟨x1, H1, I1, r1, q1⟩ => ?_) ha
  refine thn (hi pins s1 σ H1 _ I1 q1) fun iv s2 ⟨x2, H2, I2, r2, q2⟩ => ?_
  refine thn (hg pins s2 σ H2 x1 x2 ov iv _ I2 r1 r2 q2) fun old s3 ⟨x3, H3, I3, r3, q3⟩ => ?_
  refine thn (he pins s3 σ H3 _ I3 q3) fun v s4 ⟨x4, H4, I4, r4, q4⟩ => ?_
  refine thn (hp pins s4 σ H4 x3 x4 old v _ I4 r3 r4 q4) fun new s5 ⟨x5, H5, I5, r5, q5⟩ => ?_
  exact thn (hs pins s5 σ H5 x1 x2 x5 ov iv new _ I5 r1 r2 r5 q5) fun _ s6 ⟨H6, I6, q6⟩ => ⟨σ, H6, I6, q6⟩
end
/-! ### while -/
section
variable {X : Cx} {pos : Pos}
end
/-! ### what a loop or a comprehension walks -/
/-- at turn i: it yields x (the heap may grow), or it stops -/
structure It where
  go : Nat → Hp → Prop
  yld : Nat → Hp → V → Hp → Prop
  stop : Nat → Hp → Prop
/-- the iterator's own objects may turn: they are not the frame's, not pinned, younger than the entry (or a comprehension's own) -/
noncomputable def FpOk (X : Cx) (pins : List (Addr × Obj)) (H : Hp) (b : Addr) : Prop :=
  H b = none ∧ b ≠ X.env.locals ∧ b ∉ X.fs ∧ (b ∈ X.ex ∨ X.s₀.heap.objs.size ≤ b) ∧ (∀ x c, X.env.cells.lookup x = some c → c ≠ b) ∧ ∀ p ∈ X.pn ++ pins, p.1 ≠ b
theorem Inv.fpOk {X : Cx} {pins : List (Addr × Obj)} {σ : St} {H H' : Hp} {s : Shared} {b : Addr} (I : Inv X pins σ H s) (hb : s.heap.objs.size ≤ b) (hn : H' b = none) : FpOk X pins H' b := by
  refine ⟨hn, Nat.ne_of_gt (Nat.lt_of_lt_of_le I.lt hb), I.nofs hb, .inr (Nat.le_trans I.sz hb), fun x c e z => ?_, fun p hp z => ?_⟩
  · obtain ⟨v, q⟩ := I.cell x c e
    exact absurd (Nat.lt_of_lt_of_le q.lt (by rw [z]; exact hb)) (Nat.lt_irrefl _)
  · exact absurd (Nat.lt_of_lt_of_le (Heap.lt_size (I.pin p hp).1) (by rw [z]; exact hb)) (Nat.lt_irrefl _)
structure Turn (P : Program) (w : World) (K : PySem.W.Frag) (tg : Expr) (J : It) (fp : List Addr) (it : Addr) (tn : Nat → Heap → Prop) : Prop where
  mem : it ∈ fp
  obj : ∀ i h, tn i h → ∀ b ∈ fp, ∃ o, h.get? b = some o ∧ ∀ v, o.data ≠ .cell v
  keep : ∀ i h h', tn i h → (∀ b ∈ fp, ∀ o, h.get? b = some o → h'.get? b = some o) → tn i h'
  item : ∀ (X : Cx), X.prog = P → X.w = w → X.K = K → X.calm = true → ∀ (i : Nat) (pins : List (Addr × Obj)) (s : Shared) (σ : St) (H : Hp) (E : Value → Shared → Prop), Inv X pins σ H s → (∀ b ∈ fp, FpOk X pins H b) → tn i s.heap → J.go i H →
    wpAny (model P w) X.A (pyNext (.ref it)) (fun r s1 => ∃ u, r = some u ∧
      wpAny (model P w) X.A (letOwnedTupleGo tg (.ref it) u) (fun _ s2 => ∃ x H', Inv X pins σ H' s2 ∧ RelV x u ∧ J.yld i H x H' ∧ tn (i + 1) s2.heap ∧ ∀ b ∈ fp, H' b = none) E s1) E s
  done : ∀ (X : Cx), X.prog = P → X.w = w → X.K = K → X.calm = true → ∀ (i : Nat) (pins : List (Addr × Obj)) (s : Shared) (σ : St) (H : Hp) (E : Value → Shared → Prop), Inv X pins σ H s → (∀ b ∈ fp, FpOk X pins H b) → tn i s.heap → J.stop i H →
    wpAny (model P w) X.A (pyNext (.ref it)) (fun r s1 => r = none ∧ Inv X pins σ H s1) E s
  self : ∀ (A : Around) (i : Nat) (s : Shared) (Q : Value → Shared → Prop) (E : Value → Shared → Prop), tn i s.heap → Q (.ref it) s → wpAny (model P w) A (pyIter (.ref it)) Q E s
noncomputable abbrev TI := St → Hp → (It → Hp → Prop) → Prop
/-- an iterator has come -/
noncomputable def PIE (X : Cx) (pins : List (Addr × Obj)) (σ : St) (tg : Expr) (R : It → Hp → Prop) (itv : Value) (s2 : Shared) : Prop :=
  ∃ (it : Addr) (fp : List Addr) (tn : Nat → Heap → Prop) (J : It) (H' : Hp), itv = .ref it ∧ Inv X pins σ H' s2 ∧ Turn X.prog X.w X.K tg J fp it tn ∧ tn 0 s2.heap ∧ (∀ b ∈ fp, FpOk X pins H' b) ∧ R J H'
noncomputable def PI (X : Cx) (tg iter : Expr) (wi : TI) : Prop :=
  ∀ (pins : List (Addr × Obj)) (s : Shared) (σ : St) (H : Hp) (R : It → Hp → Prop), Inv X pins σ H s → wi σ H R →
    wpAny (model X.prog X.w) X.A (eval iter X.env) (fun v s1 => wpAny (model X.prog X.w) X.A (pyIter v) (PIE X pins σ tg R) X.xe s1) X.xe s
/-- the step ahead of the store is nothing for an iterator that keeps no tuple -/
theorem go_of {M : Model} {A : Around} {E : Value → Shared → Prop} {s : Shared} {tg : Expr} {it : Addr} {u : Value} {o : Obj} {n : String} {vs : Array Value} {Q : Unit → Shared → Prop} (ho : s.heap.get? it = some o) (hc : o.cls = .type n) (hd : o.data = .fields vs)
    (hn : ["enumerate", "zip", "dict_itemiterator", "dict_reverseitemiterator", "odict_iterator", "itertools.zip_longest", "itertools.pairwise"].contains n = false) (hQ : Q () s) : wpAny M A (letOwnedTupleGo tg (.ref it) u) Q E s := by
  unfold letOwnedTupleGo
  cases tg <;> first
    | exact wpAny_pure hQ
    | (cases u <;> first
        | exact wpAny_pure hQ
        | (refine wpAny_bind (wpAny_load ho ?_)
           rw [hc, hd]
           show wpAny M A (if (["enumerate", "zip", "dict_itemiterator", "dict_reverseitemiterator", "odict_iterator", "itertools.zip_longest", "itertools.pairwise"].contains n && vs[0]? == some (rawInt _)) = true then _ else _) Q E s
           rw [if_neg (by intro h; rw [hn, Bool.false_and] at h; cases h)]
           exact wpAny_pure hQ))
/-- the list at a, as it stands at each turn (a loop may append to it) -/
noncomputable def Itl (K : PySem.W.Frag) (a : Addr) : It :=
  ⟨fun i H => ∃ xs x, SqL K H a xs ∧ xs[i]? = some x, fun i H x H' => H' = H ∧ ∀ xs, SqL K H a xs → xs[i]? = some x, fun i H => ∃ xs, SqL K H a xs ∧ xs.length ≤ i⟩
noncomputable def Itt (K : PySem.W.Frag) (a : Addr) : It :=
  ⟨fun i H => ∃ xs x, SqT K H a xs ∧ xs[i]? = some x, fun i H x H' => H' = H ∧ ∀ xs, SqT K H a xs → xs[i]? = some x, fun i H => ∃ xs, SqT K H a xs ∧ xs.length ≤ i⟩
/-- lo, lo + 1, .. (n of them) -/
noncomputable def Itr (lo : Int) (n : Nat) : It := ⟨fun i _ => i < n, fun i H x H' => H' = H ∧ x = .int (lo + i), fun i _ => n ≤ i⟩
theorem turn_list {P : Program} {w : World} {K : PySem.W.Frag} {tg : Expr} (a it : Addr) : Turn P w K tg (Itl K a) [it] it (fun i h => h.IsListIter it a i) where
  mem := by simp
  obj := fun i h st b hb => by
    have e : b = it := by simpa using hb
    subst e
    obtain ⟨o, e, c, d⟩ := st
    exact ⟨o, e, fun v z => by rw [d] at z; cases z⟩
  keep := fun i h h' st k => st.at fun o e => k it (by simp) o e
  item := by
    intro X hP hw hK hc i pins s σ H E I hf st hg
    subst hP hw hK
    obtain ⟨xs, x, hq, hx⟩ := hg
    obtain ⟨its, rv, p, hz⟩ := I.list hq
    obtain ⟨u, hu, ru⟩ := rv.get hx
    obtain ⟨f0, f1, f2, f3, f4, f5⟩ := hf it (by simp)
    refine wpAny_pyNext_list_item st p.isList (x := u) (by simpa using hu) fun h' st' sb => ?_
    have I1 : Inv X pins σ H { s with heap := h' } := I.turned (t' := s.toks) (fun b o hb e => (sb.2 b hb).trans e) f0 f1 f3 f4 f5
    obtain ⟨o, e, c, d⟩ := id st'
    exact ⟨u, rfl, go_of (s := { s with heap := h' }) e c d (by decide) ⟨x, H, I1, ru, ⟨rfl, fun ys hy => by rw [I.list_inj hy hq]; exact hx⟩, st', fun b hb => (hf b hb).1⟩⟩
  done := by
    intro X hP hw hK hc i pins s σ H E I hf st hg
    subst hP hw hK
    obtain ⟨xs, hq, hx⟩ := hg
    obtain ⟨its, rv, p, hz⟩ := I.list hq
    obtain ⟨f0, f1, f2, f3, f4, f5⟩ := hf it (by simp)
    have hl := rv.length
    exact wpAny_pyNext_list_end (I.ok.hd hc) st p.isList (by simp; omega) fun h' eb => ⟨rfl, I.turned (t' := s.toks) (fun b o hb e => eb b o hb e) f0 f1 f3 f4 f5⟩
  self := fun _ _ _ _ _ st h => wpAny_pyIter_listiter st h
theorem turn_tuple {P : Program} {w : World} {K : PySem.W.Frag} {tg : Expr} (a it : Addr) : Turn P w K tg (Itt K a) [it] it (fun i h => h.IsTupleIter it a i) where
  mem := by simp
  obj := fun i h st b hb => by
    have e : b = it := by simpa using hb
    subst e
    obtain ⟨o, e, c, d⟩ := st
    exact ⟨o, e, fun v z => by rw [d] at z; cases z⟩
  keep := fun i h h' st k => st.at fun o e => k it (by simp) o e
  item := by
    intro X hP hw hK hc i pins s σ H E I hf st hg
    subst hP hw hK
    obtain ⟨xs, x, hq, hx⟩ := hg
    obtain ⟨its, rv, p, hz⟩ := I.tuple hq
    obtain ⟨u, hu, ru⟩ := rv.get hx
    obtain ⟨f0, f1, f2, f3, f4, f5⟩ := hf it (by simp)
    refine wpAny_pyNext_tuple_item st (show s.heap.IsTuple a its.toArray from p) (x := u) (by simpa using hu) fun h' st' sb => ?_
    have I1 : Inv X pins σ H { s with heap := h' } := I.turned (t' := s.toks) (fun b o hb e => (sb.2 b hb).trans e) f0 f1 f3 f4 f5
    obtain ⟨o, e, c, d⟩ := id st'
    exact ⟨u, rfl, go_of (s := { s with heap := h' }) e c d (by decide) ⟨x, H, I1, ru, ⟨rfl, fun ys hy => by rw [I.tuple_inj hy hq]; exact hx⟩, st', fun b hb => (hf b hb).1⟩⟩
  done := by
    intro X hP hw hK hc i pins s σ H E I hf st hg
    subst hP hw hK
    obtain ⟨xs, hq, hx⟩ := hg
    obtain ⟨its, rv, p, hz⟩ := I.tuple hq
    obtain ⟨f0, f1, f2, f3, f4, f5⟩ := hf it (by simp)
    have hl := rv.length
    exact wpAny_pyNext_tuple_end (I.ok.hd hc) st (show s.heap.IsTuple a its.toArray from p) (by simp; omega) fun h' eb => ⟨rfl, I.turned (t' := s.toks) (fun b o hb e => eb b o hb e) f0 f1 f3 f4 f5⟩
  self := fun _ _ _ _ _ st h => wpAny_pyIter_tupleiter st h
theorem turn_range {P : Program} {w : World} {K : PySem.W.Frag} {tg : Expr} (it : Addr) (lo : Int) (n : Nat) : Turn P w K tg (Itr lo n) [it] it (fun i h => IsRangeIter h it (lo + (i : Nat) * 1) ((n : Int) - (i : Nat)) 1) where
  mem := by simp
  obj := fun i h st b hb => by
    have e : b = it := by simpa using hb
    subst e
    exact ⟨_, st, fun v z => by
      have z' : Data.fields _ = Data.cell v := z
      cases z'⟩
  keep := fun i h h' st k => k it (by simp) _ st
  item := by
    intro X hP hw hK hc i pins s σ H E I hf st hg
    subst hP hw hK
    obtain ⟨f0, f1, f2, f3, f4, f5⟩ := hf it (by simp)
    have W := Walks.range (prog := X.prog) (w := X.w) (I.ok.hd hc) it lo 1 n
    refine W.item i s _ _ hg st fun v h' tk hv st' kk => ?_
    obtain ⟨t, rfl⟩ := hv
    have I1 : Inv X pins σ H { s with heap := h', toks := tk } := I.turned (fun b o hb e => kk b o (by simpa using hb) e) f0 f1 f3 f4 f5
    refine ⟨_, rfl, go_of (s := { s with heap := h', toks := tk }) (n := "range_iterator") st' rfl rfl (by decide) ⟨.int (lo + i), H, I1, ⟨t, ?_⟩, ⟨rfl, rfl⟩, st', fun b hb => (hf b hb).1⟩⟩
    rw [Int.mul_one]
  done := by
    intro X hP hw hK hc i pins s σ H E I hf st hg
    subst hP hw hK
    obtain ⟨f0, f1, f2, f3, f4, f5⟩ := hf it (by simp)
    exact wpAny_pyNext_range_end (I.ok.hd hc) st (by have : n ≤ i := hg; omega) fun h' eb => ⟨rfl, I.turned (t' := s.toks) (fun b o hb e => eb b o hb e) f0 f1 f3 f4 f5⟩
  self := fun _ _ _ _ _ st h => wpAny_pyIter_rangeiter st h
end L2
namespace L2
open PySem PySem.Spec PyProof.Rows
section
variable {X : Cx} {tg : Expr}
/-- a range object just made, walked -/
theorem range_it {pins : List (Addr × Obj)} {σ : St} {H : Hp} {s : Shared} {R : It → Hp → Prop} {E : Value → Shared → Prop} {lo hi : Int} {t u v : Tok} {tk : Nat} (I : Inv X pins σ H s) (h1 : -(2 ^ 62) ≤ lo) (h2 : lo < 2 ^ 62) (h3 : -(2 ^ 62) ≤ hi) (h4 : hi < 2 ^ 62)
    (q : R (Itr lo (hi - lo).toNat) H) : wpAny (model X.prog X.w) X.A (pyIter (.ref s.heap.objs.size)) (PIE X pins σ tg R) E { s with heap := s.heap.push { cls := .type "range", data := .fields #[.int lo t, .int hi u, .int 1 v] }, toks := tk } := by
  refine wpAny_pyIter_range (IsRange.new ..) (small_one h1 h2 h3 h4) ?_
  have I1 : Inv X pins σ H { s with heap := s.heap.push { cls := .type "range", data := .fields #[.int lo t, .int hi u, .int 1 v] }, toks := tk } := I.kept fun b o e => Heap.get?_push_of_some _ e
  refine ⟨(s.heap.push { cls := .type "range", data := .fields #[.int lo t, .int hi u, .int 1 v] }).objs.size, [(s.heap.push { cls := .type "range", data := .fields #[.int lo t, .int hi u, .int 1 v] }).objs.size], _, _, H, rfl,
    I1.kept (t' := tk) fun b o e => Heap.get?_push_of_some _ e, turn_range _ lo (hi - lo).toNat, ?_, fun b hb => ?_, q⟩
  · have e1 : lo + ((0 : Nat) : Int) * 1 = lo := by simp
    have e2 : (((hi - lo).toNat : Nat) : Int) - ((0 : Nat) : Int) = Builtin.Range.rangeSize lo hi 1 := by rw [rangeSize_one]; split <;> omega
    show IsRangeIter _ _ (lo + ((0 : Nat) : Int) * 1) ((((hi - lo).toNat : Nat) : Int) - ((0 : Nat) : Int)) 1
    rw [e1, e2]
    exact Heap.get?_push_size _ rfl
  · have e : b = (s.heap.push { cls := .type "range", data := .fields #[.int lo t, .int hi u, .int 1 v] }).objs.size := by simpa using hb
    subst e
    exact I1.fpOk (Nat.le_refl _) (I1.hok.fresh (Nat.le_refl _))
noncomputable def iRng1 (ta : TA) : TI := fun σ H R => ta σ H fun vs H1 => ∃ j : Int, vs = [.int j] ∧ -(2 ^ 62) ≤ j ∧ j < 2 ^ 62 ∧ R (Itr 0 j.toNat) H1
noncomputable def iRng2 (ta : TA) : TI := fun σ H R => ta σ H fun vs H1 => ∃ i j : Int, vs = [.int i, .int j] ∧ (-(2 ^ 62) ≤ i ∧ i < 2 ^ 62 ∧ -(2 ^ 62) ≤ j ∧ j < 2 ^ 62) ∧ R (Itr i (j - i).toNat) H1
theorem pi_range1 {a : Expr} {ta : TA} {p pos : Pos} (hg : Gl X "range") (hm : X.mg "range" = none) (ha : PA X [a] ta) (hs : starEach [a] X.env = [(false, eval a X.env)] := by rfl) : PI X tg (.Call (.Name "range" p) [a] [] pos) (iRng1 ta) := by
  intro pins s σ H R I h
  refine Call_ (ld_blt I hg hm boot_range (PyProof.Rows.callWith_type1 (thn (ha pos pins s σ H _ I h) fun us s1 ⟨vs, H1, I1, r1, q1⟩ => ?_) hs rfl))
  obtain ⟨j, e, q1, q2, q⟩ := q1
  subst e
  cases r1 with
  | cons r rr =>
    cases rr
    obtain ⟨t, rfl⟩ := r
    exact call_range_1 (range_it I1 (by omega) (by omega) q1 q2 (by simpa using q))
theorem pi_range2 {a b : Expr} {ta : TA} {p pos : Pos} (hg : Gl X "range") (hm : X.mg "range" = none) (ha : PA X [a, b] ta) (hs : starEach [a, b] X.env = [(false, eval a X.env), (false, eval b X.env)] := by rfl) (hs2 : starEach [b] X.env = [(false, eval b X.env)] := by rfl) :
    PI X tg (.Call (.Name "range" p) [a, b] [] pos) (iRng2 ta) := by
  intro pins s σ H R I h
  refine Call_ (ld_blt I hg hm boot_range (PyProof.Rows.callWith_type1 (thn (ha pos pins s σ H _ I h) fun us s1 ⟨vs, H1, I1, r1, q1⟩ => ?_) (by rw [hs, hs2]) (by rw [hs2]; rfl)))
  obtain ⟨i, j, e, ⟨q1, q2, q3, q4⟩, q⟩ := q1
  subst e
  cases r1 with
  | cons r rr =>
    cases rr with
    | cons r' rr =>
      cases rr
      obtain ⟨t, rfl⟩ := r
      obtain ⟨t', rfl⟩ := r'
      exact call_range_2 (range_it I1 q1 q2 q3 q4 q)
/-! ### for -/
/-- W: the invariant by the turn and a measure; N: what the body is to reach -/
noncomputable def tFor (wi : TI) (g : TG) (tb : TS) : TS := fun D σ H => wi σ H fun J H1 => ∃ W : Nat → Nat → St → Hp → Prop, (∃ m, W 0 m σ H1) ∧ ∀ i m σ H, W i m σ H →
  (J.stop i H ∧ D.nx σ H) ∨ (J.go i H ∧ ∃ N : St → Hp → Prop, (∀ σ' H', N σ' H' → ∃ m', m' < m ∧ W (i + 1) m' σ' H') ∧ ∀ x H', J.yld i H x H' → g x σ H' fun σ2 H2 => tb { D with nx := N, ct := N, bk := D.nx } σ2 H2)
/-- the records at fp as they stand -/
noncomputable def pinsAt (fp : List Addr) (h : Heap) : List (Addr × Obj) := fp.filterMap fun b => (h.get? b).map fun o => (b, o)
theorem mem_pinsAt {fp : List Addr} {h : Heap} {b : Addr} {o : Obj} (hb : b ∈ fp) (e : h.get? b = some o) : (b, o) ∈ pinsAt fp h := List.mem_filterMap.mpr ⟨b, hb, by rw [e]; rfl⟩
theorem of_pinsAt {fp : List Addr} {h : Heap} {p : Addr × Obj} (hp : p ∈ pinsAt fp h) : p.1 ∈ fp ∧ h.get? p.1 = some p.2 := by
  obtain ⟨b, hb, e⟩ := List.mem_filterMap.mp hp
  cases q : h.get? b with
  | none => rw [q] at e; cases e
  | some o =>
    rw [q] at e
    have e' : (b, o) = p := Option.some.inj e
    subst e'
    exact ⟨hb, q⟩
theorem Inv.pinned {pins : List (Addr × Obj)} {σ : St} {H : Hp} {s : Shared} {fp : List Addr} (I : Inv X pins σ H s) (hf : ∀ b ∈ fp, FpOk X pins H b) (ho : ∀ b ∈ fp, ∃ o, s.heap.get? b = some o ∧ ∀ v, o.data ≠ .cell v) : Inv X (pins ++ pinsAt fp s.heap) σ H s :=
  I.pins_of fun p hp => (List.mem_append.mp hp).elim (fun z => I.pin p (List.mem_append_right _ z)) fun z => by
    obtain ⟨hb, e⟩ := of_pinsAt z
    obtain ⟨f0, f1, f2, _⟩ := hf p.1 hb
    obtain ⟨o, e', d⟩ := ho p.1 hb
    rw [e] at e'; cases e'
    exact ⟨e, f0, f1, f2, d⟩
theorem Inv.unpinned {pins pl : List (Addr × Obj)} {σ : St} {H : Hp} {s : Shared} (I : Inv X (pins ++ pl) σ H s) : Inv X pins σ H s := I.pins_of fun p hp => I.pin p (List.mem_append_right _ (List.mem_append_left _ hp))
theorem ps_for {iter : Expr} {body : List Stmt} {wi : TI} {g : TG} {tb : TS} {pos : Pos} (hp : PassesOwn (model X.prog X.w) X.A X.env X.xe) (hc : X.calm = true) (hi : PI X tg iter wi) (hg : PG X tg g) (hb : PSs X body tb)
    (hs : ∀ x, foldedSetIterable iter X.env x = pure x := by intro _; rfl) : PS X (.For tg iter body [] pos) (tFor wi g tb) := by
  intro pins s σ H D I h
  refine wpAny_For (thn (hi pins s σ H _ I h) fun v s1 h1 => thn h1 fun itv s2 h2 => ?_) hs
  obtain ⟨it, fp, tn, J, H2, e, I2, T, st2, f2, W, ⟨m0, w0⟩, turn⟩ := h2
  subst e
  -- what stays true of the iterator's objects through the loop
  have stat : ∀ {H' : Hp}, (∀ b ∈ fp, H' b = none) → ∀ b ∈ fp, FpOk X pins H' b := fun hn b hb => ⟨hn b hb, (f2 b hb).2⟩
  refine codeAny_forLoop_any (fun n s' => ∃ i σ' H', Inv X pins σ' H' s' ∧ tn i s'.heap ∧ (∀ b ∈ fp, H' b = none) ∧ W i n σ' H') ?_ m0 ⟨0, σ, H2, I2, st2, fun b hb => (f2 b hb).1, w0⟩
  rintro n s3 ⟨i, σ3, H3, I3, st3, fr3, w3⟩
  rcases turn i n σ3 H3 w3 with ⟨stop, qn⟩ | ⟨go, N, hN, step⟩
  · refine wpAny_passesOwn hp (thn (T.done X rfl rfl rfl hc i pins s3 σ3 H3 X.xe I3 (stat fr3) st3 stop) fun r s4 ⟨hr, I4⟩ => ?_)
    subst hr
    exact wpAny_execs_nil ⟨σ3, H3, I4, qn⟩
  · refine wpAny_passesOwn hp (thn (T.item X rfl rfl rfl hc i pins s3 σ3 H3 X.xe I3 (stat fr3) st3 go) fun r s4 ⟨u, hr, h4⟩ => ?_)
    subst hr
    refine wpAny_passesOwn hp (thn h4 fun _ s5 ⟨x, H5, I5, r5, y5, st5, fr5⟩ => ?_)
    have I5' := I5.pinned (stat fr5) (T.obj _ _ st5)
    refine wpAny_passesOwn hp (thn (hg _ s5 σ3 H5 x u _ I5' r5 (step x H5 y5)) fun _ s6 ⟨σ6, H6, I6, q6⟩ => ?_)
    refine wpAny_passesOwn hp (thn (hb _ s6 σ6 H6 _ I6 q6) fun f s7 q7 => ?_)
    have again : ∀ {σ7 : St} {H7 : Hp}, Inv X (pins ++ pinsAt fp s5.heap) σ7 H7 s7 → N σ7 H7 → ∃ m, m < n ∧ ∃ i σ' H', Inv X pins σ' H' s7 ∧ tn i s7.heap ∧ (∀ b ∈ fp, H' b = none) ∧ W i m σ' H' := fun {σ7 H7} I7 n7 => by
      obtain ⟨m', hm, w7⟩ := hN σ7 H7 n7
      refine ⟨m', hm, i + 1, σ7, H7, I7.unpinned, T.keep _ _ _ st5 fun b hb o e => (I7.pin (b, o) (List.mem_append_right _ (List.mem_append_right _ (mem_pinsAt hb e)))).1, fun b hb => ?_, w7⟩
      obtain ⟨o, e, d⟩ := T.obj _ _ st5 b hb
      exact (I7.pin (b, o) (List.mem_append_right _ (List.mem_append_right _ (mem_pinsAt hb e)))).2.1
    cases f with
    | next => obtain ⟨σ7, H7, I7, n7⟩ := q7; exact again I7 n7
    | cont => obtain ⟨σ7, H7, I7, n7⟩ := q7; exact again I7 n7
    | brk => obtain ⟨σ7, H7, I7, q7⟩ := q7; exact ⟨σ7, H7, I7.unpinned, q7⟩
    | ret v => obtain ⟨x7, σ7, H7, I7, r7, q7⟩ := q7; exact ⟨x7, σ7, H7, I7.unpinned, r7, q7⟩
end
/-! ### the forms one uses -/
end L2
namespace L2
open PySem PySem.Spec PyProof.Rows
noncomputable abbrev R2 := V → V → Hp → VK → Prop
/-- a two-place operation on values: f is binaryOp op, inplaceOp op or compareOp op -/
noncomputable def OpR (X : Cx) (f : Value → Value → Sem Value) (r : R2) : Prop :=
  ∀ (pins : List (Addr × Obj)) (s : Shared) (σ : St) (H : Hp) (x y : V) (v u : Value) (Q : VK), Inv X pins σ H s → RelV x v → RelV y u → r x y H Q →
    wpAny (model X.prog X.w) X.A (f v u) (EP X pins σ Q) X.xe s
/-- a one-place operation -/
noncomputable def UnR (X : Cx) (f : Value → Sem Value) (r : V → Hp → VK → Prop) : Prop :=
  ∀ (pins : List (Addr × Obj)) (s : Shared) (σ : St) (H : Hp) (x : V) (v : Value) (Q : VK), Inv X pins σ H s → RelV x v → r x H Q →
    wpAny (model X.prog X.w) X.A (f v) (EP X pins σ Q) X.xe s
/-- a call of a value that is known (a builtin, a type) with values -/
noncomputable def CallR (X : Cx) (f : Value) (r : List V → Hp → VK → Prop) : Prop :=
  ∀ (pins : List (Addr × Obj)) (s : Shared) (σ : St) (H : Hp) (xs : List V) (us : List Value) (Q : VK), Inv X pins σ H s → Vals xs us → r xs H Q →
    wpAny (model X.prog X.w) X.A (call f us) (EP X pins σ Q) X.xe s
/-- a value's truth -/
noncomputable def TruR (X : Cx) (r : V → Hp → (Bool → Hp → Prop) → Prop) : Prop :=
  ∀ (pins : List (Addr × Obj)) (s : Shared) (σ : St) (H : Hp) (x : V) (v : Value) (Q : Bool → Hp → Prop), Inv X pins σ H s → RelV x v → r x H Q →
    wpAny (model X.prog X.w) X.A (truthy v) (TP X pins σ Q) X.xe s
noncomputable def tOp (r : R2) (ta tb : TE) : TE := fun σ H Q => ta σ H fun x H1 => tb σ H1 fun y H2 => r x y H2 Q
noncomputable def tUn (r : V → Hp → VK → Prop) (ta : TE) : TE := fun σ H Q => ta σ H fun x H1 => r x H1 Q
/-- ints in, under C, and a value out -/
noncomputable def rI (C : Int → Int → Prop) (g : Int → Int → V) : R2 := fun x y H Q => ∃ i j, x = .int i ∧ y = .int j ∧ C i j ∧ Q (g i j) H
noncomputable def rI0 (g : Int → Int → V) : R2 := fun x y H Q => ∃ i j, x = .int i ∧ y = .int j ∧ Q (g i j) H
noncomputable def rU (g : Int → V) : V → Hp → VK → Prop := fun x H Q => ∃ i, x = .int i ∧ Q (g i) H
section
variable {X : Cx} {a b c : Expr} {ta tb tc : TE} {pos : Pos}
theorem binT (ha : PE X a ta) (hb : PE X b tb) {pins : List (Addr × Obj)} {s : Shared} {σ : St} {H : Hp} {R : V → V → Hp → Prop} (I : Inv X pins σ H s)
    (h : ta σ H fun x H1 => tb σ H1 fun y H2 => R x y H2) {Q : Value → Shared → Prop} {f : Value → Value → Sem Value}
    (hf : ∀ v u s2 x y H2, Inv X pins σ H2 s2 → RelV x v → RelV y u → R x y H2 → wpAny (model X.prog X.w) X.A (f v u) Q X.xe s2) :
    wpAny (model X.prog X.w) X.A (eval a X.env) (fun v s₁ => wpAny (model X.prog X.w) X.A (eval b X.env) (fun u s₂ => wpAny (model X.prog X.w) X.A (f v u) Q X.xe s₂) X.xe s₁) X.xe s := by
  refine thn (ha pins s σ H _ I h) fun v s1 ⟨x, H1, I1, r1, q1⟩ => ?_
  refine thn (hb pins s1 σ H1 _ I1 q1) fun u s2 ⟨y, H2, I2, r2, q2⟩ => ?_
  exact hf v u s2 x y H2 I2 r1 r2 q2
theorem pe_op {op : Operator} {r : R2} (ho : OpR X (binaryOp op) r) (ha : PE X a ta) (hb : PE X b tb) : PE X (.BinOp a op b pos) (tOp r ta tb) := by
  intro pins s σ H Q I h
  exact wpAny_BinOp (binT ha hb I h fun v u s2 x y H2 I2 rx ry q => ho pins s2 σ H2 x y v u Q I2 rx ry q)
theorem pe_un {op : UnaryOp} {r : V → Hp → VK → Prop} (ho : UnR X (unaryOp op) r) (ha : PE X a ta) : PE X (.UnaryOp op a pos) (tUn r ta) := by
  intro pins s σ H Q I h
  exact UnaryOp_ (thn (ha pins s σ H _ I h) fun v s1 ⟨x, H1, I1, r1, q1⟩ => ho pins s1 σ H1 x v Q I1 r1 q1)
/-- a op= e at a name: the name's slot i -/
theorem augR {op : Operator} {r : R2} (ho : OpR X (inplaceOp op) r) {pins : List (Addr × Obj)} {s : Shared} {σ : St} {H : Hp} {x y : V} {v u : Value} {Q : VK} (I : Inv X pins σ H s)
    (rx : RelV x v) (ry : RelV y u) (q : r x y H Q) : wpAny (model X.prog X.w) X.A (inplaceOp op v u) (EP X pins σ Q) X.xe s := ho pins s σ H x y v u Q I rx ry q
/-! ### ints -/
theorem opI {f : Value → Value → Sem Value} {C : Int → Int → Prop} {g : Int → Int → Int}
    (rule : ∀ (i j : Int) (t u : Tok) (s : Shared) (Q : Value → Shared → Prop) (E : Value → Shared → Prop), C i j → Q (.int (g i j) s.toks) { s with toks := s.toks + 1 } → wpAny (model X.prog X.w) X.A (f (.int i t) (.int j u)) Q E s) :
    OpR X f (rI C fun i j => .int (g i j)) := by
  intro pins s σ H x y v u Q I rx ry h
  obtain ⟨i, j, rfl, rfl, hc, q⟩ := h
  obtain ⟨t, rfl⟩ := rx
  obtain ⟨t', rfl⟩ := ry
  exact rule i j t t' s _ _ hc ⟨.int (g i j), H, I.tok _, ⟨_, rfl⟩, q⟩
theorem opI0 {f : Value → Value → Sem Value} {g : Int → Int → Int}
    (rule : ∀ (i j : Int) (t u : Tok) (s : Shared) (Q : Value → Shared → Prop) (E : Value → Shared → Prop), Q (.int (g i j) s.toks) { s with toks := s.toks + 1 } → wpAny (model X.prog X.w) X.A (f (.int i t) (.int j u)) Q E s) :
    OpR X f (rI0 fun i j => .int (g i j)) := by
  intro pins s σ H x y v u Q I rx ry h
  obtain ⟨i, j, rfl, rfl, q⟩ := h
  obtain ⟨t, rfl⟩ := rx
  obtain ⟨t', rfl⟩ := ry
  exact rule i j t t' s _ _ ⟨.int (g i j), H, I.tok _, ⟨_, rfl⟩, q⟩
theorem opB0 {f : Value → Value → Sem Value} {g : Int → Int → Bool}
    (rule : ∀ (i j : Int) (t u : Tok) (s : Shared) (Q : Value → Shared → Prop) (E : Value → Shared → Prop), Q (.bool (g i j)) s → wpAny (model X.prog X.w) X.A (f (.int i t) (.int j u)) Q E s) :
    OpR X f (rI0 fun i j => .bl (g i j)) := by
  intro pins s σ H x y v u Q I rx ry h
  obtain ⟨i, j, rfl, rfl, q⟩ := h
  obtain ⟨t, rfl⟩ := rx
  obtain ⟨t', rfl⟩ := ry
  exact rule i j t t' s _ _ ⟨.bl (g i j), H, I, rfl, q⟩
noncomputable def CMul (i j : Int) : Prop := (-(2 ^ 64) < i ∧ i < 2 ^ 64) ∨ (-(2 ^ 64) < j ∧ j < 2 ^ 64)
theorem CMul.ok {i j : Int} (h : CMul i j) : IntMulOk i j := by
  rcases h with ⟨h1, h2⟩ | ⟨h1, h2⟩
  · exact .of_left (intBits_le_64 h1 h2)
  · exact .of_right (intBits_le_64 h1 h2)
theorem op_add : OpR X (binaryOp .Add) (rI0 fun i j => .int (i + j)) := opI0 fun _ _ _ _ _ _ _ q => add_int q
theorem op_sub : OpR X (binaryOp .Sub) (rI0 fun i j => .int (i - j)) := opI0 fun _ _ _ _ _ _ _ q => sub_int q
theorem iop_add : OpR X (inplaceOp .Add) (rI0 fun i j => .int (i + j)) := opI0 fun _ _ _ _ _ _ _ q => iadd_int q
theorem iop_sub : OpR X (inplaceOp .Sub) (rI0 fun i j => .int (i - j)) := opI0 fun _ _ _ _ _ _ _ q => isub_int q
theorem unI {f : Value → Sem Value} {g : Int → Int}
    (rule : ∀ (i : Int) (t : Tok) (s : Shared) (Q : Value → Shared → Prop) (E : Value → Shared → Prop), Q (.int (g i) s.toks) { s with toks := s.toks + 1 } → wpAny (model X.prog X.w) X.A (f (.int i t)) Q E s) :
    UnR X f (rU fun i => .int (g i)) := by
  intro pins s σ H x v Q I rx h
  obtain ⟨i, rfl, q⟩ := h
  obtain ⟨t, rfl⟩ := rx
  exact rule i t s _ _ ⟨.int (g i), H, I.tok _, ⟨_, rfl⟩, q⟩
theorem un_neg : UnR X (unaryOp .USub) (rU fun i => .int (-i)) := unI fun _ _ _ _ _ q => neg_int q
/-! ### bools among ints: n += (a < b) -/
end
/-! ### comparisons -/
section
variable {X : Cx} {a b c : Expr} {ta tb tc : TE} {pos : Pos}
theorem fin_bl {pins : List (Addr × Obj)} {σ : St} {H : Hp} {s : Shared} {Q : VK} {k k' : Bool} (I : Inv X pins σ H s) (q : Q (.bl k) H) (e : k = k') : EP X pins σ Q (.bool k') s := by
  subst e
  exact ⟨.bl k, H, I, rfl, q⟩
theorem op_lt : OpR X (compareOp .Lt) (rI0 fun i j => .bl (decide (i < j))) := opB0 fun _ _ _ _ _ _ _ q => lt_int q
theorem op_le : OpR X (compareOp .LtE) (rI0 fun i j => .bl (decide (i ≤ j))) := opB0 fun _ _ _ _ _ _ _ q => le_int q
theorem op_gt : OpR X (compareOp .Gt) (rI0 fun i j => .bl (decide (j < i))) := opB0 fun _ _ _ _ _ _ _ q => gt_int q
theorem op_ge : OpR X (compareOp .GtE) (rI0 fun i j => .bl (decide (j ≤ i))) := opB0 fun _ _ _ _ _ _ _ q => ge_int q
/-- is None, is not None: the right side a value none -/
theorem op_isN : OpR X (compareOp .Is) (fun x y H Q => y = .non ∧ Q (.bl (decide (x = .non))) H) := by
  intro pins s σ H x y v u Q I rx ry h
  obtain ⟨rfl, q⟩ := h
  cases ry
  refine is_none_gen (fin_bl I q ?_)
  cases x <;> first
    | (cases rx; rfl)
    | (obtain ⟨t, rfl⟩ := rx; rfl)
theorem op_notN : OpR X (compareOp .IsNot) (fun x y H Q => y = .non ∧ Q (.bl (!decide (x = .non))) H) := by
  intro pins s σ H x y v u Q I rx ry h
  obtain ⟨rfl, q⟩ := h
  cases ry
  refine isnot_none_gen (fin_bl I q ?_)
  cases x <;> first
    | (cases rx; rfl)
    | (obtain ⟨t, rfl⟩ := rx; rfl)
/-- two rules for one operation: by cases -/
theorem OpR.or {f : Value → Value → Sem Value} {r r' : R2} (h : OpR X f r) (h' : OpR X f r') : OpR X f (fun x y H Q => r x y H Q ∨ r' x y H Q) := by
  intro pins s σ H x y v u Q I rx ry q
  rcases q with q | q
  · exact h pins s σ H x y v u Q I rx ry q
  · exact h' pins s σ H x y v u Q I rx ry q
theorem nomark (b : Expr) {op : CmpOp} (h : op ≠ .In := by decide) (h2 : op ≠ .NotIn := by decide) : behindInMarks op b = false := by
  have e1 : (op == CmpOp.In) = false := by cases op <;> first | rfl | exact absurd rfl h
  have e2 : (op == CmpOp.NotIn) = false := by cases op <;> first | rfl | exact absurd rfl h2
  cases b <;> simp [behindInMarks, e1, e2]
/-- a comparison as a value; hm: nomark b, or (for in, not in) by with_unfolding_all rfl -/
theorem pe_cmpR {op : CmpOp} {r : R2} (ho : OpR X (compareOp op) r) (ha : PE X a ta) (hb : PE X b tb) (hm : behindInMarks op b = false) : PE X (.Compare a [op] [b] pos) (tOp r ta tb) := by
  intro pins s σ H Q I h
  exact wpAny_Compare1 (binT ha hb I h fun v u s2 x y H2 I2 rx ry q => ho pins s2 σ H2 x y v u Q I2 rx ry q) hm
/-- a reading of a value as a test -/
noncomputable def tTest (t : TE) : TT := fun σ H Q => t σ H fun x H' => ∃ k, x = .bl k ∧ Q k H'
theorem pt_cmpR {op : CmpOp} {r : R2} (ho : OpR X (compareOp op) r) (ha : PE X a ta) (hb : PE X b tb) (hm : behindInMarks op b = false) : PT X (.Compare a [op] [b] pos) (tTest (tOp r ta tb)) := by
  intro pins s σ H Q I h
  refine wpAny_isTrue_Compare1 (thn (ha pins s σ H _ I h) fun v s1 ⟨x, H1, I1, r1, q1⟩ => thn (hb pins s1 σ H1 _ I1 q1) fun u s2 ⟨y, H2, I2, r2, q2⟩ =>
    thn (ho pins s2 σ H2 x y v u _ I2 r1 r2 q2) fun c s3 ⟨z, H3, I3, r3, k, e, q3⟩ => ?_) hm
  subst e
  cases r3
  exact wpAny_truthy_bool ⟨H3, I3, q3⟩
/-! ### truth -/
/-- a value's truth by the abstract heap -/
noncomputable def TruV (K : PySem.W.Frag) (x : V) (H : Hp) (k : Bool) : Prop :=
  match x with
  | .non => k = false
  | .bl b => k = b
  | .int i => k = (i != 0)
  | .str y => y.length ≤ sizeLine ∧ k = ((y.length : Int) != 0)
  | .byt y => y.size ≤ sizeLine ∧ k = ((y.size : Int) != 0)
  | .ref p => (∃ xs, SqL K H p xs ∧ k = !xs.isEmpty) ∨ (∃ xs, SqT K H p xs ∧ k = !xs.isEmpty) ∨ ∃ kvs, H p = some (.dK kvs) ∧ k = !kvs.isEmpty
  | _ => False
theorem isEmpty_kv {κ : Type} {kvs : List (κ × V)} {vs : List (κ × Value)} (r : KV kvs vs) : (!vs.isEmpty) = !kvs.isEmpty := by
  cases r <;> rfl
theorem isEmpty_of {xs : List V} {its : List Value} (r : Vals xs its) : (!its.toArray.isEmpty) = !xs.isEmpty := by
  cases r <;> simp
theorem line63 : (sizeLine : Nat) < 2 ^ 63 := by rw [sizeLine_eq]; decide
theorem tru_ok : TruR X (fun x H Q => ∃ k, TruV X.K x H k ∧ Q k H) := by
  intro pins s σ H x v Q I rx h
  obtain ⟨k, e, q⟩ := h
  have hl := line63
  have hs : sizeLine = 16777216 := sizeLine_eq
  cases x with
  | non =>
    cases rx
    have e' : k = false := e
    subst e'
    exact truthy_none ⟨H, I, q⟩
  | bl b =>
    cases rx
    have e' : k = b := e
    subst e'
    exact wpAny_truthy_bool ⟨H, I, q⟩
  | int i =>
    obtain ⟨t, rfl⟩ := rx
    have e' : k = (i != 0) := e
    subst e'
    exact PySem.P.truthy_int ⟨H, I, q⟩
  | str y =>
    obtain ⟨t, rfl⟩ := rx
    obtain ⟨hy, e'⟩ : y.length ≤ sizeLine ∧ k = ((y.length : Int) != 0) := e
    subst e'
    exact PySem.P.truthy_str (by omega) ⟨H, I.tok _, q⟩
  | byt y =>
    obtain ⟨t, rfl⟩ := rx
    obtain ⟨hy, e'⟩ : y.size ≤ sizeLine ∧ k = ((y.size : Int) != 0) := e
    subst e'
    exact PySem.W.truthy_bytes (by omega) ⟨H, I.tok _, q⟩
  | ref p =>
    cases rx
    have e' : (∃ xs, SqL X.K H p xs ∧ k = !xs.isEmpty) ∨ (∃ xs, SqT X.K H p xs ∧ k = !xs.isEmpty) ∨ ∃ kvs, H p = some (.dK kvs) ∧ k = !kvs.isEmpty := e
    rcases e' with ⟨xs, hx, e'⟩ | ⟨xs, hx, e'⟩ | ⟨kvs, hx, e'⟩
    · subst e'
      obtain ⟨its, r, pl, hz⟩ := I.list hx
      have hlen := r.length
      exact wpAny_truthy_list pl.isList (by simp only [List.size_toArray]; omega) ⟨H, I.tok _, by rw [isEmpty_of r]; exact q⟩
    · subst e'
      obtain ⟨its, r, pl, hz⟩ := I.tuple hx
      have hlen := r.length
      exact truthy_tuple pl (by simp only [List.size_toArray]; omega) ⟨H, I.tok _, by rw [isEmpty_of r]; exact q⟩
    · subst e'
      obtain ⟨hz, hS, vs, r, m⟩ : kvs.length ≤ sizeLine ∧ (p == sysModules) = false ∧ ∃ vs, KV kvs vs ∧ s.heap.DictOf (mixKind X.prog X.w) p vs := I.hok p _ hx
      have hlen : kvs.length = vs.length := Paired.length r
      exact wpAny_truthy_dict hS m (by omega) ⟨H, I.tok _, by rw [isEmpty_kv r]; exact q⟩
  | _ => exact (show False from e).elim
/-- any expression whose test is its value's truth (a name, a call, a subscript, a field ..: he by fun _ => rfl) -/
theorem pt_truth (ha : PE X a ta) (he : ∀ whole, isTrue a X.env whole = (do let v ← whole; standAt a.pos; holding [v] (truthy v))) :
    PT X a (fun σ H Q => ta σ H fun x H' => ∃ k, TruV X.K x H' k ∧ Q k H') := by
  intro pins s σ H Q I h
  exact isTrue_plain (thn (ha pins s σ H _ I h) fun v s1 ⟨x, H1, I1, r1, q1⟩ => tru_ok pins s1 σ H1 x v Q I1 r1 q1) (he _)
/-! ### strs and bytes -/
/-! ### scalar builtins, by CallR -/
theorem vals1 {x : V} {us : List Value} (r : Vals [x] us) : ∃ u, us = [u] ∧ RelV x u := by
  cases r with
  | cons r1 r2 => cases r2; exact ⟨_, rfl, r1⟩
theorem vals2 {x y : V} {us : List Value} (r : Vals [x, y] us) : ∃ u w', us = [u, w'] ∧ RelV x u ∧ RelV y w' := by
  cases r with
  | cons r1 r2 =>
    cases r2 with
    | cons r3 r4 => cases r4; exact ⟨_, _, rfl, r1, r3⟩
theorem call_min2 (hc : X.calm = true) : CallR X (.builtin "min") (fun xs H Q => ∃ i j, xs = [.int i, .int j] ∧ Q (.int (if j < i then j else i)) H) := by
  intro pins s σ H xs us Q I r h
  obtain ⟨i, j, rfl, q⟩ := h
  obtain ⟨u, w', rfl, ⟨t, rfl⟩, ⟨t', rfl⟩⟩ := vals2 r
  refine min_two_ints (I.ok.hd hc) fun h' tk k => ⟨_, H, I.kept k, ?_, q⟩
  by_cases hj : j < i
  · rw [if_pos hj, if_pos hj]; exact ⟨_, rfl⟩
  · rw [if_neg hj, if_neg hj]; exact ⟨_, rfl⟩
theorem call_int1 : CallR X (.type "int") (fun xs H Q => (∃ i, xs = [.int i] ∧ Q (.int i) H) ∨ ∃ k, xs = [.bl k] ∧ Q (.int (if k then 1 else 0)) H) := by
  intro pins s σ H xs us Q I r h
  rcases h with ⟨i, rfl, q⟩ | ⟨k, rfl, q⟩
  · obtain ⟨u, rfl, t, rfl⟩ := vals1 r
    exact call_int_int ⟨.int i, H, I, ⟨_, rfl⟩, q⟩
  · obtain ⟨u, rfl, r1⟩ := vals1 r
    cases r1
    exact call_int_bool ⟨.int (if k then 1 else 0), H, I.tok _, ⟨_, rfl⟩, q⟩
end
end L2
namespace L2
open PySem PySem.Spec PyProof.Rows
/-! ### an instance, its attributes a map -/
structure ObjM (h : Heap) (x dx C : Addr) (mA : Str → Option Value) : Prop where
  obj : h.get? x = some (PySem.W.instObj C dx)
  ns : h.Ns1 dx mA
  ne : dx ≠ x
theorem lookIn_ns {h : Heap} {dx : Addr} {mA : Str → Option Value} (n : h.Ns1 dx mA) : ∃ od, h.get? dx = some od ∧ ∀ name, PySem.W.lookIn name od = some (mA name) := by
  obtain ⟨o, es, ep, ho, hd, hk, _, hm⟩ := n
  refine ⟨o, ho, fun name => ?_⟩
  have e := hm name
  unfold nsFind findBy at e
  rw [← Array.find?_toList] at e
  unfold PySem.W.lookIn
  rw [hd]
  dsimp only
  split
  · rename_i y q
    rw [q] at e
    exact congrArg some e
  · rename_i q
    rw [q] at e
    have a : es.toList.any (·.refKey) = false := by
      rw [List.any_eq_false]
      intro y hy
      obtain ⟨z, t, hkey⟩ := hk y (Array.mem_toList_iff.mp hy)
      simp [DictEntry.refKey, hkey]
    have a' : ¬ es.toList.any (·.refKey) = true := by rw [a]; exact Bool.false_ne_true
    rw [if_neg a']
    exact congrArg some e
theorem ObjM.look {h : Heap} {x dx C : Addr} {mA : Str → Option Value} (I : ObjM h x dx C mA) : ∃ od, PySem.W.InstAt h x (PySem.W.instObj C dx) C (some od) ∧ ∀ name, PySem.W.lookIn name od = some (mA name) :=
  let ⟨od, ho, hl⟩ := lookIn_ns I.ns
  ⟨od, ⟨I.obj, rfl, rfl, ho⟩, hl⟩
section
variable {prog : Program} {w : World} {A : Around} {E : Value → Shared → Prop} {s : Shared} {K : PySem.W.Frag} {x dx C f : Addr} {mA : Str → Option Value} {name : Str} {v : Value}
end
/-! ### the attributes as a list of pairs -/
theorem RelO.some_of {v : V} {o : Option Value} (r : RelO (some v) o) : ∃ u, o = some u ∧ RelV v u := by
  cases o with
  | none => exact (show False from r).elim
  | some u => exact ⟨u, rfl, r⟩
theorem RelO.none_of {o : Option Value} (r : RelO none o) : o = none := by
  cases o with
  | none => rfl
  | some u => exact (show False from r).elim
section
variable {P : Program} {w : World} {H H' : Hp} {h h' : Heap} {a C dx : Addr} {fs fs' : List (Str × V)}
end
/-! ### what of the text a class must have -/
structure Cls (K : PySem.W.Frag) (C : Addr) : Prop where
  pg : PySem.W.plainGet K C Str.empty = true
  hd : PySem.W.hasDictIn K C = true
  po : PySem.W.plainOver K C = true
  sa : PySem.W.findIn K (.ref C) "__setattr__" = some (some (.builtin "object.__setattr__"))
theorem Cls.get {K : PySem.W.Frag} {C : Addr} (c : Cls K C) (f : Str) : PySem.W.plainGet K C f = true := c.pg
/-- a constant of the class -/
structure Con (K : PySem.W.Frag) (C : Addr) (f : Str) (v : V) (u : Value) : Prop where
  at_ : PySem.W.findIn K (.ref C) f = some (some u)
  rel : RelV v u
  get : PySem.W.specialIn K u "__get__" = some none
  cp : PySem.W.copiedNames.contains f = false
/-- a method: a plain def of the class or of one above it -/
structure Meth (K : PySem.W.Frag) (C : Addr) (m : Str) (f : Addr) : Prop where
  at_ : PySem.W.findIn K (.ref C) m = some (some (.ref f))
  fn : PySem.W.isFn K (.ref f) = true
  kp : PySem.W.keepIn K (.ref f) = true
section
variable {X : Cx} {pins : List (Addr × Obj)} {σ : St} {H : Hp} {s : Shared} {a C dx : Addr} {fs : List (Str × V)} {f : Str} {v : V} {A : Around} {E : Value → Shared → Prop}
/-- a new instance, tracked, without attributes -/
theorem Inv.made (I : Inv X pins σ H s) : Inv X pins σ (upd (upd H s.heap.objs.size (.own (s.heap.objs.size + 1))) (s.heap.objs.size + 1) (.ins C s.heap.objs.size []))
    { s with heap := (s.heap.push PySem.W.emptyDict).push (PySem.W.instObj C s.heap.objs.size) } := by
  have e1 : (s.heap.push PySem.W.emptyDict).get? s.heap.objs.size = some PySem.W.emptyDict := Heap.get?_push_size s.heap rfl
  have e2 : ((s.heap.push PySem.W.emptyDict).push (PySem.W.instObj C s.heap.objs.size)).get? (s.heap.objs.size + 1) = some (PySem.W.instObj C s.heap.objs.size) := by
    have := Heap.get?_push_size (s.heap.push PySem.W.emptyDict) (o := PySem.W.instObj C s.heap.objs.size) rfl
    rwa [Heap.size_push] at this
  have e3 : (s.heap.push PySem.W.emptyDict).Ns s.heap.objs.size (fun _ => none) := ⟨PySem.W.emptyDict, #[], _, e1, rfl, (fun e he => absurd he (by simp)), fun _ => rfl⟩
  have I1 := I.laid (a := s.heap.objs.size) (o := .own (s.heap.objs.size + 1)) (h' := s.heap.push PySem.W.emptyDict) (t' := s.toks) (fun b u q => Heap.get?_push_of_some _ q) (Nat.le_refl _) ⟨_, e1⟩
  refine I1.laid (a := s.heap.objs.size + 1) (o := .ins C s.heap.objs.size []) (t' := s.toks) (fun b u q => Heap.get?_push_of_some _ q) (Nat.le_of_eq (Heap.size_push _ _)) ?_
  have ne : s.heap.objs.size ≠ s.heap.objs.size + 1 := Nat.ne_of_lt (Nat.lt_succ_self _)
  refine ⟨by rw [upd_ne ne, upd_same], Nat.zero_le _, ne, e2, fun _ => none, (Heap.Ns1.of_empty e3).at fun o q => Heap.get?_push_of_some _ q, fun _ => True.intro, fun y hy => absurd rfl hy⟩
end
/-! ### readings and rules -/
section
variable {X : Cx} {o e value : Expr} {f : Str} {pos pos' tpos : Pos} {ta tv : TE}
end
/-! ### isinstance -/
section
variable {X : Cx} {pins : List (Addr × Obj)} {σ : St} {H : Hp} {s : Shared} {A : Around} {E : Value → Shared → Prop} {Q : Value → Shared → Prop} {c : Value} {b : Bool}
/-- the type of a value, as the fragment's deciders take it; for an instance its class -/
inductive TyOf (K : PySem.W.Frag) (H : Hp) : V → Value → Prop where
  | non : TyOf K H .non (.type "NoneType")
  | bl (x : Bool) : TyOf K H (.bl x) (.type "bool")
  | int (i : Int) : TyOf K H (.int i) (.type "int")
  | str (x : Str) : TyOf K H (.str x) (.type "str")
  | flt (x : UInt64) : TyOf K H (.flt x) (.type "float")
  | lst {a : Addr} {xs : List V} (e : H a = some (.lst xs)) : TyOf K H (.ref a) (.type "list")
  | frz {a : Addr} {o : Obj} {xs : List V} (e : H a = some (.frz o (.lst xs))) : TyOf K H (.ref a) (.type "list")
  | tup {a : Addr} {xs : List V} (e : H a = some (.tup xs)) : TyOf K H (.ref a) (.type "tuple")
  | dK {a : Addr} {kvs : List (Key × V)} (e : H a = some (.dK kvs)) : TyOf K H (.ref a) (.type "dict")
  | dT {a : Addr} {kvs : List (List Key × V)} (e : H a = some (.dT kvs)) : TyOf K H (.ref a) (.type "dict")
  | ins {a C dx : Addr} {fs : List (Str × V)} (e : H a = some (.ins C dx fs)) (cl : Cls K C) (ha : PySem.W.findIn K (.ref C) "__class__" = some (some (.builtin "object.__class__")))
      (hn : PySem.W.specialIn K (.builtin "object.__class__") "__get__" = some (some (.builtin "getset_descriptor.__get__"))) (htk : PySem.W.takesIn K (.builtin "object.__class__") = some true)
      (hm : PySem.W.mroIn K C (.type "object") = some true) : TyOf K H (.ref a) (.ref C)
end
end L2
namespace L2
open PySem PySem.Spec PyProof.Rows
/-! ### room -/
structure Room (k : Nat) (A : Around) : Prop where
  hd : A.handled = none
  dp : A.depth + 3 * k + 5 < recursionLimit
  un : A.units + 16 * k + 200 < cLine
theorem Room.mono {j k : Nat} {A : Around} (r : Room k A) (h : j ≤ k) : Room j A := ⟨r.hd, by have := r.dp; omega, by have := r.un; omega⟩
theorem Room.deeper {k : Nat} {A : Around} (r : Room (k + 1) A) (env : Env) : Room k (A.deeper env) :=
  ⟨r.hd, by have := r.dp; show A.depth + 1 + 3 * k + 5 < _; omega, by have := r.un; show A.units + 3 + 16 * k + 200 < _; omega⟩
theorem Room.in1 {k : Nat} {A : Around} (r : Room (k + 1) A) : Room k A.in1 :=
  ⟨r.hd, by have := r.dp; show A.depth + 3 * k + 5 < _; omega, by have := r.un; show A.units + 1 + 16 * k + 200 < _; omega⟩
theorem make_depth {A : Around} {C : Addr} {us : List Value} {kw : List (Str × Value)} : (A.under (.builtin "type.__call__" ⟨.ref C :: us, kw⟩)).depth = A.depth + 1 := by
  first | rfl | simp [Around.under, Code.weight, Code.isCreation, Code.isGuard, Code.isCaller, Code.frames, Code.isFrame, guardIds]
theorem make_units {A : Around} {C : Addr} {us : List Value} {kw : List (Str × Value)} : (A.under (.builtin "type.__call__" ⟨.ref C :: us, kw⟩)).units = A.units + 1 := by
  first | rfl | simp [Around.under, Code.cUnits, Code.frames, Code.isFrame]
theorem Room.make {k : Nat} {A : Around} (r : Room (k + 1) A) (C : Addr) (us : List Value) (kw : List (Str × Value)) : Room k (A.under (.builtin "type.__call__" ⟨.ref C :: us, kw⟩)) :=
  ⟨r.hd, by have := r.dp; rw [make_depth]; omega, by have := r.un; rw [make_units]; omega⟩
theorem Room.depth {k : Nat} {A : Around} (r : Room k A) : A.depth < recursionLimit := by have := r.dp; omega
theorem Room.units {k : Nat} {A : Around} (r : Room k A) : A.units + 64 < cLine := by have := r.un; omega
/-! ### argument lists and displays -/
noncomputable def tNil : TA := fun _ H Q => Q [] H
noncomputable def tCons (ta : TE) (tr : TA) : TA := fun σ H Q => ta σ H fun x H1 => tr σ H1 fun xs H2 => Q (x :: xs) H2
section
variable {X : Cx} {e : Expr} {es : List Expr} {te : TE} {t : TA} {pos : Pos}
theorem pa_nil : PA X [] tNil := fun _ _ _ _ H Q I h => Calls.spliced_nil ⟨[], H, I, .nil, h⟩
theorem pa_cons (ha : PE X e te) (hr : PA X es t) (hs : starEach (e :: es) X.env = (false, eval e X.env) :: starEach es X.env := by rfl) : PA X (e :: es) (tCons te t) := by
  intro pos pins s σ H Q I h
  rw [hs]
  show wpAny _ _ (spliced ((false, eval e X.env) :: backTo pos (starEach es X.env))) _ _ s
  refine Calls.spliced_cons (thn (ha pins s σ H _ I h) fun u s1 ⟨x, H1, I1, r1, q1⟩ => ?_)
  exact thn (hr pos pins s1 σ H1 _ I1 q1) fun us s2 ⟨xs, H2, I2, r2, q2⟩ => ⟨x :: xs, H2, I2, .cons r1 r2, q2⟩
/-- a tuple, a list of written items -/
noncomputable def tTup (t : TA) : TE := fun σ H Q => t σ H fun xs H1 => xs.length ≤ sizeLine ∧ ∀ p, H1 p = none → Q (.ref p) (upd H1 p (.tup xs))
noncomputable def tLst (t : TA) : TE := fun σ H Q => t σ H fun xs H1 => xs.length ≤ sizeLine ∧ ∀ p, H1 p = none → Q (.ref p) (upd H1 p (.lst xs))
theorem pe_tup {x1} (h : PA X es t) : PE X (.Tuple es x1 pos) (tTup t) := by
  intro pins s σ H Q I hq
  refine wpAny_Tuple_spliced (thn (h pos pins s σ H _ I hq) fun us s1 ⟨xs, H1, I1, r, z, q⟩ => ⟨by rw [← r.length]; exact z, ?_⟩)
  have hf : H1 s1.heap.objs.size = none := I1.hok.fresh (Nat.le_refl _)
  refine ⟨.ref s1.heap.objs.size, upd H1 s1.heap.objs.size (.tup xs), I1.laid (t' := s1.toks) (fun b u e => Heap.get?_push_of_some _ e) (Nat.le_refl _) ?_, rfl, q _ hf⟩
  exact ⟨z, us, r, ⟨_, Heap.get?_push_size _ rfl, rfl, _, rfl⟩⟩
theorem pe_lst (h : PA X es t) : PE X (.List es pos) (tLst t) := by
  intro pins s σ H Q I hq
  refine wpAny_List_spliced (thn (h pos pins s σ H _ I hq) fun us s1 ⟨xs, H1, I1, r, z, q⟩ => ⟨by rw [← r.length]; exact z, ?_⟩)
  have hf : H1 s1.heap.objs.size = none := I1.hok.fresh (Nat.le_refl _)
  refine ⟨.ref s1.heap.objs.size, upd H1 s1.heap.objs.size (.lst xs), I1.laid (t' := s1.toks) (fun b u e => Heap.get?_push_of_some _ e) (Nat.le_refl _) ?_, rfl, q _ hf⟩
  exact ⟨z, us, 0, r, Heap.get?_push_size _ rfl⟩
end
/-! ### what a def promises -/
/-- a def's promise: the bound arguments in the parameters' order, the heap, the wanted end, the wanted exception -/
noncomputable abbrev Sp := List V → Hp → VK → XK → Prop
/-- how an exception lies behind a call (file 08 gives it): the callers' frames, abstract heap and state ahead of the call, the wish, the exception, the state -/
noncomputable abbrev CXT := List Env → Hp → Shared → XK → Value → Shared → Prop
/-- the state at a call -/
structure Env0 (P : Program) (w : World) (K : PySem.W.Frag) (mg : Str → Option Value) (base : Heap) (A : Around) (outer : List Env) (s : Shared) (H : Hp) : Prop where
  frames : A.frames = some outer
  mod : Mod K mg base
  bs : ∀ b o, base.get? b = some o → s.heap.get? b = some o ∧ H b = none
  bsz : base.objs.size ≤ s.heap.objs.size
  funs : s.heap.FunFrames base outer
  frf : ∀ b ∈ frs outer, H b = none
  hok : HOk P w H s.heap
  bare : AllBare s.gens
/-- a call's end -/
noncomputable def CE (outer : List Env) (P : Program) (w : World) (H : Hp) (s : Shared) (Q : VK) (u : Value) (s' : Shared) : Prop :=
  ∃ v H', s'.os = s.os ∧ AllBare s'.gens ∧ Un (frs outer) [] H H' s.heap s'.heap ∧ HOk P w H' s'.heap ∧ RelV v u ∧ Q v H'
noncomputable def CR (CX : CXT) (outer : List Env) (P : Program) (w : World) (H : Hp) (s : Shared) (Q : VK) (E : XK) (r : Result) (s' : Shared) : Prop :=
  match r with
  | .ok (.ret u) => CE outer P w H s Q u s'
  | .ok _ => False
  | .error e => CX outer H s E e s'
structure FnOk (P : Program) (w : World) (K : PySem.W.Frag) (mg : Str → Option Value) (base : Heap) (CX : CXT) (k : Nat) (f : Addr) (fd : FuncData) (ps : List Str) (sp : Sp) : Prop where
  len : ∀ vs H Q E, sp vs H Q E → vs.length = ps.length
  run : ∀ (A : Around) (outer : List Env) (s : Shared) (H : Hp) (args : Args) (us : List Value) (vs : List V) (Q : VK) (E : XK), Room k A → Env0 P w K mg base A outer s H → BindsTo s fd args (ps.zip us) → Vals vs us → sp vs H Q E →
    codeAny (model P w) A (.call (.ref f) args) (CR CX outer P w H s Q E) s
theorem FnOk.mono {P : Program} {w : World} {K : PySem.W.Frag} {mg : Str → Option Value} {base : Heap} {CX : CXT} {j k : Nat} {f : Addr} {fd : FuncData} {ps : List Str} {sp : Sp} (F : FnOk P w K mg base CX j f fd ps sp) (h : j ≤ k) :
    FnOk P w K mg base CX k f fd ps sp := ⟨F.len, fun A outer s H args us vs Q E hr => F.run A outer s H args us vs Q E (hr.mono h)⟩
/-- a weaker promise -/
theorem FnOk.imp {P : Program} {w : World} {K : PySem.W.Frag} {mg : Str → Option Value} {base : Heap} {CX : CXT} {k : Nat} {f : Addr} {fd : FuncData} {ps : List Str} {sp sp' : Sp} (F : FnOk P w K mg base CX k f fd ps sp)
    (h : ∀ vs H Q E, sp' vs H Q E → sp vs H Q E) : FnOk P w K mg base CX k f fd ps sp' :=
  ⟨fun vs H Q E q => F.len vs H Q E (h _ _ _ _ q), fun A outer s H args us vs Q E hr he hb hv hs => F.run A outer s H args us vs Q E hr he hb hv (h _ _ _ _ hs)⟩
theorem Env0.make {P : Program} {w : World} {K : PySem.W.Frag} {mg : Str → Option Value} {base : Heap} {A : Around} {outer : List Env} {s : Shared} {H : Hp} (e : Env0 P w K mg base A outer s H) (C : Addr) (us : List Value) (kw : List (Str × Value)) :
    Env0 P w K mg base (A.under (.builtin "type.__call__" ⟨.ref C :: us, kw⟩)) outer s H := ⟨by first | exact e.frames | (simpa [Around.under, Code.envs, Code.isFrame, pushEnvs] using e.frames), e.mod, e.bs, e.bsz, e.funs, e.frf, e.hok, e.bare⟩
theorem Env0.in1 {P : Program} {w : World} {K : PySem.W.Frag} {mg : Str → Option Value} {base : Heap} {A : Around} {outer : List Env} {s : Shared} {H : Hp} (e : Env0 P w K mg base A outer s H) :
    Env0 P w K mg base A.in1 outer s H := ⟨e.frames, e.mod, e.bs, e.bsz, e.funs, e.frf, e.hok, e.bare⟩
section
variable {X : Cx} {pins : List (Addr × Obj)} {σ : St} {H : Hp} {s s' : Shared}
/-- from a body: what a callee wants -/
theorem Inv.env0 (I : Inv X pins σ H s) : Env0 X.prog X.w X.K X.mg X.base X.A X.stack s H :=
  ⟨I.ok.frames, I.ok.mod, I.bs, Nat.le_trans I.ok.bsz I.sz, I.stack, I.stkFree, I.hok, I.bare⟩
/-- behind a call -/
theorem Inv.after {Q : VK} {u : Value} (I : Inv X pins σ H s) (h : CE X.stack X.prog X.w H s Q u s') : EP X pins σ Q u s' := by
  obtain ⟨v, H', os, bare, un, hok, r, q⟩ := h
  obtain ⟨hh, g, d, t, os'⟩ := s'
  obtain rfl : os' = s.os := os
  exact ⟨v, H', I.call (h' := hh) (g' := g) (d' := d) (t' := t) (ch := []) un hok bare (fun b z => absurd z (by simp)), r, q⟩
end
/-! ### calls -/
/-- f(..): the written arguments, then the defaults dvs; E: what is wanted of an exception -/
noncomputable def tCall (sp : Sp) (dvs : List V) (E : XK) (t : TA) : TE := fun σ H Q => t σ H fun vs H1 => sp (vs ++ dvs) H1 Q E
/-- how the parameters are bound: us the positional arguments, kw the keywords' values by name, ds the defaults that fill up -/
noncomputable def Binds (K : PySem.W.Frag) (fd : FuncData) (ps : List Str) (ds : List Value) : Prop :=
  ∀ (s : Shared) (us : List Value), K.In s.heap → (us ++ ds).length = ps.length → BindsTo s fd ⟨us, []⟩ (ps.zip (us ++ ds))
/-- every parameter is given -/
theorem Binds.all {K : PySem.W.Frag} {fd : FuncData} {ps : List Str} (h : ∀ us : List Value, us.length = ps.length → bindArgs fd ⟨us, []⟩ = pure (ps.zip us)) : Binds K fd ps [] := fun s us _ hl => by
  rw [List.append_nil] at hl ⊢
  exact .of_eq (h us hl)
/-- an exception of a callee reaches what this body wants of exceptions -/
noncomputable def Passes (CX : CXT) (X : Cx) (E : XK) : Prop := ∀ (pins : List (Addr × Obj)) (σ : St) (H : Hp) (s : Shared) (e : Value) (s' : Shared), Inv X pins σ H s → CX X.stack H s E e s' → X.xe e s'
section
variable {X : Cx} {CX : CXT} {k : Nat} {f C : Addr} {fd : FuncData} {ps : List Str} {sp : Sp} {dvs : List V} {ds : List Value} {E : XK} {x m : Str} {p pos apos : Pos} {e o : Expr} {es : List Expr} {ta : TE} {t : TA}
/-- the callee runs -/
theorem run_fn {pins : List (Addr × Obj)} {σ : St} {H : Hp} {s : Shared} {Q : VK} {us : List Value} {vs : List V} (F : FnOk X.prog X.w X.K X.mg X.base CX k f fd ps sp) (hr : Room k X.A) (hb : Binds X.K fd ps ds) (hd : Vals dvs ds) (hx : Passes CX X E)
    (I : Inv X pins σ H s) (r : Vals vs us) (h : sp (vs ++ dvs) H Q E) : wpAny (model X.prog X.w) X.A (call (.ref f) us) (EP X pins σ Q) X.xe s := by
  have r2 : Vals (vs ++ dvs) (us ++ ds) := r.append hd
  have hl : (us ++ ds).length = ps.length := by rw [← r2.length]; exact F.len _ _ _ _ h
  refine wpAny_call (codeAny_mono (F.run X.A X.stack s H ⟨us, []⟩ (us ++ ds) (vs ++ dvs) Q E hr I.env0 (hb s us I.kIn hl) r2 h) fun r s' hq => ?_)
  cases r with
  | error e => exact hx pins σ H s e s' I hq
  | ok fl =>
    cases fl with
    | ret u => exact I.after hq
    | next => exact False.elim hq
    | brk => exact False.elim hq
    | cont => exact False.elim hq
theorem pe_call (F : FnOk X.prog X.w X.K X.mg X.base CX k f fd ps sp) (hr : Room k X.A) (hg : Gl X x) (hm : X.mg x = some (.ref f)) (hk : PySem.W.keepIn X.K (.ref f) = true) (hb : Binds X.K fd ps ds) (hd : Vals dvs ds) (hx : Passes CX X E)
    (ha : PA X (e :: es) t) (hdb : (x == ("__debug__" : Str)) = false := by decide) (he : starEach (e :: es) X.env = (false, eval e X.env) :: starEach es X.env := by rfl) (hpl : (backTo pos (starEach es X.env)).any (·.1) = false := by rfl) :
    PE X (.Call (.Name x p) (e :: es) [] pos) (tCall sp dvs E t) := by
  intro pins s σ H Q I h
  refine wpAny_Call_Name_kw (ld_glob I hg hm ?_ hdb)
  refine PySem.W.callWith_K (h₀ := X.base) I.ok.mod.kin hk (thn (ha pos pins s σ H _ I h) fun us s1 ⟨vs, H1, I1, r, q⟩ => ⟨I1.kIn, ?_⟩) he hpl
  exact run_fn F hr hb hd hx I1 r q
theorem pe_call0 (F : FnOk X.prog X.w X.K X.mg X.base CX k f fd ps sp) (hr : Room k X.A) (hg : Gl X x) (hm : X.mg x = some (.ref f)) (hk : PySem.W.keepIn X.K (.ref f) = true) (hb : Binds X.K fd ps ds) (hd : Vals dvs ds) (hx : Passes CX X E)
    (hdb : (x == ("__debug__" : Str)) = false := by decide) : PE X (.Call (.Name x p) [] [] pos) (tCall sp dvs E tNil) := by
  intro pins s σ H Q I h
  refine wpAny_Call_Name_kw (ld_glob I hg hm ?_ hdb)
  exact PySem.W.callWith_K0 I.kIn hk (run_fn (us := []) F hr hb hd hx I .nil h)
/-- what a class must have to be made -/
structure Mk (K : PySem.W.Frag) (C f : Addr) : Prop where
  makes : PySem.W.makesIn K C = true
  init : PySem.W.findIn K (.ref C) "__init__" = some (some (.ref f))
  fn : PySem.W.isFn K (.ref f) = true
  kp : PySem.W.keepIn K (.ref C) = true
end
/-! ### keywords -/
section
variable {X : Cx} {CX : CXT} {k : Nat} {f C : Addr} {fd : FuncData} {ps ks : List Str} {sp : Sp} {E : XK} {x m : Str} {p pos apos kpos : Pos} {e o : Expr} {es : List Expr} {kws : List Keyword} {te ta : TE} {t tk : TA} {nm : Option Str}
/-- how a call with keywords binds: g puts the positional values us and the keywords' values ws (names ks) in the parameters' order, defaults among them -/
structure KBinds (K : PySem.W.Frag) (fd : FuncData) (ps ks : List Str) (g : List Value → List Value → List Value) (gV : List V → List V → List V) : Prop where
  to : ∀ (s : Shared) (us ws : List Value), K.In s.heap → (g us ws).length = ps.length → BindsTo s fd ⟨us, ks.zip ws⟩ (ps.zip (g us ws))
  rel : ∀ {vs : List V} {us : List Value} {zs : List V} {ws : List Value}, Vals vs us → Vals zs ws → Vals (gV vs zs) (g us ws)
variable {g : List Value → List Value → List Value} {gV : List V → List V → List V}
end
/-! ### a def's body keeps its promise -/
/-- names: the parameters first -/
structure FnScope (N P : List Str) (sc : Scope) : Prop where
  kind : sc.kind = .function
  co : sc.isCoroutine = false
  gen : sc.isGenerator = false
  nd : N.Nodup
  pre : N.take P.length = P
  par : ∀ x ∈ P, sc.names.lookup x = some .local ∨ sc.names.lookup x = some .cell
  nofree : ∀ y ∈ sc.names, y.2 ≠ .free
theorem bindL_out {kindOf : Str → Option NameKind} {x : Str} : ∀ {binds : List (Str × Value)} {m : Str → Option Value}, (∀ v, (x, v) ∉ binds) → bindL kindOf binds m x = m x
  | [], _, _ => rfl
  | (n, v) :: r, m, h => by
    unfold bindL
    rw [bindL_out fun w hw => h w (List.mem_cons_of_mem _ hw)]
    split
    · have : x ≠ n := by rintro rfl; exact h v List.mem_cons_self
      simp [this]
    · rfl
theorem bindC_out {kindOf : Str → Option NameKind} {x : Str} : ∀ {binds : List (Str × Value)} {m : Str → Option Value}, (∀ v, (x, v) ∉ binds) → bindC kindOf binds m x = m x
  | [], _, _ => rfl
  | (n, v) :: r, m, h => by
    unfold bindC
    rw [bindC_out fun w hw => h w (List.mem_cons_of_mem _ hw)]
    split
    · rfl
    · have : x ≠ n := by rintro rfl; exact h v List.mem_cons_self
      simp [this]
theorem bindL_get {kindOf : Str → Option NameKind} {x : Str} {v : Value} : ∀ {P : List Str} {vs : List Value} {i : Nat} {m : Str → Option Value}, P.Nodup → P[i]? = some x → vs[i]? = some v → kindOf x = some .local →
    bindL kindOf (P.zip vs) m x = some v
  | [], _, _, _, _, h, _, _ => by simp at h
  | _ :: _, [], _, _, _, _, h, _ => by simp at h
  | p :: P, w :: vs, 0, m, nd, h1, h2, hk => by
    simp at h1 h2; subst h1; subst h2
    show bindL kindOf ((p, w) :: P.zip vs) m p = _
    unfold bindL
    rw [bindL_out fun v hv => (List.nodup_cons.mp nd).1 (List.of_mem_zip hv).1, if_pos hk]
    simp
  | p :: P, w :: vs, i + 1, m, nd, h1, h2, hk => by
    show bindL kindOf ((p, w) :: P.zip vs) m x = _
    unfold bindL
    exact bindL_get (i := i) (List.nodup_cons.mp nd).2 (by simpa using h1) (by simpa using h2) hk
theorem bindC_get {kindOf : Str → Option NameKind} {x : Str} {v : Value} : ∀ {P : List Str} {vs : List Value} {i : Nat} {m : Str → Option Value}, P.Nodup → P[i]? = some x → vs[i]? = some v → kindOf x ≠ some .local →
    bindC kindOf (P.zip vs) m x = some v
  | [], _, _, _, _, h, _, _ => by simp at h
  | _ :: _, [], _, _, _, _, h, _ => by simp at h
  | p :: P, w :: vs, 0, m, nd, h1, h2, hk => by
    simp at h1 h2; subst h1; subst h2
    show bindC kindOf ((p, w) :: P.zip vs) m p = _
    unfold bindC
    rw [bindC_out fun v hv => (List.nodup_cons.mp nd).1 (List.of_mem_zip hv).1, if_neg hk]
    simp
  | p :: P, w :: vs, i + 1, m, nd, h1, h2, hk => by
    show bindC kindOf ((p, w) :: P.zip vs) m x = _
    unfold bindC
    exact bindC_get (i := i) (List.nodup_cons.mp nd).2 (by simpa using h1) (by simpa using h2) hk
/-- the names' values at the entry -/
noncomputable def start (N : List Str) (vs : List V) : St := vs.map some ++ List.replicate (N.length - vs.length) none
/-- the context of a def's body, at its entry; an exception leaves the frame, then lies as CX says -/
noncomputable def cxOf (CX : CXT) (P : Program) (w : World) (K : PySem.W.Frag) (mg : Str → Option Value) (base : Heap) (N : List Str) (qual : Str) (scope : Scope) (f : Addr) (cd : Value) (A : Around) (outer : List Env) (s : Shared) (H : Hp) (E : XK) : Cx where
  prog := P
  w := w
  K := K
  mg := mg
  base := base
  A := A.deeper (envOfC qual scope s.heap.objs.size f cd)
  N := N
  s₀ := s
  H₀ := H
  env := envOfC qual scope s.heap.objs.size f cd
  outer := outer
  stack := envOfC qual scope s.heap.objs.size f cd :: outer
  ex := []
  calm := true
  fn := fun _ => true
  pn := []
  xe := fun e s' => wpAny (model P w) (A.deeper (envOfC qual scope s.heap.objs.size f cd)) (leaving (envOfC qual scope s.heap.objs.size f cd) e) (fun _ s'' => CX outer H s E e s'') (fun e' s'' => CX outer H s E e' s'') s'
theorem cell_has {sc : Scope} {n : Nat} {x : Str} (h : sc.names.lookup x = some .cell) : ∃ c, (cellsFrom n sc.names []).lookup x = some c := by
  have q := PySem.W.cellsFrom_some sc.names n [] (.inl h)
  exact Option.isSome_iff_exists.mp q
theorem inv_start {CX : CXT} {P : Program} {w : World} {K : PySem.W.Frag} {mg : Str → Option Value} {base : Heap} {N ps : List Str} {qual : Str} {scope : Scope} {f : Addr} {cd : Value} {A : Around} {outer : List Env} {s s1 : Shared} {H : Hp} {E : XK} {us : List Value} {vs : List V}
    (S : FnScope N ps scope) (hd : A.handled = none) (e0 : Env0 P w K mg base A outer s H) (hl : vs.length = ps.length) (r : Vals vs us)
    (x : InCallC s s.heap.objs.size (bindL (envOfC qual scope s.heap.objs.size f cd).kindOf (ps.zip us) fun _ => none) (cellsFrom (s.heap.objs.size + 1) scope.names []) (bindC (envOfC qual scope s.heap.objs.size f cd).kindOf (ps.zip us) fun _ => none) s1) :
    Inv (cxOf CX P w K mg base N qual scope f cd A outer s H E) [] (start N vs) H s1 := by
  have hpl : ps.length ≤ N.length := by have := congrArg List.length S.pre; rw [List.length_take] at this; omega
  obtain ⟨h1, tk, rfl, hk⟩ := x.done
  have noA : ∀ b : Addr, b ∉ (cxOf CX P w K mg base N qual scope f cd A outer s H E).ex := fun b z => absurd (show b ∈ ([] : List Addr) from z) (by simp)
  refine ⟨⟨e0.mod, S.kind, rfl, rfl, Nat.le_refl _, fun y z c h1 h2 => ?_, fun y hy => ?_, fun y c _ h => ?_, fun _ => hd, Around.frames_deeper e0.frames, .inr ⟨rfl, rfl⟩, fun b z => absurd z (noA b), e0.bs, e0.bsz, fun b _ _ => noA b, fun b z => absurd z (noA b), e0.funs, e0.frf⟩,
    rfl, e0.bare, Un.kept hk, ⟨_, x.toInCall.ns, fun i y v h1 h2 h3 => ?_⟩, fun y c h => ⟨_, x.cell y c h⟩, e0.hok.fresh (Nat.le_refl _), fun y c h => ?_, fun p hp => absurd (show p ∈ ([] : List (Addr × Obj)) from hp) (by simp), e0.hok.kept hk, ?_⟩
  · exact name_of_addr x.apart (PySem.mem_of_lookup h1) (PySem.mem_of_lookup h2)
  · have hy : scope.names.lookup y = some .cell ∨ scope.names.lookup y = some .free := hy
    rcases hy with hy | hy
    · exact cell_has hy
    · exact absurd rfl (S.nofree _ (PySem.mem_of_lookup hy))
  · exact Nat.le_of_lt (x.above y c (PySem.mem_of_lookup h))
  · have hi : i < vs.length := by
      unfold start at h2
      by_cases hi : i < vs.length
      · exact hi
      · rw [List.getElem?_append_right (by simpa using hi)] at h2
        rw [List.getElem?_replicate] at h2
        split at h2 <;> cases h2
    have ha : vs[i]? = some v := by
      unfold start at h2
      rw [List.getElem?_append_left (by simpa using hi), List.getElem?_map] at h2
      cases e : vs[i]? with
      | none => rw [e] at h2; cases h2
      | some a => rw [e] at h2; cases h2; rfl
    obtain ⟨u, hu, rv⟩ := r.get ha
    have hp : ps[i]? = some y := by
      rw [← S.pre, List.getElem?_take_of_lt (by omega)]; exact h1
    have ndP : ps.Nodup := by rw [← S.pre]; exact S.nd.sublist (List.take_sublist _ _)
    refine ⟨u, rv, ?_⟩
    rcases S.par y (List.mem_of_getElem? hp) with k | k
    · exact .inl ⟨k, bindL_get ndP hp hu k⟩
    · obtain ⟨c, e⟩ := cell_has (n := s.heap.objs.size + 1) k
      refine .inr ⟨.inl k, c, e, ?_⟩
      have q := x.cell y c e
      rw [bindC_get ndP hp hu (by show scope.names.lookup y ≠ _; rw [k]; decide)] at q
      exact q
  · exact e0.hok.fresh (Nat.le_of_lt (x.above y c (PySem.mem_of_lookup h)))
  · unfold start
    show _ = N.length
    rw [List.length_append, List.length_map, List.length_replicate]
    omega
/-- THE RULE: a def (or a method) of the text, by its body. The body's reading t is chosen for each entry; it is run at the parameters' values -/
theorem fn_of {CX : CXT} {P : Program} {w : World} {K : PySem.W.Frag} {mg : Str → Option Value} {base : Heap} {k : Nat} {f : Addr} {name qual : Str} {params : Arguments} {body : List Stmt} {scope : Scope} {dV kV doc pm cdv ct oc : Value} {an od : Option Addr}
    {osl : Array (Option Value)} {N ps : List Str} {sp : Sp} (lk : K.lookup f = some ⟨oc, od, .func (PySem.W.fnOf name qual params body scope dV kV doc pm an cdv ct), osl⟩) (hcd : PySem.W.codeIn K cdv qual = true) (S : FnScope N ps scope)
    (len : ∀ vs H Q E, sp vs H Q E → vs.length = ps.length)
    (hbody : ∀ (A : Around) (outer : List Env) (s : Shared) (H : Hp) (vs : List V) (Q : VK) (E : XK), Room k (A.deeper (envOfC qual scope s.heap.objs.size f cdv)) → sp vs H Q E →
      ∃ t, PSs (cxOf CX P w K mg base N qual scope f cdv A outer s H E) body t ∧ t { nx := fun _ H' => Q .non H', rt := Q } (start N vs) H) :
    FnOk P w K mg base CX (k + 1) f (PySem.W.fnOf name qual params body scope dV kV doc pm an cdv ct) ps sp := by
  refine ⟨len, fun A outer s H args us vs Q E hr e0 hb r hsp => ?_⟩
  have hl := len _ _ _ _ hsp
  have KX : K.In s.heap := e0.mod.kin.keeps fun b o e => (e0.bs b o e).1
  have lim : s.heap.NoLimit := e0.mod.nolimit.keeps fun b o e => (e0.bs b o e).1
  have hkind : ∀ y ∈ ps.zip us, scope.names.lookup y.1 = some .local ∨ (scope.names.lookup y.1 = some .cell ∧ ((cellsFrom (s.heap.objs.size + 1) scope.names []).lookup y.1).isSome = true) := fun ⟨n, v⟩ hy => by
    rcases S.par n (List.of_mem_zip hy).1 with q | q
    · exact .inl q
    · exact .inr ⟨q, PySem.W.cellsFrom_some _ _ _ (.inl q)⟩
  refine codeAny_call_function hr.depth (KX _ _ lk) rfl S.co S.gen rfl (PySem.W.codeRec_of KX hcd) (hb _ _ _ _ ?_)
  refine wpAny_newFunctionEnv_cells S.kind hkind fun env he s1 x => ?_
  subst he
  refine ⟨lim.keeps x.toInCall.keep, codeAny_func ?_⟩
  obtain ⟨t, ht, hq⟩ := hbody A outer s H vs Q E (hr.deeper _) hsp
  have I : Inv (cxOf CX P w K mg base N qual scope f cdv A outer s H E) [] (start N vs) H s1 := inv_start S hr.hd e0 hl r x
  refine wpAny_mono (ht [] s1 (start N vs) H _ I hq) (fun fl s' hs => ?_) fun e s' hs => hs
  have fin : ∀ {σ' : St} {H' : Hp} {v : V} {u : Value}, Inv (cxOf CX P w K mg base N qual scope f cdv A outer s H E) [] σ' H' s' → RelV v u → Q v H' → CE outer P w H s Q u s' :=
    fun {σ' H' v u} J rv q => ⟨v, H', J.os, J.bare, J.base, J.hok, rv, q⟩
  cases fl with
  | ret u =>
    obtain ⟨v, σ', H', J, rv, q⟩ := hs
    exact fin J rv q
  | next =>
    obtain ⟨σ', H', J, q⟩ := hs
    exact fin (v := V.non) (u := Value.none) J rfl q
  | brk =>
    obtain ⟨_, _, _, q⟩ := hs
    exact False.elim q
  | cont =>
    obtain ⟨_, _, _, q⟩ := hs
    exact False.elim q
end L2
namespace L2
open PySem PySem.Spec PyProof.Rows
section
variable {X : Cx} {x : Str} {p pos : Pos} {e : Expr} {es : List Expr} {t : TA} {id T : String} {r : List V → Hp → VK → Prop}
noncomputable def tCB (r : List V → Hp → VK → Prop) (t : TA) : TE := fun σ H Q => t σ H fun vs H1 => r vs H1 Q
/-- f(e, ..), f a built-in function -/
theorem pe_callB (hc : CallR X (.builtin id) r) (hg : Gl X x) (hm : X.mg x = none) (hv : bootBuiltins x = some (.builtin id)) (ha : PA X (e :: es) t) (hn : x ≠ "__name__" := by decide) (hdb : (x == ("__debug__" : Str)) = false := by decide)
    (he : starEach (e :: es) X.env = (false, eval e X.env) :: starEach es X.env := by rfl) (hpl : (backTo pos (starEach es X.env)).any (·.1) = false := by rfl) : PE X (.Call (.Name x p) (e :: es) [] pos) (tCB r t) := by
  intro pins s σ H Q I h
  refine wpAny_Call_Name_kw (ld_blt I hg hm hv ?_ hn hdb)
  exact PyProof.Rows.callWith_builtin1 (thn (ha pos pins s σ H _ I h) fun us s1 ⟨vs, H1, I1, r1, q1⟩ => hc pins s1 σ H1 vs us Q I1 r1 q1) he hpl
/-- T(e, ..), T a built-in type -/
theorem pe_callTy (hc : CallR X (.type T) r) (hg : Gl X x) (hm : X.mg x = none) (hv : bootBuiltins x = some (.type T)) (ha : PA X (e :: es) t) (hn : x ≠ "__name__" := by decide) (hdb : (x == ("__debug__" : Str)) = false := by decide)
    (he : starEach (e :: es) X.env = (false, eval e X.env) :: starEach es X.env := by rfl) (hpl : (backTo pos (starEach es X.env)).any (·.1) = false := by rfl) : PE X (.Call (.Name x p) (e :: es) [] pos) (tCB r t) := by
  intro pins s σ H Q I h
  refine wpAny_Call_Name_kw (ld_blt I hg hm hv ?_ hn hdb)
  exact PyProof.Rows.callWith_type1 (thn (ha pos pins s σ H _ I h) fun us s1 ⟨vs, H1, I1, r1, q1⟩ => hc pins s1 σ H1 vs us Q I1 r1 q1) he hpl
end
end L2
namespace HT
open PySem PyProof.Rows
section
open PySem.SeqAt
open PySem.AutoSeq1 (wpAny_loadPart')
open PySem.MeetsSeq PySem.MeetsSeq2 PySem.MeetsSeq3
end
section
variable {prog : Program} {w : World} {A : Around} {E : Value → Shared → Prop} {s : Shared}
/-! ### t[a:b], not the whole -/
/-- a slice's bound as a place among n (d where it is left out) -/
noncomputable def sIx (n d : Nat) : Option Int → Nat
  | none => d
  | some v => if v < 0 then (v + (n : Int)).toNat else min v.toNat n
theorem sIx_none (n d : Nat) : sIx n d none = d := rfl
theorem sIx_nat (n d k : Nat) : sIx n d (some (k : Int)) = min k n := by
  show (if (k : Int) < 0 then ((k : Int) + (n : Int)).toNat else min (k : Int).toNat n) = min k n
  rw [if_neg (by omega), Int.toNat_natCast]
end
end HT
namespace L2
open PySem PySem.Spec PyProof.Rows
/-! ### the parts of a slice -/
noncomputable abbrev TO := St → Hp → (Option Int → Hp → Prop) → Prop
/-- a slice's part (left out, or an int) -/
noncomputable def PO (X : Cx) (e : Option Expr) (t : TO) : Prop :=
  ∀ (pins : List (Addr × Obj)) (s : Shared) (σ : St) (H : Hp) (Q : Option Int → Hp → Prop), Inv X pins σ H s → t σ H Q →
    wpAny (model X.prog X.w) X.A (evalPart e X.env) (fun u s' => ∃ o H', Inv X pins σ H' s' ∧ IsPart u o ∧ Q o H') X.xe s
noncomputable def tNoPart : TO := fun _ H Q => Q none H
noncomputable def tPart (t : TE) : TO := fun σ H Q => t σ H fun x H1 => ∃ i, x = .int i ∧ Q (some i) H1
theorem intsAre_of {ns : List Int} : ∀ {us : List Value}, Vals (ns.map V.int) us → IntsAre us ns := by
  induction ns with
  | nil => intro us r; rw [List.map_nil] at r; cases r; exact .nil
  | cons n ns ih =>
    intro us r
    rw [List.map_cons] at r
    cases r with
    | cons r1 r2 =>
      obtain ⟨t, e⟩ := r1
      subst e
      exact .cons n t (ih r2)
section
variable {X : Cx} {e : Expr} {te : TE} {lo hi : Option Expr} {tl th : TO} {pos p2 : Pos}
theorem po_none : PO X none tNoPart := by
  intro pins s σ H Q I h
  rw [evalPart_none]
  exact wpAny_pure ⟨none, H, I, .none, h⟩
theorem po_some (h : PE X e te) : PO X (some e) (tPart te) := by
  intro pins s σ H Q I hw
  rw [evalPart_some]
  refine thn (h pins s σ H _ I hw) fun u s1 ⟨x, H1, I1, r1, q1⟩ => ?_
  obtain ⟨i, rfl, q⟩ := q1
  obtain ⟨t, rfl⟩ := r1
  exact ⟨some i, H1, I1, .int i t, q⟩
/-- what a slice of a value is, by values: the slice object stands at sl -/
noncomputable def SlR (X : Cx) (r : V → Option Int → Option Int → Hp → VK → Prop) : Prop :=
  ∀ (pins : List (Addr × Obj)) (s : Shared) (σ : St) (H : Hp) (x : V) (v vl vu : Value) (lo hi : Option Int) (sl : Addr) (Q : VK), Inv X pins σ H s → RelV x v → s.heap.IsSliceOf sl vl vu .none → IsPart vl lo → IsPart vu hi → r x lo hi H Q →
    ∃ T id, typeLookup (.type T) "__getitem__" = pure (some (.builtin id)) ∧ s.TypeIs v T ∧ wpAny (model X.prog X.w) X.A (getItem v (.ref sl)) (EP X pins σ Q) X.xe s
theorem SlR.or {r r' : V → Option Int → Option Int → Hp → VK → Prop} (h : SlR X r) (h' : SlR X r') : SlR X (fun x lo hi H Q => r x lo hi H Q ∨ r' x lo hi H Q) := by
  intro pins s σ H x v vl vu lo hi sl Q I rx hs pl pu q
  rcases q with q | q
  · exact h pins s σ H x v vl vu lo hi sl Q I rx hs pl pu q
  · exact h' pins s σ H x v vl vu lo hi sl Q I rx hs pl pu q
noncomputable def tSl (r : V → Option Int → Option Int → Hp → VK → Prop) (te : TE) (tl th : TO) : TE := fun σ H Q => te σ H fun x H1 => tl σ H1 fun l H2 => th σ H2 fun u H3 => r x l u H3 Q
/-- a[lo:hi], any a -/
theorem pe_slice {r : V → Option Int → Option Int → Hp → VK → Prop} (hr : SlR X r) (he : PE X e te) (hl : PO X lo tl) (hu : PO X hi th) : PE X (.Subscript e (.Slice lo hi none p2) pos) (tSl r te tl th) := by
  intro pins s σ H Q I h
  refine Subscript_ (thn (he pins s σ H _ I h) fun v s1 ⟨x, H1, I1, r1, q1⟩ => ?_)
  refine wpAny_Slice (thn (hl pins s1 σ H1 _ I1 q1) fun vl s2 ⟨l, H2, I2, pl, q2⟩ => thn (hu pins s2 σ H2 _ I2 q2) fun vu s3 ⟨u, H3, I3, pu, q3⟩ => ?_)
  rw [evalPart_none]
  refine wpAny_pure ?_
  have I4 : Inv X pins σ H3 { s3 with heap := s3.heap.push { cls := .type "slice", data := .fields #[vl, vu, .none] } } := I3.kept (t' := s3.toks) fun b ob q => Heap.get?_push_of_some _ q
  obtain ⟨T, id, hT, ht, hg⟩ := hr pins { s3 with heap := s3.heap.push { cls := .type "slice", data := .fields #[vl, vu, .none] } } σ H3 x v vl vu l u s3.heap.objs.size Q I4 r1 (Heap.IsSliceOf.new ..) pl pu q3
  show wpAny (model X.prog X.w) X.A (subscriptTail e (.Slice lo hi none p2) v (.ref s3.heap.objs.size)) (EP X pins σ Q) X.xe { s3 with heap := s3.heap.push { cls := .type "slice", data := .fields #[vl, vu, .none] } }
  exact tail_any (ops := [.ref s3.heap.objs.size, v]) ht hT hg (by with_unfolding_all rfl)
/-- the items of xs[lo:hi] -/
noncomputable def cutV (xs : List V) (lo hi : Option Int) : List V := (xs.drop (HT.sIx xs.length 0 lo)).take (HT.sIx xs.length xs.length hi - HT.sIx xs.length 0 lo)
theorem cutV_length (xs : List V) (lo hi : Option Int) : (cutV xs lo hi).length ≤ xs.length := by
  unfold cutV
  rw [List.length_take, List.length_drop]
  omega
/-! ### t < u, t + u -/
end
end L2
namespace L2
open PySem PySem.Spec PyProof.Rows
/-! ### places -/
/-- the place that an index of any sign means -/
noncomputable def ixN (n : Nat) (i : Int) : Option Nat := if 0 ≤ i then (if i < n then some i.toNat else none) else if -(n : Int) ≤ i then some (i + n).toNat else none
noncomputable def atI {α : Type} (xs : List α) (i : Int) : Option α := (ixN xs.length i).bind fun j => xs[j]?
theorem ixN_seq {n : Nat} {i : Int} {j : Nat} (h : ixN n i = some j) : seqIndex? i n = some j ∧ j < n ∧ -(n : Int) ≤ i ∧ i < n := by
  unfold ixN at h
  by_cases h0 : 0 ≤ i
  · rw [if_pos h0] at h
    by_cases h1 : i < n
    · rw [if_pos h1] at h
      have e : i.toNat = j := Option.some.inj h
      exact ⟨by rw [seqIndex_of h0 h1, e], by omega, by omega, h1⟩
    · rw [if_neg h1] at h; cases h
  · rw [if_neg h0] at h
    by_cases h1 : -(n : Int) ≤ i
    · rw [if_pos h1] at h
      have e : (i + n).toNat = j := Option.some.inj h
      exact ⟨by rw [seqIndex_neg (by omega) h1, e], by omega, h1, by omega⟩
    · rw [if_neg h1] at h; cases h
theorem atI_get {α : Type} {xs : List α} {i : Int} {v : α} (h : atI xs i = some v) : ∃ j, seqIndex? i xs.length = some j ∧ xs[j]? = some v ∧ j < xs.length ∧ -(xs.length : Int) ≤ i ∧ i < xs.length := by
  unfold atI at h
  cases e : ixN xs.length i with
  | none => rw [e] at h; cases h
  | some j =>
    rw [e] at h
    obtain ⟨h1, h2, h3, h4⟩ := ixN_seq e
    exact ⟨j, h1, h, h2, h3, h4⟩
/-! ### what may be subscripted -/
/-- what stands as an index of a plain subscript -/
noncomputable def PlainIx (b : Expr) : Prop := ∀ o i, subscripted b false o i = operate [o, i] (getItem o i)
/-- a subscript by values -/
noncomputable def IxR (X : Cx) (r : R2) : Prop :=
  ∀ (value slice : Expr) (pins : List (Addr × Obj)) (s : Shared) (σ : St) (H : Hp) (x y : V) (v u : Value) (Q : VK), Inv X pins σ H s → RelV x v → RelV y u → r x y H Q →
    subscripted slice false v u = operate [v, u] (getItem v u) → wpAny (model X.prog X.w) X.A (subscriptTail value slice v u) (EP X pins σ Q) X.xe s
/-- a call of a builtin's method by values: the receiver, the arguments -/
noncomputable def MtR (X : Cx) (id : String) (r : V → List V → Hp → VK → Prop) : Prop :=
  ∀ (pins : List (Addr × Obj)) (s : Shared) (σ : St) (H : Hp) (x : V) (xs : List V) (v : Value) (us : List Value) (Q : VK), Inv X pins σ H s → RelV x v → Vals xs us → r x xs H Q →
    wpAny (model X.prog X.w) X.A (call (.builtin id) (v :: us)) (EP X pins σ Q) X.xe s
section
variable {X : Cx} {a b : Expr} {ta tb : TE} {pos : Pos}
theorem IxR.or {r r' : R2} (h : IxR X r) (h' : IxR X r') : IxR X (fun x y H Q => r x y H Q ∨ r' x y H Q) := by
  intro value slice pins s σ H x y v u Q I rx ry q hs
  rcases q with q | q
  · exact h value slice pins s σ H x y v u Q I rx ry q hs
  · exact h' value slice pins s σ H x y v u Q I rx ry q hs
theorem MtR.or {id : String} {r r' : V → List V → Hp → VK → Prop} (h : MtR X id r) (h' : MtR X id r') : MtR X id (fun x xs H Q => r x xs H Q ∨ r' x xs H Q) := by
  intro pins s σ H x xs v us Q I rx rs q
  rcases q with q | q
  · exact h pins s σ H x xs v us Q I rx rs q
  · exact h' pins s σ H x xs v us Q I rx rs q
/-- a[b] -/
theorem pe_ix {r : R2} (hr : IxR X r) (ha : PE X a ta) (hb : PE X b tb) (hs : PlainIx b) : PE X (.Subscript a b pos) (tOp r ta tb) := by
  intro pins s σ H Q I h
  exact Subscript_ (binT ha hb I h fun v u s2 x y H2 I2 rx ry q => hr a b pins s2 σ H2 x y v u Q I2 rx ry q (hs _ _))
noncomputable def rIxL (K : PySem.W.Frag) : R2 := fun x y H Q => ∃ p xs i v, x = .ref p ∧ y = .int i ∧ SqL K H p xs ∧ atI xs i = some v ∧ Q v H
noncomputable def rIxT (K : PySem.W.Frag) : R2 := fun x y H Q => ∃ p xs i v, x = .ref p ∧ y = .int i ∧ SqT K H p xs ∧ atI xs i = some v ∧ Q v H
theorem ix_list : IxR X (rIxL X.K) := by
  intro value slice pins s σ H x y v u Q I rx ry h hs
  obtain ⟨p, xs, i, z, rfl, rfl, hq, he, q⟩ := h
  cases rx
  obtain ⟨t, rfl⟩ := ry
  obtain ⟨its, r, pl, hz⟩ := I.list hq
  obtain ⟨j, h1, h2, h3, h4, h5⟩ := atI_get he
  obtain ⟨w, ew, rw'⟩ := r.get h2
  have hl := r.length
  have hn := line63
  have fin : EP X pins σ Q w s := ⟨z, H, I, rw', q⟩
  by_cases h0 : 0 ≤ i
  · have hj : i.toNat = j := by
      rw [seqIndex_of h0 h5] at h1
      exact Option.some.inj h1
    exact item_listR pl.isList h0 (by omega) (by rw [hj]; simpa using ew) fin hs
  · have hj : (i + (its.toArray.size : Int)).toNat = j := by
      rw [seqIndex_neg (by omega) h4] at h1
      rw [List.size_toArray, ← hl]
      exact Option.some.inj h1
    exact subscriptTail_builtinR (x := w) pl.isList.typeIs slot_list_getitem.lookup
      (wpAny_getItem_list_neg (Q := fun r s' => r = w ∧ EP X pins σ Q r s') pl.isList (by omega) (by rw [List.size_toArray] <;> omega) (by omega) (by rw [hj]; simpa using ew) ⟨rfl, fin⟩) hs
theorem ix_tup : IxR X (rIxT X.K) := by
  intro value slice pins s σ H x y v u Q I rx ry h hs
  obtain ⟨p, xs, i, z, rfl, rfl, hq, he, q⟩ := h
  cases rx
  obtain ⟨t, rfl⟩ := ry
  obtain ⟨its, r, pl, hz⟩ := I.tuple hq
  obtain ⟨j, h1, h2, h3, h4, h5⟩ := atI_get he
  obtain ⟨w, ew, rw'⟩ := r.get h2
  have hl := r.length
  have hn := line63
  have fin : EP X pins σ Q w s := ⟨z, H, I, rw', q⟩
  exact subscriptTail_builtinR (x := w) pl.typeIs slot_tuple_getitem.lookup
    (getItem_tuple (j := j) (Q := fun r s' => r = w ∧ EP X pins σ Q r s') pl (by omega) (by omega) (by rw [List.size_toArray, ← hl]; exact h1) (by simpa using ew) ⟨rfl, fin⟩) hs
/-! ### xs[i] = v, any sign -/
/-- the list's object behind a store -/
theorem mapSeq_set (its : List Value) (n j : Nat) (u : Value) : Obj.mapSeq (·.setIfInBounds j u) { cls := .type "list", data := .seq its.toArray n } = { cls := .type "list", data := .seq (its.set j u).toArray n } := by
  simp [Obj.mapSeq]
theorem Inv.lst {pins : List (Addr × Obj)} {σ : St} {H : Hp} {s : Shared} {p : Addr} {xs : List V} (I : Inv X pins σ H s) (h : H p = some (.lst xs)) :
    ∃ (its : List Value) (n : Nat), Vals xs its ∧ s.heap.get? p = some { cls := .type "list", data := .seq its.toArray n } ∧ xs.length ≤ sizeLine := by
  obtain ⟨z, its, n, r, e⟩ := I.hok p _ h
  exact ⟨its, n, r, e, z⟩
/-- the list at p is written by an update of its object -/
theorem Inv.lstUpd {pins : List (Addr × Obj)} {σ : St} {H : Hp} {s : Shared} {p : Addr} {xs ys : List V} {its its' : List Value} {n n' : Nat} {f : Obj → Obj} (I : Inv X pins σ H s) (h : H p = some (.lst xs))
    (ho : s.heap.get? p = some { cls := .type "list", data := .seq its.toArray n }) (hf : f { cls := .type "list", data := .seq its.toArray n } = { cls := .type "list", data := .seq its'.toArray n' }) (r : Vals ys its') (hz : ys.length ≤ sizeLine) (t : Nat) :
    Inv X pins σ (upd H p (.lst ys)) { s with heap := s.heap.update p f, toks := t } := by
  have e : (s.heap.update p f).get? p = some { cls := .type "list", data := .seq its'.toArray n' } := by
    rw [Heap.get?_update_self f ho (by rw [hf] <;> rfl), hf]
  refine I.write (x := p) (e := p) (by rw [h]; trivial) (.inl rfl) (fun b u hb q => (Heap.get?_update_other _ _ (Ne.symm hb)).trans q) ⟨_, e⟩ ?_
  exact ⟨hz, its', n', r, e⟩
noncomputable def rSetL : V → V → V → Hp → (Hp → Prop) → Prop := fun o i v H Q => ∃ p xs k j, o = .ref p ∧ i = .int k ∧ H p = some (.lst xs) ∧ ixN xs.length k = some j ∧ Q (upd H p (.lst (xs.set j v)))
theorem set_list : PSet X rSetL := by
  intro pins s σ H o i v ov iv u Q I ro ri rv h
  obtain ⟨p, xs, k, j, rfl, rfl, hp, hj, q⟩ := h
  cases ro
  obtain ⟨t, rfl⟩ := ri
  obtain ⟨its, n, r, ho, hz⟩ := I.lst hp
  obtain ⟨h1, h2, h3, h4⟩ := ixN_seq hj
  have hl := r.length
  have hn := line63
  have I' : Inv X pins σ (upd H p (.lst (xs.set j v))) { s with heap := s.heap.update p (Obj.mapSeq (·.setIfInBounds j u)) } :=
    I.lstUpd hp ho (mapSeq_set its n j u) (r.set rv j) (by rw [List.length_set]; exact hz) s.toks
  by_cases h0 : 0 ≤ k
  · have hk : k.toNat = j := by
      rw [seqIndex_of h0 h4] at h1
      exact Option.some.inj h1
    exact PySem.W.ki_setAt ho h0 (by omega) (by rw [List.size_toArray, ← hl]; exact h4) (by rw [hk]; exact ⟨_, I', q⟩)
  · have hk : (k + (its.toArray.size : Int)).toNat = j := by
      rw [seqIndex_neg (by omega) h3] at h1
      rw [List.size_toArray, ← hl]
      exact Option.some.inj h1
    exact PySem.W.ki_setBack ho (by omega) (by rw [List.size_toArray, ← hl]; exact h3) (by omega) (by rw [hk]; exact ⟨_, I', q⟩)
/-! ### slices -/
theorem slice_bounds (lo hi : Option Int) (n : Nat) : (sliceBounds lo hi none n).1 = ((HT.sIx n 0 lo : Nat) : Int) ∧ (sliceBounds lo hi none n).2.1 = ((HT.sIx n n hi : Nat) : Int) ∧ (sliceBounds lo hi none n).2.2 = 1 := by
  refine ⟨?_, ?_, rfl⟩
  · cases lo with
    | none => simp [sliceBounds, HT.sIx]
    | some i =>
      simp only [sliceBounds, HT.sIx, Option.getD_none, show (1 : Int) > 0 by decide, if_true]
      by_cases h : i < 0
      · simp only [h, if_true] <;> omega
      · simp only [h, if_false] <;> omega
  · cases hi with
    | none => simp [sliceBounds, HT.sIx]
    | some i =>
      simp only [sliceBounds, HT.sIx, Option.getD_none, show (1 : Int) > 0 by decide, if_true]
      by_cases h : i < 0
      · simp only [h, if_true] <;> omega
      · simp only [h, if_false] <;> omega
theorem slicePick_cut (its : List Value) (lo hi : Option Int) : slicePick its.toArray lo hi none = ((its.drop (HT.sIx its.length 0 lo)).take (HT.sIx its.length its.length hi - HT.sIx its.length 0 lo)).toArray := by
  obtain ⟨h1, h2, h3⟩ := slice_bounds lo hi its.toArray.size
  unfold slicePick
  rw [h1, h2, h3]
  simp only [sliceRange_one, pick_run, List.size_toArray] <;> rfl
/-- xs[lo:hi] of a list: a new list -/
noncomputable def rSlL (K : PySem.W.Frag) : V → Option Int → Option Int → Hp → VK → Prop := fun x lo hi H Q => ∃ a xs, x = .ref a ∧ SqL K H a xs ∧ ∀ p, H p = none → Q (.ref p) (upd H p (.lst (cutV xs lo hi)))
theorem sl_list : SlR X (rSlL X.K) := by
  intro pins s σ H x v vl vu lo hi sl Q I rx hs pl pu h
  obtain ⟨a, xs, rfl, hx, q⟩ := h
  cases rx
  obtain ⟨its, r, ht, hz⟩ := I.list hx
  have hlen := r.length
  refine ⟨"list", _, slot_list_getitem.lookup, ht.isList.typeIs, ?_⟩
  refine wpAny_getItem_list_slice ht.isList hs pl pu .none (by simp) ?_ (by rw [List.size_toArray] <;> omega)
  rw [slicePick_cut, ← hlen]
  refine ⟨.ref s.heap.objs.size, _, I.laid (t' := s.toks) (o := .lst (cutV xs lo hi)) (fun b ob q => Heap.get?_push_of_some _ q) (Nat.le_refl _) ?_, rfl, q _ (I.hok.fresh (Nat.le_refl _))⟩
  exact ⟨Nat.le_trans (cutV_length xs lo hi) hz, _, 0, (r.drop (HT.sIx xs.length 0 lo)).take (HT.sIx xs.length xs.length hi - HT.sIx xs.length 0 lo), Heap.get?_push_size _ rfl⟩
/-! ### in, not in: flat items -/
/-! ### len, list(x), tuple(x) of any list or tuple that is read -/
theorem call_len_seq : CallR X (.builtin "len") (fun xs H Q => ∃ p ys, xs = [.ref p] ∧ (SqL X.K H p ys ∨ SqT X.K H p ys) ∧ Q (.int ys.length) H) := by
  intro pins s σ H xs us Q I r h
  obtain ⟨p, ys, rfl, hq, q⟩ := h
  obtain ⟨u, rfl, rx⟩ := vals1 r
  cases rx
  have hn := line63
  rcases hq with hq | hq
  · obtain ⟨its, r', pl, hz⟩ := I.list hq
    have hlen := r'.length
    exact Calls.call_len_list pl.isList (by simp only [List.size_toArray] <;> omega) ⟨.int ys.length, H, I.tok _, ⟨s.toks + 1, by rw [List.size_toArray, hlen]⟩, q⟩
  · obtain ⟨its, r', pl, hz⟩ := I.tuple hq
    have hlen := r'.length
    exact len_tuple pl (by simp only [List.size_toArray] <;> omega) ⟨.int ys.length, H, I.tok _, ⟨s.toks + 1, by rw [List.size_toArray, hlen]⟩, q⟩
theorem CallR.or {f : Value} {r r' : List V → Hp → VK → Prop} (h : CallR X f r) (h' : CallR X f r') : CallR X f (fun xs H Q => r xs H Q ∨ r' xs H Q) := by
  intro pins s σ H xs us Q I rs q
  rcases q with q | q
  · exact h pins s σ H xs us Q I rs q
  · exact h' pins s σ H xs us Q I rs q
theorem call_list_of : CallR X (.type "list") (fun xs H Q => ∃ p ys, xs = [.ref p] ∧ (SqL X.K H p ys ∨ SqT X.K H p ys) ∧ ∀ l, H l = none → Q (.ref l) (upd H l (.lst ys))) := by
  intro pins s σ H xs us Q I r h
  obtain ⟨p, ys, rfl, hq, q⟩ := h
  obtain ⟨u, rfl, rx⟩ := vals1 r
  cases rx
  have fin : ∀ (its : List Value), Vals ys its → ys.length ≤ sizeLine → ∀ (h' : Heap) (c' : Nat), (∀ b o', s.heap.get? b = some o' → h'.get? b = some o') →
      h'.get? s.heap.objs.size = some { cls := .type "list", dict := none, data := .seq its.toArray c', slots := #[] } → EP X pins σ Q (.ref s.heap.objs.size) { s with heap := h' } := fun its r' hz h' c' kp e =>
    ⟨.ref s.heap.objs.size, _, I.laid (t' := s.toks) kp (Nat.le_refl _) (show ObjOk X.prog X.w _ h' _ (.lst ys) from ⟨hz, its, c', r', e⟩), rfl, q _ (I.hok.fresh (Nat.le_refl _))⟩
  rcases hq with hq | hq
  · obtain ⟨its, r', pl, hz⟩ := I.list hq
    have hlen := r'.length
    obtain ⟨o, ho, hc, n, hd⟩ := pl.isList
    exact call_list_seq p (.inl rfl) ho hc hd (fun h' c' kp e => fin its r' hz h' c' kp e) (by simp only [List.size_toArray] <;> omega)
  · obtain ⟨its, r', pl, hz⟩ := I.tuple hq
    have hlen := r'.length
    obtain ⟨o, ho, hc, n, hd⟩ := pl
    exact call_list_seq p (.inr rfl) ho hc hd (fun h' c' kp e => fin its r' hz h' c' kp e) (by simp only [List.size_toArray] <;> omega)
/-! ### the call of a builtin's method: o.m(..) -/
/-- the value is of that builtin type -/
noncomputable def tyV (K : PySem.W.Frag) (T : String) (x : V) (H : Hp) : Prop := match x with
  | .str _ => T = "str"
  | .int _ => T = "int"
  | .ref p => (T = "list" ∧ ∃ xs, SqL K H p xs) ∨ (T = "tuple" ∧ ∃ o, K.lookup p = some o ∧ o.cls = .type "tuple" ∧ o.dict = none) ∨
      (T = "dict" ∧ ((∃ kvs, H p = some (.dK kvs)) ∨ ∃ kvs, H p = some (.dT kvs))) ∨ (T = "set" ∧ ∃ S n, H p = some (.set S n))
  | _ => False
theorem tyV_is {pins : List (Addr × Obj)} {σ : St} {H : Hp} {s : Shared} {T : String} {x : V} {v : Value} (I : Inv X pins σ H s) (r : RelV x v) (ty : tyV X.K T x H) :
    s.TypeIs v T ∧ ∀ a, v = .ref a → ∃ ob, s.heap.get? a = some ob ∧ ob.dict = none := by
  cases x with
  | str z =>
    obtain ⟨t, rfl⟩ := r
    cases (show T = "str" from ty)
    exact ⟨typeIs_str s z t, fun _ e => nomatch e⟩
  | int i =>
    obtain ⟨t, rfl⟩ := r
    cases (show T = "int" from ty)
    exact ⟨typeIs_int s i t, fun _ e => nomatch e⟩
  | ref p =>
    cases r
    rcases ty with ⟨rfl, xs, hq⟩ | ⟨rfl, o, hk, hc, hd⟩ | ⟨rfl, hk⟩ | ⟨rfl, S, n, hk⟩
    · obtain ⟨its, _, pl, _⟩ := I.list hq
      refine ⟨pl.isList.typeIs, fun a e => ?_⟩
      cases e
      obtain ⟨o, n, e, c, hd, _⟩ := pl
      exact ⟨o, e, hd⟩
    · refine ⟨⟨o, I.kIn p o hk, hc⟩, fun a e => ?_⟩
      cases e
      exact ⟨o, I.kIn _ o hk, hd⟩
    · have z : ∃ o, s.heap.get? p = some o ∧ o.ExactDict := by
        rcases hk with ⟨kvs, hk⟩ | ⟨kvs, hk⟩
        · obtain ⟨_, _, _, _, o, _, _, e, ex, _⟩ := I.hok p _ hk
          exact ⟨o, e, ex⟩
        · obtain ⟨_, _, _, _, o, _, _, e, ex, _⟩ := I.hok p _ hk
          exact ⟨o, e, ex⟩
      obtain ⟨o, e, ex⟩ := z
      refine ⟨⟨o, e, ex.1⟩, fun a e2 => ?_⟩
      cases e2
      exact ⟨o, e, ex.2.1⟩
    · obtain ⟨o, _, _, _, e, ex, _⟩ := I.hok p _ hk
      refine ⟨⟨o, e, ex.1⟩, fun a e2 => ?_⟩
      cases e2
      exact ⟨o, e, ex.2.1⟩
  | _ => exact False.elim ty
noncomputable def tBM0 (K : PySem.W.Frag) (T : String) (r : V → List V → Hp → VK → Prop) (to : TE) : TE := fun σ H Q => to σ H fun x H1 => tyV K T x H1 ∧ r x [] H1 Q
noncomputable def tBM (K : PySem.W.Frag) (T : String) (r : V → List V → Hp → VK → Prop) (to : TE) (t : TA) : TE := fun σ H Q => to σ H fun x H1 => tyV K T x H1 ∧ t σ H1 fun xs H2 => r x xs H2 Q
variable {o e : Expr} {es : List Expr} {to : TE} {t : TA} {name : Str} {apos cpos : Pos} {T id : String} {r : V → List V → Hp → VK → Prop}
theorem pe_bm0 (pa : PlainAttrs T) (slot : Slot T name id) (hty : typeOf (.builtin id) = pure (.type "method_descriptor")) (hm : MtR X id r) (ho : PE X o to)
    (hbase : attributeBase o name X.env (eval o X.env) = eval o X.env := by rfl) (hline : (apos.endLine == cpos.line) = true := by rfl) : PE X (.Call (.Attribute o name apos) [] [] cpos) (tBM0 X.K T r to) := by
  intro pins s σ H Q I h
  refine wpAny_Call_method0_late hbase hline (thn (ho pins s σ H _ I h) fun v s1 ⟨x, H1, I1, r1, ty, q1⟩ => ?_)
  obtain ⟨h1, h2⟩ := tyV_is I1 r1 ty
  exact ⟨T, id, pa, slot, hty, h1, h2, Calls.callWith_builtin rfl (PySem.evalArgs_none (hm pins s1 σ H1 x [] v [] Q I1 r1 .nil q1))⟩
theorem pe_bm (pa : PlainAttrs T) (slot : Slot T name id) (hty : typeOf (.builtin id) = pure (.type "method_descriptor")) (hm : MtR X id r) (ho : PE X o to) (ha : PA X (e :: es) t)
    (hbase : attributeBase o name X.env (eval o X.env) = eval o X.env := by rfl)
    (hfew : ((backTo cpos (starEach (e :: es) X.env)).all (fun x => !x.1) && (backToKw cpos (keywordEach [] X.env)).all (fun x => x.1.isSome)
      && decide ((e :: es).length + ([] : List Keyword).length + (if ([] : List Keyword).isEmpty then 0 else 1) < 30)) = true := by rfl)
    (hline : (apos.endLine == cpos.line) = true := by rfl) (hs : starEach (e :: es) X.env = (false, eval e X.env) :: starEach es X.env := by rfl) (hplain : (backTo cpos (starEach es X.env)).any (·.1) = false := by rfl) :
    PE X (.Call (.Attribute o name apos) (e :: es) [] cpos) (tBM X.K T r to t) := by
  intro pins s σ H Q I h
  refine wpAny_Call_method_late hbase hfew hline rfl (thn (ho pins s σ H _ I h) fun v s1 ⟨x, H1, I1, r1, ty, q1⟩ => ?_)
  obtain ⟨h1, h2⟩ := tyV_is I1 r1 ty
  refine ⟨T, id, pa, slot, hty, h1, h2, ?_⟩
  have hA := ha cpos pins s1 σ H1 _ I1 q1
  rw [hs] at hA ⊢
  refine Calls.callWith_builtin (by show (false || (backTo cpos (starEach es X.env)).any (·.1)) = false; rw [hplain] <;> rfl) (Calls.evalArgs_plain ?_)
  exact thn hA fun us s2 ⟨vs, H2, I2, r2, q2⟩ => hm pins s2 σ H2 x vs v us Q I2 r1 r2 q2
/- xs.append(e), list.index on a module's tuple .. are MtR facts of 06m -/
end
end L2
namespace L2
open PySem PySem.Spec PyProof.Rows
noncomputable def MtM (X : Cx) (id : String) (r : V → List V → Hp → VK → Prop) : Prop :=
  ∀ (pins : List (Addr × Obj)) (s : Shared) (σ : St) (H : Hp) (x : V) (xs : List V) (v : Value) (us : List Value) (Q : VK), Inv X pins σ H s → RelV x v → Vals xs us → r x xs H Q →
    wpAny (model X.prog X.w) X.A (call (.builtin id) (v :: us)) (EP X pins σ Q) X.xe s
/-! ### lists of values -/
theorem Vals.one : ∀ {x : V} {us : List Value}, Vals [x] us → ∃ u, us = [u] ∧ RelV x u
  | _, _, .cons r .nil => ⟨_, rfl, r⟩
theorem Vals.two : ∀ {x y : V} {us : List Value}, Vals [x, y] us → ∃ u v, us = [u, v] ∧ RelV x u ∧ RelV y v
  | _, _, _, .cons r (.cons q .nil) => ⟨_, _, rfl, r, q⟩
theorem Vals.zero : ∀ {us : List Value}, Vals [] us → us = []
  | _, .nil => rfl
theorem Vals.eraseIdx : ∀ {xs : List V} {us : List Value} (i : Nat), Vals xs us → Vals (xs.eraseIdx i) (us.eraseIdx i)
  | _, _, _, .nil => .nil
  | _, _, 0, .cons _ t => t
  | _, _, i + 1, .cons r t => .cons r (Vals.eraseIdx i t)
theorem Vals.reverse {xs : List V} {us : List Value} (h : Vals xs us) : Vals xs.reverse us.reverse := by
  induction h with
  | nil => exact .nil
  | cons r t ih => rw [List.reverse_cons, List.reverse_cons]; exact Vals.append ih (.cons r .nil)
theorem Vals.rep {xs : List V} {us : List Value} (h : Vals xs us) : ∀ k : Nat, Vals (List.replicate k xs).flatten (List.replicate k us).flatten
  | 0 => .nil
  | k + 1 => by
    rw [List.replicate_succ, List.replicate_succ, List.flatten_cons, List.flatten_cons]
    exact Vals.append h (Vals.rep h k)
theorem foldl_rep (its : List Value) : ∀ (k : Nat) (acc : List Value),
    List.foldl (fun x1 x2 => x1 ++ x2) acc.toArray (List.replicate k its.toArray) = (acc ++ (List.replicate k its).flatten).toArray
  | 0, acc => by simp
  | k + 1, acc => by
    have e : acc.toArray ++ its.toArray = (acc ++ its).toArray := by simp
    have e2 : (acc ++ its) ++ (List.replicate k its).flatten = acc ++ (List.replicate (k + 1) its).flatten := by
      rw [List.replicate_succ, List.flatten_cons, List.append_assoc]
    rw [← e2, ← foldl_rep its k (acc ++ its), ← e, List.replicate_succ, List.foldl_cons]
section
variable {X : Cx} {pins : List (Addr × Obj)} {σ : St} {H : Hp} {s : Shared} {l b : Addr} {xs ys zs : List V}
/-! ### the two steps: a tracked list is rewritten, a new list is laid -/
theorem Inv.lset {its its' : List Value} {n : Nat} {f : Array Value → Array Value} {t' : Nat} (I : Inv X pins σ H s) (hH : H l = some (.lst xs))
    (e : s.heap.get? l = some { cls := .type "list", data := .seq its.toArray n }) (hf : f its.toArray = its'.toArray) (hv : Vals ys its') (hz : ys.length ≤ sizeLine) :
    Inv X pins σ (upd H l (.lst ys)) { s with heap := s.heap.update l (Obj.mapSeq f), toks := t' } := by
  have q := PySem.IsL.update e f
  rw [hf] at q
  refine I.write (x := l) (e := l) (by rw [hH]; exact trivial) (.inl rfl) (fun b' u hb hu => (Heap.get?_update_other s.heap (Obj.mapSeq f) (Ne.symm hb)).trans hu) ⟨_, q⟩ ?_
  exact ⟨hz, its', _, hv, q⟩
theorem Inv.lnew {its : List Value} {t' : Nat} (I : Inv X pins σ H s) (hv : Vals ys its) (hz : ys.length ≤ sizeLine) :
    Inv X pins σ (upd H s.heap.objs.size (.lst ys)) { s with heap := s.heap.push { cls := .type "list", data := .seq its.toArray }, toks := t' } :=
  I.laid (fun _ _ q => Heap.get?_push_of_some _ q) (Nat.le_refl _) ⟨hz, its, 0, hv, Heap.get?_push_size _ rfl⟩
theorem Inv.fresh (I : Inv X pins σ H s) : H s.heap.objs.size = none := I.hok.fresh (Nat.le_refl _)
theorem Inv.lstM (I : Inv X pins σ H s) (hH : H l = some (.lst xs)) : xs.length ≤ sizeLine ∧ ∃ (its : List Value) (n : Nat), Vals xs its ∧ xs.length = its.length ∧ s.heap.get? l = some { cls := .type "list", data := .seq its.toArray n } := by
  obtain ⟨z, its, n, r, e⟩ := I.hok l _ hH
  exact ⟨z, its, n, r, r.length, e⟩
theorem notLongL {n : Nat} (h : n ≤ sizeLine) : Builtin.List.listTooLong n = false := by
  unfold Builtin.List.listTooLong
  exact decide_eq_false (by omega)
end
section
variable {X : Cx}
/-! ### methods -/
noncomputable def rAppend : V → List V → Hp → VK → Prop := fun x vs H Q => ∃ l xs y, x = .ref l ∧ vs = [y] ∧ H l = some (.lst xs) ∧ xs.length < sizeLine ∧ Q .non (upd H l (.lst (xs ++ [y])))
theorem mt_append : MtM X "list.append" rAppend := by
  intro pins s σ H x vs v us Q I rx rv h
  obtain ⟨l, xs, y, rfl, rfl, hH, hz, q⟩ := h
  cases rx
  obtain ⟨u, rfl, ru⟩ := rv.one
  obtain ⟨z, its, n, r, hl, e⟩ := I.lstM hH
  refine call_meets F.slot_list_append ⟨_, e, rfl⟩ F.entry_list_append (F.args_list_append_2 _ _) (PySem.list_append l its.toArray n u (by rw [List.size_toArray]; omega)) ⟨e, ?_⟩
  refine ⟨.non, _, I.lset (its' := its ++ [u]) hH e (by simp) (r.append (.cons ru .nil)) ?_, rfl, q⟩
  rw [List.length_append, List.length_singleton]
  omega
noncomputable def rClear : V → List V → Hp → VK → Prop := fun x vs H Q => ∃ l xs, x = .ref l ∧ vs = [] ∧ H l = some (.lst xs) ∧ Q .non (upd H l (.lst []))
theorem mt_clear : MtM X "list.clear" rClear := by
  intro pins s σ H x vs v us Q I rx rv h
  obtain ⟨l, xs, rfl, rfl, hH, q⟩ := h
  cases rx
  have hus := rv.zero
  subst hus
  obtain ⟨z, its, n, r, hl, e⟩ := I.lstM hH
  refine call_meets F.slot_list_clear ⟨_, e, rfl⟩ F.entry_list_clear (F.args_list_clear_1 _) (AutoSeq1.list_clear_list_0 l its.toArray n (by rw [List.size_toArray]; omega)) ⟨e, ?_⟩
  exact ⟨.non, _, I.lset (its' := []) (ys := []) hH e rfl .nil (Nat.zero_le _), rfl, q⟩
/-! ### list + list, list += list, list * int -/
theorem len_rep {α : Type} (xs : List α) (k : Nat) : (List.replicate k xs).flatten.length = k * xs.length := by
  induction k with
  | zero => simp
  | succ k ih => rw [List.replicate_succ, List.flatten_cons, List.length_append, ih, Nat.succ_mul, Nat.add_comm]
/-! ### del xs[i] -/
end
/-! ### xs[a:b] = ys -/
section
variable {prog : Program} {w : World} {A : Around} {E : Value → Shared → Prop} {s : Shared}
end
section
variable {X : Cx}
end
end L2
namespace Att
open PySem PySem.W PySem.Calls PyProof.Rows
/-! ### the script -/
theorem ints_of_wellAll {P : Params} {h : Heap} : ∀ (ns : List Int) (vs : List Value), WellAll P h vs (ns.map WData.int) → IntsAre vs ns := by
  intro ns
  induction ns with
  | nil =>
    intro vs w
    rw [List.map_nil] at w
    cases w
    exact .nil
  | cons n ns ih =>
    intro vs w
    rw [List.map_cons] at w
    cases w with
    | cons a b =>
      cases a
      exact .cons _ _ (ih _ b)
theorem script_of {l : OpenLaw} {n : Nat} (hn : l.most = some n) {P : Params} {h : Heap} {args : List WData} {vals : List Value}
    (hpre : l.row.toRowW.claim.pre args = true) (hwl : WellAll P h vals args) :
    ∃ a vs ns, vals = [Value.ref a] ∧ args = [WData.list (ns.map WData.int)] ∧ h.get? a = some { cls := .type "list", data := .seq vs.toArray } ∧ IntsAre vs ns ∧ ns.length ≤ n := by
  have hsh : WShape.hasAll [] args [.list .int] = true := (pre_splitW hpre).1
  have hc : l.pre.holds [] { args := args } = true := (pre_splitW hpre).2
  obtain ⟨d, r, rfl, h1, h2⟩ := hasAllW_cons hsh
  obtain rfl := hasAllW_nil h2
  obtain ⟨xs, rfl, h3⟩ := hasW_list h1
  obtain ⟨ns, rfl⟩ := items_int h3
  have hlen : ns.length ≤ n := by
    unfold OpenLaw.pre at hc
    have h4 : (WTm.not (.lt (.lit (.int (n : Int))) (.len (.arg 0)))).holds [] { args := [.list (ns.map .int)] } = true := by
      have h4 := (holds_andW hc).1
      rw [hn] at h4
      exact h4
    have h5 := condW_of h4 (w_not (w_lt w_lit (w_len_list (w_arg rfl))))
    rw [List.length_map] at h5
    refine Nat.le_of_not_lt fun q => ?_
    have q' : (n : Int) < ((ns.length : Nat) : Int) := by omega
    first
      | (rw [decide_eq_true q'] at h5; exact absurd h5 (by decide))
      | (simp at h5; omega)
  cases hwl with
  | cons w1 w2 =>
    cases w2
    cases w1 with
    | list ho hall => exact ⟨_, _, ns, rfl, rfl, ho, ints_of_wellAll ns _ hall, hlen⟩
theorem post_true (l : OpenLaw) (args : List WData) : l.row.toRowW.claim.post args (.bool true) args = true :=
  postW_of (r := l.row.toRowW) (X := (true == true))
    (show WShape.has [] (.bool true) .bool = true by first | rfl | decide | simp [WShape.has, WShape.arms, WShape.armsAll])
    (show (WTm.eq .res (.lit (.bool true))).value [] { args := args, res := some (.bool true), after := args } = some (.bool (true == true)) from w_eq_bool (w_res rfl) w_lit) rfl
/-! ### the attachment: holds_open's last premise (the goal 'hc' behind k_head) from a wpAny of the law's body -/
/-- the same from a codeAny of the CALL (for a layer whose function contracts speak of calls) -/
theorem attach_call {l : OpenLaw} {n : Nat} {q : Program} {loose : List Str} {XP : (Str → Option Value) → Heap → Prop} {YP : World → Heap → Prop} {d : DefRec}
    (hn : l.most = some n) (hdf : d.params.defaults = [])
    (call : ∀ (w : World) (s₀ s₁ : Shared) (mg mb : Str → Option Value) (fa : Addr) (o : Obj) (pm cd doc : Value) (a : Addr) (vs : List Value) (ns : List Int),
      Ground q loose [] XP w s₀ mg mb s₁.heap → YP w s₁.heap →
      s₁.heap.get? fa = some o → o.data = .func (docDef d.name d.params d.body d.scope pm cd doc) → s₁.heap.CodeRec cd d.name → mg d.name = some (.ref fa) →
      s₁.heap.get? a = some { cls := .type "list", data := .seq vs.toArray } → IntsAre vs ns → ns.length ≤ n → s₁.gens = #[] →
      codeAny (model l.prog w) callerA (.call (.ref fa) ⟨[.ref a], []⟩) (fun r s' => r = .ok (.ret (.bool true)) ∧ OldK s₁.heap s'.heap ∧ s'.os = s₁.os ∧ AllBare s'.gens) s₁) :
    WalkO q loose XP YP l.row.toRowW d [] (fun f vs => PySem.call f vs) := by
  intro w s₀ s₁ mg mb G Y fa o pm cd doc dV kV ho hd hcd hD hmg hg args vals as hpre hlay hrd hwl hlo
  obtain rfl : dV = .none := Dflts.none hD hdf
  obtain rfl : kV = .none := Dflts.noKw hD
  obtain ⟨a, vs, ns, rfl, rfl, hobj, hints, hlen⟩ := script_of hn hpre hwl
  refine enter_call (codeAny_mono (call w s₀ s₁ mg mb fa o pm cd doc a vs ns G Y ho (fd_plain hd) hcd hmg hobj hints hlen hg) fun r s' hq => ?_)
  obtain ⟨rfl, h2, h3, h4⟩ := hq
  exact ⟨.inl ⟨.bool true, .bool true, [], rfl, fun _ => rfl, .bool true, post_true l _, fun _ => ⟨List.Pairwise.nil, fun _ hm => (nomatch hm)⟩⟩, h2, h3, h4⟩
/-! ### rules over ANY heap (no ledger) from facts about the written part K: the library's own take a ledger (News) for what they write -/
section
variable {prog : Program} {w : World} {A : Around} {E : Value → Shared → Prop} {s : Shared} {K : Frag}
/-! the whole heap as the ledger: makes every rule that writes through a ledger a rule over any heap -/
noncomputable def ledger (h : Heap) (L d : Addr) : List (Addr × Obj) := (List.range h.objs.size).filterMap fun a => if a = L ∨ a = d then none else (h.get? a).map fun o => (a, o)
end
end Att
namespace L2
open PySem PySem.Spec PyProof.Rows
theorem vals_ints : ∀ {vs : List Value} {ns : List Int}, IntsAre vs ns → Vals (ns.map V.int) vs
  | _, _, .nil => .nil
  | _, _, .cons n t h => .cons ⟨t, rfl⟩ (vals_ints h)
/-- nothing is tracked but the script, known to the object (or it is an object of the module) -/
noncomputable def Only (H : Hp) : Prop := ∀ b, H b = none ∨ ∃ o xs, H b = some (.frz o (.lst xs))
/-- THE HEAD: the law's promise, at the heap behind the top. F, the promise of the law's def, may use that base is part of the heap (so K.In base, base.Ns mainGlobals mg stand in Mod) -/
theorem law_call {P : Program} {w : World} {K : PySem.W.Frag} {mg mb : Str → Option Value} {CX : CXT} {k : Nat} {fa a : Addr} {fd : FuncData} {x : Str} {sp : Sp} {s₁ : Shared} {vs : List Value} {ns : List Int}
    (KX : K.In s₁.heap) (hns : s₁.heap.Ns mainGlobals mg) (hb : s₁.heap.Ns builtinsNs mb) (hbb : ∀ x : Str, x ≠ "__name__" → mb x = bootBuiltins x) (hlim : s₁.heap.NoLimit) (hg : s₁.gens = #[])
    (ha : s₁.heap.get? a = some { cls := .type "list", data := .seq vs.toArray }) (hi : IntsAre vs ns) (hl : ns.length ≤ sizeLine) (hr : Room k callerA)
    (F : ∀ base : Heap, K.In base → base.Ns mainGlobals mg → FnOk P w K mg base CX k fa fd [x] sp) (hbind : ∀ (s : Shared) (u : Value), BindsTo s fd ⟨[u], []⟩ [(x, u)])
    (hsp : ∀ H : Hp, Only H → SqL K H a (ns.map V.int) → sp [.ref a] H (fun v _ => v = .bl true) fun _ _ _ => False)
    (hCX : ∀ H e s', CX [] H s₁ (fun _ _ _ => False) e s' → False) :
    codeAny (model P w) callerA (.call (.ref fa) ⟨[.ref a], []⟩) (fun r s' => r = .ok (.ret (.bool true)) ∧ OldK s₁.heap s'.heap ∧ s'.os = s₁.os ∧ AllBare s'.gens) s₁ := by
  have rv := vals_ints hi
  have lenV := hi.length
  -- from an abstract heap in which nothing but the script may be tracked
  have core : ∀ H : Hp, Only H → SqL K H a (ns.map V.int) → HOk P w H s₁.heap → (∀ b, H b ≠ none → b = a) → (H a ≠ none → K.lookup a = none) →
      codeAny (model P w) callerA (.call (.ref fa) ⟨[.ref a], []⟩) (fun r s' => r = .ok (.ret (.bool true)) ∧ OldK s₁.heap s'.heap ∧ s'.os = s₁.os ∧ AllBare s'.gens) s₁ := by
    intro H hO hS hok hA hK
    have base_of : ∀ {b : Addr} {o : Obj}, s₁.heap.get? b = some o → H b = none → (hidT s₁.heap H).get? b = some o := fun e n => hidT_get e n
    have noA : ∀ {b : Addr} {o : Obj} {es : Array DictEntry} {ep : Nat}, s₁.heap.get? b = some o → o.data = .dict es ep → H b = none := fun {b o es ep} e d => by
      cases q : H b with
      | none => rfl
      | some u =>
        have e' : b = a := hA b (by rw [q]; simp)
        subst e'
        rw [ha] at e; cases e
        have d' : Data.seq vs.toArray _ = Data.dict es ep := d
        cases d'
    have nsK : ∀ {b : Addr} {m : Str → Option Value}, s₁.heap.Ns b m → (hidT s₁.heap H).Ns b m := fun {b m} ⟨o, es, ep, e, d, r⟩ => ⟨o, es, ep, base_of e (noA e d), d, r⟩
    have hKb : K.In (hidT s₁.heap H) := fun b o e => base_of (KX b o e) (by
      cases q : H b with
      | none => rfl
      | some u =>
        have e' : b = a := hA b (by rw [q]; simp)
        subst e'
        rw [hK (by rw [q]; simp)] at e; cases e)
    have hM : Mod K mg (hidT s₁.heap H) := ⟨hKb, nsK hns, ⟨mb, nsK hb, hbb⟩, let ⟨mc, h1, h2⟩ := hlim; ⟨mc, nsK h1, h2⟩⟩
    have e0 : Env0 P w K mg (hidT s₁.heap H) callerA [] s₁ H := ⟨rfl, hM, fun b o e => of_hidT e, Nat.le_of_eq (hidT_size _ _), trivial, fun b hb => absurd (show b ∈ ([] : List Addr) from hb) (by simp), hok, .of_eq hg⟩
    refine codeAny_mono ((F _ hKb (nsK hns)).run callerA [] s₁ H ⟨[.ref a], []⟩ [.ref a] [.ref a] _ _ hr e0 (hbind s₁ (.ref a)) (.cons rfl .nil) (hsp H hO hS)) fun r s' h => ?_
    cases r with
    | error e => exact (hCX H e s' h).elim
    | ok fl =>
      cases fl with
      | next => exact False.elim h
      | brk => exact False.elim h
      | cont => exact False.elim h
      | ret u =>
        obtain ⟨v, H', os, bare, un, hok', r', q⟩ := h
        have q' : v = .bl true := q
        subst q'
        obtain rfl : u = Value.bool true := r'
        refine ⟨rfl, OldK.of_keep fun b o e => ?_, os, bare⟩
        cases q : H b with
        | none => exact un.keep b o e q (by intro z; exact absurd (show b ∈ ([] : List Addr) from z) (by simp)) (by simp)
        | some u =>
          rcases hO b with z | ⟨ob, xs, z⟩
          · rw [q] at z; cases z
          · have z2 := un.frzs b ob _ z
            obtain ⟨e1, _⟩ := hok b _ z
            obtain ⟨e2, _⟩ := hok' b _ z2
            rw [e] at e1; cases e1
            exact e2
  cases hk : K.lookup a with
  | some o =>
    -- the script is one of the module's own objects
    have e := KX a o hk
    rw [ha] at e
    cases e
    refine core (fun _ => none) (fun _ => .inl rfl) (.inr ⟨_, vs.toArray, _, hk, rfl, rfl, rfl, by rw [List.size_toArray, lenV]; exact hl, by simpa using rv⟩) (fun b u z => by have z' : (none : Option HO) = some u := z; cases z') (fun b z => absurd rfl z) fun z => absurd rfl z
  | none =>
    refine core (fun b => if b = a then some (.frz { cls := .type "list", data := .seq vs.toArray } (.lst (ns.map V.int))) else none) (fun b => ?_) (.inl (.inr ⟨{ cls := .type "list", data := .seq vs.toArray }, if_pos rfl⟩)) (fun b u z => ?_) (fun b z => ?_) fun _ => hk
    · by_cases hb : b = a
      · exact .inr ⟨_, _, if_pos hb⟩
      · exact .inl (if_neg hb)
    · by_cases hb : b = a
      · have z' := (if_pos hb).symm.trans z
        cases z'
        subst hb
        exact ⟨ha, by rw [List.length_map]; exact hl, vs, _, rv, ha⟩
      · have z' := (if_neg hb).symm.trans z
        cases z'
    · by_cases hb : b = a
      · exact hb
      · exact absurd (if_neg hb) z
end L2
namespace L2
open PySem PySem.Spec PyProof.Rows
noncomputable abbrev KOf {K : PySem.W.Frag} {h : Heap} (_ : K.In h) : PySem.W.Frag := K
/-- the goal that k_head leaves (case hc), from the law's promise. F gives the function object fd (K's own) once, then the promise over every base -/
theorem walk_of {l : PySem.W.OpenLaw} {n k : Nat} {q : Program} {loose : List Str} {XP : (Str → Option Value) → Heap → Prop} {YP : World → Heap → Prop} {d : DefRec} {K : Params → PySem.W.Frag} {CX : World → CXT} {sp : World → Sp} {x : Str}
    (hn : l.most = some n) (hn2 : n ≤ sizeLine) (hdf : d.params.defaults = []) (hr : Room k callerA)
    (hY : ∀ (w : World) (h : Heap), YP w h → (K w.params).In h)
    (F : ∀ (w : World) (mg : Str → Option Value) (fa : Addr) (h : Heap), (K w.params).In h → h.Ns mainGlobals mg → mg d.name = some (.ref fa) →
      ∃ fd : FuncData, (∀ (s : Shared) (u : Value), BindsTo s fd ⟨[u], []⟩ [(x, u)]) ∧
        ∀ base : Heap, (K w.params).In base → base.Ns mainGlobals mg → FnOk l.prog w (K w.params) mg base (CX w) k fa fd [x] (sp w))
    (hsp : ∀ (w : World) (H : Hp) (a : Addr) (ns : List Int), ns.length ≤ n → Only H → SqL (K w.params) H a (ns.map V.int) → sp w [.ref a] H (fun v _ => v = .bl true) fun _ _ _ => False)
    (hCX : ∀ (w : World) (H : Hp) (s : Shared) (e : Value) (s' : Shared), CX w [] H s (fun _ _ _ => False) e s' → False) :
    PySem.W.WalkO q loose XP YP l.row.toRowW d [] (fun f vs => PySem.call f vs) := by
  refine Att.attach_call hn hdf fun w s₀ s₁ mg mb fa o pm cd doc a vs ns G Y ho hd hcd hmg hobj hints hlen hg => ?_
  have KX := hY w _ Y
  obtain ⟨fd, hb, hF⟩ := F w mg fa _ KX G.T.g hmg
  exact law_call KX G.T.g G.T.b G.T.builtins G.T.nolimit hg hobj hints (Nat.le_trans hlen hn2) hr hF hb (fun H hO hS => hsp w H a ns hlen hO hS) fun H e s' => hCX w H s₁ e s'
end L2
/- THE LAST THEOREM (shape; LID, My.* are yours):
   My.Adr: a structure of the addresses that your layer names (classes, functions); My.Txt K t: a structure (Prop) of the equations over K;
   My.txt_mk : {K} {implicit addresses ..} (e1 : nsIn K mainGlobals "law" = some (some (.ref f))) (e2 : K.lookup f = some ⟨oc, od, .func (fnOf "law" "law" params body scope dV kV doc pm an cdv ct), sl⟩) (e3 : codeIn K cdv "law" = true) .. : ∃ t, My.Txt K t
set_option maxRecDepth 100000 in
set_option maxHeartbeats 0 in
theorem PySem.Challenge.cw_LID_holds : PySem.Challenge.rw_LID.Holds := by
  w_on; o_law; k_head; (case hw => w_witness2)
  k_fill
  refine L2.walk_of (l := PySem.Challenge.rw_LID) (n := 63) (k := 40) (x := "script") (CX := fun w => ..) (sp := fun _ => My.sp_law) rfl (by decide) rfl ⟨rfl, by decide, by decide⟩ (fun w h Y => PySem.W.kIn_of Y) ?F ?S ?C
  case F =>
    intro w mg fa h KX G hmg
    have T : ∃ t, My.Txt (L2.KOf KX) t := by
      dsimp only [L2.KOf]                          -- K must stand as «<heap const> w.params» for k_is
      refine' My.txt_mk ?e1 ?e2 ?e3 ..
      (case e1 => PySem.W.k_is)                    -- in the order: a name -> its address -> its object -> its parts
      (case e2 => PySem.W.k_is)
      ..
    obtain ⟨t, T⟩ := T
    have e0 := hmg.symm.trans (PySem.W.mg_of KX G T.law)
    cases e0                                       -- fa is the law's own address
    exact ⟨_, fun s u => .of_eq rfl, fun base kb nb => My.law_fn T kb nb⟩     -- if «.of_eq rfl» comes too early: refine' ⟨_, ?b, fun base kb nb => My.law_fn T kb nb⟩; exact fun s u => .of_eq rfl
  case S => exact fun w H a ns hl hO hS => ..
  case C => exact ..
(the tactic k_is has no namespace: write k_is) -/
/-! SHORT WORDS over the layer: a def of the text, its body, what a loop and a test want. -/
namespace L2
open PySem PySem.Spec PyProof.Rows
/-! ### the text by places -/
noncomputable def defArgs (s : Stmt) : Arguments := match s with
  | .FunctionDef _ a _ _ _ _ _ _ _ _ => a
  | _ => { posonlyargs := [], args := [], vararg := none, kwonlyargs := [], kw_defaults := [], kwarg := none, defaults := [] }
noncomputable def defBody (s : Stmt) : List Stmt := match s with
  | .FunctionDef _ _ b _ _ _ _ _ _ _ => b
  | _ => []
noncomputable def defScope (s : Stmt) : Scope := match s with
  | .FunctionDef _ _ _ _ _ _ sc _ _ _ => sc
  | _ => { kind := .function, names := [], isGenerator := false, isCoroutine := false }
/-! ### no exception leaves a def -/
noncomputable abbrev CX0 : CXT := fun _ _ _ _ _ _ => False
noncomputable abbrev E0 : XK := fun _ _ _ => False
theorem pass0 {X : Cx} : Passes CX0 X E0 := fun _ _ _ _ _ _ _ h => h.elim
/-! ### a def (or method) of the text as it stands behind the top -/
structure Fun (K : PySem.W.Frag) (x qual : Str) (st : Stmt) (f : Addr) (fd : FuncData) : Prop where
  ex : ∃ (oc : Value) (od : Option Addr) (kV doc pm : Value) (an : Option Addr) (cdv ct : Value) (osl : Array (Option Value)),
    fd = PySem.W.fnOf x qual (defArgs st) (defBody st) (defScope st) .none kV doc pm an cdv ct ∧ K.lookup f = some ⟨oc, od, .func fd, osl⟩ ∧ PySem.W.codeIn K cdv qual = true
  kp : PySem.W.keepIn K (.ref f) = true
section
variable {P : Program} {w : World} {K : PySem.W.Frag} {mg : Str → Option Value} {base : Heap}
/-- THE RULE for a def: its body as a term of rules, and the reading of that term -/
theorem Fun.ok {x qual : Str} {st : Stmt} {f : Addr} {fd : FuncData} {N ps : List Str} {k : Nat} {sp : Sp} (F : Fun K x qual st f fd) (S : FnScope N ps (defScope st)) (len : ∀ vs H Q E, sp vs H Q E → vs.length = ps.length)
    (hbody : ∀ (cdv : Value) (A : Around) (outer : List Env) (s : Shared) (H : Hp) (vs : List V) (Q : VK) (E : XK), Room k (A.deeper (envOfC qual (defScope st) s.heap.objs.size f cdv)) → sp vs H Q E →
      ∃ t, PSs (cxOf CX0 P w K mg base N qual (defScope st) f cdv A outer s H E).nox (defBody st) t ∧ t { nx := fun _ H' => Q .non H', rt := Q } (start N vs) H) : FnOk P w K mg base CX0 (k + 1) f fd ps sp := by
  obtain ⟨oc, od, kV, doc, pm, an, cdv, ct, osl, rfl, lk, hcd⟩ := F.ex
  refine fn_of lk hcd S len fun A outer s H vs Q E hr hsp => ?_
  obtain ⟨t, h, q⟩ := hbody cdv A outer s H vs Q E hr hsp
  exact ⟨t, h.nox, q⟩
/-- how its arguments bind (no defaults): h is «fun _ _ _ _ _ _ us hl => match us, hl with | [_, _], _ => rfl», one _ a parameter -/
theorem Fun.binds {x qual : Str} {st : Stmt} {f : Addr} {fd : FuncData} {ps : List Str} (F : Fun K x qual st f fd)
    (h : ∀ (kV doc pm : Value) (an : Option Addr) (cdv ct : Value) (us : List Value), us.length = ps.length → bindArgs (PySem.W.fnOf x qual (defArgs st) (defBody st) (defScope st) .none kV doc pm an cdv ct) ⟨us, []⟩ = pure (ps.zip us)) : Binds K fd ps [] := by
  obtain ⟨oc, od, kV, doc, pm, an, cdv, ct, osl, rfl, lk, hcd⟩ := F.ex
  exact .all (h kV doc pm an cdv ct)
theorem fun_mk {x qual : Str} {st : Stmt} {f : Addr} {oc : Value} {od an : Option Addr} {osl : Array (Option Value)} {kV doc pm cdv ct : Value} (l : K.lookup f = some ⟨oc, od, .func (PySem.W.fnOf x qual (defArgs st) (defBody st) (defScope st) .none kV doc pm an cdv ct), osl⟩)
    (c : PySem.W.codeIn K cdv qual = true) (k : PySem.W.keepIn K (.ref f) = true) : Fun K x qual st f (PySem.W.fnOf x qual (defArgs st) (defBody st) (defScope st) .none kV doc pm an cdv ct) := ⟨⟨oc, od, kV, doc, pm, an, cdv, ct, osl, rfl, l, c⟩, k⟩
end
/-! ### expressions in short: the name that stands in the i-th slot -/
section
variable {X : Cx}
end
/-! ### tests -/
theorem iteF {A B : Prop} (h : B) : if false = true then A else B := by
  rw [if_neg Bool.false_ne_true]
  exact h
theorem iteT {A B : Prop} (h : A) : if true = true then A else B := by
  rw [if_pos rfl]
  exact h
/-! ### heaps -/
/-- all that was tracked is as it was -/
noncomputable def Same (H H' : Hp) : Prop := ∀ b o, H b = some o → H' b = some o
theorem Same.refl (H : Hp) : Same H H := fun _ _ h => h
theorem Same.trans {H H1 H2 : Hp} (a : Same H H1) (b : Same H1 H2) : Same H H2 := fun c o h => b c o (a c o h)
theorem Same.free {H H' : Hp} (e : Same H H') {l : Addr} (h : H' l = Option.none) : H l = Option.none := by
  cases q : H l with
  | none => rfl
  | some o =>
    rw [e l o q] at h
    cases h
theorem Same.seq {K : PySem.W.Frag} {H H' : Hp} {a : Addr} {xs : List V} (e : Same H H') (h : SqL K H a xs) : SqL K H' a xs := by
  rcases h with (h | ⟨o, h⟩) | h
  · exact .inl (.inl (e _ _ h))
  · exact .inl (.inr ⟨o, e _ _ h⟩)
  · exact .inr h
end L2
namespace L2
open PySem PySem.Spec PyProof.Rows
/-- the closure's cells: each free name's own cell -/
theorem clos_go (env : Env) (body : Str × NameKind → List (Str × Addr) → Sem (ForInStep (List (Str × Addr))))
    (hb : ∀ n k cs, body (n, k) cs = if (k == NameKind.free) = true then (do let c ← cellOf env n; pure (ForInStep.yield ((n, c) :: cs))) else pure (ForInStep.yield cs)) :
    ∀ (names : List (Str × NameKind)) (acc : List (Str × Addr)), (∀ y ∈ names, y.2 = .free → ∃ c, env.cells.lookup y.1 = some c) → (∀ x c, acc.lookup x = some c → env.cells.lookup x = some c) →
      ∃ cl, forIn names acc body = (pure cl : Sem _) ∧ (∀ x c, cl.lookup x = some c → env.cells.lookup x = some c) ∧ (∀ x, acc.lookup x ≠ none → cl.lookup x ≠ none) ∧ ∀ y ∈ names, y.2 = .free → cl.lookup y.1 ≠ none
  | [], acc, _, ha => ⟨acc, rfl, ha, fun _ h => h, fun y hy => by simp at hy⟩
  | (n, k) :: r, acc, hn, ha => by
    rw [List.forIn_cons, hb]
    have hr : ∀ y ∈ r, y.2 = .free → ∃ c, env.cells.lookup y.1 = some c := fun y hy => hn y (List.mem_cons_of_mem _ hy)
    by_cases hk : k = .free
    · subst hk
      obtain ⟨c, hc⟩ := hn (n, .free) List.mem_cons_self rfl
      have hce : cellOf env n = pure c := by unfold cellOf; rw [show env.cells.lookup n = some c from hc]
      rw [if_pos (by rfl), hce]
      obtain ⟨cl, e, h1, h2, h3⟩ := clos_go env body hb r ((n, c) :: acc) hr (fun x c' e => by
        rw [List.lookup_cons] at e
        cases q : x == n with
        | true => rw [q] at e; cases e; rw [beq_iff_eq] at q; rw [q]; exact hc
        | false => rw [q] at e; exact ha x c' e)
      have hcons : ∀ x, ((n, c) :: acc).lookup x ≠ none → cl.lookup x ≠ none := h2
      refine ⟨cl, by simpa using e, h1, fun x hx => hcons x ?_, fun y hy hf => ?_⟩
      · rw [List.lookup_cons]; cases x == n with
        | true => simp
        | false => exact hx
      · rcases List.mem_cons.mp hy with rfl | hy
        · exact hcons _ (by simp [List.lookup_cons])
        · exact h3 y hy hf
    · rw [if_neg (by simpa using hk)]
      obtain ⟨cl, e, h1, h2, h3⟩ := clos_go env body hb r acc hr ha
      refine ⟨cl, by simpa using e, h1, h2, fun y hy hf => ?_⟩
      rcases List.mem_cons.mp hy with rfl | hy
      · exact absurd hf hk
      · exact h3 y hy hf
theorem clos_ok {scope : Scope} {env : Env} (h : ∀ y ∈ scope.names, y.2 = .free → ∃ c, env.cells.lookup y.1 = some c) :
    ∃ cl, closureFor scope env = pure cl ∧ (∀ x c, cl.lookup x = some c → env.cells.lookup x = some c) ∧ ∀ y ∈ scope.names, y.2 = .free → ∃ c, cl.lookup y.1 = some c := by
  unfold closureFor
  obtain ⟨cl, e, h1, _, h3⟩ := clos_go env (fun x cs => match x with | (name, kind) => if (kind == NameKind.free) = true then (do let c ← cellOf env name; pure (ForInStep.yield ((name, c) :: cs))) else pure (ForInStep.yield cs)) (fun _ _ _ => rfl) scope.names [] h (fun x c e => by simp at e)
  refine ⟨cl, ?_, h1, fun y hy hf => Option.ne_none_iff_exists'.mp (h3 y hy hf)⟩
  show (forIn scope.names [] _ >>= fun r => pure r) = _
  rw [e]; rfl
/-- the context of a comprehension's block; no exception leaves it -/
noncomputable def cxc (X : Cx) (N' : List Str) (scope : Scope) (cl : List (Str × Addr)) (C : Addr) (fp : List Addr) (s3 : Shared) (H3 : Hp) : Cx :=
  { X with N := N', s₀ := s3, H₀ := H3, env := compEnvC scope cl C X.env, outer := X.stack, ex := fp, fn := fun x => decide (scope.names.lookup x = some .cell), pn := [], xe := fun _ _ => False }
/-- the tests of a clause -/
noncomputable def PTs (X : Cx) (ifs : List Expr) (t : TT) : Prop :=
  ∀ (pins : List (Addr × Obj)) (s : Shared) (σ : St) (H : Hp) (Q : Bool → Hp → Prop), Inv X pins σ H s → t σ H Q →
    wpAny (model X.prog X.w) X.A (forIn ifs true fun c r => if r = true then do let ok ← isTrue c X.env (eval c X.env); pure (ForInStep.yield ok) else pure (ForInStep.yield r)) (TP X pins σ Q) X.xe s
noncomputable def tYes : TT := fun _ H Q => Q true H
theorem pts_nil {X : Cx} : PTs X [] tYes := fun _ _ _ H _ I h => wpAny_tests_nil ⟨H, I, h⟩
theorem pts_one {X : Cx} {c : Expr} {t : TT} (h : PT X c t) : PTs X [c] t := fun pins s σ H Q I q => wpAny_tests_one (h pins s σ H Q I q)
/-- the block's names as they stand at each turn: the free ones bear the values outside -/
noncomputable def CapOk (X : Cx) (N' : List Str) (scope : Scope) (σ σ' : St) : Prop :=
  σ'.length = N'.length ∧ ∀ (j : Nat) (x : Str) (v : V), N'[j]? = some x → σ'[j]? = some (some v) → scope.names.lookup x = some .free ∧ ∃ i : Nat, X.N[i]? = some x ∧ σ[i]? = some (some v) ∧ (X.env.kindOf x = some .cell ∨ X.env.kindOf x = some .free)
noncomputable def tComp (wi : TI) (cap : St → St → Prop) (g : TG) (tc : TT) (te : TE) : TE := fun σ H Q => wi σ H fun J H1 => ∃ σc, cap σ σc ∧ ∀ D, H1 D = none → ∃ W : Nat → Nat → List V → Hp → Prop,
  (∃ m, W 0 m [] (upd H1 D (.lst []))) ∧ ∀ i m acc H2, W i m acc H2 → (J.stop i H2 ∧ Q (.ref D) H2) ∨
    (J.go i H2 ∧ ∀ x H3, J.yld i H2 x H3 → g x σc H3 fun σ2 H4 => (∀ (j : Nat) v, σc[j]? = some (some v) → σ2[j]? = some (some v)) ∧ tc σ2 H4 fun b H5 => if b = true then
      te σ2 H5 fun y H6 => H6 D = some (.lst acc) ∧ acc.length < sizeLine ∧ ∃ m', m' < m ∧ W (i + 1) m' (acc ++ [y]) (upd H6 D (.lst (acc ++ [y])))
      else ∃ m', m' < m ∧ W (i + 1) m' acc H5)
theorem lookup_relabel_free {env : Env} : ∀ {names : List (Str × NameKind)} {x : Str}, names.lookup x = some .free →
    (names.map fun (n, k) => if (k == NameKind.free && env.scope.kind == .function && env.kindOf n == some .cell) then (n, NameKind.cell) else (n, k)).lookup x = some .cell ∨
    (names.map fun (n, k) => if (k == NameKind.free && env.scope.kind == .function && env.kindOf n == some .cell) then (n, NameKind.cell) else (n, k)).lookup x = some .free
  | [], _, h => by simp at h
  | (n, k) :: r, x, h => by
    have ih := @lookup_relabel_free env r x
    rw [List.map_cons]
    cases hx : x == n with
    | true =>
      simp only [List.lookup_cons, hx] at h
      cases h
      dsimp only
      split
      · left; simp [List.lookup_cons, hx]
      · right; simp [List.lookup_cons, hx]
    | false =>
      simp only [List.lookup_cons, hx] at h
      dsimp only
      split
      · simp only [List.lookup_cons, hx]; exact ih h
      · simp only [List.lookup_cons, hx]; exact ih h
theorem lookup_relabel_inv {env : Env} : ∀ {names : List (Str × NameKind)} {x : Str},
    ((names.map fun (n, k) => if (k == NameKind.free && env.scope.kind == .function && env.kindOf n == some .cell) then (n, NameKind.cell) else (n, k)).lookup x = some .cell ∨
    (names.map fun (n, k) => if (k == NameKind.free && env.scope.kind == .function && env.kindOf n == some .cell) then (n, NameKind.cell) else (n, k)).lookup x = some .free) →
    ∃ k, (x, k) ∈ names ∧ (k = .free ∨ k = .cell)
  | [], _, h => by simp at h
  | (n, k) :: r, x, h => by
    have ih := @lookup_relabel_inv env r x
    rw [List.map_cons] at h
    cases hx : x == n with
    | true =>
      have hn : x = n := by simpa using hx
      subst hn
      dsimp only at h
      split at h
      · rename_i hc
        simp only [Bool.and_eq_true] at hc
        refine ⟨k, List.mem_cons_self, .inl (by simpa using hc.1.1)⟩
      · simp only [List.lookup_cons, hx] at h
        refine ⟨k, List.mem_cons_self, ?_⟩
        rcases h with h | h
        · exact .inr (Option.some.inj h)
        · exact .inl (Option.some.inj h)
    | false =>
      dsimp only at h
      have : ∃ k, (x, k) ∈ r ∧ (k = .free ∨ k = .cell) := by
        apply ih
        split at h
        · simpa only [List.lookup_cons, hx] using h
        · simpa only [List.lookup_cons, hx] using h
      obtain ⟨k', h1, h2⟩ := this
      exact ⟨k', List.mem_cons_of_mem _ h1, h2⟩
/-! ### a block's own cells, ahead of those that it takes -/
theorem cf_look : ∀ (names : List (Str × NameKind)) (n : Nat) (acc : List (Str × Addr)) (x : Str) (c : Addr), (cellsFrom n names acc).lookup x = some c → acc.lookup x = some c ∨ (n ≤ c ∧ (x, NameKind.cell) ∈ names)
  | [], _, _, _, _, h => .inl h
  | (nm, k) :: r, n, acc, x, c, h => by
    unfold cellsFrom at h
    split at h
    · rename_i hk
      have hk : k = .cell := by simpa using hk
      rcases cf_look r (n + 1) ((nm, n) :: acc) x c h with h | ⟨h1, h2⟩
      · rw [List.lookup_cons] at h
        cases q : x == nm with
        | true =>
          rw [q] at h
          cases h
          have : x = nm := by simpa using q
          exact .inr ⟨Nat.le_refl _, by rw [this, hk]; exact List.mem_cons_self⟩
        | false => rw [q] at h; exact .inl h
      · exact .inr ⟨by omega, List.mem_cons_of_mem _ h2⟩
    · rcases cf_look r n acc x c h with h | ⟨h1, h2⟩
      · exact .inl h
      · exact .inr ⟨h1, List.mem_cons_of_mem _ h2⟩
theorem cf_own : ∀ (names : List (Str × NameKind)) (n : Nat) (acc : List (Str × Addr)) (x : Str) (c : Addr), (x, NameKind.cell) ∈ names → (cellsFrom n names acc).lookup x = some c → n ≤ c
  | (nm, k) :: r, n, acc, x, c, hm, h => by
    unfold cellsFrom at h
    split at h
    · by_cases hr : (x, NameKind.cell) ∈ r
      · have := cf_own r (n + 1) _ x c hr h
        omega
      · have hx : x = nm := by
          rcases List.mem_cons.mp hm with e | e
          · exact (Prod.mk.inj e).1
          · exact absurd e hr
        rcases cf_look r (n + 1) ((nm, n) :: acc) x c h with h | ⟨h1, _⟩
        · rw [List.lookup_cons, show (x == nm) = true by simpa using hx] at h
          cases h
          exact Nat.le_refl _
        · omega
    · rename_i hk
      rcases List.mem_cons.mp hm with e | e
      · exact absurd (by rw [← (Prod.mk.inj e).2]; rfl) hk
      · exact cf_own r n acc x c e h
theorem cf_inj : ∀ (names : List (Str × NameKind)) (n : Nat) (acc : List (Str × Addr)), (∀ x y c, acc.lookup x = some c → acc.lookup y = some c → x = y) → (∀ x c, acc.lookup x = some c → c < n) →
    ∀ x y c, (cellsFrom n names acc).lookup x = some c → (cellsFrom n names acc).lookup y = some c → x = y
  | [], _, _, hi, _, x, y, c, h1, h2 => hi x y c h1 h2
  | (nm, k) :: r, n, acc, hi, hb, x, y, c, h1, h2 => by
    unfold cellsFrom at h1 h2
    split at h1
    · rename_i hk
      rw [if_pos hk] at h2
      refine cf_inj r (n + 1) ((nm, n) :: acc) (fun x y c h1 h2 => ?_) (fun x c h => ?_) x y c h1 h2
      · rw [List.lookup_cons] at h1 h2
        cases qx : x == nm with
        | true =>
          rw [qx] at h1
          cases h1
          cases qy : y == nm with
          | true => rw [show x = nm by simpa using qx, show y = nm by simpa using qy]
          | false => rw [qy] at h2; exact absurd (hb y _ h2) (Nat.lt_irrefl _)
        | false =>
          rw [qx] at h1
          cases qy : y == nm with
          | true => rw [qy] at h2; cases h2; exact absurd (hb x _ h1) (Nat.lt_irrefl _)
          | false => rw [qy] at h2; exact hi x y c h1 h2
      · rw [List.lookup_cons] at h
        cases qx : x == nm with
        | true => rw [qx] at h; cases h; exact Nat.lt_succ_self _
        | false => rw [qx] at h; exact Nat.lt_succ_of_lt (hb x c h)
    · rename_i hk
      rw [if_neg hk] at h2
      exact cf_inj r n acc hi hb x y c h1 h2
theorem cf_keep : ∀ (names : List (Str × NameKind)) (n : Nat) (acc : List (Str × Addr)) (x : Str), (∃ c, acc.lookup x = some c) → ∃ c, (cellsFrom n names acc).lookup x = some c
  | [], _, _, _, h => h
  | (nm, k) :: r, n, acc, x, h => by
    unfold cellsFrom
    split
    · refine cf_keep r (n + 1) _ x ?_
      rw [List.lookup_cons]
      cases x == nm with
      | true => exact ⟨n, rfl⟩
      | false => exact h
    · exact cf_keep r n acc x h
theorem cf_has : ∀ (names : List (Str × NameKind)) (n : Nat) (acc : List (Str × Addr)) (x : Str), (x, NameKind.cell) ∈ names → ∃ c, (cellsFrom n names acc).lookup x = some c
  | (nm, k) :: r, n, acc, x, hm => by
    unfold cellsFrom
    rcases List.mem_cons.mp hm with e | e
    · obtain ⟨e1, e2⟩ := Prod.mk.inj e
      subst e1
      rw [← e2, if_pos (by rfl)]
      exact cf_keep r (n + 1) _ x ⟨n, by simp [List.lookup_cons]⟩
    · split
      · exact cf_has r (n + 1) _ x e
      · exact cf_has r n acc x e
theorem cf_cell (lo : Nat) : ∀ (names : List (Str × NameKind)) (h : Heap) (acc : List (Str × Addr)), (∀ x c, acc.lookup x = some c → lo ≤ c → h.IsCell c none) → lo ≤ h.objs.size →
    ∀ x c, (cellsFrom h.objs.size names acc).lookup x = some c → lo ≤ c → (pushCells h names).IsCell c none
  | [], _, _, ha, _, x, c, e, hl => ha x c e hl
  | (nm, k) :: r, h, acc, ha, hlo, x, c, e, hl => by
    unfold cellsFrom at e
    unfold pushCells
    split at e
    · rename_i hk
      rw [if_pos hk]
      have hs := Heap.size_push h { cls := .type "cell", data := .cell none }
      refine cf_cell lo r (h.push { cls := .type "cell", data := .cell none }) ((nm, h.objs.size) :: acc) (fun x c e hl => ?_) (by rw [hs]; omega) x c (by rw [hs]; exact e) hl
      rw [List.lookup_cons] at e
      cases q : x == nm with
      | true => rw [q] at e; cases e; exact ⟨_, Heap.get?_push_size _ rfl, rfl⟩
      | false => rw [q] at e; exact (ha x c e hl).keeps fun b o e => Heap.get?_push_of_some _ e
    · rename_i hk
      rw [if_neg hk]
      exact cf_cell lo r h acc ha hlo x c e hl
/-- the block's namespace and its own cells -/
theorem newEnv_own {M : Model} {A : Around} {E : Value → Shared → Prop} {s : Shared} {scope : Scope} {globals builtins : Addr} {cl : List (Str × Addr)} {qual : Str} {env : Env} {Q : Env → Shared → Prop}
    (hQ : ∀ h' : Heap, h'.Ns s.heap.objs.size (fun _ => none) → (∀ b o, s.heap.get? b = some o → h'.get? b = some o) → ((∀ x c, cl.lookup x = some c → c < s.heap.objs.size) → ∀ x c, (cellsFrom (s.heap.objs.size + 1) scope.names cl).lookup x = some c → s.heap.objs.size + 1 ≤ c → h'.IsCell c none) →
      Q (newEnv scope s.heap.objs.size globals (cellsFrom (s.heap.objs.size + 1) scope.names cl) qual none .none (some env) builtins) { s with heap := h' }) :
    wpAny M A (newFunctionEnv scope globals cl [] qual none .none (some env) builtins) Q E s := by
  simp only [newFunctionEnv, Option.isSome_some, if_true]
  refine wpAny_bind (wpAny_alloc ?_)
  refine wpAny_bind (wpAny_layCells _ (fun name kind cells => by cases hkc : kind == NameKind.cell <;> simp [hkc]) _ _ _ _ ?_)
  have hs := Heap.size_push s.heap { cls := .type "dict", data := .dict #[] }
  rw [show ({ s with heap := s.heap.push { cls := .type "dict", data := .dict #[] } } : Shared).heap.objs.size = s.heap.objs.size + 1 from hs]
  refine wpAny_bind (wpAny_pure (wpAny_pure ?_))
  refine hQ _ ((Heap.Ns.new s.heap (.type "dict")).keeps (pushCells_keeps _ _)) (fun b o e => pushCells_keeps _ _ b o (Heap.get?_push_of_some _ e)) fun hb x c e hl => ?_
  refine cf_cell (s.heap.objs.size + 1) scope.names (s.heap.push { cls := .type "dict", data := .dict #[] }) cl (fun x c e hl => ?_) (by rw [hs]; exact Nat.le_refl _) x c (by rw [hs]; exact e) hl
  exact absurd (Nat.lt_of_lt_of_le (hb x c e) (Nat.le_trans (Nat.le_succ _) hl)) (Nat.lt_irrefl _)
section
variable {X : Cx} {tg iter elt : Expr} {ifs : List Expr} {scope : Scope} {N' : List Str} {pos : Pos}
/-- what a comprehension's scope must be -/
structure CScope (X : Cx) (N' : List Str) (scope : Scope) : Prop where
  kind : scope.kind = .function
  own : ∀ y ∈ scope.names, y.2 = .cell → scope.names.lookup y.1 = some .cell
  loc : ∀ y ∈ scope.names, y.2 = .local → scope.names.lookup y.1 = some .local
  free : ∀ y ∈ scope.names, y.2 = .free → X.env.kindOf y.1 = some .cell ∨ X.env.kindOf y.1 = some .free
theorem inv_comp {pins : List (Addr × Obj)} {σ σc : St} {H3 : Hp} {s3 : Shared} {fp : List Addr} {cl : List (Str × Addr)} {h' : Heap} {tk : Nat} (S : CScope X N' scope) (I : Inv X pins σ H3 s3)
    (hf : ∀ b ∈ fp, FpOk X pins H3 b) (hfl : ∀ b ∈ fp, b < s3.heap.objs.size) (hc1 : ∀ x c, cl.lookup x = some c → X.env.cells.lookup x = some c) (hc2 : ∀ y ∈ scope.names, y.2 = .free → ∃ c, cl.lookup y.1 = some c) (cap : CapOk X N' scope σ σc)
    (hns : h'.Ns s3.heap.objs.size (fun _ => none)) (hk : ∀ b o, s3.heap.get? b = some o → h'.get? b = some o)
    (hown : (∀ x c, cl.lookup x = some c → c < s3.heap.objs.size) → ∀ x c, (cellsFrom (s3.heap.objs.size + 1) scope.names cl).lookup x = some c → s3.heap.objs.size + 1 ≤ c → h'.IsCell c none) :
    Inv (cxc X N' scope (cellsFrom (s3.heap.objs.size + 1) scope.names cl) s3.heap.objs.size fp s3 H3) [] σc H3 { s3 with heap := h', toks := tk } := by
  have nold : ∀ b, b ∈ fp → b ≠ s3.heap.objs.size := fun b hb e => absurd (hfl b hb) (by rw [e]; exact Nat.lt_irrefl _)
  have cellOld : ∀ x c, cl.lookup x = some c → ∃ v, s3.heap.IsCell c v := fun x c e => I.cell x c (hc1 x c e)
  have cellLt : ∀ x c, cl.lookup x = some c → c < s3.heap.objs.size := fun x c e => let ⟨v, q⟩ := cellOld x c e; q.lt
  have cellNew : ∀ c v, s3.heap.IsCell c v → h'.IsCell c v := fun c v ⟨o, ho, hd⟩ => ⟨o, hk c o ho, hd⟩
  have hown := hown cellLt
  have look : ∀ x c, (cellsFrom (s3.heap.objs.size + 1) scope.names cl).lookup x = some c → cl.lookup x = some c ∨ (s3.heap.objs.size + 1 ≤ c ∧ (x, NameKind.cell) ∈ scope.names) := cf_look scope.names _ cl
  refine ⟨⟨I.ok.mod, S.kind, I.ok.glob, I.ok.blt, Nat.le_refl _, cf_inj scope.names _ cl (fun x y c h1 h2 => I.ok.inj x y c (hc1 x c h1) (hc1 y c h2)) (fun x c e => Nat.lt_succ_of_lt (cellLt x c e)), fun x hx => ?_, fun x c e1 e2 => ?_, I.ok.hd, I.ok.frames, .inl rfl, fun b hb => ⟨nold b hb, fun x c e => ?_⟩,
    I.bs, Nat.le_trans I.ok.bsz I.sz, fun b o e hb => ?_, fun b hb hs => ?_, I.stack, I.stkFree⟩, rfl, I.bare, Un.kept hk, ⟨_, hns, fun j x v h1 h2 h3 => ?_⟩, fun x c e => ?_, I.hok.fresh (Nat.le_refl _), fun x c e => ?_, fun p hp => absurd (show p ∈ ([] : List (Addr × Obj)) from hp) (by simp), I.hok.kept hk, cap.1⟩
  · obtain ⟨k, hm, hk'⟩ := lookup_relabel_inv (env := X.env) (names := scope.names) (x := x) hx
    rcases hk' with rfl | rfl
    · exact cf_keep scope.names _ cl x (hc2 _ hm rfl)
    · exact cf_has scope.names _ cl x hm
  · have e1 : decide (scope.names.lookup x = some .cell) = true := e1
    have := cf_own scope.names _ cl x c (PySem.mem_of_lookup (of_decide_eq_true e1)) e2
    exact Nat.le_trans (Nat.le_succ _) this
  · rcases look x c e with e | ⟨e, _⟩
    · exact (hf b hb).2.2.2.2.1 x c (hc1 x c e)
    · intro z
      rw [z] at e
      exact absurd (Nat.lt_of_lt_of_le (hfl b hb) (Nat.le_trans (Nat.le_succ _) e)) (Nat.lt_irrefl _)
  · rcases (hf b hb).2.2.2.1 with z | z
    · exact I.ok.noex b o e z
    · exact absurd (Nat.lt_of_lt_of_le (Heap.lt_size e) (Nat.le_trans I.ok.bsz z)) (Nat.lt_irrefl _)
  · rcases List.mem_cons.mp (I.stkSub b hs) with e | z
    · exact (hf b hb).2.1 e
    · exact (hf b hb).2.2.1 z
  · obtain ⟨hl, i, e1, e2, e3⟩ := cap.2 j x v h1 h2
    obtain ⟨m, hn, look'⟩ := I.loc
    obtain ⟨u, r, l⟩ := look' i x v e1 e2 (e3.elim (fun z => .inr (.inl z)) fun z => .inr (.inr z))
    refine ⟨u, r, .inr ⟨lookup_relabel_free hl, ?_⟩⟩
    rcases l with ⟨k, _⟩ | ⟨_, c, ec, hcell⟩
    · rcases e3 with z | z <;> (rw [k] at z; cases z)
    · obtain ⟨c', ec'⟩ := cf_keep scope.names (s3.heap.objs.size + 1) cl x (hc2 (x, .free) (PySem.mem_of_lookup hl) rfl)
      rcases look x c' ec' with q | ⟨_, q⟩
      · have := hc1 x c' q
        rw [ec] at this; cases this
        exact ⟨c, ec', cellNew c _ hcell⟩
      · have := S.own _ q rfl
        rw [hl] at this
        cases this
  · rcases look x c e with q | ⟨q, _⟩
    · obtain ⟨v, q⟩ := cellOld x c q
      exact ⟨v, cellNew c v q⟩
    · exact ⟨none, hown x c e q⟩
  · rcases look x c e with q | ⟨q, _⟩
    · exact I.freeC x c (hc1 x c q)
    · exact I.hok.fresh (by omega)
/-- the block's loop, over any iterator -/
theorem comp_loop {prog : Program} {w : World} {A : Around} {env : Env} {it acc : Value} {R : Result → Shared → Prop} {s0 : Shared} (J : Nat → Shared → Prop)
    (turn : ∀ n s, J n s → wpAny (model prog w) A (pyNext it) (fun r s1 => match r with
      | none => R (.ok .next) s1
      | some v => wpAny (model prog w) A (letOwnedTupleGo tg it v) (fun _ s2 => wpAny (model prog w) A (assign tg env v) (fun _ s3 =>
          wpAny (model prog w) A (forIn ifs true fun c r => if r = true then do let ok ← isTrue c env (eval c env); pure (ForInStep.yield ok) else pure (ForInStep.yield r)) (fun ok s4 =>
            if ok = true then wpAny (model prog w) A (eval elt env) (fun x s5 => wpAny (model prog w) A (call (.builtin "list.append") [acc, x]) (fun _ s6 => ∃ m, m < n ∧ J m s6) (fun _ _ => False) s5) (fun _ _ => False) s4
            else ∃ m, m < n ∧ J m s4) (fun _ _ => False) s3) (fun _ _ => False) s2) (fun _ _ => False) s1) (fun _ _ => False) s)
    (n : Nat) (h : J n s0) : codeAny (model prog w) A (.compLoop (.ListComp elt [⟨tg, iter, ifs, 0⟩] scope pos) 0 it acc env) R s0 := by
  have up : ∀ {α : Type} {t : Sem α} {Q : α → Shared → Prop} {E : Value → Shared → Prop} {s : Shared}, wpAny (model prog w) A t Q (fun _ _ => False) s → wpAny (model prog w) A t Q E s := fun h => wpAny_mono h (fun _ _ q => q) fun _ _ f => f.elim
  refine codeAny_loop (by rfl) J (fun k sk hk => ?_) n h
  show wpAny (model prog w) A ((compTurn (.ListComp elt [⟨tg, iter, ifs, 0⟩] scope pos) 0 it acc env).onRaise (fun x => do noteFrame x env; theTreesLotGoes x)) _ _ sk
  refine wpAny_noted (up ?_)
  rw [compTurn_list]
  refine wpAny_bind (wpAny_standAt (wpAny_bind (thn (turn k sk hk) fun r s1 h1 => ?_)))
  cases r with
  | none => exact wpAny_pure h1
  | some v =>
    refine wpAny_bind (thn h1 fun _ s2 h2 => wpAny_bind (thn h2 fun _ s3 h3 => wpAny_bind (thn h3 fun ok s4 h4 => ?_)))
    cases ok with
    | false => exact wpAny_pure ⟨rfl, h4⟩
    | true => exact wpAny_bind (wpAny_bind (thn h4 fun x s5 h5 => wpAny_bind (thn h5 fun _ s6 h6 => wpAny_pure (wpAny_pure ⟨rfl, h6⟩))))
/-- the loop within the layer: at its end the block's state stands -/
theorem comp_run {it D C : Addr} {fp : List Addr} {tn : Nat → Heap → Prop} {J : It} {cl : List (Str × Addr)} {s3 s4 : Shared} {H3 : Hp} {σc : St} {g : TG} {tc : TT} {te : TE} {Q : Hp → Prop} (hcalm : X.calm = true)
    (T : Turn X.prog X.w X.K tg J fp it tn)
    (hg : PG (cxc X N' scope cl C fp s3 H3) tg g) (ht : PTs (cxc X N' scope cl C fp s3 H3) ifs tc) (he : PE (cxc X N' scope cl C fp s3 H3) elt te)
    (I : Inv (cxc X N' scope cl C fp s3 H3) [] σc H3 s4) (st : tn 0 s4.heap) (ff : ∀ b ∈ fp, FpOk (cxc X N' scope cl C fp s3 H3) [] H3 b)
    (W : Nat → Nat → List V → Hp → Prop) (hw : ∃ m, W 0 m [] H3)
    (turn : ∀ i m acc H2, W i m acc H2 → (J.stop i H2 ∧ Q H2) ∨
      (J.go i H2 ∧ ∀ x H5, J.yld i H2 x H5 → g x σc H5 fun σ2 H6 => (∀ (j : Nat) v, σc[j]? = some (some v) → σ2[j]? = some (some v)) ∧ tc σ2 H6 fun b H7 => if b = true then
        te σ2 H7 fun y H8 => H8 D = some (.lst acc) ∧ acc.length < sizeLine ∧ ∃ m', m' < m ∧ W (i + 1) m' (acc ++ [y]) (upd H8 D (.lst (acc ++ [y])))
        else ∃ m', m' < m ∧ W (i + 1) m' acc H7))
    {R : Result → Shared → Prop} (hR : ∀ H' s', Inv (cxc X N' scope cl C fp s3 H3) [] σc H' s' → Q H' → R (.ok .next) s') :
    codeAny (model X.prog X.w) X.A (.compStart (.ListComp elt [⟨tg, iter, ifs, 0⟩] scope pos) 0 (.ref it) (.ref D) (compEnvC scope cl C X.env)) R s4 := by
  obtain ⟨m0, w0⟩ := hw
  have stat : ∀ {H' : Hp}, (∀ b ∈ fp, H' b = none) → ∀ b ∈ fp, FpOk (cxc X N' scope cl C fp s3 H3) [] H' b := fun hn b hb => ⟨hn b hb, (ff b hb).2⟩
  have loop : codeAny (model X.prog X.w) X.A (.compLoop (.ListComp elt [⟨tg, iter, ifs, 0⟩] scope pos) 0 (.ref it) (.ref D) (compEnvC scope cl C X.env)) R s4 := by
    refine comp_loop (fun n s' => ∃ i acc H', Inv (cxc X N' scope cl C fp s3 H3) [] σc H' s' ∧ tn i s'.heap ∧ (∀ b ∈ fp, H' b = none) ∧ W i n acc H') ?_ m0 ⟨0, [], H3, I, st, fun b hb => (ff b hb).1, w0⟩
    rintro n s5 ⟨i, acc, H5, I5, st5, fr5, w5⟩
    rcases turn i n acc H5 w5 with ⟨stop, q⟩ | ⟨go, step⟩
    · refine thn (T.done (cxc X N' scope cl C fp s3 H3) rfl rfl rfl hcalm i [] s5 σc H5 _ I5 (stat fr5) st5 stop) fun r s6 ⟨hr, I6⟩ => ?_
      subst hr
      exact hR H5 s6 I6 q
    · refine thn (T.item (cxc X N' scope cl C fp s3 H3) rfl rfl rfl hcalm i [] s5 σc H5 _ I5 (stat fr5) st5 go) fun r s6 ⟨u, hr, h6⟩ => ?_
      subst hr
      refine thn h6 fun _ s7 ⟨x, H7, I7, r7, y7, st7, fr7⟩ => ?_
      have I7' := I7.pinned (stat fr7) (T.obj _ _ st7)
      refine thn (hg _ s7 σc H7 x u _ I7' r7 (step x H7 y7)) fun _ s8 ⟨σ8, H8, I8, k8, q8⟩ => ?_
      refine thn (ht _ s8 σ8 H8 _ I8 q8) fun ok s9 ⟨H9, I9, q9⟩ => ?_
      have again : ∀ {H' : Hp} {s' : Shared} {acc' : List V}, Inv (cxc X N' scope cl C fp s3 H3) ([] ++ pinsAt fp s7.heap) σ8 H' s' → (∃ m', m' < n ∧ W (i + 1) m' acc' H') →
          ∃ m, m < n ∧ ∃ i acc H', Inv (cxc X N' scope cl C fp s3 H3) [] σc H' s' ∧ tn i s'.heap ∧ (∀ b ∈ fp, H' b = none) ∧ W i m acc H' := fun {H' s' acc'} I' ⟨m', hm, w'⟩ => by
        have pin : ∀ b ∈ fp, ∀ o, s7.heap.get? b = some o → s'.heap.get? b = some o ∧ H' b = none := fun b hb o e => by
          have z := I'.pin (b, o) (List.mem_append_right _ (List.mem_append_right _ (mem_pinsAt hb e)))
          exact ⟨z.1, z.2.1⟩
        refine ⟨m', hm, i + 1, acc', H', ?_, T.keep _ _ _ st7 fun b hb o e => (pin b hb o e).1, fun b hb => ?_, w'⟩
        · exact I'.unpinned.weak (I.len.trans I8.len.symm) k8
        · obtain ⟨o, e, _⟩ := T.obj _ _ st7 b hb
          exact (pin b hb o e).2
      cases ok with
      | false =>
        rw [if_neg Bool.false_ne_true] at q9 ⊢
        exact again I9 q9
      | true =>
        rw [if_pos rfl] at q9 ⊢
        refine thn (he _ s9 σ8 H9 _ I9 q9) fun yv s10 ⟨y, H10, I10, r10, e10, l10, q10⟩ => ?_
        refine thn (mt_append _ s10 σ8 H10 (.ref D) [y] (.ref D) [yv] (fun v H11 => H11 = upd H10 D (.lst (acc ++ [y]))) I10 rfl (.cons r10 .nil) ⟨D, acc, y, rfl, rfl, e10, l10, rfl⟩) fun _ s11 ⟨_, H11, I11, _, e11⟩ => ?_
        subst e11
        exact again I11 q10
  exact codeAny_compStart_list loop (T.self _ 0 _ _ _ st loop)
/-- all of it: the list D stands behind the block, in the state outside -/
theorem comp_all {wi : TI} {g : TG} {tc : TT} {te : TE} {cp : Pos} {use : Option (Value → Sem Unit)} {pins : List (Addr × Obj)} {s : Shared} {σ : St} {H : Hp} {QV : Value → Shared → Prop} {Q : VK} (hcalm : X.calm = true) (S : CScope X N' scope) (hi : PI X tg iter wi)
    (hin : ∀ cl C fp s3 H3, PG (cxc X N' scope cl C fp s3 H3) tg g ∧ PTs (cxc X N' scope cl C fp s3 H3) ifs tc ∧ PE (cxc X N' scope cl C fp s3 H3) elt te)
    (hs : ∀ x, foldedSetIterable iter X.env x = pure x) (I : Inv X pins σ H s) (h : tComp wi (CapOk X N' scope) g tc te σ H Q)
    (fin : ∀ (D C : Addr) (H' : Hp) (s' : Shared), Inv X pins σ H' s' → H' C = none → C ≠ X.env.locals → X.s₀.heap.objs.size ≤ C → (∀ x c, X.env.cells.lookup x = some c → c ≠ C) → (∀ p ∈ X.pn ++ pins, p.1 ≠ C) → (∃ m, s'.heap.Ns C m) → Q (.ref D) H' →
      compPost (model X.prog X.w) X.A X.xe use QV (.ref D) C (.ok .next) s') :
    wpAny (model X.prog X.w) X.A (comprehension (.ListComp elt [⟨tg, iter, ifs, 0⟩] scope pos) scope X.env cp (newList []) false (eval iter X.env) use) QV X.xe s := by
  obtain ⟨cl, hcl, hc1, hc2⟩ := clos_ok (scope := scope) (env := X.env) fun y hy hf => I.ok.has y.1 (S.free y hy hf)
  refine wpAny_comprehension_free (g := ⟨tg, iter, ifs, 0⟩) (gs := []) rfl hs hcl S.kind S.loc ?_
  refine thn (hi pins s σ H _ I h) fun v s1 h1 => thn h1 fun itv s2 h2 => ?_
  obtain ⟨it, fp, tn, J, H2, e, I2, T, st2, f2, σc, cap, hw⟩ := h2
  subst e
  have hD0 : H2 s2.heap.objs.size = none := I2.hok.fresh (Nat.le_refl _)
  obtain ⟨W, hW0, turn⟩ := hw _ hD0
  have fpl : ∀ b ∈ fp, b < s2.heap.objs.size := fun b hb => let ⟨o, e, _⟩ := T.obj _ _ st2 b hb; Heap.lt_size e
  have hlist : ∀ D : Addr, D = s2.heap.objs.size → ∃ x, x = D := fun D _ => ⟨D, rfl⟩
  refine wpAny_newObj_type ?_
  have I3 : Inv X pins σ (upd H2 s2.heap.objs.size (.lst [])) { s2 with heap := s2.heap.push { cls := .type "list", dict := none, data := .seq ([] : List Value).toArray } } :=
    I2.laid (t' := s2.toks) (fun b o e => Heap.get?_push_of_some _ e) (Nat.le_refl _) ⟨Nat.zero_le _, [], 0, .nil, Heap.get?_push_size _ rfl⟩
  generalize hs3 : ({ s2 with heap := s2.heap.push { cls := .type "list", dict := none, data := .seq ([] : List Value).toArray } } : Shared) = s3 at I3
  have hs3' : s3.heap = s2.heap.push { cls := .type "list", dict := none, data := .seq ([] : List Value).toArray } := by rw [← hs3]
  have sz3 : s3.heap.objs.size = s2.heap.objs.size + 1 := by rw [hs3', Heap.size_push]
  have old3 : ∀ b o, s2.heap.get? b = some o → s3.heap.get? b = some o := fun b o e => by rw [hs3']; exact Heap.get?_push_of_some _ e
  have f3 : ∀ b ∈ fp, FpOk X pins (upd H2 s2.heap.objs.size (.lst [])) b := fun b hb => ⟨by rw [upd_ne (Nat.ne_of_lt (fpl b hb))]; exact (f2 b hb).1, (f2 b hb).2⟩
  have fpl3 : ∀ b ∈ fp, b < s3.heap.objs.size := fun b hb => by rw [sz3]; exact Nat.lt_succ_of_lt (fpl b hb)
  refine newEnv_own (fun h4 hns4' keep4 hown4 => ?_)
  have I4 := inv_comp (tk := s3.toks) S I3 f3 fpl3 hc1 hc2 cap hns4' keep4 hown4
  have hout : ∀ H' s', Inv (cxc X N' scope (cellsFrom (s3.heap.objs.size + 1) scope.names cl) s3.heap.objs.size fp s3 (upd H2 s2.heap.objs.size (.lst []))) [] σc H' s' → Inv X pins σ H' s' := fun H' s' J' =>
    I3.call' (ch := fp) J'.os J'.base J'.hok J'.bare fun b hb => ⟨(f3 b hb).2.2.2.1, (f3 b hb).2.1, (f3 b hb).2.2.2.2.1, (f3 b hb).2.2.2.2.2⟩
  obtain ⟨hg, ht, he⟩ := hin (cellsFrom (s3.heap.objs.size + 1) scope.names cl) s3.heap.objs.size fp s3 (upd H2 s2.heap.objs.size (.lst []))
  have fc : ∀ b ∈ fp, FpOk (cxc X N' scope (cellsFrom (s3.heap.objs.size + 1) scope.names cl) s3.heap.objs.size fp s3 (upd H2 s2.heap.objs.size (.lst []))) [] (upd H2 s2.heap.objs.size (.lst [])) b := fun b hb =>
    ⟨(f3 b hb).1, Nat.ne_of_lt (fpl3 b hb), fun hs' => (List.mem_cons.mp (I3.stkSub b hs')).elim (f3 b hb).2.1 (f3 b hb).2.2.1, .inl hb, fun x c e => (by
      rcases cf_look scope.names _ cl x c e with e | ⟨e, _⟩
      · exact (f3 b hb).2.2.2.2.1 x c (hc1 x c e)
      · intro z
        rw [z] at e
        exact absurd (Nat.lt_of_lt_of_le (fpl3 b hb) (Nat.le_trans (Nat.le_succ _) e)) (Nat.lt_irrefl _)), fun p hp => absurd (show p ∈ ([] : List (Addr × Obj)) from hp) (by simp)⟩
  have hC1 : s3.heap.objs.size ≠ X.env.locals := Ne.symm (Nat.ne_of_lt I3.lt)
  refine comp_run (D := s2.heap.objs.size) (C := s3.heap.objs.size) (s3 := s3) (σc := σc) (H3 := upd H2 s2.heap.objs.size (.lst [])) (W := W) (Q := fun H' => Q (.ref s2.heap.objs.size) H') hcalm T hg ht he I4 (T.keep _ _ _ st2 fun b hb o e => keep4 b o (old3 b o e)) fc hW0 turn fun H' s' J' q => ?_
  have O := hout H' s' J'
  refine fin _ _ H' s' O J'.free hC1 (Nat.le_trans I3.sz (Nat.le_refl _)) (fun x c e z => ?_) (fun p hp z => ?_) (let ⟨m, hn, _⟩ := J'.loc; ⟨m, hn⟩) q
  · obtain ⟨v, o, ho, _⟩ := I3.cell x c e
    exact absurd (Heap.lt_size ho) (by rw [z]; exact Nat.lt_irrefl _)
  · exact absurd (Heap.lt_size (I3.pin p hp).1) (by rw [z]; exact Nat.lt_irrefl _)
/-- the state outside stands however the block's names go -/
theorem Inv.letgo {pins : List (Addr × Obj)} {σ : St} {H : Hp} {s : Shared} {C : Addr} {h' : Heap} (I : Inv X pins σ H s) (hs : Heap.SameBut C s.heap h') (hn : H C = none) (hL : C ≠ X.env.locals) (h1 : X.s₀.heap.objs.size ≤ C)
    (h2 : ∀ x c, X.env.cells.lookup x = some c → c ≠ C) (h3 : ∀ p ∈ X.pn ++ pins, p.1 ≠ C) : Inv X pins σ H { s with heap := h' } :=
  I.turned (t' := s.toks) (fun b o hb e => (hs.2 b hb).trans e) hn hL (.inr h1) h2 h3
theorem pe_comp {wi : TI} {g : TG} {tc : TT} {te : TE} (hcalm : X.calm = true) (S : CScope X N' scope) (hi : PI X tg iter wi)
    (hin : ∀ cl C fp s3 H3, PG (cxc X N' scope cl C fp s3 H3) tg g ∧ PTs (cxc X N' scope cl C fp s3 H3) ifs tc ∧ PE (cxc X N' scope cl C fp s3 H3) elt te)
    (hs : ∀ x, foldedSetIterable iter X.env x = pure x := by intro _; rfl) : PE X (.ListComp elt [⟨tg, iter, ifs, 0⟩] scope pos) (tComp wi (CapOk X N' scope) g tc te) := by
  intro pins s σ H Q I h
  rw [eval_ListComp]
  refine comp_all (use := none) hcalm S hi hin hs I h fun D C H' s' O h1 h2 h3 h4 h5 ⟨m, hm⟩ q => ?_
  exact ⟨m, hm, fun h' hs' => ⟨.ref D, H', O.letgo hs' h1 h2 h3 h4 h5, rfl, q⟩⟩
/-- name = [..] -/
theorem ps_comp {wi : TI} {g : TG} {tc : TT} {te : TE} {i : Nat} {x : Str} {pos' spos : Pos} (hN : X.N.Nodup) (hx1 : X.N[i]? = some x) (hx : Loc X.env.scope x) (hf : X.fn x = true ∨ X.env.scope.names.lookup x = some .local) (hcalm : X.calm = true) (S : CScope X N' scope) (hi : PI X tg iter wi)
    (hin : ∀ cl C fp s3 H3, PG (cxc X N' scope cl C fp s3 H3) tg g ∧ PTs (cxc X N' scope cl C fp s3 H3) ifs tc ∧ PE (cxc X N' scope cl C fp s3 H3) elt te)
    (hs : ∀ x, foldedSetIterable iter X.env x = pure x := by intro _; rfl) :
    PS X (.Assign [.Name x pos'] (.ListComp elt [⟨tg, iter, ifs, 0⟩] scope pos) spos) (tAsg (tComp wi (CapOk X N' scope) g tc te) (gName i)) := by
  have hb : ∃ b, swapsWith (.ListComp elt [⟨tg, iter, ifs, 0⟩] scope pos) (some (.Name x pos')) spos.line X.env = pure b := ⟨_, rfl⟩
  obtain ⟨b, hb⟩ := hb
  cases b with
  | false => exact ps_set hN hx1 hx (pe_comp hcalm S hi hin hs) hb hf
  | true =>
    intro pins s σ H D I h
    rw [exec_Assign_Name_used _ _ _ _ hb]
    refine wpAny_bind (wpAny_standAt (wpAny_bind ?_))
    show wpAny _ X.A (do let _ ← comprehension (.ListComp elt [⟨tg, iter, ifs, 0⟩] scope pos) scope X.env _ (newList []) false (eval iter X.env) (some (assign (.Name x pos') X.env))) _ _ s
    refine wpAny_bind (thn (comp_all (use := some (assign (.Name x pos') X.env)) (QV := fun _ s' => SP X pins D .next s') hcalm S hi hin hs I h fun Dl C H' s' O h1 h2 h3 h4 h5 ⟨m, hm⟩ q => ?_) fun _ s' hq => wpAny_pure (wpAny_pure hq))
    refine wpAny_assign_Name (store_ok2 O hN hx1 hx (v := .ref Dl) (u := .ref Dl) rfl (fun s2 I2 hsb => ?_) hf)
    obtain ⟨a, sb, ha⟩ := hsb
    have haC : C ≠ a := by
      rcases ha with rfl | ha
      · exact h2
      · exact Ne.symm (h4 _ _ ha)
    exact ⟨m, hm.sameBut sb haC, fun h' hs' => ⟨_, H', I2.letgo hs' h1 h2 h3 h4 h5, q⟩⟩
end
end L2
namespace L2
open PySem PySem.Spec PyProof.Rows
section
variable {X : Cx} {pins : List (Addr × Obj)} {σ : St} {H H' : Hp} {s : Shared} {h' : Heap}
/-- untracked records of ours have turned, one new tuple is tracked (or none) -/
theorem Inv.turnT {t' : Nat} {ch : List Addr} {T : Addr} {ts : List V} (I : Inv X pins σ H s) (hf : ∀ b ∈ ch, FpOk X pins H b) (k : ∀ b o, b ∉ ch → s.heap.get? b = some o → h'.get? b = some o) (hp : ∀ b ∈ ch, ∃ o, h'.get? b = some o)
    (hT : s.heap.objs.size ≤ T) (hnew : ts.length ≤ sizeLine ∧ ∃ its : List Value, Vals ts its ∧ IsTup h' T its.toArray) : Inv X pins σ (upd H T (.tup ts)) { s with heap := h', toks := t' } := by
  have hn : H T = none := I.hok.fresh hT
  have neT : ∀ b u, H b = some u → b ≠ T := fun b u e => ne_of_none e hn
  have nch : ∀ b u, H b = some u → b ∉ ch := fun b u e hb => by rw [(hf b hb).1] at e; cases e
  have ltT : ∀ b o, s.heap.get? b = some o → b ≠ T := fun b o e => Nat.ne_of_lt (Nat.lt_of_lt_of_le (Heap.lt_size e) hT)
  refine I.step (g' := s.gens) (d' := s.drawn) (ch := ch) (fun b hb => ?_) (fun b o _ _ hc e _ => k b o hc e) (fun b o _ _ hc e _ => ⟨o.slots, k b o hc e⟩) (fun b o _ e n => by rw [upd_ne (ltT b o e)]; exact n)
    (fun b o hc e => ⟨o, k b o hc e⟩) (fun b xs e => by rw [upd_ne (neT b _ e)]; exact e) (fun b o u e => by rw [upd_ne (neT b _ e)]; exact e) (fun b ps e => ⟨#[], by rw [upd_ne (neT b _ e), e]; simp⟩) (fun m hm => ?_) (fun b u e => ?_) I.bare
  · obtain ⟨f0, f1, f2, f3, f4, f5⟩ := hf b hb
    exact ⟨f3, f1, f4, f5⟩
  · obtain ⟨o, es, ep, ho, r⟩ := hm
    exact ⟨o, es, ep, k _ o (fun z => (hf _ z).2.1 rfl) ho, r⟩
  · by_cases hb : b = T
    · subst hb
      rw [upd_same] at e
      cases e
      exact hnew
    · rw [upd_ne hb] at e
      refine (I.hok b u e).stay (fun c v hc q => k c v ?_ q) (fun c q => by rw [upd_ne (neT c _ q)]; exact q) fun c xs q => by rw [upd_ne (neT c _ q)]; exact q
      rcases hc with z | z
      · rw [z]; exact nch b u e
      · exact nch c _ z
/-- .. and nothing new is tracked -/
theorem Inv.turns {t' : Nat} {ch : List Addr} (I : Inv X pins σ H s) (hf : ∀ b ∈ ch, FpOk X pins H b) (k : ∀ b o, b ∉ ch → s.heap.get? b = some o → h'.get? b = some o) : Inv X pins σ H { s with heap := h', toks := t' } := by
  have nch : ∀ b u, H b = some u → b ∉ ch := fun b u e hb => by rw [(hf b hb).1] at e; cases e
  refine I.step (g' := s.gens) (d' := s.drawn) (ch := ch) (fun b hb => ?_) (fun b o _ _ hc e _ => k b o hc e) (fun b o _ _ hc e _ => ⟨o.slots, k b o hc e⟩) (fun b o _ e n => n)
    (fun b o hc e => ⟨o, k b o hc e⟩) (fun b xs e => e) (fun b o u e => e) (fun b ps e => ⟨#[], by rw [e]; simp⟩) (fun m hm => ?_) (fun b u e => ?_) I.bare
  · obtain ⟨f0, f1, f2, f3, f4, f5⟩ := hf b hb
    exact ⟨f3, f1, f4, f5⟩
  · obtain ⟨o, es, ep, ho, r⟩ := hm
    exact ⟨o, es, ep, k _ o (fun z => (hf _ z).2.1 rfl) ho, r⟩
  · refine (I.hok b u e).stay (fun c v hc q => k c v ?_ q) (fun c q => q) fun c xs q => q
    rcases hc with z | z
    · rw [z]; exact nch b u e
    · exact nch c _ z
end
/-- enumerate(list): at turn i the pair of i and the item -/
noncomputable def Ite (K : PySem.W.Frag) (a : Addr) : It :=
  ⟨fun i H => ∃ xs x, SqL K H a xs ∧ xs[i]? = some x, fun i H v H' => ∃ p x, v = .ref p ∧ H p = none ∧ H' = upd H p (.tup [.int i, x]) ∧ ∀ xs, SqL K H a xs → xs[i]? = some x, fun i H => ∃ xs, SqL K H a xs ∧ xs.length ≤ i⟩
theorem turn_enum {P : Program} {w : World} {K : PySem.W.Frag} {es : List Expr} {tk : Nat} {tpos : Pos} (a e it : Addr) (hne : e ≠ it) : Turn P w K (.Tuple es tk tpos) (Ite K a) [e, it] e (fun i h => ∃ old, IsEnum h e it (i : Int) old ∧ h.IsListIter it a i) where
  mem := by simp
  obj := fun i h st b hb => by
    obtain ⟨old, he, o, ho, hc, hd⟩ := st
    have hb : b = e ∨ b = it := by simpa using hb
    rcases hb with rfl | rfl
    · exact ⟨_, he, fun v z => by cases z⟩
    · exact ⟨o, ho, fun v z => by rw [hd] at z; cases z⟩
  keep := fun i h h' st k => by
    obtain ⟨old, he, hi⟩ := st
    exact ⟨old, k e (by simp) _ he, hi.at fun o q => k it (by simp) o q⟩
  item := by
    intro X hP hw hK hc i pins s σ H E I hf st hg
    subst hP hw hK
    obtain ⟨old, he, hi⟩ := st
    obtain ⟨xs, x, hq, hx⟩ := hg
    obtain ⟨its, rv, p, hz⟩ := I.list hq
    obtain ⟨u, hu, ru⟩ := rv.get hx
    refine wpAny_pyNext_enum_item he hi p.isList (x := u) (by simpa using hu) hne fun h1 heo hi1 ht1 hz1 hk1 => ?_
    refine ⟨.ref s.heap.objs.size, rfl, wpAny_letOwnedTupleGo_enum heo fun h2 he2 hs2 => ?_⟩
    replace hs2 : Heap.SameBut e h1 h2 := hs2
    have helt : e < s.heap.objs.size := Heap.lt_size he
    have hilt : it < s.heap.objs.size := by obtain ⟨o, ho, _⟩ := hi; exact Heap.lt_size ho
    have ht2 : IsTup h2 s.heap.objs.size [Value.int i s.toks, u].toArray := ⟨_, (hs2.2 _ (Nat.ne_of_gt helt)).trans ht1, rfl, _, rfl⟩
    have hi2 : h2.IsListIter it a (i + 1) := hi1.extBut hs2.extBut (Ne.symm hne)
    have kk : ∀ b o, b ∉ [e, it] → s.heap.get? b = some o → h2.get? b = some o := fun b o hb q => by
      have h1 : b ≠ e := fun z => hb (by simp [z])
      have h2 : b ≠ it := fun z => hb (by simp [z])
      exact hs2.extBut b o h1 (hk1 b o h1 h2 q)
    refine ⟨.ref s.heap.objs.size, upd H s.heap.objs.size (.tup [.int i, x]), I.turnT (t' := s.toks + 1) hf kk (fun b hb => ?_) (Nat.le_refl _) ⟨by show 2 ≤ sizeLine; decide, _, .cons ⟨_, rfl⟩ (.cons ru .nil), ht2⟩, rfl,
      ⟨_, x, rfl, I.hok.fresh (Nat.le_refl _), rfl, fun ys hy => by rw [I.list_inj hy hq]; exact hx⟩, ⟨u, ?_, hi2⟩, fun b hb => ?_⟩
    · have hb : b = e ∨ b = it := by simpa using hb
      rcases hb with rfl | rfl
      · exact ⟨_, he2⟩
      · obtain ⟨o, ho, _⟩ := hi2; exact ⟨o, ho⟩
    · have : ((i + 1 : Nat) : Int) = (i : Int) + 1 := by push_cast; rfl
      rw [this]; exact he2
    · have hb' : b = e ∨ b = it := by simpa using hb
      have : b ≠ s.heap.objs.size := by
        rcases hb' with rfl | rfl
        · exact Nat.ne_of_lt helt
        · exact Nat.ne_of_lt hilt
      rw [upd_ne this]; exact (hf b hb).1
  done := by
    intro X hP hw hK hc i pins s σ H E I hf st hg
    subst hP hw hK
    obtain ⟨old, he, hi⟩ := st
    obtain ⟨xs, hq, hx⟩ := hg
    obtain ⟨its, rv, p, hz⟩ := I.list hq
    have hl := rv.length
    refine wpAny_pyNext_enum_end (I.ok.hd hc) he hi p.isList (by simp; omega) fun h1 eb => ⟨rfl, ?_⟩
    exact I.turns (t' := s.toks) hf fun b o hb q => eb b o (fun z => hb (by simp [z])) q
  self := fun _ _ _ _ _ st h => by
    obtain ⟨old, he, hi⟩ := st
    exact wpAny_pyIter_enum he h
section
variable {X : Cx}
noncomputable def iEnum (K : PySem.W.Frag) (ta : TA) : TI := fun σ H R => ta σ H fun vs H1 => ∃ a, vs = [.ref a] ∧ (∃ xs, SqL K H1 a xs) ∧ R (Ite K a) H1
theorem pi_enum {a : Expr} {ta : TA} {p pos : Pos} {es : List Expr} {tk : Nat} {tpos : Pos} (hg : Gl X "enumerate") (hm : X.mg "enumerate" = none) (ha : PA X [a] ta) (hs : starEach [a] X.env = [(false, eval a X.env)]) :
    PI X (.Tuple es tk tpos) (.Call (.Name "enumerate" p) [a] [] pos) (iEnum X.K ta) := by
  intro pins s σ H R I h
  refine Call_ (ld_blt I hg hm PyProof.Rows.boot_enumerate (PyProof.Rows.callWith_type1 (thn (ha pos pins s σ H _ I h) fun us s1 ⟨vs, H1, I1, r1, q1⟩ => ?_) hs rfl))
  obtain ⟨l, e, ⟨xs, hq⟩, q⟩ := q1
  subst e
  obtain ⟨u, rfl, ru⟩ := vals1 r1
  cases ru
  obtain ⟨its, rv, pl, hz⟩ := I1.list hq
  refine call_enumerate_list pl.isList fun h2 he2 hi2 hz2 hk2 => ?_
  have I2 : Inv X pins σ H1 { s1 with heap := h2 } := I1.kept (t' := s1.toks) hk2
  refine wpAny_pyIter_enum he2 ⟨_, [s1.heap.objs.size + 1, s1.heap.objs.size], _, _, H1, rfl, I2, turn_enum l _ _ (Nat.succ_ne_self _), ⟨_, he2, hi2⟩, fun b hb => ?_, q⟩
  have hb : b = s1.heap.objs.size + 1 ∨ b = s1.heap.objs.size := by simpa using hb
  have hle : s1.heap.objs.size ≤ b := by rcases hb with rfl | rfl <;> omega
  exact I1.fpOk hle (I1.hok.fresh hle)
end
/-- zip(list, list): at turn i the pair of both items -/
noncomputable def Itz (K : PySem.W.Frag) (a b : Addr) : It :=
  ⟨fun i H => ∃ xs ys x y, SqL K H a xs ∧ SqL K H b ys ∧ xs[i]? = some x ∧ ys[i]? = some y, fun i H v H' => ∃ p x y, v = .ref p ∧ H p = none ∧ H' = upd H p (.tup [x, y]) ∧ (∀ xs, SqL K H a xs → xs[i]? = some x) ∧ ∀ ys, SqL K H b ys → ys[i]? = some y,
    fun i H => ∃ xs ys, SqL K H a xs ∧ SqL K H b ys ∧ (xs.length ≤ i ∨ ys.length ≤ i)⟩
structure ZipFive (z TI TO i1 i2 : Addr) : Prop where
  a : TI ≠ z
  b : TO ≠ z
  c : i1 ≠ z
  d : i2 ≠ z
  e : TI ≠ TO
  f : TI ≠ i1
  g : TI ≠ i2
  h : TO ≠ i1
  i : TO ≠ i2
  j : i1 ≠ i2
theorem turn_zip {P : Program} {w : World} {K : PySem.W.Frag} {es : List Expr} {tk : Nat} {tpos : Pos} (l1 l2 z TI TO i1 i2 : Addr) (D : ZipFive z TI TO i1 i2) :
    Turn P w K (.Tuple es tk tpos) (Itz K l1 l2) [z, TI, TO, i1, i2] z (fun i h => IsZip h z TI TO .none ∧ IsPair h TI (.ref i1) (.ref i2) ∧ (∃ a b, IsPair h TO a b) ∧ h.IsListIter i1 l1 i ∧ h.IsListIter i2 l2 i) where
  mem := by simp
  obj := fun i h st b hb => by
    obtain ⟨hz, hTI, ⟨p, q, hTO⟩, ⟨o1, ho1, hc1, hd1⟩, ⟨o2, ho2, hc2, hd2⟩⟩ := st
    have hb : b = z ∨ b = TI ∨ b = TO ∨ b = i1 ∨ b = i2 := by simpa using hb
    rcases hb with rfl | rfl | rfl | rfl | rfl
    · exact ⟨_, hz, fun v z => by cases z⟩
    · exact ⟨_, hTI, fun v z => by cases z⟩
    · exact ⟨_, hTO, fun v z => by cases z⟩
    · exact ⟨o1, ho1, fun v z => by rw [hd1] at z; cases z⟩
    · exact ⟨o2, ho2, fun v z => by rw [hd2] at z; cases z⟩
  keep := fun i h h' st k => by
    obtain ⟨hz, hTI, ⟨p, q, hTO⟩, h1, h2⟩ := st
    exact ⟨k z (by simp) _ hz, k TI (by simp) _ hTI, ⟨p, q, k TO (by simp) _ hTO⟩, h1.at fun o e => k i1 (by simp) o e, h2.at fun o e => k i2 (by simp) o e⟩
  item := by
    intro X hP hw hK hc i pins s σ H E I hf st hg
    subst hP hw hK
    obtain ⟨hz, hTI, ⟨a0, b0, hTO⟩, h1, h2⟩ := st
    obtain ⟨xs, ys, x, y, hq1, hq2, hx, hy⟩ := hg
    obtain ⟨its, rv, p, hzz⟩ := I.list hq1
    obtain ⟨its2, rv2, p2, hzz2⟩ := I.list hq2
    obtain ⟨u, hu, ru⟩ := rv.get hx
    obtain ⟨u2, hu2, ru2⟩ := rv2.get hy
    have free : ∀ l ys, SqL X.K H l ys → ∀ b, b ∈ [z, TI, TO, i1, i2] → l ≠ b := fun l ys hq b hb e => by
      subst e
      rcases hq with (hq | ⟨o, hq⟩) | ⟨o, its, n, hk, hc', _, hd', _⟩
      · rw [(hf l hb).1] at hq; cases hq
      · rw [(hf l hb).1] at hq; cases hq
      · have e1 := I.kIn l o hk
        obtain ⟨o1, ho1, hcc1, hd1⟩ := id h1
        obtain ⟨o2, ho2, hcc2, hd2⟩ := id h2
        have hb : l = z ∨ l = TI ∨ l = TO ∨ l = i1 ∨ l = i2 := by simpa using hb
        rcases hb with rfl | rfl | rfl | rfl | rfl
        · rw [hz] at e1; cases e1; simp at hc'
        · rw [hTI] at e1; cases e1; simp at hc'
        · rw [hTO] at e1; cases e1; simp at hc'
        · rw [ho1] at e1; cases e1; rw [hc'] at hcc1; simp at hcc1
        · rw [ho2] at e1; cases e1; rw [hc'] at hcc2; simp at hcc2
    have A1 := free l1 xs hq1
    have A2 := free l2 ys hq2
    have DD : ZipApart z TI TO i1 i2 l1 l2 := ⟨D.a, D.b, D.c, D.d, D.e, D.f, D.g, D.h, D.i, D.j, A1 z (by simp), A1 TO (by simp), A1 i1 (by simp), A1 i2 (by simp), A2 z (by simp), A2 TO (by simp), A2 i1 (by simp), A2 i2 (by simp)⟩
    refine wpAny_pyNext_zip_item DD hz hTI hTO h1 h2 p.isList p2.isList (x := u) (y := u2) (by simpa using hu) (by simpa using hu2) fun h3 z3 TO3 a3 b3 T3 sz3 k3 => ?_
    refine ⟨.ref s.heap.objs.size, rfl, wpAny_letOwnedTupleGo_zip z3 fun h4 z4 hs4 => ?_⟩
    replace hs4 : Heap.SameBut z h3 h4 := hs4
    have lt : ∀ {c o}, s.heap.get? c = some o → c < s.heap.objs.size := fun e => Heap.lt_size e
    have hzlt := lt hz
    have all : ∀ b ∈ [z, TI, TO, i1, i2], b < s.heap.objs.size := fun b hb => by
      have hb : b = z ∨ b = TI ∨ b = TO ∨ b = i1 ∨ b = i2 := by simpa using hb
      obtain ⟨o1, ho1, _⟩ := h1
      obtain ⟨o2, ho2, _⟩ := h2
      rcases hb with rfl | rfl | rfl | rfl | rfl
      · exact lt hz
      · exact lt hTI
      · exact lt hTO
      · exact lt ho1
      · exact lt ho2
    have kk : ∀ b o, b ∉ [z, TI, TO, i1, i2] → s.heap.get? b = some o → h4.get? b = some o := fun b o hb q => by
      have n1 : b ≠ z := fun e => hb (by simp [e])
      exact hs4.extBut b o n1 (k3 b o n1 (fun e => hb (by simp [e])) (fun e => hb (by simp [e])) (fun e => hb (by simp [e])) q)
    have TI4 : IsPair h4 TI (.ref i1) (.ref i2) := hs4.extBut _ _ D.a (k3 _ _ D.a D.e D.f D.g hTI)
    have TO4 : IsPair h4 TO u u2 := hs4.extBut _ _ D.b TO3
    have a4 : h4.IsListIter i1 l1 (i + 1) := a3.extBut hs4.extBut D.c
    have b4 : h4.IsListIter i2 l2 (i + 1) := b3.extBut hs4.extBut D.d
    have T4 : IsTup h4 s.heap.objs.size [u, u2].toArray := ⟨_, (hs4.2 _ (Nat.ne_of_gt hzlt)).trans T3, rfl, _, rfl⟩
    refine ⟨.ref s.heap.objs.size, upd H s.heap.objs.size (.tup [x, y]), I.turnT (t' := s.toks) hf kk (fun b hb => ?_) (Nat.le_refl _) ⟨by show 2 ≤ sizeLine; decide, _, .cons ru (.cons ru2 .nil), T4⟩, rfl,
      ⟨_, x, y, rfl, I.hok.fresh (Nat.le_refl _), rfl, fun zs hy' => by rw [I.list_inj hy' hq1]; exact hx, fun zs hy' => by rw [I.list_inj hy' hq2]; exact hy⟩, ⟨z4, TI4, ⟨_, _, TO4⟩, a4, b4⟩, fun b hb => ?_⟩
    · have hb : b = z ∨ b = TI ∨ b = TO ∨ b = i1 ∨ b = i2 := by simpa using hb
      obtain ⟨o1, ho1, _⟩ := a4
      obtain ⟨o2, ho2, _⟩ := b4
      rcases hb with rfl | rfl | rfl | rfl | rfl
      · exact ⟨_, z4⟩
      · exact ⟨_, TI4⟩
      · exact ⟨_, TO4⟩
      · exact ⟨_, ho1⟩
      · exact ⟨_, ho2⟩
    · rw [upd_ne (Nat.ne_of_lt (all b hb))]; exact (hf b hb).1
  done := by
    intro X hP hw hK hc i pins s σ H E I hf st hg
    subst hP hw hK
    obtain ⟨hz, hTI, ⟨a0, b0, hTO⟩, h1, h2⟩ := st
    obtain ⟨xs, ys, hq1, hq2, hx⟩ := hg
    obtain ⟨its, rv, p, hzz⟩ := I.list hq1
    obtain ⟨its2, rv2, p2, hzz2⟩ := I.list hq2
    have free : ∀ l ys, SqL X.K H l ys → ∀ b, b ∈ [z, TI, TO, i1, i2] → l ≠ b := fun l ys hq b hb e => by
      subst e
      rcases hq with (hq | ⟨o, hq⟩) | ⟨o, its, n, hk, hc', _, hd', _⟩
      · rw [(hf l hb).1] at hq; cases hq
      · rw [(hf l hb).1] at hq; cases hq
      · have e1 := I.kIn l o hk
        obtain ⟨o1, ho1, hcc1, hd1⟩ := id h1
        obtain ⟨o2, ho2, hcc2, hd2⟩ := id h2
        have hb : l = z ∨ l = TI ∨ l = TO ∨ l = i1 ∨ l = i2 := by simpa using hb
        rcases hb with rfl | rfl | rfl | rfl | rfl
        · rw [hz] at e1; cases e1; simp at hc'
        · rw [hTI] at e1; cases e1; simp at hc'
        · rw [hTO] at e1; cases e1; simp at hc'
        · rw [ho1] at e1; cases e1; rw [hc'] at hcc1; simp at hcc1
        · rw [ho2] at e1; cases e1; rw [hc'] at hcc2; simp at hcc2
    have A1 := free l1 xs hq1
    have A2 := free l2 ys hq2
    have DD : ZipApart z TI TO i1 i2 l1 l2 := ⟨D.a, D.b, D.c, D.d, D.e, D.f, D.g, D.h, D.i, D.j, A1 z (by simp), A1 TO (by simp), A1 i1 (by simp), A1 i2 (by simp), A2 z (by simp), A2 TO (by simp), A2 i1 (by simp), A2 i2 (by simp)⟩
    have hl := rv.length
    have hl2 := rv2.length
    refine wpAny_pyNext_zip_end (I.ok.hd hc) DD hz hTI hTO h1 h2 p.isList p2.isList (by rcases hx with hx | hx; (left; simp; omega); (right; simp; omega)) fun h3 k3 => ⟨rfl, ?_⟩
    exact I.turns (t' := s.toks) hf fun b o hb q => k3 b o (fun e => hb (by simp [e])) (fun e => hb (by simp [e])) (fun e => hb (by simp [e])) (fun e => hb (by simp [e])) q
  self := fun _ _ _ _ _ st h => wpAny_pyIter_zip st.1 h
section
variable {X : Cx}
noncomputable def iZip (K : PySem.W.Frag) (ta : TA) : TI := fun σ H R => ta σ H fun vs H1 => ∃ a b, vs = [.ref a, .ref b] ∧ (∃ xs, SqL K H1 a xs) ∧ (∃ ys, SqL K H1 b ys) ∧ R (Itz K a b) H1
theorem pi_zip {a b : Expr} {ta : TA} {p pos : Pos} {es : List Expr} {tk : Nat} {tpos : Pos} (hg : Gl X "zip") (hm : X.mg "zip" = none) (ha : PA X [a, b] ta) (hs : starEach [a, b] X.env = [(false, eval a X.env), (false, eval b X.env)]) (hs2 : starEach [b] X.env = [(false, eval b X.env)]) :
    PI X (.Tuple es tk tpos) (.Call (.Name "zip" p) [a, b] [] pos) (iZip X.K ta) := by
  intro pins s σ H R I h
  refine Call_ (ld_blt I hg hm PyProof.Rows.boot_zip (PyProof.Rows.callWith_type1 (thn (ha pos pins s σ H _ I h) fun us s1 ⟨vs, H1, I1, r1, q1⟩ => ?_) (by rw [hs, hs2]) (by rw [hs2]; rfl)))
  obtain ⟨l, l2, e, ⟨xs, hq⟩, ⟨ys, hq2⟩, q⟩ := q1
  subst e
  obtain ⟨u, u2, rfl, ru, ru2⟩ := vals2 r1
  cases ru
  cases ru2
  obtain ⟨its, rv, pl, hz⟩ := I1.list hq
  obtain ⟨its2, rv2, pl2, hz2⟩ := I1.list hq2
  refine call_zip_2 pl.isList pl2.isList fun h2 hz hTI hTO h1 h2' hsz hk2 => ?_
  have I2 : Inv X pins σ H1 { s1 with heap := h2 } := I1.kept (t' := s1.toks) hk2
  refine wpAny_pyIter_zip hz ⟨_, [s1.heap.objs.size + 4, s1.heap.objs.size + 2, s1.heap.objs.size + 3, s1.heap.objs.size, s1.heap.objs.size + 1], _, _, H1, rfl, I2, turn_zip l l2 _ _ _ _ _ ⟨?_, ?_, ?_, ?_, ?_, ?_, ?_, ?_, ?_, ?_⟩, ⟨hz, hTI, ⟨_, _, hTO⟩, h1, h2'⟩, fun b hb => ?_, q⟩
  iterate 10 (exact (by intro e; first | (have e' : (s1.heap.objs.size : Nat) + _ = _ := e; omega) | (have e' : (s1.heap.objs.size : Nat) = _ := e; omega)))
  have hle : s1.heap.objs.size ≤ b := by
    simp only [List.mem_cons, List.not_mem_nil, or_false] at hb
    rcases hb with rfl | rfl | rfl | rfl | rfl <;> first | exact Nat.le_refl _ | exact Nat.le_add_right _ _
  exact I1.fpOk hle (I1.hok.fresh hle)
end
end L2
namespace HS
open PySem PySem.Spec PyProof.Rows L2
/-- data, without the heap -/
inductive D where
  | non | bl (b : Bool) | int (i : Int) | str (x : Str) | tup (xs : List D) | lst (xs : List D)
mutual
noncomputable def D.flat : D → Bool
  | .lst _ => false
  | .tup xs => flats xs
  | .non => true
  | .bl _ => true
  | .int _ => true
  | .str _ => true
noncomputable def flats : List D → Bool
  | [] => true
  | d :: ds => d.flat && flats ds
end
mutual
/-- how many lists stand in it -/
noncomputable def D.nl : D → Nat
  | .lst xs => nls xs + 1
  | .tup xs => nls xs
  | .non => 0
  | .bl _ => 0
  | .int _ => 0
  | .str _ => 0
noncomputable def nls : List D → Nat
  | [] => 0
  | d :: ds => d.nl + nls ds
end
mutual
theorem nl_flat : ∀ (d : D), d.flat = true → d.nl = 0
  | .non, _ => rfl
  | .bl _, _ => rfl
  | .int _, _ => rfl
  | .str _, _ => rfl
  | .tup xs, h => by simp only [D.nl]; simp only [D.flat] at h; exact nls_flat xs h
  | .lst xs, h => by simp [D.flat] at h
theorem nls_flat : ∀ (ds : List D), flats ds = true → nls ds = 0
  | [], _ => rfl
  | d :: ds, h => by simp only [flats, Bool.and_eq_true] at h; simp only [nls, nl_flat d h.1, nls_flat ds h.2]
end
/-- a list that nobody writes: the script, one of the module -/
noncomputable def Fix (K : PySem.W.Frag) (H : Hp) (a : Addr) (vs : List V) : Prop :=
  (∃ o, H a = some (.frz o (.lst vs))) ∨
    ∃ (its : List Value) (n : Nat), K.lookup a = some { cls := .type "list", data := .seq its.toArray n } ∧ vs.length ≤ sizeLine ∧ Vals vs its
mutual
/-- the value v tells the data, by the lists F -/
noncomputable def Rp (K : PySem.W.Frag) (H : Hp) : D → V → List Addr → Prop
  | .non, v, F => v = .non ∧ F = []
  | .bl b, v, F => v = .bl b ∧ F = []
  | .int i, v, F => v = .int i ∧ F = []
  | .str x, v, F => v = .str x ∧ F = []
  | .tup ds, v, F => ∃ a vs, v = .ref a ∧ SqT K H a vs ∧ Rps K H ds vs F
  | .lst ds, v, F => ds.length ≤ sizeLine ∧ ∃ a vs, v = .ref a ∧ ((∃ G, F = a :: G ∧ H a = some (.lst vs) ∧ Rps K H ds vs G) ∨ (Fix K H a vs ∧ Rps K H ds vs F))
noncomputable def Rps (K : PySem.W.Frag) (H : Hp) : List D → List V → List Addr → Prop
  | [], vs, F => vs = [] ∧ F = []
  | d :: ds, vs, F => ∃ v ws F1 F2, vs = v :: ws ∧ F = F1 ++ F2 ∧ Rp K H d v F1 ∧ Rps K H ds ws F2
end
theorem sqT_same {K : PySem.W.Frag} {H H' : Hp} {a : Addr} {vs : List V} (s : Same H H') (h : SqT K H a vs) : SqT K H' a vs := by
  rcases h with (h | ⟨o, h⟩) | h
  · exact .inl (.inl (s _ _ h))
  · exact .inl (.inr ⟨o, s _ _ h⟩)
  · exact .inr h
theorem fix_same {K : PySem.W.Frag} {H H' : Hp} {a : Addr} {vs : List V} (s : Same H H') (h : Fix K H a vs) : Fix K H' a vs := by
  rcases h with ⟨o, h⟩ | h
  · exact .inl ⟨o, s _ _ h⟩
  · exact .inr h
theorem sqT_upd {K : PySem.W.Frag} {H : Hp} {a p : Addr} {vs zs ys : List V} (hp : H p = some (.lst zs)) (h : SqT K H a vs) : SqT K (upd H p (.lst ys)) a vs := by
  rcases h with (h | ⟨o, h⟩) | h
  · exact .inl (.inl (by rw [upd_ne (ne_of h hp (by intro z; cases z))]; exact h))
  · exact .inl (.inr ⟨o, by rw [upd_ne (ne_of h hp (by intro z; cases z))]; exact h⟩)
  · exact .inr h
theorem fix_upd {K : PySem.W.Frag} {H : Hp} {a p : Addr} {vs zs ys : List V} (hp : H p = some (.lst zs)) (h : Fix K H a vs) : Fix K (upd H p (.lst ys)) a vs := by
  rcases h with ⟨o, h⟩ | h
  · exact .inl ⟨o, by rw [upd_ne (ne_of h hp (by intro z; cases z))]; exact h⟩
  · exact .inr h
section
variable {K : PySem.W.Frag} {H H' : Hp}
mutual
theorem Rp.same (s : Same H H') : ∀ {d : D} {v : V} {F : List Addr}, Rp K H d v F → Rp K H' d v F
  | .non, _, _, h => h
  | .bl _, _, _, h => h
  | .int _, _, _, h => h
  | .str _, _, _, h => h
  | .tup ds, _, _, h => by
    simp only [Rp] at h ⊢
    obtain ⟨a, vs, e, q, r⟩ := h
    exact ⟨a, vs, e, sqT_same s q, Rps.same s r⟩
  | .lst ds, _, _, h => by
    simp only [Rp] at h ⊢
    obtain ⟨hz, a, vs, e, ⟨G, eF, q, r⟩ | ⟨q, r⟩⟩ := h
    · exact ⟨hz, a, vs, e, .inl ⟨G, eF, s _ _ q, Rps.same s r⟩⟩
    · exact ⟨hz, a, vs, e, .inr ⟨fix_same s q, Rps.same s r⟩⟩
theorem Rps.same (s : Same H H') : ∀ {ds : List D} {vs : List V} {F : List Addr}, Rps K H ds vs F → Rps K H' ds vs F
  | [], _, _, h => h
  | d :: ds, _, _, h => by
    simp only [Rps] at h ⊢
    obtain ⟨v, ws, F1, F2, e, eF, r, q⟩ := h
    exact ⟨v, ws, F1, F2, e, eF, Rp.same s r, Rps.same s q⟩
end
mutual
/-- a list elsewhere is written -/
theorem Rp.upd {p : Addr} {zs ys : List V} (hp : H p = some (.lst zs)) : ∀ {d : D} {v : V} {F : List Addr}, Rp K H d v F → p ∉ F → Rp K (upd H p (.lst ys)) d v F
  | .non, _, _, h, _ => h
  | .bl _, _, _, h, _ => h
  | .int _, _, _, h, _ => h
  | .str _, _, _, h, _ => h
  | .tup ds, _, _, h, hn => by
    simp only [Rp] at h ⊢
    obtain ⟨a, vs, e, q, r⟩ := h
    exact ⟨a, vs, e, sqT_upd hp q, Rps.upd hp r hn⟩
  | .lst ds, _, _, h, hn => by
    simp only [Rp] at h ⊢
    obtain ⟨hz, a, vs, e, ⟨G, eF, q, r⟩ | ⟨q, r⟩⟩ := h
    · subst eF
      have h1 : a ≠ p := fun z => hn (by rw [z]; exact List.mem_cons_self)
      exact ⟨hz, a, vs, e, .inl ⟨G, rfl, by rw [upd_ne h1]; exact q, Rps.upd hp r fun z => hn (List.mem_cons_of_mem _ z)⟩⟩
    · exact ⟨hz, a, vs, e, .inr ⟨fix_upd hp q, Rps.upd hp r hn⟩⟩
theorem Rps.upd {p : Addr} {zs ys : List V} (hp : H p = some (.lst zs)) : ∀ {ds : List D} {vs : List V} {F : List Addr}, Rps K H ds vs F → p ∉ F → Rps K (upd H p (.lst ys)) ds vs F
  | [], _, _, h, _ => h
  | d :: ds, _, _, h, hn => by
    simp only [Rps] at h ⊢
    obtain ⟨v, ws, F1, F2, e, eF, r, q⟩ := h
    subst eF
    exact ⟨v, ws, F1, F2, e, rfl, Rp.upd hp r fun z => hn (List.mem_append_left _ z), Rps.upd hp q fun z => hn (List.mem_append_right _ z)⟩
end
mutual
theorem Rp.mem : ∀ {d : D} {v : V} {F : List Addr}, Rp K H d v F → ∀ a ∈ F, ∃ vs, H a = some (.lst vs)
  | .non, _, _, h, a, ha => by simp only [Rp] at h; rw [h.2] at ha; simp at ha
  | .bl _, _, _, h, a, ha => by simp only [Rp] at h; rw [h.2] at ha; simp at ha
  | .int _, _, _, h, a, ha => by simp only [Rp] at h; rw [h.2] at ha; simp at ha
  | .str _, _, _, h, a, ha => by simp only [Rp] at h; rw [h.2] at ha; simp at ha
  | .tup ds, _, _, h, a, ha => by
    simp only [Rp] at h
    obtain ⟨_, vs, e, q, r⟩ := h
    exact Rps.mem r a ha
  | .lst ds, _, _, h, a, ha => by
    simp only [Rp] at h
    obtain ⟨_, b, vs, e, ⟨G, eF, q, r⟩ | ⟨q, r⟩⟩ := h
    · subst eF
      rcases List.mem_cons.mp ha with z | z
      · exact ⟨vs, by rw [z]; exact q⟩
      · exact Rps.mem r a z
    · exact Rps.mem r a ha
theorem Rps.mem : ∀ {ds : List D} {vs : List V} {F : List Addr}, Rps K H ds vs F → ∀ a ∈ F, ∃ vs, H a = some (.lst vs)
  | [], _, _, h, a, ha => by simp only [Rps] at h; rw [h.2] at ha; simp at ha
  | d :: ds, _, _, h, a, ha => by
    simp only [Rps] at h
    obtain ⟨v, ws, F1, F2, e, eF, r, q⟩ := h
    subst eF
    rcases List.mem_append.mp ha with z | z
    · exact Rp.mem r a z
    · exact Rps.mem q a z
end
mutual
theorem Rp.flat0 : ∀ {d : D} {v : V} {F : List Addr}, Rp K H d v F → d.flat = true → F = []
  | .non, _, _, h, _ => by simp only [Rp] at h; exact h.2
  | .bl _, _, _, h, _ => by simp only [Rp] at h; exact h.2
  | .int _, _, _, h, _ => by simp only [Rp] at h; exact h.2
  | .str _, _, _, h, _ => by simp only [Rp] at h; exact h.2
  | .tup ds, _, _, h, hf => by
    simp only [Rp] at h
    simp only [D.flat] at hf
    obtain ⟨_, vs, e, q, r⟩ := h
    exact Rps.flat0 r hf
  | .lst ds, _, _, h, hf => by simp [D.flat] at hf
theorem Rps.flat0 : ∀ {ds : List D} {vs : List V} {F : List Addr}, Rps K H ds vs F → flats ds = true → F = []
  | [], _, _, h, _ => by simp only [Rps] at h; exact h.2
  | d :: ds, _, _, h, hf => by
    simp only [Rps] at h
    simp only [flats, Bool.and_eq_true] at hf
    obtain ⟨v, ws, F1, F2, e, eF, r, q⟩ := h
    rw [eF, Rp.flat0 r hf.1, Rps.flat0 q hf.2]; rfl
end
mutual
theorem Rp.len_le : ∀ {d : D} {v : V} {F : List Addr}, Rp K H d v F → F.length ≤ d.nl
  | .non, _, _, h => by simp only [Rp] at h; rw [h.2]; exact Nat.zero_le _
  | .bl _, _, _, h => by simp only [Rp] at h; rw [h.2]; exact Nat.zero_le _
  | .int _, _, _, h => by simp only [Rp] at h; rw [h.2]; exact Nat.zero_le _
  | .str _, _, _, h => by simp only [Rp] at h; rw [h.2]; exact Nat.zero_le _
  | .tup ds, _, _, h => by
    simp only [Rp] at h
    obtain ⟨_, vs, e, q, r⟩ := h
    simp only [D.nl]
    exact Rps.len_le r
  | .lst ds, _, _, h => by
    simp only [Rp] at h
    simp only [D.nl]
    obtain ⟨_, b, vs, e, ⟨G, eF, q, r⟩ | ⟨q, r⟩⟩ := h
    · rw [eF, List.length_cons]; have := Rps.len_le r; omega
    · have := Rps.len_le r; omega
theorem Rps.len_le : ∀ {ds : List D} {vs : List V} {F : List Addr}, Rps K H ds vs F → F.length ≤ nls ds
  | [], _, _, h => by simp only [Rps] at h; rw [h.2]; exact Nat.zero_le _
  | d :: ds, _, _, h => by
    simp only [Rps] at h
    obtain ⟨v, ws, F1, F2, e, eF, r, q⟩ := h
    simp only [nls]
    rw [eF, List.length_append]
    have := Rp.len_le r
    have := Rps.len_le q
    omega
end
theorem Rps.length : ∀ {ds : List D} {vs : List V} {F : List Addr}, Rps K H ds vs F → ds.length = vs.length
  | [], _, _, h => by simp only [Rps] at h; rw [h.1]; rfl
  | d :: ds, _, _, h => by
    simp only [Rps] at h
    obtain ⟨v, ws, F1, F2, e, eF, r, q⟩ := h
    rw [e, List.length_cons, List.length_cons, Rps.length q]
theorem Rps.append : ∀ {ds es : List D} {vs ws : List V} {F G : List Addr}, Rps K H ds vs F → Rps K H es ws G → Rps K H (ds ++ es) (vs ++ ws) (F ++ G)
  | [], _, _, _, _, _, h, g => by simp only [Rps] at h; rw [h.1, h.2]; exact g
  | d :: ds, _, _, _, _, _, h, g => by
    simp only [Rps, List.cons_append] at h ⊢
    obtain ⟨v, ws, F1, F2, e, eF, r, q⟩ := h
    subst e eF
    exact ⟨v, _, F1, _, rfl, by rw [List.append_assoc], r, Rps.append q g⟩
/-- an item -/
theorem Rps.get : ∀ {ds : List D} {vs : List V} {F : List Addr} {i : Nat} {d : D}, Rps K H ds vs F → ds[i]? = some d → ∃ v F1 G F2, vs[i]? = some v ∧ F = F1 ++ (G ++ F2) ∧ Rp K H d v G ∧ (F.length = nls ds → G.length = d.nl)
  | [], _, _, _, _, _, e => by simp at e
  | d :: ds, _, _, 0, _, h, e => by
    simp only [Rps] at h
    obtain ⟨v, ws, F1, F2, e1, eF, r, q⟩ := h
    simp at e; subst e e1 eF
    refine ⟨v, [], F1, F2, by simp, rfl, r, fun hl => ?_⟩
    simp only [nls, List.length_append] at hl
    have := Rp.len_le r
    have := Rps.len_le q
    omega
  | d :: ds, _, _, i + 1, _, h, e => by
    simp only [Rps] at h
    obtain ⟨v, ws, F1, F2, e1, eF, r, q⟩ := h
    obtain ⟨v', G1, G, G2, h1, h2, h3, h4⟩ := Rps.get q (i := i) (by simpa using e)
    have l1 := Rp.len_le r
    have l2 := Rps.len_le q
    subst e1 eF
    refine ⟨v', F1 ++ G1, G, G2, by simpa using h1, by rw [h2, List.append_assoc], h3, fun hl => h4 ?_⟩
    simp only [nls, List.length_append] at hl
    omega
theorem Fix.sq {K : PySem.W.Frag} {H : Hp} {a : Addr} {vs : List V} (h : Fix K H a vs) : SqL K H a vs := by
  rcases h with ⟨o, h⟩ | ⟨its, n, h, hz, r⟩
  · exact .inl (.inr ⟨o, h⟩)
  · exact .inr ⟨_, its.toArray, n, h, rfl, rfl, rfl, by rw [List.size_toArray, ← r.length]; exact hz, by simpa using r⟩
/-- a list, written or not: its object as it stands -/
theorem _root_.L2.Inv.lstX {X : Cx} {pins : List (Addr × Obj)} {σ : L2.St} {H : Hp} {s : Shared} {a : Addr} {vs : List V} (I : Inv X pins σ H s) (h : H a = some (.lst vs) ∨ Fix X.K H a vs) :
    vs.length ≤ sizeLine ∧ ∃ (its : List Value) (n : Nat), Vals vs its ∧ vs.length = its.length ∧ s.heap.get? a = some { cls := .type "list", data := .seq its.toArray n } := by
  rcases h with h | ⟨o, h⟩ | ⟨its, n, h, hz, r⟩
  · exact I.lstM h
  · obtain ⟨e, hz, its, n, r, e2⟩ := I.hok a _ h
    exact ⟨hz, its, n, r, r.length, e2⟩
  · exact ⟨hz, its, n, r, r.length, I.kIn _ _ h⟩
/-- the list itself -/
theorem Rp.lst_inv {K : PySem.W.Frag} {H : Hp} {ds : List D} {v : V} {F : List Addr} (h : Rp K H (.lst ds) v F) :
    ∃ a vs G, v = .ref a ∧ (H a = some (.lst vs) ∨ Fix K H a vs) ∧ Rps K H ds vs G ∧ ds.length ≤ sizeLine ∧ (F = a :: G ∨ F = G) := by
  simp only [Rp] at h
  obtain ⟨hz, a, vs, e, ⟨G, eF, q, r⟩ | ⟨q, r⟩⟩ := h
  · exact ⟨a, vs, G, e, .inl q, r, hz, .inl eF⟩
  · exact ⟨a, vs, F, e, .inr q, r, hz, .inr rfl⟩
theorem lst_sq {K : PySem.W.Frag} {H : Hp} {a : Addr} {vs : List V} (h : H a = some (.lst vs) ∨ Fix K H a vs) : SqL K H a vs := h.elim (fun h => SqL.of h) Fix.sq
theorem Rp.tup_inv {K : PySem.W.Frag} {H : Hp} {ds : List D} {v : V} {F : List Addr} (h : Rp K H (.tup ds) v F) : ∃ a vs, v = .ref a ∧ SqT K H a vs ∧ Rps K H ds vs F := by
  simp only [Rp] at h
  exact h
theorem Rp.lst_mk {K : PySem.W.Frag} {H : Hp} {ds : List D} {a : Addr} {vs : List V} {G : List Addr} (h : H a = some (.lst vs)) (r : Rps K H ds vs G) (hz : ds.length ≤ sizeLine) : Rp K H (.lst ds) (.ref a) (a :: G) := by
  simp only [Rp]
  exact ⟨hz, a, vs, rfl, .inl ⟨G, rfl, h, r⟩⟩
theorem Rp.tup_mk {K : PySem.W.Frag} {H : Hp} {ds : List D} {a : Addr} {vs : List V} {G : List Addr} (h : H a = some (.tup vs)) (r : Rps K H ds vs G) : Rp K H (.tup ds) (.ref a) G := by
  simp only [Rp]
  exact ⟨a, vs, rfl, SqT.of h, r⟩
theorem Rp.int_inv {K : PySem.W.Frag} {H : Hp} {i : Int} {v : V} {F : List Addr} (h : Rp K H (.int i) v F) : v = .int i := by simp only [Rp] at h; exact h.1
theorem Rp.bl_inv {K : PySem.W.Frag} {H : Hp} {i : Bool} {v : V} {F : List Addr} (h : Rp K H (.bl i) v F) : v = .bl i := by simp only [Rp] at h; exact h.1
theorem Rp.non_inv {K : PySem.W.Frag} {H : Hp} {v : V} {F : List Addr} (h : Rp K H .non v F) : v = .non := by simp only [Rp] at h; exact h.1
theorem Rp.str_inv {K : PySem.W.Frag} {H : Hp} {i : Str} {v : V} {F : List Addr} (h : Rp K H (.str i) v F) : v = .str i := by simp only [Rp] at h; exact h.1
theorem Rp.int_mk {K : PySem.W.Frag} {H : Hp} {i : Int} : Rp K H (.int i) (.int i) [] := by simp [Rp]
theorem Rp.bl_mk {K : PySem.W.Frag} {H : Hp} {i : Bool} : Rp K H (.bl i) (.bl i) [] := by simp [Rp]
theorem Rp.non_mk {K : PySem.W.Frag} {H : Hp} : Rp K H .non .non [] := by simp [Rp]
theorem Rp.str_mk {K : PySem.W.Frag} {H : Hp} {i : Str} : Rp K H (.str i) (.str i) [] := by simp [Rp]
theorem same_upd {H : Hp} {p : Addr} {o : HO} (h : H p = none) : Same H (L2.upd H p o) := fun b u e => by rw [upd_ne (ne_of_none e h)]; exact e
end
end HS
namespace HS
open PySem PySem.Spec L2
noncomputable abbrev En := List (Option (D × Bool))
/-- a result: the data, whether its lists are nobody else's (but for the slots M, from which they may be) -/
structure R where
  d : D
  fr : Bool
  M : List Nat
structure RA where
  ds : List D
  fr : Bool
  M : List Nat
noncomputable abbrev DE := En → Option R
noncomputable abbrev DA := En → Option RA
noncomputable abbrev DT := En → Option Bool
structure Rel (K : PySem.W.Frag) (H0 : Hp) (A0 : List Addr) (hs : List (V × D × List Addr)) (ρ : En) (F : Nat → List Addr) (σ : St) (H : Hp) : Prop where
  len : ρ.length = σ.length
  val : ∀ (i : Nat) d b, ρ[i]? = some (some (d, b)) → ∃ v, σ[i]? = some (some v) ∧ Rp K H d v (F i)
  own : ∀ (i : Nat) d, ρ[i]? = some (some (d, true)) → (F i).length = d.nl ∧ (F i).Nodup ∧ (∀ a ∈ F i, H0 a = none) ∧ (∀ (j : Nat) d' b', j ≠ i → ρ[j]? = some (some (d', b')) → ∀ a ∈ F i, a ∉ F j) ∧ ∀ t ∈ hs, ∀ a ∈ F i, a ∉ t.2.2
  src : ∀ (i : Nat) d b, ρ[i]? = some (some (d, b)) → ∀ a ∈ F i, H0 a = none ∨ a ∈ A0
  held : ∀ t ∈ hs, Rp K H t.2.1 t.1 t.2.2 ∧ ∀ a ∈ t.2.2, H0 a = none ∨ a ∈ A0
  same : Same H0 H
/-- where the lists G of a result come from -/
noncomputable def Src (ρ : En) (F : Nat → List Addr) (H : Hp) (M : List Nat) (G : List Addr) : Prop :=
  ∀ a ∈ G, H a = none ∨ ∃ (i : Nat) (d : D) (b : Bool), ρ[i]? = some (some (d, b)) ∧ a ∈ F i ∧ (b = true → i ∈ M)
noncomputable def nw (H : Hp) (a : Addr) : Nat := match H a with | none => 1 | some _ => 0
noncomputable def Cnt (F : Nat → List Addr) (H : Hp) (M : List Nat) (G : List Addr) : Prop :=
  ∀ a, G.count a ≤ nw H a + ((M.map F).flatten).count a
noncomputable def Owns (ρ : En) (M : List Nat) : Prop := ∀ i ∈ M, ∃ d, ρ[i]? = some (some (d, true))
structure Post (K : PySem.W.Frag) (ρ : En) (F : Nat → List Addr) (H H' : Hp) (r : R) (v : V) (G : List Addr) : Prop where
  same : Same H H'
  rp : Rp K H' r.d v G
  src : Src ρ F H r.M G
  cnt : r.fr = true → Cnt F H r.M G ∧ G.length = r.d.nl
  own : Owns ρ r.M
structure Posts (K : PySem.W.Frag) (ρ : En) (F : Nat → List Addr) (H H' : Hp) (r : RA) (vs : List V) (G : List Addr) : Prop where
  same : Same H H'
  rp : Rps K H' r.ds vs G
  src : Src ρ F H r.M G
  cnt : r.fr = true → Cnt F H r.M G ∧ G.length = nls r.ds
  own : Owns ρ r.M
noncomputable def tV (K : PySem.W.Frag) (H0 : Hp) (A0 : List Addr) (f : DE) : TE := fun σ H Q => ∃ ρ hs F r, Rel K H0 A0 hs ρ F σ H ∧ f ρ = some r ∧ ∀ v H' G, Post K ρ F H H' r v G → Q v H'
noncomputable def tVA (K : PySem.W.Frag) (H0 : Hp) (A0 : List Addr) (f : DA) : TA := fun σ H Q => ∃ ρ hs F r, Rel K H0 A0 hs ρ F σ H ∧ f ρ = some r ∧ ∀ v H' G, Posts K ρ F H H' r v G → Q v H'
noncomputable def tVT (K : PySem.W.Frag) (H0 : Hp) (A0 : List Addr) (f : DT) : TT := fun σ H Q => ∃ ρ hs F b, Rel K H0 A0 hs ρ F σ H ∧ f ρ = some b ∧ ∀ H', Same H H' → Q b H'
/-- the denotation f is right for the expression e -/
noncomputable def SE (X : Cx) (e : Expr) (f : DE) : Prop := ∀ H0 A0, PE X e (tV X.K H0 A0 f)
noncomputable def SA (X : Cx) (es : List Expr) (f : DA) : Prop := ∀ H0 A0, PA X es (tVA X.K H0 A0 f)
noncomputable def ST (X : Cx) (e : Expr) (f : DT) : Prop := ∀ H0 A0, PT X e (tVT X.K H0 A0 f)
theorem _root_.L2.PE.mono {X : Cx} {e : Expr} {t t' : TE} (h : PE X e t) (m : ∀ σ H Q, t' σ H Q → t σ H Q) : PE X e t' := fun pins s σ H Q I q => h pins s σ H Q I (m σ H Q q)
theorem _root_.L2.PT.mono {X : Cx} {e : Expr} {t t' : TT} (h : PT X e t) (m : ∀ σ H Q, t' σ H Q → t σ H Q) : PT X e t' := fun pins s σ H Q I q => h pins s σ H Q I (m σ H Q q)
theorem _root_.L2.PA.mono {X : Cx} {e : List Expr} {t t' : TA} (h : PA X e t) (m : ∀ σ H Q, t' σ H Q → t σ H Q) : PA X e t' := fun pos pins s σ H Q I q => h pos pins s σ H Q I (m σ H Q q)
section
variable {K : PySem.W.Frag} {H0 H H' : Hp} {A0 : List Addr} {hs : List (V × D × List Addr)} {ρ : En} {F : Nat → List Addr} {σ : St}
theorem Rel.ext (r : Rel K H0 A0 hs ρ F σ H) (s : Same H H') : Rel K H0 A0 hs ρ F σ H' where
  len := r.len
  val := fun i d b e => let ⟨v, h1, h2⟩ := r.val i d b e; ⟨v, h1, h2.same s⟩
  own := r.own
  src := r.src
  held := fun t ht => ⟨(r.held t ht).1.same s, (r.held t ht).2⟩
  same := r.same.trans s
theorem Rel.mem (r : Rel K H0 A0 hs ρ F σ H) {i : Nat} {d : D} {b : Bool} (e : ρ[i]? = some (some (d, b))) {a : Addr} (h : a ∈ F i) : ∃ vs, H a = some (.lst vs) :=
  let ⟨_, _, h2⟩ := r.val i d b e; h2.mem a h
theorem nw_some {a : Addr} {o : HO} (h : H a = some o) : nw H a = 0 := by simp [nw, h]
theorem nw_none {a : Addr} (h : H a = none) : nw H a = 1 := by simp [nw, h]
theorem Rel.fl0 (r : Rel K H0 A0 hs ρ F σ H) {M : List Nat} (ow : Owns ρ M) {a : Addr} (h : H a = none) : ((M.map F).flatten).count a = 0 := by
  rw [List.count_eq_zero]
  intro hm
  obtain ⟨l, hl, ha⟩ := List.mem_flatten.mp hm
  obtain ⟨i, hi, rfl⟩ := List.mem_map.mp hl
  obtain ⟨d, e⟩ := ow i hi
  obtain ⟨vs, q⟩ := r.mem e ha
  rw [h] at q; cases q
/-- one behind the other -/
theorem Cnt.append (r : Rel K H0 A0 hs ρ F σ H) {H1 : Hp} {M1 M2 : List Nat} {G1 G2 : List Addr} (c1 : Cnt F H M1 G1) (c2 : Cnt F H1 M2 G2) (s : Same H H1) (m1 : ∀ a ∈ G1, ∃ vs, H1 a = some (.lst vs)) : Cnt F H (M1 ++ M2) (G1 ++ G2) := fun a => by
  rw [List.count_append, List.map_append, List.flatten_append, List.count_append]
  have h1 := c1 a
  have h2 := c2 a
  cases q : H1 a with
  | some o => rw [nw_some q] at h2; omega
  | none =>
    rw [nw_none q] at h2
    have h3 : H a = none := s.free q
    rw [nw_none h3] at h1 ⊢
    have h4 : G1.count a = 0 := List.count_eq_zero.mpr fun hm => by obtain ⟨vs, z⟩ := m1 a hm; rw [q] at z; cases z
    omega
theorem Src.append {H1 : Hp} {M1 M2 : List Nat} {G1 G2 : List Addr} (c1 : Src ρ F H M1 G1) (c2 : Src ρ F H1 M2 G2) (s : Same H H1) : Src ρ F H (M1 ++ M2) (G1 ++ G2) := fun a ha => by
  rcases List.mem_append.mp ha with h | h
  · rcases c1 a h with z | ⟨i, d, b, e, m, w⟩
    · exact .inl z
    · exact .inr ⟨i, d, b, e, m, fun hb => List.mem_append_left _ (w hb)⟩
  · rcases c2 a h with z | ⟨i, d, b, e, m, w⟩
    · exact .inl (s.free z)
    · exact .inr ⟨i, d, b, e, m, fun hb => List.mem_append_right _ (w hb)⟩
theorem Owns.append {M1 M2 : List Nat} (h1 : Owns ρ M1) (h2 : Owns ρ M2) : Owns ρ (M1 ++ M2) := fun i hi => (List.mem_append.mp hi).elim (h1 i) (h2 i)
theorem Owns.nil : Owns ρ [] := fun i hi => by simp at hi
theorem Src.nil {M : List Nat} : Src ρ F H M [] := fun a ha => by simp at ha
theorem Cnt.nil {M : List Nat} : Cnt F H M [] := fun a => by simp
/-- flat data -/
theorem Post.flat {d : D} {v : V} (s : Same H H') (r : Rp K H' d v []) (hf : d.flat = true := by rfl) : Post K ρ F H H' ⟨d, true, []⟩ v [] := ⟨s, r, Src.nil, fun _ => ⟨Cnt.nil, (nl_flat d hf).symm⟩, Owns.nil⟩
/-- part of the lists -/
theorem Post.sub {r : R} {v u : V} {d : D} {G G' : List Addr} {H1 : Hp} (p : Post K ρ F H H1 r v G) (rp : Rp K H1 d u G') (hs : ∀ a, G'.count a ≤ G.count a) (hn : G.length = r.d.nl → G'.length = d.nl) : Post K ρ F H H1 ⟨d, r.fr, r.M⟩ u G' where
  same := p.same
  rp := rp
  src := fun a ha => p.src a (by
    have := hs a
    have h1 : 0 < G'.count a := List.count_pos_iff.mpr ha
    exact List.count_pos_iff.mp (by omega))
  cnt := fun h => ⟨fun a => Nat.le_trans (hs a) ((p.cnt h).1 a), hn (p.cnt h).2⟩
  own := p.own
/-- flat data need nothing -/
noncomputable def R.norm (r : R) : R := if r.d.flat then ⟨r.d, true, []⟩ else r
theorem R.norm_d (r : R) : r.norm.d = r.d := by unfold R.norm; split <;> rfl
theorem Post.norm {r : R} {v : V} {G : List Addr} (p : Post K ρ F H H' r v G) : Post K ρ F H H' r.norm v G := by
  unfold R.norm
  split
  · rename_i h
    have := p.rp.flat0 h
    subst this
    exact .flat p.same p.rp h
  · exact p
end
/-! ### names, constants -/
noncomputable def dVar (i : Nat) : DE := fun ρ => match ρ[i]? with
  | some (some (d, b)) => if d.flat then some ⟨d, true, []⟩ else if b then some ⟨d, true, [i]⟩ else some ⟨d, false, []⟩
  | _ => none
noncomputable def dC (d : D) : DE := fun _ => some ⟨d, true, []⟩
section
variable {X : Cx}
theorem se_var {i : Nat} {x : Str} {pos : Pos} (h : PE X (.Name x pos) (tVar i)) : SE X (.Name x pos) (dVar i) := fun H0 A0 => h.mono fun σ H Q ⟨ρ, hs, F, r, rel, e, q⟩ => by
  unfold dVar at e
  split at e
  · rename_i d b q1
    obtain ⟨v, h1, h2⟩ := rel.val i d b q1
    refine ⟨v, h1, q v H (F i) ?_⟩
    split at e
    · rename_i hf
      cases e
      have := h2.flat0 hf
      rw [this] at h2 ⊢
      exact .flat (Same.refl _) h2 hf
    · split at e
      · rename_i hb
        cases e
        subst hb
        exact ⟨Same.refl _, h2, fun a ha => .inr ⟨i, d, true, q1, ha, fun _ => by simp⟩, fun _ => ⟨fun a => (by simp), (rel.own i d q1).1⟩, fun j hj => by simp at hj; subst hj; exact ⟨d, q1⟩⟩
      · rename_i hb
        cases e
        simp at hb
        subst hb
        exact ⟨Same.refl _, h2, fun a ha => .inr ⟨i, d, false, q1, ha, fun z => by cases z⟩, fun z => (by cases z), Owns.nil⟩
  · cases e
theorem se_c {e : Expr} {d : D} {v : V} (h : PE X e (tC v)) (r : ∀ K H, Rp K H d v []) (hf : d.flat = true) : SE X e (dC d) := fun H0 A0 => h.mono fun σ H Q ⟨ρ, hs, F, r', rel, e, q⟩ => by
  cases e
  exact q v H [] (.flat (Same.refl _) (r _ _) hf)
/-! ### one, two parts -/
theorem two {K : PySem.W.Frag} {H0 : Hp} {A0 : List Addr} {fa fb : DE} {σ : St} {H : Hp} {hs : List (V × D × List Addr)} {ρ : En} {F : Nat → List Addr} {ra rb : R} {Rr : V → V → Hp → Prop} (rel : Rel K H0 A0 hs ρ F σ H) (ea : fa ρ = some ra) (eb : fb ρ = some rb)
    (k : ∀ x y H1 H2 G1 G2, Post K ρ F H H1 ra x G1 → Post K ρ F H1 H2 rb y G2 → Rr x y H2) : tV K H0 A0 fa σ H fun x H1 => tV K H0 A0 fb σ H1 fun y H2 => Rr x y H2 :=
  ⟨ρ, hs, F, ra, rel, ea, fun x H1 G1 p1 => ⟨ρ, hs, F, rb, rel.ext p1.same, eb, fun y H2 G2 p2 => k x y H1 H2 G1 G2 p1 p2⟩⟩
/-- an operation upon two values whose result is flat -/
noncomputable def dOp (g : D → D → Option D) (fa fb : DE) : DE := fun ρ => (fa ρ).bind fun ra => (fb ρ).bind fun rb => (g ra.d rb.d).map fun d => ⟨d, true, []⟩
theorem dOp_inv {g : D → D → Option D} {fa fb : DE} {ρ : En} {r : R} (e : dOp g fa fb ρ = some r) : ∃ ra rb d, fa ρ = some ra ∧ fb ρ = some rb ∧ g ra.d rb.d = some d ∧ r = ⟨d, true, []⟩ := by
  unfold dOp at e
  cases h1 : fa ρ with
  | none => rw [h1] at e; cases e
  | some ra =>
    cases h2 : fb ρ with
    | none => rw [h1, h2] at e; cases e
    | some rb =>
      rw [h1, h2] at e
      cases h3 : g ra.d rb.d with
      | none => simp [h3] at e
      | some d => simp [h3] at e; exact ⟨ra, rb, d, rfl, rfl, h3, e.symm⟩
/-- what an operation's rule must give -/
noncomputable def OpOk (K : PySem.W.Frag) (g : D → D → Option D) (r : R2) : Prop := ∀ a b d, g a b = some d → d.flat = true ∧ ∀ H x y F G (Q : VK), Rp K H a x F → Rp K H b y G → (∀ v, (∀ H', Rp K H' d v []) → Q v H) → r x y H Q
theorem se_op {a b : Expr} {op : Operator} {pos : Pos} {fa fb : DE} {g : D → D → Option D} {r : R2} (ho : OpR X (binaryOp op) r) (hg : OpOk X.K g r) (ha : SE X a fa) (hb : SE X b fb) : SE X (.BinOp a op b pos) (dOp g fa fb) := fun H0 A0 =>
  (pe_op ho (ha H0 A0) (hb H0 A0)).mono fun σ H Q ⟨ρ, hs, F, r', rel, e, q⟩ => by
    obtain ⟨ra, rb, d, ea, eb, eg, rfl⟩ := dOp_inv e
    refine two rel ea eb fun x y H1 H2 G1 G2 p1 p2 => (hg _ _ _ eg).2 H2 x y G1 G2 Q (p1.rp.same p2.same) p2.rp fun v hv => ?_
    exact q v H2 [] (.flat (p1.same.trans p2.same) (hv H2) (hg _ _ _ eg).1)
theorem se_cmp {a b : Expr} {op : CmpOp} {pos : Pos} {fa fb : DE} {g : D → D → Option D} {r : R2} (ho : OpR X (compareOp op) r) (hg : OpOk X.K g r) (ha : SE X a fa) (hb : SE X b fb) (hm : behindInMarks op b = false) : SE X (.Compare a [op] [b] pos) (dOp g fa fb) := fun H0 A0 =>
  (pe_cmpR ho (ha H0 A0) (hb H0 A0) hm).mono fun σ H Q ⟨ρ, hs, F, r', rel, e, q⟩ => by
    obtain ⟨ra, rb, d, ea, eb, eg, rfl⟩ := dOp_inv e
    refine two rel ea eb fun x y H1 H2 G1 G2 p1 p2 => (hg _ _ _ eg).2 H2 x y G1 G2 Q (p1.rp.same p2.same) p2.rp fun v hv => ?_
    exact q v H2 [] (.flat (p1.same.trans p2.same) (hv H2) (hg _ _ _ eg).1)
end
end HS
namespace HS
open PySem PySem.Spec L2
/-! ### ints -/
noncomputable def pdiv (i j : Int) : Int := if 0 ≤ j then i / j else i.fdiv j
noncomputable def pmod (i j : Int) : Int := if 0 ≤ j then i % j else i.fmod j
theorem pdiv_eq (i j : Int) : pdiv i j = i.fdiv j := by
  unfold pdiv; split
  · rw [Int.fdiv_eq_ediv_of_nonneg _ (by assumption)]
  · rfl
theorem pmod_eq (i j : Int) : pmod i j = i.fmod j := by
  unfold pmod; split
  · rw [Int.fmod_eq_emod_of_nonneg _ (by assumption)]
  · rfl
/-- how large a factor may be -/
noncomputable def mulOk (i j : Int) : Bool := decide (i.natAbs < 2 ^ 64) || decide (j.natAbs < 2 ^ 64) || (decide (Builtin.Int.intBits i ≤ 2 ^ 20) && decide (Builtin.Int.intBits j ≤ 2 ^ 20))
noncomputable def divOk (j : Int) : Bool := decide (j ≠ 0) && decide (j.natAbs < 2 ^ 8000)
noncomputable def gI (f : Int → Int → Option D) (a b : D) : Option D := match a, b with
  | .int i, .int j => f i j
  | _, _ => none
noncomputable def gSub := gI fun i j => some (.int (i - j))
noncomputable def gDiv := gI fun i j => if divOk j then some (.int (pdiv i j)) else none
noncomputable def gMod := gI fun i j => if j ≠ 0 then some (.int (pmod i j)) else none
noncomputable def gLt := gI fun i j => some (.bl (decide (i < j)))
noncomputable def gLe := gI fun i j => some (.bl (decide (i ≤ j)))
noncomputable def gGt := gI fun i j => some (.bl (decide (j < i)))
noncomputable def gGe := gI fun i j => some (.bl (decide (j ≤ i)))
theorem gI_inv {f : Int → Int → Option D} {a b d : D} (h : gI f a b = some d) : ∃ i j, a = .int i ∧ b = .int j ∧ f i j = some d := by
  unfold gI at h
  split at h
  · exact ⟨_, _, rfl, rfl, h⟩
  · cases h
section
variable {K : PySem.W.Frag} {X : Cx}
theorem ok_I {f : Int → Int → Option D} {r : R2} (hf : ∀ i j d, f i j = some d → d.flat = true) (h : ∀ i j d, f i j = some d → ∀ H (Q : VK), (∀ v, (∀ H', Rp K H' d v []) → Q v H) → r (.int i) (.int j) H Q) : OpOk K (gI f) r := fun a b d e => by
  obtain ⟨i, j, rfl, rfl, ef⟩ := gI_inv e
  refine ⟨hf i j d ef, fun H x y F G Q ha hb q => ?_⟩
  rw [ha.int_inv, hb.int_inv]
  exact h i j d ef H Q q
theorem ok_sub : OpOk K gSub (rI0 fun i j => .int (i - j)) := ok_I (fun i j d e => by cases e; rfl) fun i j d e H Q q => by cases e; exact ⟨i, j, rfl, rfl, q _ fun _ => .int_mk⟩
theorem mulOk_ok {i j : Int} (h : mulOk i j = true) : IntMulOk i j := by
  have small : ∀ k : Int, k.natAbs < 2 ^ 64 → Builtin.Int.intBits k ≤ 64 := fun k hk => by
    unfold Builtin.Int.intBits
    split
    · omega
    · rename_i h0; have h0' : k.natAbs ≠ 0 := fun z => by simp_all
      have := (Nat.log2_lt h0').mpr hk; omega
  unfold mulOk at h
  simp only [Bool.or_eq_true, Bool.and_eq_true, decide_eq_true_eq] at h
  rcases h with (h | h) | ⟨h1, h2⟩
  · exact .of_left (small i h)
  · exact .of_right (small j h)
  · exact .of_bits h1 h2
theorem op_mulX : OpR X (binaryOp .Mult) (rI (fun i j => mulOk i j = true) fun i j => .int (i * j)) := opI fun _ _ _ _ _ _ _ hc q => PyProof.Rows.mul_int q (mulOk_ok hc)
theorem op_divX : OpR X (binaryOp .FloorDiv) (rI (fun i j => divOk j = true) fun i j => .int (pdiv i j)) := opI fun i j _ _ _ _ _ hc q => by
  unfold divOk at hc
  simp only [Bool.and_eq_true, decide_eq_true_eq] at hc
  rw [pdiv_eq] at q
  refine PyProof.Rows.floordiv_int hc.1 q (.inl (PyProof.noPylong_of_log2 ?_))
  have h0 : j.natAbs ≠ 0 := by omega
  exact Nat.lt_trans ((Nat.log2_lt h0).mpr hc.2) (by decide)
theorem op_modX : OpR X (binaryOp .Mod) (rI (fun i j => j ≠ 0) fun i j => .int (pmod i j)) := opI fun i j _ _ _ _ _ hc q => by
  rw [pmod_eq] at q
  exact PyProof.Rows.mod_int' hc q
theorem ok_div : OpOk K gDiv (rI (fun i j => divOk j = true) fun i j => .int (pdiv i j)) := ok_I (fun i j d e => by split at e <;> cases e; rfl) fun i j d e H Q q => by
  split at e
  · cases e; exact ⟨i, j, rfl, rfl, by assumption, q _ fun _ => .int_mk⟩
  · cases e
theorem ok_mod : OpOk K gMod (rI (fun i j => j ≠ 0) fun i j => .int (pmod i j)) := ok_I (fun i j d e => by split at e <;> cases e; rfl) fun i j d e H Q q => by
  split at e
  · cases e; exact ⟨i, j, rfl, rfl, by assumption, q _ fun _ => .int_mk⟩
  · cases e
theorem ok_lt : OpOk K gLt (rI0 fun i j => .bl (decide (i < j))) := ok_I (fun i j d e => by cases e; rfl) fun i j d e H Q q => by cases e; exact ⟨i, j, rfl, rfl, q _ fun _ => .bl_mk⟩
theorem ok_le : OpOk K gLe (rI0 fun i j => .bl (decide (i ≤ j))) := ok_I (fun i j d e => by cases e; rfl) fun i j d e H Q q => by cases e; exact ⟨i, j, rfl, rfl, q _ fun _ => .bl_mk⟩
theorem ok_gt : OpOk K gGt (rI0 fun i j => .bl (decide (j < i))) := ok_I (fun i j d e => by cases e; rfl) fun i j d e H Q q => by cases e; exact ⟨i, j, rfl, rfl, q _ fun _ => .bl_mk⟩
theorem ok_ge : OpOk K gGe (rI0 fun i j => .bl (decide (j ≤ i))) := ok_I (fun i j d e => by cases e; rfl) fun i j d e H Q q => by cases e; exact ⟨i, j, rfl, rfl, q _ fun _ => .bl_mk⟩
end
/-! ### flat lists -/
theorem flats_append : ∀ (xs ys : List D), flats (xs ++ ys) = (flats xs && flats ys)
  | [], ys => by simp [flats]
  | x :: xs, ys => by simp [flats, flats_append xs ys, Bool.and_assoc]
/-- a new list made of items of others -/
noncomputable def newL (ds : List D) (M : List Nat) : R := if flats ds then ⟨.lst ds, true, []⟩ else ⟨.lst ds, false, M⟩
section
variable {K : PySem.W.Frag} {H0 H H' : Hp} {A0 : List Addr} {hs : List (V × D × List Addr)} {ρ : En} {F : Nat → List Addr} {σ : L2.St}
theorem Post.newL {ds : List D} {M : List Nat} {vs : List V} {G : List Addr} {H1 : Hp} {p : Addr} (s : Same H H1) (hp : H1 p = none) (r : Rps K H1 ds vs G) (hz : ds.length ≤ sizeLine) (src : Src ρ F H M G) (ow : Owns ρ M) :
    Post K ρ F H (upd H1 p (.lst vs)) (newL ds M) (.ref p) (p :: G) := by
  have s2 : Same H1 (upd H1 p (.lst vs)) := same_upd hp
  have rp : Rp K (upd H1 p (.lst vs)) (.lst ds) (.ref p) (p :: G) := Rp.lst_mk upd_same (r.same s2) hz
  have hH : H p = none := s.free hp
  unfold HS.newL
  split
  · rename_i hf
    have := r.flat0 hf
    subst this
    refine ⟨s.trans s2, rp, fun a ha => ?_, fun _ => ⟨fun a => ?_, by simp only [D.nl, nls_flat ds hf]; rfl⟩, Owns.nil⟩
    · have : a = p := by simpa using ha
      subst this; exact .inl hH
    · rw [List.count_singleton]
      split
      · rename_i e; have e' : p = a := by simpa using e
        subst e'; rw [nw_none hH]; omega
      · omega
  · refine ⟨s.trans s2, rp, fun a ha => ?_, fun z => (by cases z), ow⟩
    rcases List.mem_cons.mp ha with rfl | h
    · exact .inl hH
    · exact src a h
end
/-! ### + and * -/
noncomputable def dAdd (fa fb : DE) : DE := fun ρ => (fa ρ).bind fun ra => (fb ρ).bind fun rb => match ra.d, rb.d with
  | .int i, .int j => some ⟨.int (i + j), true, []⟩
  | .lst xs, .lst ys => if xs.length + ys.length ≤ sizeLine then some (newL (xs ++ ys) (ra.M ++ rb.M)) else none
  | _, _ => none
noncomputable def dMul (fa fb : DE) : DE := fun ρ => (fa ρ).bind fun ra => (fb ρ).bind fun rb => match ra.d, rb.d with
  | .int i, .int j => if mulOk i j then some ⟨.int (i * j), true, []⟩ else none
  | .lst xs, .int j => if xs.length * j.toNat ≤ sizeLine ∧ -(2 ^ 63) ≤ j ∧ j < 2 ^ 63 ∧ flats xs = true then some ⟨.lst (List.replicate j.toNat xs).flatten, true, []⟩ else none
  | _, _ => none
theorem bind2 {fa fb : DE} {ρ : En} {k : R → R → Option R} {r : R} (e : ((fa ρ).bind fun ra => (fb ρ).bind fun rb => k ra rb) = some r) : ∃ ra rb, fa ρ = some ra ∧ fb ρ = some rb ∧ k ra rb = some r := by
  cases h1 : fa ρ with
  | none => rw [h1] at e; cases e
  | some ra =>
    cases h2 : fb ρ with
    | none => rw [h1, h2] at e; cases e
    | some rb => rw [h1, h2] at e; exact ⟨ra, rb, rfl, rfl, e⟩
theorem bind1 {α β : Type} {x : Option α} {k : α → Option β} {r : β} (e : x.bind k = some r) : ∃ a, x = some a ∧ k a = some r := by
  cases x with
  | none => cases e
  | some a => exact ⟨a, rfl, e⟩
section
variable {X : Cx} {a b : Expr} {fa fb : DE} {pos : Pos}
noncomputable def rCatX (K : PySem.W.Frag) : R2 := fun x y H Q => ∃ l c xs zs, x = .ref l ∧ y = .ref c ∧ (H l = some (.lst xs) ∨ Fix K H l xs) ∧ (H c = some (.lst zs) ∨ Fix K H c zs) ∧ xs.length + zs.length ≤ sizeLine ∧ ∀ p, H p = none → Q (.ref p) (upd H p (.lst (xs ++ zs)))
theorem op_catX : OpR X (binaryOp .Add) (rCatX X.K) := by
  intro pins s σ H x y v u Q I rx ry h
  obtain ⟨l, c, xs, zs, rfl, rfl, hH, hB, hz, q⟩ := h
  cases rx
  cases ry
  obtain ⟨z, its, n, r, hl, e⟩ := I.lstX hH
  obtain ⟨z2, its2, n2, r2, hl2, e2⟩ := I.lstX hB
  refine PySem.P.add_list e e2 ?_ (by rw [List.size_toArray, List.size_toArray]; omega)
  have ea : its.toArray ++ its2.toArray = (its ++ its2).toArray := by simp
  rw [ea]
  exact ⟨.ref _, _, I.lnew (t' := s.toks) (r.append r2) (by rw [List.length_append]; omega), rfl, q _ I.fresh⟩
theorem se_add (ha : SE X a fa) (hb : SE X b fb) : SE X (.BinOp a .Add b pos) (dAdd fa fb) := fun H0 A0 =>
  (pe_op (op_add.or op_catX) (ha H0 A0) (hb H0 A0)).mono fun σ H Q ⟨ρ, hs, F, r', rel, e, q⟩ => by
    obtain ⟨ra, rb, ea, eb, ek⟩ := bind2 e
    refine two rel ea eb fun x y H1 H2 G1 G2 p1 p2 => ?_
    have p1' := p1.rp.same p2.same
    have p2' := p2.rp
    have c1 := p1.src.append p2.src p1.same
    have o1 := p1.own.append p2.own
    revert ek
    revert p1' p2'
    cases ra.d <;> cases rb.d <;> intro p1' p2' ek <;> first | (cases ek; done) | skip
    · cases ek
      rw [p1'.int_inv, p2'.int_inv]
      exact .inl ⟨_, _, rfl, rfl, q _ H2 [] (.flat (p1.same.trans p2.same) .int_mk)⟩
    · rename_i xs ys
      dsimp only at ek
      split at ek
      · rename_i hz
        cases ek
        obtain ⟨l, vs, L1, rfl, hl, rl, zl, el⟩ := p1'.lst_inv
        obtain ⟨c, ws, L2', rfl, hc, rc, zc, ec⟩ := p2'.lst_inv
        have n1 := rl.length
        have n2 := rc.length
        refine .inr ⟨l, c, vs, ws, rfl, rfl, hl, hc, by omega, fun p hp => ?_⟩
        refine q _ _ (p :: (L1 ++ L2')) (Post.newL (p1.same.trans p2.same) hp (rl.append rc) (by rw [List.length_append]; exact hz) (fun a ha => c1 a ?_) o1)
        rcases List.mem_append.mp ha with h | h
        · refine List.mem_append_left _ ?_
          rcases el with rfl | rfl
          · exact List.mem_cons_of_mem _ h
          · exact h
        · refine List.mem_append_right _ ?_
          rcases ec with rfl | rfl
          · exact List.mem_cons_of_mem _ h
          · exact h
      · cases ek
noncomputable def rRepX (K : PySem.W.Frag) : R2 := fun x y H Q => ∃ l k xs, x = .ref l ∧ y = .int k ∧ (H l = some (.lst xs) ∨ Fix K H l xs) ∧ -(2 ^ 63) ≤ k ∧ k < 2 ^ 63 ∧ xs.length * k.toNat ≤ sizeLine ∧
  ∀ p, H p = none → Q (.ref p) (upd H p (.lst (List.replicate k.toNat xs).flatten))
theorem op_repX : OpR X (binaryOp .Mult) (rRepX X.K) := by
  intro pins s σ H x y v u Q I rx ry h
  obtain ⟨l, k, xs, rfl, rfl, hH, h1, h2, hz, q⟩ := h
  cases rx
  obtain ⟨t, rfl⟩ := ry
  obtain ⟨z, its, n, r, hl, e⟩ := I.lstX hH
  have hlen : its.toArray.size * k.toNat ≤ sizeLine := by rw [List.size_toArray, ← hl]; exact hz
  have hcap : ¬ its.toArray.size * k.toNat > (2 ^ 63 - 1) / 8 := by
    have : (sizeLine : Nat) ≤ (2 ^ 63 - 1) / 8 := by decide
    omega
  have hfit : ¬ (!Builtin.List.listFitsIndex k) = true := by
    rw [fitsIndex_both h1 h2]
    exact Bool.false_ne_true
  have hlong : ¬ Builtin.List.listTooLong (its.toArray.size * k.toNat) = true := by
    rw [notLongL hlen]
    exact Bool.false_ne_true
  have hnew : List.foldl (fun x1 x2 => x1 ++ x2) #[] (List.replicate (if its.toArray.isEmpty = true then 0 else k.toNat) its.toArray) = (List.replicate k.toNat its).flatten.toArray := by
    have f0 : ∀ m : Nat, List.foldl (fun x1 x2 => x1 ++ x2) #[] (List.replicate m its.toArray) = (List.replicate m its).flatten.toArray := fun m => by
      have := foldl_rep its m []
      rw [List.nil_append] at this
      exact this
    rw [f0]
    cases its with
    | nil => simp
    | cons a r' => rw [if_neg (by simp)]
  open PyProof.Rows in
  refine wpAny_binaryOp_repeat_ref (T := "list") (U := "int") (by decide) ⟨_, e, rfl⟩ (fun s' => typeIs_int s' k t) noFill_list_mul F.fills_int_mul F.slot_int_rmul repeat_list F.slot_int_index.lookup
    (call_meets F.slot_int_rmul (typeIs_int s k t) F.entry_int_rmul (F.args_int_rmul_2 _ _) (int___rmul___int_list k t l its.toArray n)
      ⟨e, rfl, ⟨_, e, rfl⟩, call_meets F.slot_list_mul ⟨_, e, rfl⟩ F.entry_list_mul (F.args_list_mul_2 _ _) (AutoListH.list___mul___list_int_3 l its.toArray n k t hfit hcap hlong) ⟨e, ?_⟩⟩)
  rw [hnew]
  exact ⟨.ref _, _, I.lnew (t' := s.toks) (r.rep k.toNat) (by rw [len_rep, Nat.mul_comm]; exact hz), rfl, q _ I.fresh⟩
theorem flats_rep {xs : List D} (h : flats xs = true) : ∀ n : Nat, flats (List.replicate n xs).flatten = true
  | 0 => by simp [flats]
  | n + 1 => by rw [List.replicate_succ, List.flatten_cons, flats_append, h, flats_rep h n]; rfl
theorem Rps.rep {K : PySem.W.Frag} {H : Hp} {ds : List D} {vs : List V} (h : Rps K H ds vs []) : ∀ n : Nat, Rps K H (List.replicate n ds).flatten (List.replicate n vs).flatten []
  | 0 => by simp [Rps]
  | n + 1 => by rw [List.replicate_succ, List.flatten_cons, List.replicate_succ, List.flatten_cons]; exact h.append (Rps.rep h n)
theorem se_mul (ha : SE X a fa) (hb : SE X b fb) : SE X (.BinOp a .Mult b pos) (dMul fa fb) := fun H0 A0 =>
  (pe_op (op_mulX.or op_repX) (ha H0 A0) (hb H0 A0)).mono fun σ H Q ⟨ρ, hs, F, r', rel, e, q⟩ => by
    obtain ⟨ra, rb, ea, eb, ek⟩ := bind2 e
    refine two rel ea eb fun x y H1 H2 G1 G2 p1 p2 => ?_
    have p1' := p1.rp.same p2.same
    have p2' := p2.rp
    revert ek
    revert p1' p2'
    cases ra.d <;> cases rb.d <;> intro p1' p2' ek <;> first | (cases ek; done) | skip
    · dsimp only at ek
      split at ek
      · rename_i hm
        cases ek
        rw [p1'.int_inv, p2'.int_inv]
        exact .inl ⟨_, _, rfl, rfl, hm, q _ H2 [] (.flat (p1.same.trans p2.same) .int_mk)⟩
      · cases ek
    · rename_i xs j
      dsimp only at ek
      split at ek
      · rename_i hz
        cases ek
        obtain ⟨hz1, hz2, hz3, hf⟩ := hz
        obtain ⟨l, vs, L1, rfl, hl, rl, zl, el⟩ := p1'.lst_inv
        have n1 := rl.length
        have e0 := rl.flat0 hf
        subst e0
        rw [p2'.int_inv]
        refine .inr ⟨l, j, vs, rfl, rfl, hl, hz2, hz3, by rw [← n1]; exact hz1, fun p hp => ?_⟩
        have w : HS.newL (List.replicate j.toNat xs).flatten [] = ⟨.lst (List.replicate j.toNat xs).flatten, true, []⟩ := by
          unfold HS.newL; rw [if_pos (flats_rep hf _)]
        rw [← w] at q
        exact q _ _ (p :: []) (Post.newL (p1.same.trans p2.same) hp (rl.rep _) (by rw [len_rep, Nat.mul_comm]; exact hz1) Src.nil Owns.nil)
      · cases ek
end
end HS
namespace HS
open PySem PySem.Spec L2
/-! ### argument lists, displays -/
noncomputable def dNil : DA := fun _ => some ⟨[], true, []⟩
noncomputable def dCons (fa : DE) (fr : DA) : DA := fun ρ => (fa ρ).bind fun r => (fr ρ).bind fun rs => some ⟨r.d :: rs.ds, r.fr && rs.fr, r.M ++ rs.M⟩
noncomputable def dTup (fa : DA) : DE := fun ρ => (fa ρ).bind fun r => if r.ds.length ≤ 64 then some ⟨.tup r.ds, r.fr, r.M⟩ else none
noncomputable def dLst (fa : DA) : DE := fun ρ => (fa ρ).bind fun r => if r.ds.length ≤ 64 then some ⟨.lst r.ds, r.fr, r.M⟩ else none
section
variable {X : Cx} {a b e : Expr} {es : List Expr} {fa fb : DE} {fs : DA} {pos : Pos}
theorem sa_nil : SA X [] dNil := fun H0 A0 => pa_nil.mono fun σ H Q ⟨ρ, hs, F, r', rel, e, q⟩ => by
  cases e
  exact q [] H [] ⟨Same.refl _, by simp [Rps], Src.nil, fun _ => ⟨Cnt.nil, rfl⟩, Owns.nil⟩
theorem sa_cons (ha : SE X e fa) (hr : SA X es fs) (hs : starEach (e :: es) X.env = (false, eval e X.env) :: starEach es X.env) : SA X (e :: es) (dCons fa fs) := fun H0 A0 =>
  (pa_cons (ha H0 A0) (hr H0 A0) hs).mono fun σ H Q ⟨ρ, hs, F, r', rel, e, q⟩ => by
    obtain ⟨r, e1, e⟩ := bind1 e
    obtain ⟨rs, e2, e⟩ := bind1 e
    cases e
    refine ⟨ρ, hs, F, r, rel, e1, fun x H1 G1 p1 => ⟨ρ, hs, F, rs, rel.ext p1.same, e2, fun xs H2 G2 p2 => ?_⟩⟩
    refine q _ H2 (G1 ++ G2) ⟨p1.same.trans p2.same, ?_, p1.src.append p2.src p1.same, fun h => ?_, p1.own.append p2.own⟩
    · simp only [Rps]
      exact ⟨x, xs, G1, G2, rfl, rfl, p1.rp.same p2.same, p2.rp⟩
    · simp only [Bool.and_eq_true] at h
      exact ⟨(p1.cnt h.1).1.append rel (p2.cnt h.2).1 p1.same p1.rp.mem, by simp only [nls, List.length_append, (p1.cnt h.1).2, (p2.cnt h.2).2]⟩
theorem small_line {n : Nat} (h : n ≤ 64) : n ≤ sizeLine := Nat.le_trans h (by decide)
theorem se_tup {k : Nat} (ha : SA X es fs) : SE X (.Tuple es k pos) (dTup fs) := fun H0 A0 =>
  (pe_tup (ha H0 A0)).mono fun σ H Q ⟨ρ, hs, F, r', rel, e, q⟩ => by
    obtain ⟨r, e1, e⟩ := bind1 e
    split at e
    · rename_i hz
      cases e
      refine ⟨ρ, hs, F, r, rel, e1, fun xs H1 G p => ⟨by rw [← p.rp.length]; exact small_line hz, fun c hc => q _ _ G ⟨p.same.trans (same_upd hc), Rp.tup_mk upd_same (p.rp.same (same_upd hc)), p.src, fun h => ⟨(p.cnt h).1, by simp only [D.nl]; exact (p.cnt h).2⟩, p.own⟩⟩⟩
    · cases e
theorem se_lst (ha : SA X es fs) : SE X (.List es pos) (dLst fs) := fun H0 A0 =>
  (pe_lst (ha H0 A0)).mono fun σ H Q ⟨ρ, hs, F, r', rel, e, q⟩ => by
    obtain ⟨r, e1, e⟩ := bind1 e
    split at e
    · rename_i hz
      cases e
      refine ⟨ρ, hs, F, r, rel, e1, fun xs H1 G p => ⟨by rw [← p.rp.length]; exact small_line hz, fun c hc => ?_⟩⟩
      have hH : H c = none := p.same.free hc
      refine q _ _ (c :: G) ⟨p.same.trans (same_upd hc), Rp.lst_mk upd_same (p.rp.same (same_upd hc)) (small_line hz), fun z hz' => ?_, fun h => ⟨fun z => ?_, by simp only [D.nl, List.length_cons, (p.cnt h).2]⟩, p.own⟩
      · rcases List.mem_cons.mp hz' with rfl | h
        · exact .inl hH
        · exact p.src z h
      · rw [List.count_cons]
        have := (p.cnt h).1 z
        split
        · rename_i e'
          have e' : c = z := by simpa using e'
          subst e'
          have h0 : G.count c = 0 := List.count_eq_zero.mpr fun hm => by obtain ⟨vs, w⟩ := p.rp.mem c hm; rw [hc] at w; cases w
          rw [nw_none hH]; omega
        · exact this
    · cases e
/-! ### items -/
noncomputable def D.items : D → Option (List D)
  | .lst xs => some xs
  | .tup xs => some xs
  | _ => none
noncomputable def dIdx (fa fb : DE) : DE := fun ρ => (fa ρ).bind fun ra => (fb ρ).bind fun rb => match rb.d with
  | .int i => (ra.d.items).bind fun xs => (atI xs i).map fun d => (R.norm ⟨d, ra.fr, ra.M⟩)
  | _ => none
theorem atI_map {α β : Type} {xs : List α} {i : Int} {d : α} (h : atI xs i = some d) : ∃ j : Nat, xs[j]? = some d ∧ ∀ (ys : List β), ys.length = xs.length → ∀ y, ys[j]? = some y → atI ys i = some y := by
  unfold atI at h
  cases e : ixN xs.length i with
  | none => rw [e] at h; cases h
  | some j =>
    rw [e] at h
    refine ⟨j, h, fun ys hl y hy => ?_⟩
    unfold atI
    rw [hl, e]
    exact hy
theorem se_idx (ha : SE X a fa) (hb : SE X b fb) (hs : PlainIx b) : SE X (.Subscript a b pos) (dIdx fa fb) := fun H0 A0 =>
  (pe_ix (ix_list.or ix_tup) (ha H0 A0) (hb H0 A0) hs).mono fun σ H Q ⟨ρ, hs, F, r', rel, e, q⟩ => by
    obtain ⟨ra, rb, ea, eb, ek⟩ := bind2 e
    refine two rel ea eb fun x y H1 H2 G1 G2 p1 p2 => ?_
    have p1' := p1.rp.same p2.same
    have p2' := p2.rp
    have pp : Post X.K ρ F H H2 ra x G1 := ⟨p1.same.trans p2.same, p1', p1.src, p1.cnt, p1.own⟩
    cases hb' : rb.d with
    | int i =>
      rw [hb'] at ek p2'
      rw [p2'.int_inv]
      obtain ⟨xs, ex, ek⟩ := bind1 ek
      obtain ⟨d, ed, ek⟩ := Option.map_eq_some_iff.mp ek
      subst ek
      obtain ⟨j, hj, hm⟩ := atI_map (β := V) ed
      have fin : ∀ (L : List Addr) (vs : List V), Rps X.K H2 xs vs L → (∀ z, L.count z ≤ G1.count z) → (G1.length = ra.d.nl → L.length = nls xs) → ∃ v, atI vs i = some v ∧ Q v H2 := fun L vs rl hc hn => by
        obtain ⟨v, F1, G, F2, hv, eF, rv, hx⟩ := rl.get hj
        refine ⟨v, hm vs rl.length.symm v hv, q v H2 G (Post.norm (Post.sub pp rv (fun z => Nat.le_trans ?_ (hc z)) fun z => hx (hn z)))⟩
        rw [eF, List.count_append, List.count_append]; omega
      cases hra : ra.d with
      | lst ys =>
        rw [hra] at ex p1'
        cases ex
        obtain ⟨l, vs, L, rfl, hl, rl, zl, el⟩ := p1'.lst_inv
        have hn : G1.length = ra.d.nl → L.length = nls xs := fun hz => by
          have := rl.len_le
          simp only [hra, D.nl] at hz
          rcases el with rfl | rfl
          · rw [List.length_cons] at hz; omega
          · omega
        have hc : ∀ z, L.count z ≤ G1.count z := fun z => by
          rcases el with rfl | rfl
          · rw [List.count_cons]; omega
          · exact Nat.le_refl _
        obtain ⟨v, h1, h2⟩ := fin L vs rl hc hn
        exact .inl ⟨l, vs, i, v, rfl, rfl, lst_sq hl, h1, h2⟩
      | tup ys =>
        rw [hra] at ex p1'
        cases ex
        obtain ⟨l, vs, rfl, hl, rl⟩ := p1'.tup_inv
        obtain ⟨v, h1, h2⟩ := fin G1 vs rl (fun z => Nat.le_refl _) fun z => (by simpa only [hra, D.nl] using z)
        exact .inr ⟨l, vs, i, v, rfl, rfl, hl, h1, h2⟩
      | _ => rw [hra] at ex; cases ex
    | _ => rw [hb'] at ek; cases ek
/-! ### slices -/
noncomputable abbrev DO := En → Option (Option Int)
noncomputable def oNone : DO := fun _ => some none
noncomputable def oSome (f : DE) : DO := fun ρ => (f ρ).bind fun r => match r.d with
  | .int i => some (some i)
  | _ => none
noncomputable def tVO (K : PySem.W.Frag) (H0 : Hp) (A0 : List Addr) (f : DO) : TO := fun σ H Q => ∃ ρ hs F o, Rel K H0 A0 hs ρ F σ H ∧ f ρ = some o ∧ ∀ H', Same H H' → Q o H'
noncomputable def SO (X : Cx) (e : Option Expr) (f : DO) : Prop := ∀ H0 A0, PO X e (tVO X.K H0 A0 f)
theorem _root_.L2.PO.mono {X : Cx} {e : Option Expr} {t t' : TO} (h : PO X e t) (m : ∀ σ H Q, t' σ H Q → t σ H Q) : PO X e t' := by
  intro pins s σ H Q I q
  exact h pins s σ H Q I (m σ H Q q)
theorem so_none : SO X none oNone := fun H0 A0 => po_none.mono fun σ H Q ⟨ρ, hs, F, o, rel, e, q⟩ => by
  cases e
  exact q H (Same.refl _)
theorem so_some (h : SE X a fa) : SO X (some a) (oSome fa) := fun H0 A0 => (po_some (h H0 A0)).mono fun σ H Q ⟨ρ, hs, F, o, rel, e, q⟩ => by
  obtain ⟨r, e1, e⟩ := bind1 e
  refine ⟨ρ, hs, F, r, rel, e1, fun v H1 G p => ?_⟩
  have rp := p.rp
  cases hr : r.d with
  | int i =>
    rw [hr] at e rp
    cases e
    exact ⟨i, rp.int_inv, q H1 p.same⟩
  | _ => rw [hr] at e; cases e
noncomputable def cutD (xs : List D) (lo hi : Option Int) : List D := (xs.drop (HT.sIx xs.length 0 lo)).take (HT.sIx xs.length xs.length hi - HT.sIx xs.length 0 lo)
noncomputable def dSlc (fa : DE) (lo hi : DO) : DE := fun ρ => (fa ρ).bind fun ra => (lo ρ).bind fun l => (hi ρ).bind fun h => match ra.d with
  | .lst xs => some (newL (cutD xs l h) ra.M)
  | _ => none
theorem Rps.drop : ∀ {ds : List D} {vs : List V} {F : List Addr} {K : PySem.W.Frag} {H : Hp} (n : Nat), Rps K H ds vs F → ∃ G, Rps K H (ds.drop n) (vs.drop n) G ∧ ∀ a ∈ G, a ∈ F
  | [], vs, F, K, H, n, h => by simp only [Rps] at h; rw [h.1, h.2]; exact ⟨[], by simp [Rps], fun _ h => h⟩
  | d :: ds, vs, F, K, H, 0, h => ⟨F, by simpa using h, fun _ h => h⟩
  | d :: ds, vs, F, K, H, n + 1, h => by
    simp only [Rps] at h
    obtain ⟨v, ws, F1, F2, e, eF, r, q⟩ := h
    subst e eF
    obtain ⟨G, h1, h2⟩ := Rps.drop n q
    exact ⟨G, by simpa using h1, fun a ha => List.mem_append_right _ (h2 a ha)⟩
theorem Rps.take : ∀ {ds : List D} {vs : List V} {F : List Addr} {K : PySem.W.Frag} {H : Hp} (n : Nat), Rps K H ds vs F → ∃ G, Rps K H (ds.take n) (vs.take n) G ∧ ∀ a ∈ G, a ∈ F
  | [], vs, F, K, H, n, h => by simp only [Rps] at h; rw [h.1, h.2]; exact ⟨[], by simp [Rps], fun _ h => h⟩
  | d :: ds, vs, F, K, H, 0, h => ⟨[], by simp [Rps], fun _ h => by simp at h⟩
  | d :: ds, vs, F, K, H, n + 1, h => by
    simp only [Rps] at h
    obtain ⟨v, ws, F1, F2, e, eF, r, q⟩ := h
    subst e eF
    obtain ⟨G, h1, h2⟩ := Rps.take n q
    refine ⟨F1 ++ G, ?_, fun a ha => ?_⟩
    · simp only [List.take_succ_cons, Rps]
      exact ⟨v, _, F1, G, rfl, rfl, r, h1⟩
    · rcases List.mem_append.mp ha with h | h
      · exact List.mem_append_left _ h
      · exact List.mem_append_right _ (h2 a h)
theorem se_slc {lo hi : Option Expr} {fl fh : DO} {p2 : Pos} (ha : SE X a fa) (hl : SO X lo fl) (hh : SO X hi fh) : SE X (.Subscript a (.Slice lo hi none p2) pos) (dSlc fa fl fh) := fun H0 A0 =>
  (pe_slice sl_list (ha H0 A0) (hl H0 A0) (hh H0 A0)).mono fun σ H Q ⟨ρ, hs, F, r', rel, e, q⟩ => by
    obtain ⟨ra, e1, e⟩ := bind1 e
    obtain ⟨l, e2, e⟩ := bind1 e
    obtain ⟨h, e3, e⟩ := bind1 e
    refine ⟨ρ, hs, F, ra, rel, e1, fun x H1 G1 p1 => ⟨ρ, hs, F, l, rel.ext p1.same, e2, fun H2 s2 => ⟨ρ, hs, F, h, (rel.ext p1.same).ext s2, e3, fun H3 s3 => ?_⟩⟩⟩
    have rp := p1.rp.same (s2.trans s3)
    cases hra : ra.d with
    | lst xs =>
      rw [hra] at e rp
      cases e
      obtain ⟨c, vs, L, rfl, hc, rl, zl, el⟩ := rp.lst_inv
      refine ⟨c, vs, rfl, lst_sq hc, fun p hp => ?_⟩
      obtain ⟨G2, h2, m2⟩ := rl.drop (HT.sIx xs.length 0 l)
      obtain ⟨G3, h3, m3⟩ := h2.take (HT.sIx xs.length xs.length h - HT.sIx xs.length 0 l)
      have n1 := rl.length
      rw [show cutV vs l h = (vs.drop (HT.sIx xs.length 0 l)).take (HT.sIx xs.length xs.length h - HT.sIx xs.length 0 l) by unfold cutV; rw [n1]]
      refine q _ _ (p :: G3) (Post.newL (p1.same.trans (s2.trans s3)) hp h3 ?_ (fun z hz => p1.src z ?_) p1.own)
      · unfold cutD; rw [List.length_take, List.length_drop]; omega
      · have := m2 z (m3 z hz)
        rcases el with rfl | rfl
        · exact List.mem_cons_of_mem _ this
        · exact this
    | _ => rw [hra] at e; cases e
/-! ### built-in calls -/
/-- a built-in upon its arguments, a flat result -/
noncomputable def dBf (g : List D → Option D) (fs : DA) : DE := fun ρ => (fs ρ).bind fun r => (g r.ds).map fun d => ⟨d, true, []⟩
noncomputable def CallOk (K : PySem.W.Frag) (g : List D → Option D) (r : List V → Hp → VK → Prop) : Prop := ∀ ds d, g ds = some d → d.flat = true ∧ ∀ H vs F (Q : VK), Rps K H ds vs F → (∀ v, (∀ H', Rp K H' d v []) → Q v H) → r vs H Q
theorem se_bf {x : Str} {id : String} {g : List D → Option D} {r : List V → Hp → VK → Prop} {p : Pos} (hc : CallR X (.builtin id) r) (hk : CallOk X.K g r) (hg : Gl X x) (hm : X.mg x = none) (hv : bootBuiltins x = some (.builtin id)) (ha : SA X (e :: es) fs) (hn : x ≠ "__name__") (hdb : (x == ("__debug__" : Str)) = false)
    (he : starEach (e :: es) X.env = (false, eval e X.env) :: starEach es X.env) (hpl : (backTo pos (starEach es X.env)).any (·.1) = false) : SE X (.Call (.Name x p) (e :: es) [] pos) (dBf g fs) := fun H0 A0 =>
  (pe_callB hc hg hm hv (ha H0 A0) hn hdb he hpl).mono fun σ H Q ⟨ρ, hs, F, r', rel, e, q⟩ => by
    obtain ⟨ra, e1, e⟩ := bind1 e
    obtain ⟨d, ed, e⟩ := Option.map_eq_some_iff.mp e
    subst e
    exact ⟨ρ, hs, F, ra, rel, e1, fun vs H1 G p1 => (hk _ _ ed).2 H1 vs G Q p1.rp fun v hv => q v H1 [] (.flat p1.same (hv _) (hk _ _ ed).1)⟩
theorem Rps.one {K : PySem.W.Frag} {H : Hp} {d : D} {vs : List V} {F : List Addr} (h : Rps K H [d] vs F) : ∃ v, vs = [v] ∧ Rp K H d v F := by
  simp only [Rps] at h
  obtain ⟨v, ws, F1, F2, rfl, rfl, r, rfl, rfl⟩ := h
  exact ⟨v, rfl, by simpa using r⟩
theorem Rps.two {K : PySem.W.Frag} {H : Hp} {d e : D} {vs : List V} {F : List Addr} (h : Rps K H [d, e] vs F) : ∃ v w F1 F2, vs = [v, w] ∧ Rp K H d v F1 ∧ Rp K H e w F2 := by
  simp only [Rps] at h
  obtain ⟨v, ws, F1, F2, rfl, rfl, r, w, ws', F3, F4, rfl, rfl, r2, rfl, rfl⟩ := h
  exact ⟨v, w, F1, F3, rfl, r, r2⟩
noncomputable def gLen : List D → Option D
  | [.lst xs] => some (.int xs.length)
  | [.tup xs] => some (.int xs.length)
  | _ => none
theorem ok_len {K : PySem.W.Frag} : CallOk K gLen (fun xs H Q => ∃ p ys, xs = [.ref p] ∧ (SqL K H p ys ∨ SqT K H p ys) ∧ Q (.int ys.length) H) := fun ds d e => by
  unfold gLen at e
  split at e
  · cases e
    refine ⟨rfl, fun H vs F Q r q => ?_⟩
    obtain ⟨v, rfl, rp⟩ := r.one
    obtain ⟨l, ws, L, rfl, hl, rl, zl, el⟩ := rp.lst_inv
    exact ⟨l, ws, rfl, .inl (lst_sq hl), by rw [← rl.length]; exact q _ fun _ => .int_mk⟩
  · cases e
    refine ⟨rfl, fun H vs F Q r q => ?_⟩
    obtain ⟨v, rfl, rp⟩ := r.one
    obtain ⟨l, ws, rfl, hl, rl⟩ := rp.tup_inv
    exact ⟨l, ws, rfl, .inr hl, by rw [← rl.length]; exact q _ fun _ => .int_mk⟩
  · cases e
noncomputable def gMin2 : List D → Option D
  | [.int i, .int j] => some (.int (if j < i then j else i))
  | _ => none
theorem ok_min2 {K : PySem.W.Frag} : CallOk K gMin2 (fun xs H Q => ∃ i j, xs = [.int i, .int j] ∧ Q (.int (if j < i then j else i)) H) := fun ds d e => by
  unfold gMin2 at e
  split at e
  · cases e
    refine ⟨rfl, fun H vs F Q r q => ?_⟩
    obtain ⟨v, w, F1, F2, rfl, r1, r2⟩ := r.two
    exact ⟨_, _, by rw [r1.int_inv, r2.int_inv], q _ fun _ => .int_mk⟩
  · cases e
/-- list(..) of a list or a tuple -/
noncomputable def dList (fs : DA) : DE := fun ρ => (fs ρ).bind fun r => match r.ds with
  | [.lst xs] => some (newL xs r.M)
  | [.tup xs] => if xs.length ≤ sizeLine then some (newL xs r.M) else none
  | _ => none
theorem se_list {p : Pos} (hg : Gl X "list") (hm : X.mg "list" = none) (ha : SA X (e :: es) fs) (he : starEach (e :: es) X.env = (false, eval e X.env) :: starEach es X.env) (hpl : (backTo pos (starEach es X.env)).any (·.1) = false) :
    SE X (.Call (.Name "list" p) (e :: es) [] pos) (dList fs) := fun H0 A0 =>
  (pe_callTy call_list_of hg hm PyProof.Rows.boot_list (ha H0 A0) (by decide) (by decide) he hpl).mono fun σ H Q ⟨ρ, hs, F, r', rel, e, q⟩ => by
    obtain ⟨ra, e1, e⟩ := bind1 e
    refine ⟨ρ, hs, F, ra, rel, e1, fun vs H1 G p1 => ?_⟩
    have rp := p1.rp
    have src := p1.src
    split at e
    · rename_i xs hds
      cases e
      rw [hds] at rp
      obtain ⟨v, rfl, rq⟩ := rp.one
      obtain ⟨l, ws, L, rfl, hl, rl, zl, el⟩ := rq.lst_inv
      refine ⟨l, ws, rfl, .inl (lst_sq hl), fun c hc => q _ _ (c :: L) (Post.newL p1.same hc rl zl (fun z hz => src z ?_) p1.own)⟩
      rcases el with rfl | rfl
      · exact List.mem_cons_of_mem _ hz
      · exact hz
    · rename_i xs hds
      split at e
      · rename_i hz
        cases e
        rw [hds] at rp
        obtain ⟨v, rfl, rq⟩ := rp.one
        obtain ⟨l, ws, rfl, hl, rl⟩ := rq.tup_inv
        exact ⟨l, ws, rfl, .inr hl, fun c hc => q _ _ (c :: G) (Post.newL p1.same hc rl hz src p1.own)⟩
      · cases e
    · cases e
end
end HS
namespace HS
open PySem PySem.Spec L2
/-! ### == upon data -/
mutual
noncomputable def D.py : D → PyData
  | .non => .none
  | .bl b => .bool b
  | .int i => .int i
  | .str x => .str x
  | .tup xs => .tuple (pys xs)
  | .lst xs => .list (pys xs)
noncomputable def pys : List D → List PyData
  | [] => []
  | d :: ds => d.py :: pys ds
end
theorem pys_map : ∀ ds : List D, pys ds = ds.map D.py
  | [] => rfl
  | d :: ds => by simp [pys, pys_map ds]
/-- data that may be compared: not deeper than n, texts that can be laid -/
noncomputable def D.sim : Nat → D → Bool
  | _, .non => true
  | _, .bl _ => true
  | _, .int _ => true
  | _, .str x => PyData.canLay0 (.str x)
  | 0, .tup xs => xs.isEmpty
  | 0, .lst xs => xs.isEmpty
  | n + 1, .tup xs => xs.all (D.sim n)
  | n + 1, .lst xs => xs.all (D.sim n)
theorem canLayAll_of : ∀ {ds : List D}, (∀ d ∈ ds, d.py.canLay0 = true) → PyData.canLayAll0 (pys ds) = true
  | [], _ => rfl
  | d :: ds, h => by
    simp only [pys, PyData.canLayAll0, Bool.and_eq_true]
    exact ⟨h d List.mem_cons_self, canLayAll_of fun e he => h e (List.mem_cons_of_mem _ he)⟩
theorem depthAll_of {n : Nat} : ∀ {ds : List D}, (∀ d ∈ ds, d.py.depth ≤ n) → PyData.depthAll (pys ds) ≤ n
  | [], _ => Nat.zero_le _
  | d :: ds, h => by
    simp only [pys, PyData.depthAll]
    exact Nat.max_le.mpr ⟨h d List.mem_cons_self, depthAll_of fun e he => h e (List.mem_cons_of_mem _ he)⟩
theorem sim_ok : ∀ (n : Nat) (d : D), d.sim n = true → d.py.canLay0 = true ∧ d.py.depth ≤ n + 1
  | n, .non, _ => by simp [D.py, PyData.canLay0, PyData.depth]
  | n, .bl _, _ => by simp [D.py, PyData.canLay0, PyData.depth]
  | n, .int _, _ => by simp [D.py, PyData.canLay0, PyData.depth]
  | n, .str x, h => by
    simp only [D.py, PyData.depth]
    refine ⟨?_, Nat.zero_le _⟩
    cases n <;> exact h
  | 0, .tup xs, h => by
    have : xs = [] := by simpa [D.sim] using h
    subst this
    simp [D.py, pys, PyData.canLay0, PyData.canLayAll0, PyData.depth, PyData.depthAll]
  | 0, .lst xs, h => by
    have : xs = [] := by simpa [D.sim] using h
    subst this
    simp [D.py, pys, PyData.canLay0, PyData.canLayAll0, PyData.depth, PyData.depthAll]
  | n + 1, .tup xs, h => by
    simp only [D.sim, List.all_eq_true] at h
    simp only [D.py, PyData.canLay0, PyData.depth]
    exact ⟨canLayAll_of fun d hd => (sim_ok n d (h d hd)).1, Nat.add_le_add_right (depthAll_of fun d hd => (sim_ok n d (h d hd)).2) 1⟩
  | n + 1, .lst xs, h => by
    simp only [D.sim, List.all_eq_true] at h
    simp only [D.py, PyData.canLay0, PyData.depth]
    exact ⟨canLayAll_of fun d hd => (sim_ok n d (h d hd)).1, Nat.add_le_add_right (depthAll_of fun d hd => (sim_ok n d (h d hd)).2) 1⟩
noncomputable def deq (a b : D) : Bool := PyData.eqv a.py b.py
theorem deq_refl {n : Nat} {d : D} (h : d.sim n = true) : deq d d = true := SeqAt.eqv_refl _ (sim_ok n d h).1
section
variable {X : Cx} {pins : List (Addr × Obj)} {σ : L2.St} {H : Hp} {s : Shared}
mutual
theorem Rp.reads (I : Inv X pins σ H s) : ∀ {d : D} {v : V} {F : List Addr} {u : Value}, Rp X.K H d v F → RelV v u → ∃ as, Reads s.heap u d.py as
  | .non, v, _, u, h, r => by
    rw [h.non_inv] at r
    cases (show u = Value.none from r)
    exact ⟨_, .none⟩
  | .bl b, v, _, u, h, r => by
    rw [h.bl_inv] at r
    cases (show u = Value.bool b from r)
    exact ⟨_, .bool b⟩
  | .int i, v, _, u, h, r => by
    rw [h.int_inv] at r
    obtain ⟨t, rfl⟩ := (show ∃ t, u = Value.int i t from r)
    exact ⟨_, .int i t⟩
  | .str i, v, _, u, h, r => by
    rw [h.str_inv] at r
    obtain ⟨t, rfl⟩ := (show ∃ t, u = Value.str i t from r)
    exact ⟨_, .str i t⟩
  | .tup ds, v, _, u, h, r => by
    obtain ⟨a, vs, rfl, hq, rs⟩ := h.tup_inv
    cases (show u = Value.ref a from r)
    obtain ⟨its, rv, ⟨o, h1, h2, n, h3⟩, _⟩ := I.tuple hq
    obtain ⟨as, ra⟩ := Rps.reads I rs rv
    exact ⟨_, .tuple h1 h2 h3 (by simpa using ra)⟩
  | .lst ds, v, _, u, h, r => by
    simp only [Rp] at h
    obtain ⟨hz, a, vs, rfl, h⟩ := h
    have key : ∃ G, (H a = some (.lst vs) ∨ Fix X.K H a vs) ∧ Rps X.K H ds vs G := by
      rcases h with ⟨G, _, q, rs⟩ | ⟨q, rs⟩
      · exact ⟨G, .inl q, rs⟩
      · exact ⟨_, .inr q, rs⟩
    obtain ⟨G, hq, rs⟩ := key
    cases (show u = Value.ref a from r)
    obtain ⟨_, its, n, rv, _, e⟩ := I.lstX hq
    obtain ⟨as, ra⟩ := Rps.reads I rs rv
    exact ⟨_, .list e rfl rfl (by simpa using ra)⟩
theorem Rps.reads (I : Inv X pins σ H s) : ∀ {ds : List D} {vs : List V} {F : List Addr} {us : List Value}, Rps X.K H ds vs F → Vals vs us → ∃ as, ReadsAll s.heap us (pys ds) as
  | [], vs, _, us, h, r => by
    simp only [Rps] at h
    rw [h.1] at r
    cases r
    exact ⟨_, .nil⟩
  | d :: ds, vs, _, us, h, r => by
    simp only [Rps] at h
    obtain ⟨v, ws, F1, F2, rfl, rfl, h1, h2⟩ := h
    cases r with
    | cons r rr =>
      obtain ⟨as, ra⟩ := Rp.reads I h1 r
      obtain ⟨bs, rb⟩ := Rps.reads I h2 rr
      exact ⟨_, .cons ra rb⟩
end
end
noncomputable def gEq (a b : D) : Option D := if a.sim 8 && b.sim 8 then some (.bl (deq a b)) else none
noncomputable def gNe (a b : D) : Option D := if a.sim 8 && b.sim 8 then some (.bl (!deq a b)) else none
noncomputable def gIn (neg : Bool) (a b : D) : Option D := match b with
  | .lst xs => if a.sim 8 && b.sim 8 then some (.bl (if neg then !(xs.any fun y => deq y a) else xs.any fun y => deq y a)) else none
  | .tup xs => if a.sim 8 && b.sim 8 then some (.bl (if neg then !(xs.any fun y => deq y a) else xs.any fun y => deq y a)) else none
  | _ => none
noncomputable def rEqX (K : PySem.W.Frag) : R2 := fun x y H Q => ∃ a b F G, Rp K H a x F ∧ Rp K H b y G ∧ a.sim 8 = true ∧ b.sim 8 = true ∧ Q (.bl (deq a b)) H
noncomputable def rNeX (K : PySem.W.Frag) : R2 := fun x y H Q => ∃ a b F G, Rp K H a x F ∧ Rp K H b y G ∧ a.sim 8 = true ∧ b.sim 8 = true ∧ Q (.bl (!deq a b)) H
section
variable {X : Cx}
theorem op_eqX (hu : X.A.units + 64 < cLine) : OpR X (compareOp .Eq) (rEqX X.K) := by
  intro pins s σ H x y v u Q I rx ry h
  obtain ⟨a, b, F, G, ha, hb, sa, sb, q⟩ := h
  obtain ⟨as, ra⟩ := ha.reads I rx
  obtain ⟨bs, rb⟩ := hb.reads I ry
  have h1 := sim_ok 8 a sa
  have h2 := sim_ok 8 b sb
  exact SeqAt.compareEq_reads ra rb h1.1 h2.1 (by have := Nat.min_le_left a.py.depth b.py.depth; omega) ⟨.bl _, H, I, rfl, q⟩
theorem op_neX (hu : X.A.units + 64 < cLine) : OpR X (compareOp .NotEq) (rNeX X.K) := by
  intro pins s σ H x y v u Q I rx ry h
  obtain ⟨a, b, F, G, ha, hb, sa, sb, q⟩ := h
  obtain ⟨as, ra⟩ := ha.reads I rx
  obtain ⟨bs, rb⟩ := hb.reads I ry
  have h1 := sim_ok 8 a sa
  have h2 := sim_ok 8 b sb
  exact SeqAt.compareNe_reads ra rb h1.1 h2.1 (by have := Nat.min_le_left a.py.depth b.py.depth; omega) ⟨.bl _, H, I, rfl, q⟩
theorem ok_eq {K : PySem.W.Frag} : OpOk K gEq (rEqX K) := fun a b d e => by
  unfold gEq at e
  split at e
  · rename_i h
    simp only [Bool.and_eq_true] at h
    cases e
    exact ⟨rfl, fun H x y F G Q ha hb q => ⟨a, b, F, G, ha, hb, h.1, h.2, q _ fun _ => .bl_mk⟩⟩
  · cases e
theorem ok_ne {K : PySem.W.Frag} : OpOk K gNe (rNeX K) := fun a b d e => by
  unfold gNe at e
  split at e
  · rename_i h
    simp only [Bool.and_eq_true] at h
    cases e
    exact ⟨rfl, fun H x y F G Q ha hb q => ⟨a, b, F, G, ha, hb, h.1, h.2, q _ fun _ => .bl_mk⟩⟩
  · cases e
noncomputable def rInX (K : PySem.W.Frag) (neg : Bool) : R2 := fun x y H Q => ∃ a b F G xs, Rp K H a x F ∧ Rp K H b y G ∧ a.sim 8 = true ∧ b.sim 8 = true ∧ (b = .lst xs ∨ b = .tup xs) ∧ Q (.bl (if neg then !(xs.any fun y => deq y a) else xs.any fun y => deq y a)) H
theorem any_py (xs : List D) (a : D) : ((pys xs).any fun y => PyData.eqv y a.py) = xs.any fun y => deq y a := by
  rw [pys_map, List.any_map]; rfl
theorem op_inX (hu : X.A.units + 64 < cLine) : OpR X (compareOp .In) (rInX X.K false) := by
  intro pins s σ H x y v u Q I rx ry h
  obtain ⟨a, b, F, G, xs, ha, hb, sa, sb, hk, q⟩ := h
  obtain ⟨as, ra⟩ := ha.reads I rx
  obtain ⟨bs, rb⟩ := hb.reads I ry
  have h1 := sim_ok 8 a sa
  have h2 := sim_ok 8 b sb
  have q' : Q (.bl ((pys xs).any fun y => PyData.eqv y a.py)) H := by rw [any_py]; exact q
  rcases hk with rfl | rfl
  · exact SeqAt.in_list_reads rb ra h2.1 h1.1 (by have := Nat.min_le_right (PyData.depthAll (pys xs)) a.py.depth; omega) ⟨.bl _, H, I, rfl, q'⟩
  · exact SeqAt.in_tuple_reads rb ra h2.1 h1.1 (by have := Nat.min_le_right (PyData.depthAll (pys xs)) a.py.depth; omega) ⟨.bl _, H, I, rfl, q'⟩
theorem op_notInX (hu : X.A.units + 64 < cLine) : OpR X (compareOp .NotIn) (rInX X.K true) := by
  intro pins s σ H x y v u Q I rx ry h
  obtain ⟨a, b, F, G, xs, ha, hb, sa, sb, hk, q⟩ := h
  obtain ⟨as, ra⟩ := ha.reads I rx
  obtain ⟨bs, rb⟩ := hb.reads I ry
  have h1 := sim_ok 8 a sa
  have h2 := sim_ok 8 b sb
  have q' : Q (.bl (!(pys xs).any fun y => PyData.eqv y a.py)) H := by rw [any_py]; exact q
  rcases hk with rfl | rfl
  · exact SeqAt.notIn_list_reads rb ra h2.1 h1.1 (by have := Nat.min_le_right (PyData.depthAll (pys xs)) a.py.depth; omega) ⟨.bl _, H, I, rfl, q'⟩
  · exact SeqAt.notIn_tuple_reads rb ra h2.1 h1.1 (by have := Nat.min_le_right (PyData.depthAll (pys xs)) a.py.depth; omega) ⟨.bl _, H, I, rfl, q'⟩
theorem ok_in {K : PySem.W.Frag} {neg : Bool} : OpOk K (gIn neg) (rInX K neg) := fun a b d e => by
  unfold gIn at e
  split at e
  · split at e
    · rename_i h
      simp only [Bool.and_eq_true] at h
      cases e
      exact ⟨rfl, fun H x y F G Q ha hb q => ⟨a, _, F, G, _, ha, hb, h.1, h.2, .inl rfl, q _ fun _ => .bl_mk⟩⟩
    · cases e
  · split at e
    · rename_i h
      simp only [Bool.and_eq_true] at h
      cases e
      exact ⟨rfl, fun H x y F G Q ha hb q => ⟨a, _, F, G, _, ha, hb, h.1, h.2, .inr rfl, q _ fun _ => .bl_mk⟩⟩
    · cases e
  · cases e
/-- is None, is not None -/
noncomputable def D.isNon : D → Bool
  | .non => true
  | _ => false
theorem isNon_v {K : PySem.W.Frag} {H : Hp} {d : D} {v : V} {F : List Addr} (h : Rp K H d v F) : decide (v = .non) = d.isNon := by
  cases d with
  | non => rw [h.non_inv]; rfl
  | bl b => rw [h.bl_inv]; rfl
  | int b => rw [h.int_inv]; rfl
  | str b => rw [h.str_inv]; rfl
  | tup b => obtain ⟨a, vs, rfl, _⟩ := h.tup_inv; rfl
  | lst b => obtain ⟨a, vs, G, rfl, _⟩ := h.lst_inv; rfl
/-! ### isinstance -/
noncomputable def D.tyN : D → String
  | .non => "NoneType" | .bl _ => "bool" | .int _ => "int" | .str _ => "str" | .tup _ => "tuple" | .lst _ => "list"
/-- the answer of isinstance for these five classes -/
noncomputable def D.isa (T : String) (d : D) : Option Bool := if T == "int" || T == "bool" || T == "list" || T == "tuple" || T == "str" then some (d.tyN == T || (d.tyN == "bool" && T == "int")) else none
theorem isi_ok {pins : List (Addr × Obj)} {σ : L2.St} {H : Hp} {s : Shared} {A : Around} {E Q : Value → Shared → Prop} {d : D} {v : V} {F : List Addr} {u : Value} {T : String} {b : Bool} (I : Inv X pins σ H s) (rp : Rp X.K H d v F) (rx : RelV v u) (e : d.isa T = some b) (h : ∀ tk, Q (.bool b) { s with toks := tk }) :
    wpAny (model X.prog X.w) A (call (.builtin "isinstance") [u, .type T]) Q E s := by
  have kit : PySem.W.kitOne X.K (.type d.tyN) (.type T) = some b := by
    unfold D.isa at e
    split at e
    · rename_i hT
      cases e
      simp only [Bool.or_eq_true, beq_iff_eq] at hT
      rcases hT with (((rfl | rfl) | rfl) | rfl) | rfl <;> cases d <;> rfl
    · cases e
  cases d with
  | non => rw [rp.non_inv] at rx; cases (show u = Value.none from rx); exact PySem.W.kia_one PySem.W.kitx_none I.kIn True.intro kit (fun z => nomatch z) h
  | bl y => rw [rp.bl_inv] at rx; cases (show u = Value.bool y from rx); exact PySem.W.kia_one PySem.W.kitx_bool I.kIn True.intro kit (fun z => nomatch z) h
  | int i => rw [rp.int_inv] at rx; obtain ⟨t, q⟩ := (show ∃ t, u = Value.int i t from rx); cases q; exact PySem.W.kia_one PySem.W.kitx_int I.kIn True.intro kit (fun z => nomatch z) h
  | str y => rw [rp.str_inv] at rx; obtain ⟨t, q⟩ := (show ∃ t, u = Value.str y t from rx); cases q; exact PySem.W.kia_one PySem.W.kitx_str I.kIn True.intro kit (fun z => nomatch z) h
  | tup ds =>
    obtain ⟨a, vs, rfl, hq, _⟩ := rp.tup_inv
    cases (show u = Value.ref a from rx)
    obtain ⟨its, rv, ⟨o, h1, h2, n, h3⟩, _⟩ := I.tuple hq
    exact PySem.W.kia_one PySem.W.kitx_tuple I.kIn ⟨o, h1, h2⟩ kit (fun z => nomatch z) h
  | lst ds =>
    obtain ⟨a, vs, G, rfl, hq, _⟩ := rp.lst_inv
    cases (show u = Value.ref a from rx)
    obtain ⟨_, its, n, rv, _, e1⟩ := I.lstX hq
    exact PySem.W.kia_one PySem.W.kitx_list I.kIn ⟨_, e1, rfl⟩ kit (fun z => nomatch z) h
noncomputable def rIsi (K : PySem.W.Frag) : List V → Hp → VK → Prop := fun xs H Q => ∃ x T d F b, xs = [x, .ty T] ∧ Rp K H d x F ∧ d.isa T = some b ∧ Q (.bl b) H
theorem call_isi : CallR X (.builtin "isinstance") (rIsi X.K) := by
  intro pins s σ H xs us Q I r h
  obtain ⟨x, T, d, F, b, rfl, rp, e, q⟩ := h
  obtain ⟨u, w, rfl, ru, rw'⟩ := vals2 r
  cases (show w = Value.type T from rw')
  exact isi_ok I rp ru e fun tk => ⟨.bl b, H, I.tok _, rfl, q⟩
noncomputable def dIsi (T : String) (fa : DE) : DE := fun ρ => (fa ρ).bind fun r => (r.d.isa T).map fun b => ⟨.bl b, true, []⟩
theorem se_isi {a : Expr} {fa : DE} {T : String} {x : Str} {p p2 pos : Pos} (hg : Gl X "isinstance") (hm : X.mg "isinstance" = none) (ha : SE X a fa) (hT : PE X (.Name x p2) (tC (.ty T)))
    (he : starEach [a, .Name x p2] X.env = (false, eval a X.env) :: starEach [.Name x p2] X.env) : SE X (.Call (.Name "isinstance" p) [a, .Name x p2] [] pos) (dIsi T fa) := fun H0 A0 =>
  (pe_callB call_isi hg hm PyProof.Rows.boot_isinstance (pa_cons (ha H0 A0) (pa_cons hT pa_nil) he) (by decide) (by decide) he (by rfl)).mono fun σ H Q ⟨ρ, hs, F, r', rel, e, q⟩ => by
    obtain ⟨r, e1, e⟩ := bind1 e
    obtain ⟨b, eb, e⟩ := Option.map_eq_some_iff.mp e
    subst e
    exact ⟨ρ, hs, F, r, rel, e1, fun v H1 G p => ⟨v, T, r.d, G, b, rfl, p.rp, eb, q _ H1 [] (.flat p.same .bl_mk)⟩⟩
/-! ### truth -/
noncomputable def D.tru : D → Option Bool
  | .non => some false
  | .bl b => some b
  | .int i => some (i != 0)
  | .lst xs => some (!xs.isEmpty)
  | .tup xs => some (!xs.isEmpty)
  | .str _ => none
theorem tru_v {K : PySem.W.Frag} {H : Hp} {d : D} {v : V} {F : List Addr} {b : Bool} (h : Rp K H d v F) (e : d.tru = some b) : TruV K v H b := by
  have emp : ∀ {ds : List D} {vs : List V} {G : List Addr}, Rps K H ds vs G → (!ds.isEmpty) = !vs.isEmpty := fun {ds vs G} r => by
    have := r.length
    cases ds <;> cases vs <;> simp_all
  cases d with
  | non => rw [h.non_inv]; cases e; exact rfl
  | bl c => rw [h.bl_inv]; cases e; exact rfl
  | int i => rw [h.int_inv]; cases e; exact rfl
  | str i => cases e
  | tup ds => cases e; obtain ⟨a, vs, rfl, hq, r⟩ := h.tup_inv; exact .inr (.inl ⟨vs, hq, emp r⟩)
  | lst ds => cases e; obtain ⟨a, vs, G, rfl, hq, r, _⟩ := h.lst_inv; exact .inl ⟨vs, lst_sq hq, emp r⟩
noncomputable def dTru (fa : DE) : DT := fun ρ => (fa ρ).bind fun r => r.d.tru
noncomputable def bAnd (f g : DT) : DT := fun ρ => (f ρ).bind fun b => if b = true then g ρ else some false
noncomputable def bOr (f g : DT) : DT := fun ρ => (f ρ).bind fun b => if b = true then some true else g ρ
noncomputable def bNot (f : DT) : DT := fun ρ => (f ρ).bind fun b => some (!b)
noncomputable def SW (X : Cx) (e : Expr) (f : DT) : Prop := ∀ H0 A0, PW X e (tVT X.K H0 A0 f)
theorem _root_.L2.PW.mono {X : Cx} {e : Expr} {t t' : TT} (h : PW X e t) (m : ∀ σ H Q, t' σ H Q → t σ H Q) : PW X e t' := fun wh pins s σ H Q I q => h wh pins s σ H Q I (m σ H Q q)
variable {a b e : Expr} {fa fb : DE} {ga gb gc : DT} {pos : Pos} {rest : List Expr}
theorem st_tru (ha : SE X a fa) (he : ∀ whole, isTrue a X.env whole = (do let v ← whole; standAt a.pos; holding [v] (truthy v))) : ST X a (dTru fa) := fun H0 A0 =>
  (pt_truth (ha H0 A0) he).mono fun σ H Q ⟨ρ, hs, F, b, rel, e, q⟩ => by
    obtain ⟨r, e1, e⟩ := bind1 e
    exact ⟨ρ, hs, F, r, rel, e1, fun v H1 G p => ⟨b, tru_v p.rp e, q H1 p.same⟩⟩
theorem st_cmp {op : CmpOp} {g : D → D → Option D} {r : R2} (ho : OpR X (compareOp op) r) (hg : OpOk X.K g r) (hbl : ∀ a b d, g a b = some d → ∃ k, d = .bl k) (ha : SE X a fa) (hb : SE X b fb) (hm : behindInMarks op b = false) : ST X (.Compare a [op] [b] pos) (dTru (dOp g fa fb)) := fun H0 A0 =>
  (pt_cmpR ho (ha H0 A0) (hb H0 A0) hm).mono fun σ H Q ⟨ρ, hs, F, k, rel, e, q⟩ => by
    obtain ⟨r', e0, e⟩ := bind1 e
    obtain ⟨ra, rb, d, ea, eb, eg, rfl⟩ := dOp_inv e0
    obtain ⟨k', rfl⟩ := hbl _ _ _ eg
    cases e
    refine two rel ea eb fun x y H1 H2 G1 G2 p1 p2 => (hg _ _ _ eg).2 H2 x y G1 G2 _ (p1.rp.same p2.same) p2.rp fun v hv => ?_
    exact ⟨_, (hv H2).bl_inv, q H2 (p1.same.trans p2.same)⟩
theorem st_not (ha : ST X a ga) : ST X (.UnaryOp .Not a pos) (bNot ga) := fun H0 A0 =>
  (pt_not (ha H0 A0)).mono fun σ H Q ⟨ρ, hs, F, b, rel, e, q⟩ => by
    obtain ⟨c, e1, e⟩ := bind1 e
    cases e
    exact ⟨ρ, hs, F, c, rel, e1, fun H1 s1 => q H1 s1⟩
theorem sw_and1 (ha : ST X a ga) : SW X (.BoolOp .And [a] pos) ga := fun H0 A0 => pw_and1 (ha H0 A0)
theorem sw_or1 (ha : ST X a ga) : SW X (.BoolOp .Or [a] pos) ga := fun H0 A0 => pw_or1 (ha H0 A0)
theorem sw_and (ha : ST X a ga) (hb : SW X (.BoolOp .And (b :: rest) pos) gb) : SW X (.BoolOp .And (a :: b :: rest) pos) (bAnd ga gb) := fun H0 A0 =>
  (pw_and (ha H0 A0) (hb H0 A0)).mono fun σ H Q ⟨ρ, hs, F, c, rel, e, q⟩ => by
    obtain ⟨d, e1, e⟩ := bind1 e
    refine ⟨ρ, hs, F, d, rel, e1, fun H1 s1 => ?_⟩
    cases d with
    | true => exact ⟨ρ, hs, F, c, rel.ext s1, e, fun H2 s2 => q H2 (s1.trans s2)⟩
    | false => cases e; exact q H1 s1
theorem sw_or (ha : ST X a ga) (hb : SW X (.BoolOp .Or (b :: rest) pos) gb) : SW X (.BoolOp .Or (a :: b :: rest) pos) (bOr ga gb) := fun H0 A0 =>
  (pw_or (ha H0 A0) (hb H0 A0)).mono fun σ H Q ⟨ρ, hs, F, c, rel, e, q⟩ => by
    obtain ⟨d, e1, e⟩ := bind1 e
    refine ⟨ρ, hs, F, d, rel, e1, fun H1 s1 => ?_⟩
    cases d with
    | true => cases e; exact q H1 s1
    | false => exact ⟨ρ, hs, F, c, rel.ext s1, e, fun H2 s2 => q H2 (s1.trans s2)⟩
theorem SW.st (h : SW X e ga) : ST X e ga := fun H0 A0 => (h H0 A0).pt
/-! ### and, or, not, if as values -/
noncomputable def dAnd (fa fb : DE) : DE := fun ρ => (fa ρ).bind fun ra => (ra.d.tru).bind fun b => if b = true then fb ρ else some ra
noncomputable def dOr (fa fb : DE) : DE := fun ρ => (fa ρ).bind fun ra => (ra.d.tru).bind fun b => if b = true then some ra else fb ρ
noncomputable def dNot (fa : DE) : DE := fun ρ => (fa ρ).bind fun ra => (ra.d.tru).bind fun b => some ⟨.bl (!b), true, []⟩
theorem se_one {op} (h : SE X a fa) : SE X (.BoolOp op [a] pos) fa := fun H0 A0 => pe_one (h H0 A0)
theorem Post.ext {K : PySem.W.Frag} {ρ : En} {F : Nat → List Addr} {H H1 H2 : Hp} {r : R} {v : V} {G : List Addr} (s : Same H H1) (p : Post K ρ F H1 H2 r v G) {H0 : Hp} {A0 : List Addr} {hs : List (V × D × List Addr)} {σ : L2.St} (rel : Rel K H0 A0 hs ρ F σ H) : Post K ρ F H H2 r v G where
  same := s.trans p.same
  rp := p.rp
  src := fun a ha => (p.src a ha).elim (fun z => .inl (s.free z)) .inr
  cnt := fun h => ⟨fun a => Nat.le_trans ((p.cnt h).1 a) (Nat.add_le_add_right (by
    cases q : H1 a with
    | none => rw [nw_none q, nw_none (s.free q)]; exact Nat.le_refl _
    | some o => rw [nw_some q]; exact Nat.zero_le _) _), (p.cnt h).2⟩
  own := p.own
theorem se_and (ha : SE X a fa) (hb : SE X (.BoolOp .And (b :: rest) pos) fb) : SE X (.BoolOp .And (a :: b :: rest) pos) (dAnd fa fb) := fun H0 A0 => by
  intro pins s σ H Q I ⟨ρ, hs, F, r, rel, e, q⟩
  obtain ⟨ra, e1, e⟩ := bind1 e
  obtain ⟨c, e2, e⟩ := bind1 e
  refine PyProof.Rows.BoolOp_and (thn (ha H0 A0 pins s σ H _ I ⟨ρ, hs, F, ra, rel, e1, fun v H' G p => (⟨G, p⟩ : ∃ G, Post X.K ρ F H H' ra v G)⟩) fun v s1 ⟨x, H1, I1, r1, G, p⟩ => ?_)
  refine thn (tru_ok pins s1 σ H1 x v (fun k H2 => k = c ∧ H2 = H1) I1 r1 ⟨c, tru_v p.rp e2, rfl, rfl⟩) fun k s2 ⟨H2, I2, e3, e4⟩ => ?_
  subst e3 e4
  cases k with
  | true => exact hb H0 A0 pins s2 σ _ Q I2 ⟨ρ, hs, F, r, rel.ext p.same, e, fun w H3 G3 p3 => q w H3 G3 (p3.ext p.same rel)⟩
  | false => cases e; exact ⟨x, _, I2, r1, q x _ G p⟩
theorem se_or (ha : SE X a fa) (hb : SE X (.BoolOp .Or (b :: rest) pos) fb) : SE X (.BoolOp .Or (a :: b :: rest) pos) (dOr fa fb) := fun H0 A0 => by
  intro pins s σ H Q I ⟨ρ, hs, F, r, rel, e, q⟩
  obtain ⟨ra, e1, e⟩ := bind1 e
  obtain ⟨c, e2, e⟩ := bind1 e
  refine PyProof.Rows.BoolOp_or (thn (ha H0 A0 pins s σ H _ I ⟨ρ, hs, F, ra, rel, e1, fun v H' G p => (⟨G, p⟩ : ∃ G, Post X.K ρ F H H' ra v G)⟩) fun v s1 ⟨x, H1, I1, r1, G, p⟩ => ?_)
  refine thn (tru_ok pins s1 σ H1 x v (fun k H2 => k = c ∧ H2 = H1) I1 r1 ⟨c, tru_v p.rp e2, rfl, rfl⟩) fun k s2 ⟨H2, I2, e3, e4⟩ => ?_
  subst e3 e4
  cases k with
  | false => exact hb H0 A0 pins s2 σ _ Q I2 ⟨ρ, hs, F, r, rel.ext p.same, e, fun w H3 G3 p3 => q w H3 G3 (p3.ext p.same rel)⟩
  | true => cases e; exact ⟨x, _, I2, r1, q x _ G p⟩
theorem se_not (ha : SE X a fa) : SE X (.UnaryOp .Not a pos) (dNot fa) := fun H0 A0 => by
  intro pins s σ H Q I ⟨ρ, hs, F, r, rel, e, q⟩
  obtain ⟨ra, e1, e⟩ := bind1 e
  obtain ⟨c, e2, e⟩ := bind1 e
  cases e
  refine PyProof.Rows.UnaryOp_ (thn (ha H0 A0 pins s σ H _ I ⟨ρ, hs, F, ra, rel, e1, fun v H' G p => (⟨G, p⟩ : ∃ G, Post X.K ρ F H H' ra v G)⟩) fun v s1 ⟨x, H1, I1, r1, G, p⟩ => ?_)
  refine PyProof.Rows.not_of (thn (tru_ok pins s1 σ H1 x v (fun k H2 => k = c ∧ H2 = H1) I1 r1 ⟨c, tru_v p.rp e2, rfl, rfl⟩) fun k s2 ⟨H2, I2, e3, e4⟩ => ?_)
  subst e3 e4
  exact ⟨.bl (!k), _, I2, rfl, q _ _ [] (.flat p.same .bl_mk)⟩
/-- - e -/
noncomputable def dNeg (fa : DE) : DE := fun ρ => (fa ρ).bind fun ra => match ra.d with
  | .int i => some ⟨.int (-i), true, []⟩
  | _ => none
theorem se_neg (ha : SE X a fa) : SE X (.UnaryOp .USub a pos) (dNeg fa) := fun H0 A0 =>
  (pe_un un_neg (ha H0 A0)).mono fun σ H Q ⟨ρ, hs, F, r, rel, e, q⟩ => by
    obtain ⟨ra, e1, e⟩ := bind1 e
    refine ⟨ρ, hs, F, ra, rel, e1, fun v H1 G p => ?_⟩
    have rp := p.rp
    cases hr : ra.d with
    | int i =>
      rw [hr] at e rp
      cases e
      exact ⟨i, rp.int_inv, q _ H1 [] (.flat p.same .int_mk)⟩
    | _ => rw [hr] at e; cases e
end
end HS
namespace HS
open PySem PySem.Spec L2
section
variable {K : PySem.W.Frag} {H0 H H' : Hp} {A0 : List Addr} {hs : List (V × D × List Addr)} {ρ ρ' : En} {F : Nat → List Addr} {σ : L2.St}
/-- less is known -/
noncomputable def Weaker (ρ ρ' : En) : Prop := ρ'.length = ρ.length ∧ ∀ (i : Nat) d b, ρ'[i]? = some (some (d, b)) → ∃ b', ρ[i]? = some (some (d, b')) ∧ (b = true → b' = true)
theorem Weaker.refl : Weaker ρ ρ := ⟨rfl, fun i d b h => ⟨b, h, id⟩⟩
theorem Weaker.trans {ρ'' : En} (a : Weaker ρ ρ') (b : Weaker ρ' ρ'') : Weaker ρ ρ'' := ⟨b.1.trans a.1, fun i d c h => by
  obtain ⟨c', h1, h2⟩ := b.2 i d c h
  obtain ⟨c'', h3, h4⟩ := a.2 i d c' h1
  exact ⟨c'', h3, fun z => h4 (h2 z)⟩⟩
theorem Rel.weak (r : Rel K H0 A0 hs ρ F σ H) (w : Weaker ρ ρ') : Rel K H0 A0 hs ρ' F σ H where
  len := w.1.trans r.len
  val := fun i d b e => let ⟨b', h, _⟩ := w.2 i d b e; r.val i d b' h
  own := fun i d e => by
    obtain ⟨b', h, hb⟩ := w.2 i d true e
    have : b' = true := hb rfl
    subst this
    obtain ⟨h1, h2, h3, h4, h5⟩ := r.own i d h
    exact ⟨h1, h2, h3, fun j d' b' hj e' => let ⟨b'', h', _⟩ := w.2 j d' b' e'; h4 j d' b'' hj h', h5⟩
  src := fun i d b e => let ⟨b', h, _⟩ := w.2 i d b e; r.src i d b' h
  held := r.held
  same := r.same
noncomputable def kill : List Nat → En → En
  | [], ρ => ρ
  | i :: M, ρ => kill M (ρ.set i none)
noncomputable def demote : List Nat → En → En
  | [], ρ => ρ
  | i :: M, ρ => demote M (match ρ[i]? with
    | some (some (d, _)) => ρ.set i (some (d, false))
    | _ => ρ)
theorem weak_none (i : Nat) : Weaker ρ (ρ.set i none) := ⟨by simp, fun j d b h => by
  by_cases hj : i = j
  · subst hj
    by_cases hl : i < ρ.length
    · rw [List.getElem?_set_self hl] at h; cases h
    · rw [List.getElem?_eq_none (by simp; omega)] at h; cases h
  · rw [List.getElem?_set_ne hj] at h
    exact ⟨b, h, id⟩⟩
theorem kill_weak : ∀ (M : List Nat) (ρ : En), Weaker ρ (kill M ρ)
  | [], ρ => .refl
  | i :: M, ρ => (weak_none i).trans (kill_weak M _)
theorem kill_gone : ∀ (M : List Nat) (ρ : En) (i : Nat) (d : D) (b : Bool), i ∈ M → (kill M ρ)[i]? = some (some (d, b)) → False
  | [], ρ, i, d, b, h, _ => by simp at h
  | j :: M, ρ, i, d, b, h, e => by
    rcases List.mem_cons.mp h with rfl | h
    · obtain ⟨b', e', _⟩ := (kill_weak M (ρ.set i none)).2 i d b e
      by_cases hl : i < ρ.length
      · rw [List.getElem?_set_self hl] at e'; cases e'
      · rw [List.getElem?_eq_none (by simp; omega)] at e'; cases e'
    · exact kill_gone M _ i d b h e
theorem weak_dem (i : Nat) : Weaker ρ (match ρ[i]? with
    | some (some (d, _)) => ρ.set i (some (d, false))
    | _ => ρ) := by
  split
  · rename_i d b e
    refine ⟨by simp, fun j d' b' h => ?_⟩
    by_cases hj : i = j
    · subst hj
      have hl : i < ρ.length := (List.getElem?_eq_some_iff.mp e).1
      rw [List.getElem?_set_self hl] at h
      cases h
      exact ⟨b, e, fun z => by cases z⟩
    · rw [List.getElem?_set_ne hj] at h
      exact ⟨b', h, id⟩
  · exact .refl
theorem demote_weak : ∀ (M : List Nat) (ρ : En), Weaker ρ (demote M ρ)
  | [], ρ => .refl
  | i :: M, ρ => (weak_dem i).trans (demote_weak M _)
theorem demote_not : ∀ (M : List Nat) (ρ : En) (i : Nat) (d : D), i ∈ M → (demote M ρ)[i]? = some (some (d, true)) → False
  | [], ρ, i, d, h, _ => by simp at h
  | j :: M, ρ, i, d, h, e => by
    rcases List.mem_cons.mp h with rfl | h
    · obtain ⟨b', e', hb⟩ := (demote_weak M _).2 i d true e
      have : b' = true := hb rfl
      subst this
      split at e'
      · rename_i d' b e1
        have hl : i < ρ.length := (List.getElem?_eq_some_iff.mp e1).1
        rw [List.getElem?_set_self hl] at e'
        cases e'
      · rename_i h1
        exact h1 d true e'
    · exact demote_not M _ i d h e
/-- lists that may be shared: nobody owns them -/
noncomputable def Shr (H0 : Hp) (A0 : List Addr) (ρ : En) (F : Nat → List Addr) (G : List Addr) : Prop :=
  ∀ a ∈ G, (H0 a = none ∨ a ∈ A0) ∧ ∀ (i : Nat) d, ρ[i]? = some (some (d, true)) → a ∉ F i
theorem Shr.of (r : Rel K H0 A0 hs ρ F σ H) {M : List Nat} {G : List Addr} (s : Src ρ F H M G) : Shr H0 A0 (demote M ρ) F G := fun a ha => by
  have w := demote_weak M ρ
  rcases s a ha with h | ⟨i, d, b, e, m, hm⟩
  · refine ⟨.inl (r.same.free h), fun j d' e' hj => ?_⟩
    obtain ⟨b', e2, _⟩ := w.2 j d' true e'
    obtain ⟨vs, q⟩ := r.mem e2 hj
    rw [h] at q; cases q
  · refine ⟨r.src i d b e a m, fun j d' e' hj => ?_⟩
    obtain ⟨b', e2, hb⟩ := w.2 j d' true e'
    have : b' = true := hb rfl
    subst this
    by_cases hij : i = j
    · subst hij
      rw [e] at e2
      cases e2
      exact demote_not M ρ i _ (hm rfl) e'
    · exact (r.own j d' e2).2.2.2.1 i d b hij e a hj m
/-- a slot gets what is shared -/
theorem Rel.setS (r : Rel K H0 A0 hs ρ F σ H) {i : Nat} {d : D} {v : V} {G : List Addr} (rp : Rp K H d v G) (sh : Shr H0 A0 ρ F G) :
    Rel K H0 A0 hs (ρ.set i (some (d, d.flat))) (fun j => if j = i then G else F j) (σ.set i (some v)) H where
  len := by simp [r.len]
  val := fun j d' b e => by
    by_cases hj : j = i
    · subst hj
      have hl : j < ρ.length := by
        by_cases hl : j < ρ.length
        · exact hl
        · rw [List.getElem?_eq_none (by simp; omega)] at e; cases e
      rw [List.getElem?_set_self hl] at e
      cases e
      exact ⟨v, by rw [List.getElem?_set_self (by rw [← r.len]; exact hl)], by rw [if_pos rfl]; exact rp⟩
    · rw [List.getElem?_set_ne (Ne.symm hj)] at e
      obtain ⟨w, h1, h2⟩ := r.val j d' b e
      exact ⟨w, by rw [List.getElem?_set_ne (Ne.symm hj)]; exact h1, by rw [if_neg hj]; exact h2⟩
  own := fun j d' e => by
    by_cases hj : j = i
    · subst hj
      have hl : j < ρ.length := by
        by_cases hl : j < ρ.length
        · exact hl
        · rw [List.getElem?_eq_none (by simp; omega)] at e; cases e
      rw [List.getElem?_set_self hl] at e
      have e1 := Option.some.inj (Option.some.inj e)
      have ed : d = d' := congrArg Prod.fst e1
      have ef : d.flat = true := congrArg Prod.snd e1
      subst ed
      have := rp.flat0 ef
      subst this
      rw [if_pos rfl]
      exact ⟨(nl_flat d ef).symm, List.nodup_nil, fun a ha => by simp at ha, fun _ _ _ _ _ a ha => by simp at ha, fun _ _ a ha => by simp at ha⟩
    · rw [List.getElem?_set_ne (Ne.symm hj)] at e
      obtain ⟨h1, h2, h3, h4, h5⟩ := r.own j d' e
      rw [if_neg hj]
      refine ⟨h1, h2, h3, fun k d'' b hk ek a ha => ?_, h5⟩
      by_cases hki : k = i
      · subst hki
        rw [if_pos rfl]
        exact fun hG => (sh a hG).2 j d' e ha
      · rw [List.getElem?_set_ne (Ne.symm hki)] at ek
        rw [if_neg hki]
        exact h4 k d'' b hk ek a ha
  src := fun j d' b e a ha => by
    by_cases hj : j = i
    · subst hj
      rw [if_pos rfl] at ha
      exact (sh a ha).1
    · rw [List.getElem?_set_ne (Ne.symm hj)] at e
      rw [if_neg hj] at ha
      exact r.src j d' b e a ha
  held := r.held
  same := r.same
theorem fl_le (r : Rel K H0 A0 hs ρ F σ H) {M : List Nat} (ow : Owns ρ M) (nd : M.Nodup) (a : Addr) : ((M.map F).flatten).count a ≤ 1 := by
  induction M with
  | nil => simp
  | cons i M ih =>
    rw [List.map_cons, List.flatten_cons, List.count_append]
    obtain ⟨h1, h2⟩ := List.nodup_cons.mp nd
    have ih' := ih (fun j hj => ow j (List.mem_cons_of_mem _ hj)) h2
    obtain ⟨d, e⟩ := ow i List.mem_cons_self
    obtain ⟨_, nd1, _, apart, _⟩ := r.own i d e
    by_cases ha : a ∈ F i
    · have c1 : (F i).count a ≤ 1 := List.nodup_iff_count.mp nd1 a
      have c2 : ((M.map F).flatten).count a = 0 := List.count_eq_zero.mpr fun hm => by
        obtain ⟨l, hl, hal⟩ := List.mem_flatten.mp hm
        obtain ⟨j, hj, rfl⟩ := List.mem_map.mp hl
        obtain ⟨d', e'⟩ := ow j (List.mem_cons_of_mem _ hj)
        exact apart j d' true (fun z => h1 (z ▸ hj)) e' a ha hal
      omega
    · have : (F i).count a = 0 := List.count_eq_zero.mpr ha
      omega
/-- what a fresh result's lists are -/
theorem Post.fresh (r : Rel K H0 A0 hs ρ F σ H) {rr : R} {v : V} {G : List Addr} (p : Post K ρ F H H' rr v G) (hf : rr.fr = true) (nd : rr.M.Nodup) :
    G.Nodup ∧ ∀ a ∈ G, H0 a = none ∧ (H a = none ∨ ∃ i d, i ∈ rr.M ∧ ρ[i]? = some (some (d, true)) ∧ a ∈ F i) := by
  obtain ⟨c, _⟩ := p.cnt hf
  refine ⟨List.nodup_iff_count.mpr fun a => ?_, fun a ha => ?_⟩
  · have h1 := c a
    have h2 := fl_le r p.own nd a
    cases q : H a with
    | none => rw [nw_none q, r.fl0 p.own q] at h1; omega
    | some o => rw [nw_some q] at h1; omega
  · cases q : H a with
    | none => exact ⟨r.same.free q, .inl rfl⟩
    | some o =>
      have h1 := c a
      rw [nw_some q] at h1
      have h2 : 0 < G.count a := List.count_pos_iff.mpr ha
      obtain ⟨l, hl, hal⟩ := List.mem_flatten.mp (List.count_pos_iff.mp (by omega : 0 < ((rr.M.map F).flatten).count a))
      obtain ⟨i, hi, rfl⟩ := List.mem_map.mp hl
      obtain ⟨d, e⟩ := p.own i hi
      exact ⟨(r.own i d e).2.2.1 a hal, .inr ⟨i, d, hi, e, hal⟩⟩
/-- a slot gets what is its own from now on -/
theorem Rel.setO (r : Rel K H0 A0 hs ρ F σ H) {i : Nat} {rr : R} {v : V} {G : List Addr} (p : Post K ρ F H H' rr v G) (hf : rr.fr = true) (nd : rr.M.Nodup) :
    Rel K H0 A0 hs ((kill rr.M ρ).set i (some (rr.d, true))) (fun j => if j = i then G else F j) (σ.set i (some v)) H' := by
  have r1 := (r.ext p.same).weak (kill_weak rr.M ρ)
  obtain ⟨gn, gs⟩ := p.fresh r hf nd
  have gl := (p.cnt hf).2
  -- none of G stands in a slot that is left, or is held
  have apart : ∀ (j : Nat) d b, (kill rr.M ρ)[j]? = some (some (d, b)) → ∀ a ∈ G, a ∉ F j := fun j d b e a ha hj => by
    obtain ⟨b', e', _⟩ := (kill_weak rr.M ρ).2 j d b e
    rcases (gs a ha).2 with q | ⟨k, d', hk, ek, hak⟩
    · obtain ⟨vs, w⟩ := r.mem e' hj
      rw [q] at w; cases w
    · have hjk : j ≠ k := fun z => by subst z; exact kill_gone rr.M ρ j d b hk e
      exact (r.own k d' ek).2.2.2.1 j d b' hjk e' a hak hj
  have apartH : ∀ t ∈ hs, ∀ a ∈ G, a ∉ t.2.2 := fun t ht a ha hj => by
    rcases (gs a ha).2 with q | ⟨k, d', hk, ek, hak⟩
    · obtain ⟨vs, w⟩ := (r.held t ht).1.mem a hj
      rw [q] at w; cases w
    · exact (r.own k d' ek).2.2.2.2 t ht a hak hj
  have lt : ∀ {j : Nat} {x : Option (D × Bool)} {y : D × Bool}, ((kill rr.M ρ).set j x)[j]? = some (some y) → j < (kill rr.M ρ).length := fun {j x y} e => by
    by_cases hl : j < (kill rr.M ρ).length
    · exact hl
    · rw [List.getElem?_eq_none (by simp; omega)] at e; cases e
  refine ⟨by simp [r1.len], fun j d b e => ?_, fun j d e => ?_, fun j d b e a ha => ?_, r1.held, r1.same⟩
  · by_cases hj : j = i
    · subst hj
      have hl := lt e
      rw [List.getElem?_set_self hl] at e
      cases e
      exact ⟨v, by rw [List.getElem?_set_self (by rw [← r1.len]; exact hl)], by rw [if_pos rfl]; exact p.rp⟩
    · rw [List.getElem?_set_ne (Ne.symm hj)] at e
      obtain ⟨w, h1, h2⟩ := r1.val j d b e
      exact ⟨w, by rw [List.getElem?_set_ne (Ne.symm hj)]; exact h1, by rw [if_neg hj]; exact h2⟩
  · by_cases hj : j = i
    · subst hj
      have hl := lt e
      rw [List.getElem?_set_self hl] at e
      cases e
      rw [if_pos rfl]
      refine ⟨gl, gn, fun a ha => (gs a ha).1, fun k d' b hk ek a ha => ?_, apartH⟩
      rw [List.getElem?_set_ne (Ne.symm hk)] at ek
      rw [if_neg hk]
      exact apart k d' b ek a ha
    · rw [List.getElem?_set_ne (Ne.symm hj)] at e
      obtain ⟨h1, h2, h3, h4, h5⟩ := r1.own j d e
      rw [if_neg hj]
      refine ⟨h1, h2, h3, fun k d' b hk ek a ha => ?_, h5⟩
      by_cases hki : k = i
      · subst hki
        rw [if_pos rfl]
        exact fun hG => apart j d true e a hG ha
      · rw [List.getElem?_set_ne (Ne.symm hki)] at ek
        rw [if_neg hki]
        exact h4 k d' b hk ek a ha
  · by_cases hj : j = i
    · subst hj
      rw [if_pos rfl] at ha
      exact .inl (gs a ha).1
    · rw [List.getElem?_set_ne (Ne.symm hj)] at e
      rw [if_neg hj] at ha
      exact r1.src j d b e a ha
/-- name = result -/
noncomputable def asg (i : Nat) (r : R) (ρ : En) : En :=
  if r.norm.fr && decide r.norm.M.Nodup then (kill r.norm.M ρ).set i (some (r.d, true)) else (demote r.norm.M ρ).set i (some (r.d, r.d.flat))
theorem Rel.asg (r : Rel K H0 A0 hs ρ F σ H) {i : Nat} {rr : R} {v : V} {G : List Addr} (p : Post K ρ F H H' rr v G) : ∃ F', Rel K H0 A0 hs (asg i rr ρ) F' (σ.set i (some v)) H' := by
  have p' := p.norm
  unfold HS.asg
  split
  · rename_i h
    simp only [Bool.and_eq_true, decide_eq_true_eq] at h
    have := r.setO (i := i) p' h.1 h.2
    rw [rr.norm_d] at this
    exact ⟨_, this⟩
  · have r1 := (r.ext p'.same).weak (demote_weak rr.norm.M ρ)
    have rp := p'.rp
    rw [rr.norm_d] at rp
    have sh := Shr.of r p'.src
    exact ⟨_, r1.setS rp sh⟩
/-- something is held while a loop runs -/
theorem Rel.hold (r : Rel K H0 A0 hs ρ F σ H) {ts : List (V × D × List Addr)} (h : ∀ t ∈ ts, Rp K H t.2.1 t.1 t.2.2 ∧ Shr H0 A0 ρ F t.2.2) : Rel K H0 A0 (ts ++ hs) ρ F σ H where
  len := r.len
  val := r.val
  own := fun i d e => by
    obtain ⟨h1, h2, h3, h4, h5⟩ := r.own i d e
    refine ⟨h1, h2, h3, h4, fun t ht a ha hm => ?_⟩
    rcases List.mem_append.mp ht with z | z
    · exact ((h t z).2 a hm).2 i d e ha
    · exact h5 t z a ha hm
  src := r.src
  held := fun t ht => by
    rcases List.mem_append.mp ht with z | z
    · exact ⟨(h t z).1, fun a ha => ((h t z).2 a ha).1⟩
    · exact r.held t z
  same := r.same
theorem Rel.unhold {ts : List (V × D × List Addr)} (r : Rel K H0 A0 (ts ++ hs) ρ F σ H) : Rel K H0 A0 hs ρ F σ H where
  len := r.len
  val := r.val
  own := fun i d e => let ⟨h1, h2, h3, h4, h5⟩ := r.own i d e; ⟨h1, h2, h3, h4, fun t ht => h5 t (List.mem_append_right _ ht)⟩
  src := r.src
  held := fun t ht => r.held t (List.mem_append_right _ ht)
  same := r.same
end
end HS
namespace HS
open PySem PySem.Spec L2
/-! ### what a def gives back -/
structure Ret (K : PySem.W.Frag) (H0 : Hp) (A0 : List Addr) (d : D) (fr : Bool) (v : V) (H' : Hp) (G : List Addr) : Prop where
  same : Same H0 H'
  rp : Rp K H' d v G
  src : ∀ a ∈ G, H0 a = none ∨ a ∈ A0
  cnt : fr = true → G.Nodup ∧ G.length = d.nl ∧ ∀ a ∈ G, H0 a = none
noncomputable abbrev Den := List D → Option (D × Bool)
noncomputable def spV (K : PySem.W.Frag) (n : Nat) (den : Den) : Sp := fun vs H Q _ => ∃ ds F d fr, Rps K H ds vs F ∧ ds.length = n ∧ den ds = some (d, fr) ∧ ∀ v H' G, Ret K H F d fr v H' G → Q v H'
theorem spV_len {K : PySem.W.Frag} {n : Nat} {den : Den} {ps : List Str} (hn : ps.length = n) : ∀ vs H Q E, spV K n den vs H Q E → vs.length = ps.length := fun vs H Q E ⟨ds, F, d, fr, r, hl, _⟩ => by rw [hn, ← hl, r.length]
/-- a call; dfl: the defaults that fill up -/
noncomputable def dCall (n : Nat) (den : Den) (dfl : List D) (fs : DA) : DE := fun ρ => (fs ρ).bind fun r => if r.ds.length + dfl.length = n then (den (r.ds ++ dfl)).map fun q => if q.2 = true then ⟨q.1, true, []⟩ else R.norm ⟨q.1, false, r.M⟩ else none
section
variable {X : Cx} {e : Expr} {es : List Expr} {fs : DA} {pos p : Pos} {x : Str} {n k : Nat} {f : Addr} {fd : FuncData} {ps : List Str} {den : Den} {dfl : List D} {dvs : List V} {ds : List Value}
theorem call_mono {σ : L2.St} {H H0 : Hp} {A0 : List Addr} {Q : VK} (hdf : ∀ H, Rps X.K H dfl dvs []) : tV X.K H0 A0 (dCall n den dfl fs) σ H Q → tCall (spV X.K n den) dvs E0 (tVA X.K H0 A0 fs) σ H Q := fun ⟨ρ, hs, F, r, rel, e, q⟩ => by
  obtain ⟨ra, e1, e⟩ := bind1 e
  split at e
  · rename_i hl
    obtain ⟨⟨d, fr⟩, e2, e⟩ := Option.map_eq_some_iff.mp e
    refine ⟨ρ, hs, F, ra, rel, e1, fun vs H1 G p1 => ⟨ra.ds ++ dfl, G ++ [], d, fr, p1.rp.append (hdf H1), by rw [List.length_append]; exact hl, e2, fun v H2 G2 rt => ?_⟩⟩
    subst e
    have src : Src ρ F H ra.M G2 := fun a ha => by
      rcases rt.src a ha with z | z
      · exact .inl (p1.same.free z)
      · rw [List.append_nil] at z
        exact p1.src a z
    split at q
    · rename_i hf
      have hf : fr = true := hf
      obtain ⟨nd, hn, fresh⟩ := rt.cnt hf
      have hH : ∀ a ∈ G2, H a = none := fun a ha => p1.same.free (fresh a ha)
      refine q v H2 G2 ⟨p1.same.trans rt.same, rt.rp, fun a ha => .inl (hH a ha), fun _ => ⟨fun a => ?_, hn⟩, Owns.nil⟩
      by_cases ha : a ∈ G2
      · rw [nw_none (hH a ha)]; have := List.nodup_iff_count.mp nd a; omega
      · rw [List.count_eq_zero.mpr ha]; exact Nat.zero_le _
    · refine q v H2 G2 (Post.norm ⟨p1.same.trans rt.same, rt.rp, src, fun z => (by cases z), p1.own⟩)
  · cases e
theorem se_call (Fk : FnOk X.prog X.w X.K X.mg X.base CX0 k f fd ps (spV X.K n den)) (hr : Room k X.A) (hg : Gl X x) (hm : X.mg x = some (.ref f)) (hk : PySem.W.keepIn X.K (.ref f) = true) (hb : Binds X.K fd ps ds) (hd : Vals dvs ds) (hdf : ∀ H, Rps X.K H dfl dvs [])
    (ha : SA X (e :: es) fs) (hdb : (x == ("__debug__" : Str)) = false) (he : starEach (e :: es) X.env = (false, eval e X.env) :: starEach es X.env) (hpl : (backTo pos (starEach es X.env)).any (·.1) = false) :
    SE X (.Call (.Name x p) (e :: es) [] pos) (dCall n den dfl fs) := fun H0 A0 =>
  (pe_call Fk hr hg hm hk hb hd pass0 (ha H0 A0) hdb he hpl).mono fun σ H Q h => call_mono hdf h
theorem se_call0 (Fk : FnOk X.prog X.w X.K X.mg X.base CX0 k f fd ps (spV X.K n den)) (hr : Room k X.A) (hg : Gl X x) (hm : X.mg x = some (.ref f)) (hk : PySem.W.keepIn X.K (.ref f) = true) (hb : Binds X.K fd ps ds) (hd : Vals dvs ds) (hdf : ∀ H, Rps X.K H dfl dvs [])
    (hdb : (x == ("__debug__" : Str)) = false) : SE X (.Call (.Name x p) [] [] pos) (dCall n den dfl dNil) := fun H0 A0 =>
  (pe_call0 Fk hr hg hm hk hb hd pass0 hdb).mono fun σ H Q h => by
    have h' := call_mono (X := X) (H0 := H0) (A0 := A0) hdf h
    obtain ⟨ρ, hs, F, r, rel, e, q⟩ := h'
    cases e
    exact q [] H [] ⟨Same.refl _, by simp [Rps], Src.nil, fun _ => ⟨Cnt.nil, rfl⟩, Owns.nil⟩
end
/-! ### what is walked -/
structure IR where
  items : List D
  M : List Nat
noncomputable abbrev DI := En → Option IR
noncomputable def Held (K : PySem.W.Frag) (H : Hp) (ts : List (V × D × List Addr)) : Prop := ∀ t ∈ ts, Rp K H t.2.1 t.1 t.2.2
structure Walk (K : PySem.W.Frag) (J : It) (ts : List (V × D × List Addr)) (ds : List D) : Prop where
  stop : ∀ H, Held K H ts → J.stop ds.length H
  go : ∀ i H, i < ds.length → Held K H ts → J.go i H
  yld : ∀ (i : Nat) d H x H', ds[i]? = some d → Held K H ts → J.yld i H x H' → Same H H' ∧ ∃ G, Rp K H' d x G ∧ ∀ a ∈ G, ∃ t ∈ ts, a ∈ t.2.2
noncomputable def tI (K : PySem.W.Frag) (H0 : Hp) (A0 : List Addr) (f : DI) : TI := fun σ H Rr => ∃ ρ hs F ir, Rel K H0 A0 hs ρ F σ H ∧ f ρ = some ir ∧
  ∀ J H1 ts, Same H H1 → Walk K J ts ir.items → (∀ t ∈ ts, Rp K H1 t.2.1 t.1 t.2.2 ∧ Src ρ F H ir.M t.2.2) → Owns ρ ir.M → ir.items.length ≤ sizeLine → Rr J H1
noncomputable def SI (X : Cx) (tg e : Expr) (f : DI) : Prop := ∀ H0 A0, PI X tg e (tI X.K H0 A0 f)
theorem _root_.L2.PI.mono {X : Cx} {tg e : Expr} {t t' : TI} (h : PI X tg e t) (m : ∀ σ H Q, t' σ H Q → t σ H Q) : PI X tg e t' := fun pins s σ H Q I q => h pins s σ H Q I (m σ H Q q)
section
variable {X : Cx} {tg a b : Expr} {fa fb : DE} {fs : DA} {pos p : Pos}
theorem Rps.nth {K : PySem.W.Frag} {H : Hp} {ds : List D} {vs : List V} {F : List Addr} {i : Nat} {d : D} (h : Rps K H ds vs F) (e : ds[i]? = some d) : ∃ v G, vs[i]? = some v ∧ Rp K H d v G ∧ ∀ a ∈ G, a ∈ F := by
  obtain ⟨v, F1, G, F2, h1, h2, h3, _⟩ := h.get e
  exact ⟨v, G, h1, h3, fun a ha => by rw [h2]; exact List.mem_append_right _ (List.mem_append_left _ ha)⟩
/-- any list or tuple -/
noncomputable def iSeq (K : PySem.W.Frag) (tl : TE) : TI := fun σ H Rr => tl σ H fun x H1 => (∃ a, x = .ref a ∧ (∃ xs, SqL K H1 a xs) ∧ Rr (Itl K a) H1) ∨ (∃ a, x = .ref a ∧ (∃ xs, SqT K H1 a xs) ∧ Rr (Itt K a) H1)
theorem pi_seq {l : Expr} {tl : TE} (hl : PE X l tl) : PI X tg l (iSeq X.K tl) := by
  intro pins s σ H Rr I h
  refine thn (hl pins s σ H _ I h) fun v s1 ⟨x, H1, I1, r1, q1⟩ => ?_
  rcases q1 with ⟨a, e, ⟨xs, hq⟩, q⟩ | ⟨a, e, ⟨xs, hq⟩, q⟩
  · subst e
    cases r1
    obtain ⟨its, rv, pl, hz⟩ := I1.list hq
    refine wpAny_pyIter_list pl.isList ⟨s1.heap.objs.size, [s1.heap.objs.size], _, _, H1, rfl, I1.kept (t' := s1.toks) fun b o e => Heap.get?_push_of_some _ e, turn_list a _, ⟨_, Heap.get?_push_size _ rfl, rfl, rfl⟩, fun b hb => ?_, q⟩
    have e : b = s1.heap.objs.size := by simpa using hb
    subst e
    exact I1.fpOk (Nat.le_refl _) (I1.hok.fresh (Nat.le_refl _))
  · subst e
    cases r1
    obtain ⟨its, rv, pl, hz⟩ := I1.tuple hq
    refine wpAny_pyIter_tuple (show s1.heap.IsTuple a its.toArray from pl) ⟨s1.heap.objs.size, [s1.heap.objs.size], _, _, H1, rfl, I1.kept (t' := s1.toks) fun b o e => Heap.get?_push_of_some _ e, turn_tuple a _, ⟨_, Heap.get?_push_size _ rfl, rfl, rfl⟩, fun b hb => ?_, q⟩
    have e : b = s1.heap.objs.size := by simpa using hb
    subst e
    exact I1.fpOk (Nat.le_refl _) (I1.hok.fresh (Nat.le_refl _))
noncomputable def iVal (fa : DE) : DI := fun ρ => (fa ρ).bind fun r => match r.d with
  | .lst xs => some ⟨xs, r.M⟩
  | .tup xs => if xs.length ≤ sizeLine then some ⟨xs, r.M⟩ else none
  | _ => none
theorem walk_list {K : PySem.W.Frag} {c : Addr} {ds : List D} {G : List Addr} : Walk K (Itl K c) [(.ref c, .lst ds, G)] ds where
  stop := fun H h => by
    obtain ⟨l, vs, L, e, hl, rl, zl, el⟩ := (h _ (List.mem_singleton.mpr rfl)).lst_inv
    cases e
    exact ⟨vs, lst_sq hl, by rw [rl.length]; exact Nat.le_refl _⟩
  go := fun i H hi h => by
    obtain ⟨l, vs, L, e, hl, rl, zl, el⟩ := (h _ (List.mem_singleton.mpr rfl)).lst_inv
    cases e
    have : i < vs.length := by rw [← rl.length]; exact hi
    exact ⟨vs, vs[i], lst_sq hl, by simp [this]⟩
  yld := fun i d H x H' e h y => by
    obtain ⟨l, vs, L, e1, hl, rl, zl, el⟩ := (h _ (List.mem_singleton.mpr rfl)).lst_inv
    cases e1
    obtain ⟨rfl, y⟩ := y
    obtain ⟨v, G', h1, h2, h3⟩ := rl.nth e
    have := y vs (lst_sq hl)
    rw [h1] at this
    cases this
    refine ⟨Same.refl _, G', h2, fun z hz => ⟨_, List.mem_singleton.mpr rfl, ?_⟩⟩
    have := h3 z hz
    rcases el with rfl | rfl
    · exact List.mem_cons_of_mem _ this
    · exact this
theorem walk_tup {K : PySem.W.Frag} {c : Addr} {ds : List D} {G : List Addr} : Walk K (Itt K c) [(.ref c, .tup ds, G)] ds where
  stop := fun H h => by
    obtain ⟨l, vs, e, hl, rl⟩ := (h _ (List.mem_singleton.mpr rfl)).tup_inv
    cases e
    exact ⟨vs, hl, by rw [rl.length]; exact Nat.le_refl _⟩
  go := fun i H hi h => by
    obtain ⟨l, vs, e, hl, rl⟩ := (h _ (List.mem_singleton.mpr rfl)).tup_inv
    cases e
    have : i < vs.length := by rw [← rl.length]; exact hi
    exact ⟨vs, vs[i], hl, by simp [this]⟩
  yld := fun i d H x H' e h y => by
    obtain ⟨l, vs, e1, hl, rl⟩ := (h _ (List.mem_singleton.mpr rfl)).tup_inv
    cases e1
    obtain ⟨rfl, y⟩ := y
    obtain ⟨v, G', h1, h2, h3⟩ := rl.nth e
    have := y vs hl
    rw [h1] at this
    cases this
    exact ⟨Same.refl _, G', h2, fun z hz => ⟨_, List.mem_singleton.mpr rfl, h3 z hz⟩⟩
theorem si_val (ha : SE X a fa) : SI X tg a (iVal fa) := fun H0 A0 => (pi_seq (ha H0 A0)).mono fun σ H Rr ⟨ρ, hs, F, ir, rel, e, q⟩ => by
  obtain ⟨r, e1, e⟩ := bind1 e
  refine ⟨ρ, hs, F, r, rel, e1, fun v H1 G p => ?_⟩
  have rp := p.rp
  cases hr : r.d with
  | lst xs =>
    rw [hr] at e rp
    cases e
    obtain ⟨c, vs, L, rfl, hl, rl, zl, el⟩ := rp.lst_inv
    refine .inl ⟨c, rfl, ⟨vs, lst_sq hl⟩, q _ H1 [(.ref c, .lst xs, G)] p.same walk_list (fun t ht => ?_) p.own zl⟩
    rw [List.mem_singleton.mp ht]
    exact ⟨rp, p.src⟩
  | tup xs =>
    rw [hr] at e rp
    dsimp only at e
    split at e
    · rename_i hz
      cases e
      obtain ⟨c, vs, rfl, hl, rl⟩ := rp.tup_inv
      refine .inr ⟨c, rfl, ⟨vs, hl⟩, q _ H1 [(.ref c, .tup xs, G)] p.same walk_tup (fun t ht => ?_) p.own hz⟩
      rw [List.mem_singleton.mp ht]
      exact ⟨rp, p.src⟩
    · cases e
  | _ => rw [hr] at e; cases e
/-- range(j), range(i, j) -/
noncomputable def rngD (lo : Int) (n : Nat) : List D := (List.range n).map fun (k : Nat) => .int (lo + (k : Int))
theorem rngD_len {lo : Int} {n : Nat} : (rngD lo n).length = n := by simp [rngD]
theorem rngD_get {lo : Int} {n i : Nat} {d : D} (h : (rngD lo n)[i]? = some d) : i < n ∧ d = .int (lo + i) := by
  unfold rngD at h
  rw [List.getElem?_map] at h
  cases q : (List.range n)[i]? with
  | none => rw [q] at h; cases h
  | some k =>
    rw [q] at h
    obtain ⟨h1, h2⟩ := List.getElem?_eq_some_iff.mp q
    simp at h1 h2
    subst h2
    exact ⟨h1, (Option.some.inj h).symm⟩
theorem walk_range {K : PySem.W.Frag} {lo : Int} {n : Nat} : Walk K (Itr lo n) [] (rngD lo n) where
  stop := fun H _ => by rw [rngD_len]; exact Nat.le_refl _
  go := fun i H hi _ => by rw [rngD_len] at hi; exact hi
  yld := fun i d H x H' e _ y => by
    obtain ⟨h1, rfl⟩ := rngD_get e
    obtain ⟨rfl, rfl⟩ := y
    exact ⟨Same.refl _, [], .int_mk, fun z hz => by simp at hz⟩
noncomputable def iRange1 (fa : DE) : DI := fun ρ => (fa ρ).bind fun r => match r.d with
  | .int j => if j ≤ 16777216 ∧ -(2 ^ 62) ≤ j then some ⟨rngD 0 j.toNat, []⟩ else none
  | _ => none
noncomputable def iRange2 (fa fb : DE) : DI := fun ρ => (fa ρ).bind fun r => (fb ρ).bind fun r' => match r.d, r'.d with
  | .int i, .int j => if j - i ≤ 16777216 ∧ -(2 ^ 62) ≤ i ∧ i < 2 ^ 62 ∧ -(2 ^ 62) ≤ j ∧ j < 2 ^ 62 then some ⟨rngD i (j - i).toNat, []⟩ else none
  | _, _ => none
theorem line_eq : (sizeLine : Nat) = 16777216 := sizeLine_eq
theorem si_range1 (hg : Gl X "range") (hm : X.mg "range" = none) (ha : SE X a fa) (hs : starEach [a] X.env = [(false, eval a X.env)]) : SI X tg (.Call (.Name "range" p) [a] [] pos) (iRange1 fa) := fun H0 A0 =>
  (pi_range1 hg hm (pa_cons (ha H0 A0) pa_nil hs) hs).mono fun σ H Rr ⟨ρ, hs, F, ir, rel, e, q⟩ => by
    obtain ⟨r, e1, e⟩ := bind1 e
    refine ⟨ρ, hs, F, r, rel, e1, fun v H1 G pp => ?_⟩
    have rp := pp.rp
    cases hr : r.d with
    | int j =>
      rw [hr] at e rp
      dsimp only at e
      split at e
      · rename_i hz
        cases e
        rw [rp.int_inv]
        refine ⟨j, rfl, hz.2, by omega, q _ H1 [] pp.same walk_range (fun t ht => by simp at ht) Owns.nil ?_⟩
        rw [rngD_len, line_eq]; omega
      · cases e
    | _ => rw [hr] at e; cases e
theorem si_range2 (hg : Gl X "range") (hm : X.mg "range" = none) (ha : SE X a fa) (hb : SE X b fb) (hs : starEach [a, b] X.env = [(false, eval a X.env), (false, eval b X.env)]) (hs2 : starEach [b] X.env = [(false, eval b X.env)]) :
    SI X tg (.Call (.Name "range" p) [a, b] [] pos) (iRange2 fa fb) := fun H0 A0 =>
  (pi_range2 hg hm (pa_cons (ha H0 A0) (pa_cons (hb H0 A0) pa_nil hs2) (by rw [hs, hs2])) hs hs2).mono fun σ H Rr ⟨ρ, hs, F, ir, rel, e, q⟩ => by
    obtain ⟨r, e1, e⟩ := bind1 e
    obtain ⟨r', e2, e⟩ := bind1 e
    refine ⟨ρ, hs, F, r, rel, e1, fun v H1 G pp => ⟨ρ, hs, F, r', rel.ext pp.same, e2, fun v' H2 G' pp' => ?_⟩⟩
    have rp := pp.rp.same pp'.same
    have rp' := pp'.rp
    cases hr : r.d with
    | int i =>
      cases hr' : r'.d with
      | int j =>
        rw [hr, hr'] at e
        rw [hr] at rp
        rw [hr'] at rp'
        dsimp only at e
        split at e
        · rename_i hz
          cases e
          rw [rp.int_inv, rp'.int_inv]
          refine ⟨i, j, rfl, hz.2, q _ H2 [] (pp.same.trans pp'.same) walk_range (fun t ht => by simp at ht) Owns.nil ?_⟩
          rw [rngD_len, line_eq]; omega
        · cases e
      | _ => rw [hr, hr'] at e; cases e
    | _ => rw [hr] at e; cases e
/-- enumerate(list) -/
noncomputable def enumD (ds : List D) : List D := ds.zipIdx.map fun q => .tup [.int q.2, q.1]
theorem enumD_len {ds : List D} : (enumD ds).length = ds.length := by simp [enumD]
theorem enumD_get {ds : List D} {i : Nat} {d : D} (h : (enumD ds)[i]? = some d) : ∃ e, ds[i]? = some e ∧ d = .tup [.int i, e] := by
  unfold enumD at h
  rw [List.getElem?_map, List.getElem?_zipIdx] at h
  cases q : ds[i]? with
  | none => rw [q] at h; cases h
  | some e => rw [q] at h; simp at h; exact ⟨e, rfl, h.symm⟩
theorem walk_enum {K : PySem.W.Frag} {c : Addr} {ds : List D} {G : List Addr} : Walk K (Ite K c) [(.ref c, .lst ds, G)] (enumD ds) where
  stop := fun H h => by
    obtain ⟨l, vs, L, e, hl, rl, zl, el⟩ := (h _ (List.mem_singleton.mpr rfl)).lst_inv
    cases e
    exact ⟨vs, lst_sq hl, by rw [enumD_len, rl.length]; exact Nat.le_refl _⟩
  go := fun i H hi h => by
    obtain ⟨l, vs, L, e, hl, rl, zl, el⟩ := (h _ (List.mem_singleton.mpr rfl)).lst_inv
    cases e
    rw [enumD_len] at hi
    have : i < vs.length := by rw [← rl.length]; exact hi
    exact ⟨vs, vs[i], lst_sq hl, by simp [this]⟩
  yld := fun i d H x H' e h y => by
    obtain ⟨l, vs, L, e1, hl, rl, zl, el⟩ := (h _ (List.mem_singleton.mpr rfl)).lst_inv
    cases e1
    obtain ⟨d', e', rfl⟩ := enumD_get e
    obtain ⟨pp, u, rfl, hp, rfl, y⟩ := y
    obtain ⟨v, G', h1, h2, h3⟩ := rl.nth e'
    have := y vs (lst_sq hl)
    rw [h1] at this
    cases this
    have s := same_upd (o := .tup [.int i, u]) hp
    refine ⟨s, G', Rp.tup_mk upd_same ?_, fun z hz => ⟨_, List.mem_singleton.mpr rfl, ?_⟩⟩
    · simp only [Rps]
      exact ⟨.int i, [u], [], G', rfl, rfl, .int_mk, u, [], G', [], rfl, by simp, h2.same s, rfl, rfl⟩
    · have := h3 z hz
      rcases el with rfl | rfl
      · exact List.mem_cons_of_mem _ this
      · exact this
noncomputable def iEnumD (fa : DE) : DI := fun ρ => (fa ρ).bind fun r => match r.d with
  | .lst xs => some ⟨enumD xs, r.M⟩
  | _ => none
theorem si_enum {es : List Expr} {tk : Nat} {tpos : Pos} (hg : Gl X "enumerate") (hm : X.mg "enumerate" = none) (ha : SE X a fa) (hs : starEach [a] X.env = [(false, eval a X.env)]) : SI X (.Tuple es tk tpos) (.Call (.Name "enumerate" p) [a] [] pos) (iEnumD fa) := fun H0 A0 =>
  (pi_enum hg hm (pa_cons (ha H0 A0) pa_nil hs) hs).mono fun σ H Rr ⟨ρ, hs, F, ir, rel, e, q⟩ => by
    obtain ⟨r, e1, e⟩ := bind1 e
    refine ⟨ρ, hs, F, r, rel, e1, fun v H1 G pp => ?_⟩
    have rp := pp.rp
    cases hr : r.d with
    | lst xs =>
      rw [hr] at e rp
      cases e
      obtain ⟨c, vs, L, rfl, hl, rl, zl, el⟩ := rp.lst_inv
      refine ⟨c, rfl, ⟨vs, lst_sq hl⟩, q _ H1 [(.ref c, .lst xs, G)] pp.same walk_enum (fun t ht => ?_) pp.own (by rw [enumD_len]; exact zl)⟩
      rw [List.mem_singleton.mp ht]
      exact ⟨rp, pp.src⟩
    | _ => rw [hr] at e; cases e
/-- zip(list, list) -/
noncomputable def zipD (xs ys : List D) : List D := (xs.zip ys).map fun q => .tup [q.1, q.2]
theorem zipD_len {xs ys : List D} : (zipD xs ys).length = min xs.length ys.length := by simp [zipD]
theorem zipD_get {xs ys : List D} {i : Nat} {d : D} (h : (zipD xs ys)[i]? = some d) : ∃ e f, xs[i]? = some e ∧ ys[i]? = some f ∧ d = .tup [e, f] := by
  unfold zipD at h
  rw [List.getElem?_map] at h
  cases q : (xs.zip ys)[i]? with
  | none => rw [q] at h; cases h
  | some e =>
    rw [q] at h
    obtain ⟨h1, h2⟩ := List.getElem?_zip_eq_some.mp q
    exact ⟨e.1, e.2, h1, h2, (Option.some.inj h).symm⟩
theorem walk_zip {K : PySem.W.Frag} {c c' : Addr} {xs ys : List D} {G G' : List Addr} : Walk K (Itz K c c') [(.ref c, .lst xs, G), (.ref c', .lst ys, G')] (zipD xs ys) where
  stop := fun H h => by
    obtain ⟨l, vs, L, e, hl, rl, zl, el⟩ := (h _ (List.mem_cons_self)).lst_inv
    obtain ⟨l', vs', L', e', hl', rl', zl', el'⟩ := (h _ (List.mem_cons_of_mem _ List.mem_cons_self)).lst_inv
    cases e
    cases e'
    refine ⟨vs, vs', lst_sq hl, lst_sq hl', ?_⟩
    rw [zipD_len, ← rl.length, ← rl'.length]; omega
  go := fun i H hi h => by
    obtain ⟨l, vs, L, e, hl, rl, zl, el⟩ := (h _ (List.mem_cons_self)).lst_inv
    obtain ⟨l', vs', L', e', hl', rl', zl', el'⟩ := (h _ (List.mem_cons_of_mem _ List.mem_cons_self)).lst_inv
    cases e
    cases e'
    rw [zipD_len] at hi
    have h1 : i < vs.length := by rw [← rl.length]; omega
    have h2 : i < vs'.length := by rw [← rl'.length]; omega
    exact ⟨vs, vs', vs[i], vs'[i], lst_sq hl, lst_sq hl', by simp [h1], by simp [h2]⟩
  yld := fun i d H x H' e h y => by
    obtain ⟨l, vs, L, e1, hl, rl, zl, el⟩ := (h _ (List.mem_cons_self)).lst_inv
    obtain ⟨l', vs', L', e1', hl', rl', zl', el'⟩ := (h _ (List.mem_cons_of_mem _ List.mem_cons_self)).lst_inv
    cases e1
    cases e1'
    obtain ⟨d1, d2, ea, eb, rfl⟩ := zipD_get e
    obtain ⟨pp, u, u', rfl, hp, rfl, y, y'⟩ := y
    obtain ⟨v, G1, h1, h2, h3⟩ := rl.nth ea
    obtain ⟨v', G2, h1', h2', h3'⟩ := rl'.nth eb
    have := y vs (lst_sq hl)
    rw [h1] at this
    cases this
    have := y' vs' (lst_sq hl')
    rw [h1'] at this
    cases this
    have s := same_upd (o := .tup [u, u']) hp
    refine ⟨s, G1 ++ G2, Rp.tup_mk upd_same ?_, fun z hz => ?_⟩
    · simp only [Rps]
      exact ⟨u, [u'], G1, G2, rfl, rfl, h2.same s, u', [], G2, [], rfl, by simp, h2'.same s, rfl, rfl⟩
    · rcases List.mem_append.mp hz with hz | hz
      · refine ⟨_, List.mem_cons_self, ?_⟩
        have := h3 z hz
        rcases el with rfl | rfl
        · exact List.mem_cons_of_mem _ this
        · exact this
      · refine ⟨_, List.mem_cons_of_mem _ List.mem_cons_self, ?_⟩
        have := h3' z hz
        rcases el' with rfl | rfl
        · exact List.mem_cons_of_mem _ this
        · exact this
noncomputable def iZipD (fa fb : DE) : DI := fun ρ => (fa ρ).bind fun r => (fb ρ).bind fun r' => match r.d, r'.d with
  | .lst xs, .lst ys => some ⟨zipD xs ys, r.M ++ r'.M⟩
  | _, _ => none
theorem si_zip {es : List Expr} {tk : Nat} {tpos : Pos} (hg : Gl X "zip") (hm : X.mg "zip" = none) (ha : SE X a fa) (hb : SE X b fb) (hs : starEach [a, b] X.env = [(false, eval a X.env), (false, eval b X.env)]) (hs2 : starEach [b] X.env = [(false, eval b X.env)]) :
    SI X (.Tuple es tk tpos) (.Call (.Name "zip" p) [a, b] [] pos) (iZipD fa fb) := fun H0 A0 =>
  (pi_zip hg hm (pa_cons (ha H0 A0) (pa_cons (hb H0 A0) pa_nil hs2) (by rw [hs, hs2])) hs hs2).mono fun σ H Rr ⟨ρ, hs, F, ir, rel, e, q⟩ => by
    obtain ⟨r, e1, e⟩ := bind1 e
    obtain ⟨r', e2, e⟩ := bind1 e
    refine ⟨ρ, hs, F, r, rel, e1, fun v H1 G pp => ⟨ρ, hs, F, r', rel.ext pp.same, e2, fun v' H2 G' pp' => ?_⟩⟩
    have rp := pp.rp.same pp'.same
    have rp' := pp'.rp
    cases hr : r.d with
    | lst xs =>
      cases hr' : r'.d with
      | lst ys =>
        rw [hr, hr'] at e
        rw [hr] at rp
        rw [hr'] at rp'
        cases e
        obtain ⟨c, vs, L, rfl, hl, rl, zl, el⟩ := rp.lst_inv
        obtain ⟨c', vs', L', rfl, hl', rl', zl', el'⟩ := rp'.lst_inv
        refine ⟨c, c', rfl, ⟨vs, lst_sq hl⟩, ⟨vs', lst_sq hl'⟩, q _ H2 [(.ref c, .lst xs, G), (.ref c', .lst ys, G')] (pp.same.trans pp'.same) walk_zip (fun t ht => ?_) (pp.own.append pp'.own) (by rw [zipD_len]; omega)⟩
        have sa := pp.src.append pp'.src pp.same
        rcases List.mem_cons.mp ht with rfl | ht
        · exact ⟨rp, fun z hz => sa z (List.mem_append_left _ hz)⟩
        · rw [List.mem_singleton.mp ht]
          exact ⟨rp', fun z hz => sa z (List.mem_append_right _ hz)⟩
      | _ => rw [hr, hr'] at e; cases e
    | _ => rw [hr] at e; cases e
end
end HS
namespace HS
open PySem PySem.Spec L2
/-! ### targets -/
inductive Tg where
  | nm (i : Nat)
  | tp (is : List Nat)
noncomputable def Tg.slots : Tg → List Nat
  | .nm i => [i]
  | .tp is => is
noncomputable def setAll : List Nat → List D → En → En
  | i :: is, d :: ds, ρ => setAll is ds (ρ.set i (some (d, d.flat)))
  | _, _, ρ => ρ
noncomputable def bindT : Tg → D → En → Option En
  | .nm i, d, ρ => some (ρ.set i (some (d, d.flat)))
  | .tp is, .tup xs, ρ => if xs.length = is.length then some (setAll is xs ρ) else none
  | .tp _, _, _ => none
noncomputable def tG (K : PySem.W.Frag) (H0 : Hp) (A0 : List Addr) (t : Tg) : TG := fun v σ H Q => ∃ ρ hs F d G ρ', Rel K H0 A0 hs ρ F σ H ∧ Rp K H d v G ∧ Shr H0 A0 ρ F G ∧ bindT t d ρ = some ρ' ∧
  ∀ σ' F', Rel K H0 A0 hs ρ' F' σ' H → (∀ j, j ∉ t.slots → σ'[j]? = σ[j]?) → (∀ j a, a ∈ F' j → a ∈ F j ∨ a ∈ G) → Q σ' H
noncomputable def SG (X : Cx) (tg : Expr) (t : Tg) : Prop := ∀ H0 A0, PG X tg (tG X.K H0 A0 t)
theorem _root_.L2.PG.mono {X : Cx} {tg : Expr} {t t' : TG} (h : PG X tg t) (m : ∀ v σ H Q, t' v σ H Q → t v σ H Q) : PG X tg t' := fun pins s σ H v u Q I r q => h pins s σ H v u Q I r (m v σ H Q q)
noncomputable def gNames : List Nat → TGs
  | [] => gNil
  | i :: is => gCons (gName i) (gNames is)
theorem Shr.set {H0 : Hp} {A0 : List Addr} {ρ : En} {F : Nat → List Addr} {G G1 : List Addr} {i : Nat} {d : D} (h : Shr H0 A0 ρ F G) (hf : d.flat = true → G1 = []) : Shr H0 A0 (ρ.set i (some (d, d.flat))) (fun j => if j = i then G1 else F j) G := fun a ha => by
  refine ⟨(h a ha).1, fun j d' e => ?_⟩
  by_cases hj : j = i
  · subst hj
    show ¬ a ∈ (if j = j then G1 else F j)
    rw [if_pos rfl]
    have hl : j < ρ.length := by
      by_cases hl : j < ρ.length
      · exact hl
      · rw [List.getElem?_eq_none (by simp; omega)] at e; cases e
    rw [List.getElem?_set_self hl] at e
    have e1 := Option.some.inj (Option.some.inj e)
    rw [hf (congrArg Prod.snd e1)]
    simp
  · rw [List.getElem?_set_ne (Ne.symm hj)] at e
    show ¬ a ∈ (if j = i then G1 else F j)
    rw [if_neg hj]
    exact (h a ha).2 j d' e
theorem names_ok {K : PySem.W.Frag} {H0 : Hp} {A0 : List Addr} {hs : List (V × D × List Addr)} : ∀ (is : List Nat) (ds : List D) (vs : List V) (ρ : En) (F : Nat → List Addr) (σ : L2.St) (H : Hp) (G : List Addr) (Q : L2.St → Hp → Prop),
    Rel K H0 A0 hs ρ F σ H → Rps K H ds vs G → Shr H0 A0 ρ F G → ds.length = is.length →
    (∀ σ' F', Rel K H0 A0 hs (setAll is ds ρ) F' σ' H → (∀ j, j ∉ is → σ'[j]? = σ[j]?) → (∀ j a, a ∈ F' j → a ∈ F j ∨ a ∈ G) → Q σ' H) → gNames is vs σ H Q
  | [], ds, vs, ρ, F, σ, H, G, Q, rel, rp, sh, hl, q => by
    have : ds = [] := by simpa using hl
    subst this
    simp only [Rps] at rp
    exact ⟨rp.1, q σ F rel (fun _ _ => rfl) fun _ _ h => .inl h⟩
  | i :: is, [], vs, ρ, F, σ, H, G, Q, rel, rp, sh, hl, q => by simp at hl
  | i :: is, d :: ds, vs, ρ, F, σ, H, G, Q, rel, rp, sh, hl, q => by
    simp only [Rps] at rp
    obtain ⟨v, ws, G1, G2, rfl, rfl, r1, r2⟩ := rp
    refine ⟨v, ws, rfl, ?_⟩
    have sh1 : Shr H0 A0 ρ F G1 := fun a ha => sh a (List.mem_append_left _ ha)
    have sh2 : Shr H0 A0 ρ F G2 := fun a ha => sh a (List.mem_append_right _ ha)
    refine names_ok is ds ws _ _ _ H G2 Q (rel.setS (i := i) r1 sh1) r2 (sh2.set r1.flat0) (by simpa using hl) fun σ' F' rel' k m => q σ' F' rel' (fun j hj => ?_) fun j a ha => ?_
    · have h1 : j ≠ i := fun z => hj (by rw [z]; exact List.mem_cons_self)
      rw [k j fun z => hj (List.mem_cons_of_mem _ z), List.getElem?_set_ne (Ne.symm h1)]
    · rcases m j a ha with z | z
      · by_cases hj : j = i
        · rw [if_pos hj] at z; exact .inr (List.mem_append_left _ z)
        · rw [if_neg hj] at z; exact .inl z
      · exact .inr (List.mem_append_right _ z)
section
variable {X : Cx} {tg : Expr} {pos : Pos}
theorem sg_name {i : Nat} {x : Str} (h : PG X (.Name x pos) (gName i)) : SG X (.Name x pos) (.nm i) := fun H0 A0 => h.mono fun v σ H Q ⟨ρ, hs, F, d, G, ρ', rel, rp, sh, e, q⟩ => by
  cases e
  refine q _ _ (rel.setS (i := i) rp sh) (fun j hj => ?_) fun j a ha => ?_
  · have : j ≠ i := fun z => hj (by simp [Tg.slots, z])
    rw [List.getElem?_set_ne (Ne.symm this)]
  · by_cases hj : j = i
    · rw [if_pos hj] at ha; exact .inr ha
    · rw [if_neg hj] at ha; exact .inl ha
theorem sg_tup {es : List Expr} {k : Nat} {is : List Nat} (hc : X.calm = true) (h : PGs X es (gNames is)) (hn : (assignEach es X.env).length = is.length) (hst : (assignEach es X.env).findIdx? (·.1) = none) : SG X (.Tuple es k pos) (.tp is) := fun H0 A0 =>
  (pg_tup hc h hn hst).mono fun v σ H Q ⟨ρ, hs, F, d, G, ρ', rel, rp, sh, e, q⟩ => by
    cases d with
    | tup xs =>
      simp only [bindT] at e
      split at e
      · rename_i hl
        cases e
        obtain ⟨a, vs, rfl, hq, rs⟩ := rp.tup_inv
        exact ⟨a, vs, rfl, hq, by rw [← rs.length]; exact hl, names_ok is xs vs ρ F σ H G Q rel rs sh hl q⟩
      · cases e
    | _ => simp only [bindT] at e; cases e
end
/-! ### comprehensions -/
noncomputable def capEn (cap : List (Option Nat)) (ρ : En) : En := cap.map fun o => o.bind fun i => match ρ[i]? with
  | some (some (d, _)) => some (d, d.flat)
  | _ => none
noncomputable def capM (cap : List (Option Nat)) (ρ : En) : List Nat := cap.filterMap fun o => o.bind fun i => match ρ[i]? with
  | some (some (d, b)) => if b && !d.flat then some i else none
  | _ => none
noncomputable def stepC (t : Tg) (ft : DT) (fe : DE) (ρc : En) (acc : List D × Bool) (d : D) : Option (List D × Bool) :=
  (bindT t d ρc).bind fun ρ1 => (ft ρ1).bind fun c => if c = true then (fe ρ1).map fun r => (acc.1 ++ [r.d], acc.2 && r.norm.fr) else some acc
noncomputable def dComp (fi : DI) (t : Tg) (cap : List (Option Nat)) (ft : DT) (fe : DE) : DE := fun ρ => (fi ρ).bind fun ir =>
  (ir.items.foldlM (stepC t ft fe (capEn cap ρ)) ([], true)).map fun q => if q.2 = true then ⟨.lst q.1, true, []⟩ else ⟨.lst q.1, false, ir.M ++ capM cap ρ⟩
/-- nothing but flat data is owned -/
noncomputable def AllSh (ρ : En) : Prop := ∀ (j : Nat) d, ρ[j]? = some (some (d, true)) → d.flat = true
theorem AllSh.set {ρ : En} (h : AllSh ρ) (i : Nat) (d : D) : AllSh (ρ.set i (some (d, d.flat))) := fun j d' e => by
  by_cases hj : j = i
  · subst hj
    have hl : j < ρ.length := by
      by_cases hl : j < ρ.length
      · exact hl
      · rw [List.getElem?_eq_none (by simp; omega)] at e; cases e
    rw [List.getElem?_set_self hl] at e
    have e1 := Option.some.inj (Option.some.inj e)
    have h1 : d = d' := congrArg Prod.fst e1
    have h2 : d.flat = true := congrArg Prod.snd e1
    rw [← h1]; exact h2
  · rw [List.getElem?_set_ne (Ne.symm hj)] at e
    exact h j d' e
theorem AllSh.setAll : ∀ (is : List Nat) (ds : List D) {ρ : En}, AllSh ρ → AllSh (setAll is ds ρ)
  | [], _, _, h => h
  | _ :: _, [], _, h => h
  | i :: is, d :: ds, _, h => AllSh.setAll is ds (h.set i d)
theorem AllSh.bind {t : Tg} {d : D} {ρ ρ' : En} (h : AllSh ρ) (e : bindT t d ρ = some ρ') : AllSh ρ' := by
  cases t with
  | nm i => cases e; exact h.set i d
  | tp is =>
    cases d with
    | tup xs =>
      simp only [bindT] at e
      split at e
      · cases e; exact h.setAll is xs
      · cases e
    | _ => simp only [bindT] at e; cases e
theorem capEn_sh (cap : List (Option Nat)) (ρ : En) : AllSh (capEn cap ρ) := fun j d e => by
  unfold capEn at e
  rw [List.getElem?_map] at e
  cases q : cap[j]? with
  | none => rw [q] at e; cases e
  | some o =>
    rw [q] at e
    cases o with
    | none => cases e
    | some i =>
      simp only [Option.map_some, Option.bind_some, Option.some.injEq] at e
      split at e
      · have e1 := Option.some.inj e
        have h1 := congrArg Prod.fst e1
        have h2 := congrArg Prod.snd e1
        dsimp only at h1 h2
        rw [← h1]; exact h2
      · cases e
theorem capEn_get {cap : List (Option Nat)} {ρ : En} {j : Nat} {d : D} {b : Bool} (e : (capEn cap ρ)[j]? = some (some (d, b))) : ∃ i b', cap[j]? = some (some i) ∧ ρ[i]? = some (some (d, b')) := by
  unfold capEn at e
  rw [List.getElem?_map] at e
  cases q : cap[j]? with
  | none => rw [q] at e; cases e
  | some o =>
    rw [q] at e
    cases o with
    | none => cases e
    | some i =>
      simp only [Option.map_some, Option.bind_some, Option.some.injEq] at e
      split at e
      · rename_i d' b' hi
        have e1 := Option.some.inj e
        have h1 : d' = d := congrArg Prod.fst e1
        subst h1
        exact ⟨i, b', rfl, hi⟩
      · cases e
noncomputable def SPTs (X : Cx) (ifs : List Expr) (f : DT) : Prop := ∀ H0 A0, PTs X ifs (tVT X.K H0 A0 f)
noncomputable def tYesD : DT := fun _ => some true
theorem spts_nil {X : Cx} : SPTs X [] tYesD := fun H0 A0 pins s σ H Q I ⟨ρ, hs, F, b, rel, e, q⟩ => by
  cases e
  exact pts_nil pins s σ H Q I (q H (Same.refl _))
theorem spts_one {X : Cx} {c : Expr} {f : DT} (h : ST X c f) : SPTs X [c] f := fun H0 A0 => pts_one (h H0 A0)
structure CapIs (X : Cx) (N' : List Str) (scope : Scope) (cap : List (Option Nat)) (tgs : List Nat) : Prop where
  len : cap.length = N'.length
  get : ∀ (j i : Nat), cap[j]? = some (some i) → ∃ x, N'[j]? = some x ∧ scope.names.lookup x = some .free ∧ X.N[i]? = some x ∧ (X.env.kindOf x = some .cell ∨ X.env.kindOf x = some .free)
  apart : ∀ (j i : Nat), cap[j]? = some (some i) → j ∉ tgs
theorem join_some {α : Type} {o : Option (Option α)} {v : α} (h : o.join = some v) : o = some (some v) := by
  cases o with
  | none => cases h
  | some p => cases p with
    | none => cases h
    | some x => exact h ▸ rfl
theorem comp_mono {X : Cx} {N' : List Str} {scope : Scope} {fi : DI} {t : Tg} {cap : List (Option Nat)} {ft : DT} {fe : DE} {H0 : Hp} {A0 : List Addr} {σ : L2.St} {H : Hp} {Q : VK} (hc : CapIs X N' scope cap t.slots) :
    tV X.K H0 A0 (dComp fi t cap ft fe) σ H Q → tComp (tI X.K H0 A0 fi) (CapOk X N' scope) (tG X.K (fun _ => none) [] t) (tVT X.K (fun _ => none) [] ft) (tV X.K (fun _ => none) [] fe) σ H Q := fun ⟨ρ, hs, F, r, rel, e, q⟩ => by
  obtain ⟨ir, e1, e⟩ := bind1 e
  obtain ⟨⟨xs, f⟩, ef, e⟩ := Option.map_eq_some_iff.mp e
  subst e
  refine ⟨ρ, hs, F, ir, rel, e1, fun J H1 ts s1 wk hts ow hz => ?_⟩
  -- the block's slots
  refine ⟨cap.map fun o => o.bind fun i => σ[i]?.join, ⟨by simp [hc.len], fun j x v hN hv => ?_⟩, fun Dl hD => ?_⟩
  · rw [List.getElem?_map] at hv
    cases qc : cap[j]? with
    | none => rw [qc] at hv; cases hv
    | some o =>
      rw [qc] at hv
      cases o with
      | none => cases hv
      | some i =>
        simp only [Option.map_some, Option.bind_some, Option.some.injEq] at hv
        obtain ⟨y, h1, h2, h3, h4⟩ := hc.get j i qc
        rw [hN] at h1; cases h1
        exact ⟨h2, i, h3, join_some hv, h4⟩
  generalize hσc : (cap.map fun o => o.bind fun i => σ[i]?.join) = σc
  generalize hρc : capEn cap ρ = ρc at ef
  have hF0 : ∃ Fc : Nat → List Addr, Fc = fun j => match cap[j]? with
    | some (some i) => (match ρ[i]? with
      | some (some _) => F i
      | _ => [])
    | _ => [] := ⟨_, rfl⟩
  obtain ⟨Fc, hFc⟩ := hF0
  have rel1 := rel.ext s1
  have relC : ∀ H2, Same H1 H2 → Rel X.K (fun _ => none) [] [] ρc Fc σc H2 := fun H2 s2 => by
    refine ⟨by rw [← hρc, ← hσc]; simp [capEn], fun j d b e => ?_, fun j d e => ?_, fun j d b e a ha => .inl rfl, fun t ht => (by simp at ht), fun b o z => (by cases z)⟩
    · rw [← hρc] at e
      obtain ⟨i, b', h1, h2⟩ := capEn_get e
      obtain ⟨v, h3, h4⟩ := (rel1.ext s2).val i d b' h2
      refine ⟨v, ?_, ?_⟩
      · rw [← hσc, List.getElem?_map, h1]
        simp only [Option.map_some, Option.bind_some, h3, Option.join_some]
      · rw [hFc]; simp only [h1, h2]; exact h4
    · have hf : d.flat = true := capEn_sh cap ρ j d (by rw [hρc]; exact e)
      have : Fc j = [] := by
        rw [← hρc] at e
        obtain ⟨i, b', h1, h2⟩ := capEn_get e
        obtain ⟨v, h3, h4⟩ := rel1.val i d b' h2
        rw [hFc]; simp only [h1, h2]; exact h4.flat0 hf
      rw [this]
      exact ⟨(nl_flat d hf).symm, List.nodup_nil, fun a ha => (by simp at ha), fun _ _ _ _ _ a ha => (by simp at ha), fun t ht => (by simp at ht)⟩
  have shC : ∀ G, Shr (fun _ => none) [] ρc Fc G := fun G a ha => ⟨.inl rfl, fun j d e hj => by
    have h0 := (relC H1 (Same.refl _)).own j d e
    have hf : d.flat = true := capEn_sh cap ρ j d (by rw [hρc]; exact e)
    have : (Fc j).length = 0 := by rw [h0.1, nl_flat d hf]
    rw [List.eq_nil_of_length_eq_zero this] at hj
    simp at hj⟩
  have hSh : AllSh ρc := by rw [← hρc]; exact capEn_sh cap ρ
  have heldOf : ∀ H2, Same H1 H2 → Held X.K H2 ts := fun H2 s2 t ht => (hts t ht).1.same s2
  -- where old lists may come from
  have oldOf : ∀ a, ((∃ t ∈ ts, a ∈ t.2.2) ∨ ∃ j, a ∈ Fc j) → (∃ vs, H1 a = some (.lst vs)) ∧ (H a = none ∨ ∃ (i : Nat) (d : D) (b : Bool), ρ[i]? = some (some (d, b)) ∧ a ∈ F i ∧ (b = true → i ∈ ir.M ++ capM cap ρ)) := fun a ha => by
    rcases ha with ⟨t, ht, ha⟩ | ⟨j, ha⟩
    · refine ⟨(hts t ht).1.mem a ha, ?_⟩
      rcases (hts t ht).2 a ha with z | ⟨i, d, b, e, m, w⟩
      · exact .inl z
      · exact .inr ⟨i, d, b, e, m, fun hb => List.mem_append_left _ (w hb)⟩
    · have ha0 := ha
      rw [hFc] at ha
      dsimp only at ha
      split at ha
      · rename_i i hi
        split at ha
        · rename_i db hdb
          obtain ⟨d, b⟩ := db
          obtain ⟨v, h3, h4⟩ := rel1.val i d b hdb
          refine ⟨h4.mem a ha, .inr ⟨i, d, b, hdb, ha, fun hb => List.mem_append_right _ ?_⟩⟩
          unfold capM
          refine List.mem_filterMap.mpr ⟨some i, List.mem_of_getElem? hi, ?_⟩
          simp only [Option.bind_some, hdb]
          have hnf : d.flat = false := by
            cases hf : d.flat with
            | false => rfl
            | true => rw [h4.flat0 hf] at ha; simp at ha
          rw [hb, hnf]; rfl
        · simp at ha
      · simp at ha
  have fresh5 : ∀ H2, Same H1 H2 → ∀ a, H2 a = none → H1 a = none := fun H2 s2 a h => s2.free h
  refine ⟨fun i m acc H2 => m = ir.items.length - i ∧ i ≤ ir.items.length ∧ Same H1 H2 ∧ H2 Dl = some (.lst acc) ∧ ∃ (ys : List D) (g : Bool) (G : List Addr), (ir.items.drop i).foldlM (stepC t ft fe ρc) (ys, g) = some (xs, f) ∧ Rps X.K H2 ys acc G ∧ ys.length ≤ i ∧
    (∀ a ∈ G, a ≠ Dl ∧ (H1 a = none ∨ (∃ t ∈ ts, a ∈ t.2.2) ∨ ∃ j, a ∈ Fc j)) ∧ (g = true → G.length = nls ys ∧ ∀ a, G.count a ≤ nw H1 a), ⟨ir.items.length, rfl, Nat.zero_le _, same_upd hD, upd_same, [], true, [], by simpa using ef, by simp [Rps], Nat.le_refl _, fun a ha => (by simp at ha), fun _ => ⟨rfl, fun a => by simp⟩⟩, ?_⟩
  rintro i m acc H2 ⟨rfl, hi, s2, eD, ys, g, G, hfold, rps, hlen, hG, hcnt⟩
  by_cases hlt : i < ir.items.length
  · refine .inr ⟨wk.go i H2 hlt (heldOf H2 s2), fun x H3 hy => ?_⟩
    obtain ⟨s3, G0, rp0, hG0⟩ := wk.yld i ir.items[i] H2 x H3 (by simp [hlt]) (heldOf H2 s2) hy
    rw [List.drop_eq_getElem_cons hlt, List.foldlM_cons] at hfold
    obtain ⟨acc1, hstep, hrest⟩ := bind1 hfold
    unfold stepC at hstep
    obtain ⟨ρ1, eb, hstep⟩ := bind1 hstep
    obtain ⟨c, ec, hstep⟩ := bind1 hstep
    have sh1 : AllSh ρ1 := hSh.bind eb
    refine ⟨ρc, [], Fc, ir.items[i], G0, ρ1, relC H3 (s2.trans s3), rp0, shC G0, eb, fun σ2 F2 rel2 keep mem2 => ⟨fun j v hv => ?_, ρ1, [], F2, c, rel2, ec, fun H5 s5 => ?_⟩⟩
    · have hj : j ∉ t.slots := fun hj => by
        rw [← hσc, List.getElem?_map] at hv
        cases qc : cap[j]? with
        | none => rw [qc] at hv; cases hv
        | some o =>
          cases o with
          | none => rw [qc] at hv; cases hv
          | some k => exact hc.apart j k qc hj
      rw [keep j hj]; exact hv
    have s15 : Same H1 H5 := (s2.trans s3).trans s5
    have eD5 : H5 Dl = some (.lst acc) := s5 _ _ (s3 _ _ eD)
    cases c with
    | false =>
      rw [if_neg Bool.false_ne_true] at hstep
      refine iteF ?_
      cases hstep
      exact ⟨_, by omega, rfl, hlt, s15, eD5, ys, g, G, hrest, rps.same (s3.trans s5), by omega, hG, hcnt⟩
    | true =>
      rw [if_pos rfl] at hstep
      refine iteT ?_
      obtain ⟨rr, er, hstep⟩ := Option.map_eq_some_iff.mp hstep
      subst hstep
      refine ⟨ρ1, [], F2, rr, rel2.ext s5, er, fun y H6 Ge pe => ?_⟩
      have eD6 : H6 Dl = some (.lst acc) := pe.same _ _ eD5
      have s16 := s15.trans pe.same
      refine ⟨eD6, ?_, _, by omega, rfl, hlt, ?_⟩
      · rw [← rps.length]; exact Nat.lt_of_le_of_lt hlen (Nat.lt_of_lt_of_le hlt hz)
      have hGe : ∀ a ∈ Ge, a ≠ Dl ∧ (H1 a = none ∨ (∃ t ∈ ts, a ∈ t.2.2) ∨ ∃ j, a ∈ Fc j) := fun a ha => by
        rcases pe.src a ha with z | ⟨j, d, b, ej, hj, _⟩
        · exact ⟨fun w => (by rw [w, eD5] at z; cases z), .inl (s15.free z)⟩
        · have h1 : (∃ t ∈ ts, a ∈ t.2.2) ∨ ∃ j, a ∈ Fc j := by
            rcases mem2 j a hj with w | w
            · exact .inr ⟨j, w⟩
            · exact .inl (hG0 a w)
          obtain ⟨⟨vs, w⟩, _⟩ := oldOf a h1
          exact ⟨fun w' => (by rw [w', hD] at w; cases w), .inr h1⟩
      have nD : Dl ∉ G := fun h => (hG _ h).1 rfl
      have nDe : Dl ∉ Ge := fun h => (hGe _ h).1 rfl
      have sU : Same H1 (L2.upd H6 Dl (.lst (acc ++ [y]))) := fun b o hb => by rw [upd_ne (ne_of_none hb hD)]; exact s16 b o hb
      refine ⟨sU, upd_same, ys ++ [rr.d], g && rr.norm.fr, G ++ Ge, hrest, ?_, by rw [List.length_append, List.length_singleton]; omega, fun a ha => ?_, fun hg => ?_⟩
      · refine Rps.append ((rps.same ((s3.trans s5).trans pe.same)).upd eD6 nD) ?_
        simp only [Rps]
        exact ⟨y, [], Ge, [], rfl, by simp, pe.rp.upd eD6 nDe, rfl, rfl⟩
      · rcases List.mem_append.mp ha with h | h
        · exact hG a h
        · exact hGe a h
      · simp only [Bool.and_eq_true] at hg
        obtain ⟨l1, c1⟩ := hcnt hg.1
        have pn := pe.norm
        obtain ⟨c2, l2⟩ := pn.cnt hg.2
        rw [rr.norm_d] at l2
        have nlapp : ∀ (as bs : List D), nls (as ++ bs) = nls as + nls bs := fun as bs => by
          induction as with
          | nil => simp [nls]
          | cons a as ih => simp only [List.cons_append, nls, ih]; omega
        refine ⟨by rw [List.length_append, l1, l2, nlapp]; simp [nls], fun a => ?_⟩
        have fl : ((rr.norm.M.map F2).flatten).count a = 0 := by
          rw [List.count_eq_zero]
          intro hm
          obtain ⟨l, hl, hal⟩ := List.mem_flatten.mp hm
          obtain ⟨j, hj, rfl⟩ := List.mem_map.mp hl
          obtain ⟨d, ej⟩ := pn.own j hj
          have hf := sh1 j d ej
          obtain ⟨v, _, rv⟩ := rel2.val j d true ej
          rw [rv.flat0 hf] at hal
          simp at hal
        have h1 := c1 a
        have h2 := c2 a
        rw [fl] at h2
        rw [List.count_append]
        cases q5 : H5 a with
        | some o => rw [nw_some q5] at h2; omega
        | none =>
          rw [nw_none q5] at h2
          have h0 : G.count a = 0 := List.count_eq_zero.mpr fun hm => by
            obtain ⟨vs, w⟩ := rps.mem a hm
            rw [s5 _ _ (s3 _ _ w)] at q5; cases q5
          rw [nw_none (s15.free q5)]
          omega
  · have hn : i = ir.items.length := by omega
    subst hn
    refine .inl ⟨wk.stop H2 (heldOf H2 s2), ?_⟩
    rw [List.drop_length] at hfold
    have : (ys, g) = (xs, f) := Option.some.inj hfold
    cases this
    have rp : Rp X.K H2 (.lst xs) (.ref Dl) (Dl :: G) := Rp.lst_mk eD rps (Nat.le_trans hlen hz)
    have hHD : H Dl = none := s1.free hD
    split at q
    · rename_i hg
      have hg : f = true := hg
      obtain ⟨l1, c1⟩ := hcnt hg
      have hn : ∀ a ∈ G, H1 a = none := fun a ha => by
        have := c1 a
        have h2 : 0 < G.count a := List.count_pos_iff.mpr ha
        cases w : H1 a with
        | none => rfl
        | some o => rw [nw_some w] at this; omega
      refine q _ H2 (Dl :: G) ⟨s1.trans s2, rp, fun a ha => ?_, fun _ => ⟨fun a => ?_, by simp only [D.nl, List.length_cons, l1]⟩, Owns.nil⟩
      · rcases List.mem_cons.mp ha with rfl | h
        · exact .inl hHD
        · exact .inl (s1.free (hn a h))
      · rw [List.count_cons]
        have h1 := c1 a
        split
        · rename_i w
          have w : Dl = a := by simpa using w
          subst w
          have h0 : G.count Dl = 0 := List.count_eq_zero.mpr fun h => (hG _ h).1 rfl
          rw [nw_none hHD]; omega
        · cases w : H1 a with
          | none => rw [nw_none w] at h1; rw [nw_none (s1.free w)]; omega
          | some o => rw [nw_some w] at h1; omega
    · refine q _ H2 (Dl :: G) ⟨s1.trans s2, rp, fun a ha => ?_, fun z => (by cases z), ?_⟩
      · rcases List.mem_cons.mp ha with rfl | h
        · exact .inl hHD
        · rcases (hG a h).2 with z | z
          · exact .inl (s1.free z)
          · exact (oldOf a z).2
      · refine ow.append fun i hi => ?_
        unfold capM at hi
        obtain ⟨o, _, ho⟩ := List.mem_filterMap.mp hi
        cases o with
        | none => cases ho
        | some k =>
          simp only [Option.bind_some] at ho
          split at ho
          · rename_i d b hk
            split at ho
            · rename_i hb
              cases ho
              simp only [Bool.and_eq_true] at hb
              rw [hb.1] at hk
              exact ⟨d, hk⟩
            · cases ho
          · cases ho
section
variable {X : Cx} {tg iter elt : Expr} {ifs : List Expr} {scope : Scope} {N' : List Str} {pos : Pos} {fi : DI} {t : Tg} {cap : List (Option Nat)} {ft : DT} {fe : DE}
theorem se_comp (hcalm : X.calm = true) (S : CScope X N' scope) (hi : SI X tg iter fi) (hcap : CapIs X N' scope cap t.slots)
    (hin : ∀ cl C fp s3 H3, SG (cxc X N' scope cl C fp s3 H3) tg t ∧ SPTs (cxc X N' scope cl C fp s3 H3) ifs ft ∧ SE (cxc X N' scope cl C fp s3 H3) elt fe) (hs : ∀ x, foldedSetIterable iter X.env x = pure x) :
    SE X (.ListComp elt [⟨tg, iter, ifs, 0⟩] scope pos) (dComp fi t cap ft fe) := fun H0 A0 =>
  (pe_comp hcalm S (hi H0 A0) (fun cl C fp s3 H3 => ⟨(hin cl C fp s3 H3).1 _ _, (hin cl C fp s3 H3).2.1 _ _, (hin cl C fp s3 H3).2.2 _ _⟩) hs).mono fun σ H Q h => comp_mono hcap h
end
end HS
namespace HS
open PySem PySem.Spec L2
inductive Out where
  | nx (ρ : En)
  | bk (ρ : En)
  | ct (ρ : En)
  | rt (d : D) (fr : Bool)
noncomputable abbrev DS := En → Option Out
/-- what is wanted behind a statement, by its outcome -/
noncomputable def Fits (K : PySem.W.Frag) (H0 : Hp) (A0 : List Addr) (hs : List (V × D × List Addr)) (E : Ends) : Out → Prop
  | .nx ρ => ∀ σ H F, Rel K H0 A0 hs ρ F σ H → E.nx σ H
  | .bk ρ => ∀ σ H F, Rel K H0 A0 hs ρ F σ H → E.bk σ H
  | .ct ρ => ∀ σ H F, Rel K H0 A0 hs ρ F σ H → E.ct σ H
  | .rt d fr => ∀ v H G, Ret K H0 A0 d fr v H G → E.rt v H
noncomputable def tS (K : PySem.W.Frag) (H0 : Hp) (A0 : List Addr) (f : DS) : TS := fun E σ H => ∃ ρ hs F o, Rel K H0 A0 hs ρ F σ H ∧ f ρ = some o ∧ Fits K H0 A0 hs E o
noncomputable def S1 (X : Cx) (st : Stmt) (f : DS) : Prop := ∀ H0 A0, PS X st (tS X.K H0 A0 f)
noncomputable def SS (X : Cx) (sts : List Stmt) (f : DS) : Prop := ∀ H0 A0, PSs X sts (tS X.K H0 A0 f)
theorem _root_.L2.PS.mono {X : Cx} {st : Stmt} {t t' : TS} (h : PS X st t) (m : ∀ D σ H, t' D σ H → t D σ H) : PS X st t' := fun pins s σ H D I q => h pins s σ H D I (m D σ H q)
theorem _root_.L2.PSs.mono {X : Cx} {st : List Stmt} {t t' : TS} (h : PSs X st t) (m : ∀ D σ H, t' D σ H → t D σ H) : PSs X st t' := fun pins s σ H D I q => h pins s σ H D I (m D σ H q)
noncomputable def sNil : DS := fun ρ => some (.nx ρ)
noncomputable def sSeq (f g : DS) : DS := fun ρ => (f ρ).bind fun o => match o with
  | .nx ρ' => g ρ'
  | .bk ρ' => some (.bk ρ')
  | .ct ρ' => some (.ct ρ')
  | .rt d fr => some (.rt d fr)
noncomputable def sBrk : DS := fun ρ => some (.bk ρ)
noncomputable def sCnt : DS := fun ρ => some (.ct ρ)
noncomputable def sAsg (i : Nat) (fa : DE) : DS := fun ρ => (fa ρ).bind fun r => some (.nx (asg i r ρ))
noncomputable def dShare (fa : DE) : DE := fun ρ => (fa ρ).map fun r => ⟨r.d, false, r.M⟩
noncomputable def sRet (fa : DE) : DS := fun ρ => (fa ρ).bind fun r => some (.rt r.d (r.norm.fr && decide r.norm.M.Nodup))
noncomputable def sRetN : DS := fun _ => some (.rt .non true)
noncomputable def sDrop (fa : DE) : DS := fun ρ => (fa ρ).bind fun _ => some (.nx ρ)
noncomputable def sIf (g : DT) (f1 f2 : DS) : DS := fun ρ => (g ρ).bind fun b => if b = true then f1 ρ else f2 ρ
noncomputable def loopF (t : Tg) (fb : DS) : List D → DS
  | [], ρ => some (.nx ρ)
  | d :: ds, ρ => (bindT t d ρ).bind fun ρ1 => (fb ρ1).bind fun o => match o with
    | .nx ρ2 => loopF t fb ds ρ2
    | .ct ρ2 => loopF t fb ds ρ2
    | .bk ρ2 => some (.nx ρ2)
    | .rt d fr => some (.rt d fr)
noncomputable def sFor (fi : DI) (t : Tg) (fb : DS) : DS := fun ρ => (fi ρ).bind fun ir => loopF t fb ir.items (demote ir.M ρ)
section
variable {X : Cx} {st : Stmt} {sts : List Stmt} {e : Expr} {fa : DE} {f g : DS} {gc : DT} {pos : Pos}
theorem ss_nil : SS X [] sNil := fun H0 A0 => pss_nil.mono fun E σ H ⟨ρ, hs, F, o, rel, e, q⟩ => by
  cases e
  exact q σ H F rel
theorem ss_cons (h1 : S1 X st f) (h2 : SS X sts g) : SS X (st :: sts) (sSeq f g) := fun H0 A0 => (pss_cons (h1 H0 A0) (h2 H0 A0)).mono fun E σ H ⟨ρ, hs, F, o, rel, e, q⟩ => by
  obtain ⟨o1, e1, e⟩ := bind1 e
  refine ⟨ρ, hs, F, o1, rel, e1, ?_⟩
  cases o1 with
  | nx ρ' => exact fun σ' H' F' rel' => ⟨ρ', hs, F', o, rel', e, q⟩
  | bk ρ' => cases e; exact q
  | ct ρ' => cases e; exact q
  | rt d fr => cases e; exact q
theorem s1_pass : S1 X (.Pass pos) sNil := fun H0 A0 => ps_pass.mono fun E σ H ⟨ρ, hs, F, o, rel, e, q⟩ => by
  cases e
  exact q σ H F rel
theorem s1_break : S1 X (.Break pos) sBrk := fun H0 A0 => ps_break.mono fun E σ H ⟨ρ, hs, F, o, rel, e, q⟩ => by
  cases e
  exact q σ H F rel
theorem s1_cont : S1 X (.Continue pos) sCnt := fun H0 A0 => ps_continue.mono fun E σ H ⟨ρ, hs, F, o, rel, e, q⟩ => by
  cases e
  exact q σ H F rel
theorem se_share (h : SE X e fa) : SE X e (dShare fa) := fun H0 A0 => (h H0 A0).mono fun σ H Q ⟨ρ, hs, F, r, rel, e, q⟩ => by
  obtain ⟨r', e1, rfl⟩ := Option.map_eq_some_iff.mp e
  exact ⟨ρ, hs, F, r', rel, e1, fun v H' G p => q v H' G ⟨p.same, p.rp, p.src, fun z => (by cases z), p.own⟩⟩
theorem s1_asg {i : Nat} (h : ∀ H0 A0, PS X st (tAsg (tV X.K H0 A0 fa) (gName i))) : S1 X st (sAsg i fa) := fun H0 A0 => (h H0 A0).mono fun E σ H ⟨ρ, hs, F, o, rel, e, q⟩ => by
  obtain ⟨r, e1, e⟩ := bind1 e
  cases e
  refine ⟨ρ, hs, F, r, rel, e1, fun v H' G p => ?_⟩
  obtain ⟨F', rel'⟩ := rel.asg (i := i) p
  exact q _ _ F' rel'
theorem s1_drop (h : PS X st (tDrop (tV X.K H0 A0 fa))) : PS X st (tS X.K H0 A0 (sDrop fa)) := h.mono fun E σ H ⟨ρ, hs, F, o, rel, e, q⟩ => by
  obtain ⟨r, e1, e⟩ := bind1 e
  cases e
  exact ⟨ρ, hs, F, r, rel, e1, fun v H' G p => q σ H' F (rel.ext p.same)⟩
theorem Rel.ret {K : PySem.W.Frag} {H0 H H' : Hp} {A0 : List Addr} {hs : List (V × D × List Addr)} {ρ : En} {F : Nat → List Addr} {σ : L2.St} (rel : Rel K H0 A0 hs ρ F σ H) {r : R} {v : V} {G : List Addr} (p : Post K ρ F H H' r v G) : Ret K H0 A0 r.d (r.norm.fr && decide r.norm.M.Nodup) v H' G where
  same := rel.same.trans p.same
  rp := p.rp
  src := fun a ha => by
    rcases p.src a ha with z | ⟨i, d, b, e, m, _⟩
    · exact .inl (rel.same.free z)
    · exact rel.src i d b e a m
  cnt := fun h => by
    simp only [Bool.and_eq_true, decide_eq_true_eq] at h
    have p' := p.norm
    obtain ⟨h1, h2⟩ := p'.fresh rel h.1 h.2
    have h3 := (p'.cnt h.1).2
    rw [r.norm_d] at h3
    exact ⟨h1, h3, fun a ha => (h2 a ha).1⟩
theorem s1_ret (he : SE X e fa) : S1 X (.Return (some e) pos) (sRet fa) := fun H0 A0 => (ps_ret (he H0 A0)).mono fun E σ H ⟨ρ, hs, F, o, rel, e, q⟩ => by
  obtain ⟨r, e1, e⟩ := bind1 e
  cases e
  exact ⟨ρ, hs, F, r, rel, e1, fun v H' G p => q v H' G (rel.ret p)⟩
theorem s1_retN : S1 X (.Return none pos) sRetN := fun H0 A0 => ps_retN.mono fun E σ H ⟨ρ, hs, F, o, rel, e, q⟩ => by
  cases e
  exact q .non H [] ⟨rel.same, .non_mk, fun a ha => (by simp at ha), fun _ => ⟨List.nodup_nil, rfl, fun a ha => (by simp at ha)⟩⟩
theorem s1_if {c : Expr} {a b : List Stmt} (hc : ST X c gc) (ha : SS X a f) (hb : SS X b g) : S1 X (.If c a b pos) (sIf gc f g) := fun H0 A0 => (ps_if (hc H0 A0) (ha H0 A0) (hb H0 A0)).mono fun E σ H ⟨ρ, hs, F, o, rel, e, q⟩ => by
  obtain ⟨c, e1, e⟩ := bind1 e
  refine ⟨ρ, hs, F, c, rel, e1, fun H1 s1 => ?_⟩
  cases c with
  | true => exact iteT ⟨ρ, hs, F, o, rel.ext s1, e, q⟩
  | false => exact iteF ⟨ρ, hs, F, o, rel.ext s1, e, q⟩
theorem s1_for {tg iter : Expr} {body : List Stmt} {fi : DI} {t : Tg} (hp : PassesOwn (model X.prog X.w) X.A X.env X.xe) (hc : X.calm = true) (hi : SI X tg iter fi) (hg : SG X tg t) (hb : SS X body f) (hs : ∀ x, foldedSetIterable iter X.env x = pure x) :
    S1 X (.For tg iter body [] pos) (sFor fi t f) := fun H0 A0 => (ps_for hp hc (hi H0 A0) (hg H0 A0) (hb H0 A0) hs).mono fun E σ H ⟨ρ, hs, F, o, rel, e, q⟩ => by
  obtain ⟨ir, e1, e⟩ := bind1 e
  refine ⟨ρ, hs, F, ir, rel, e1, fun J H1 ts s1 wk hts ow hz => ?_⟩
  have rel1 : Rel X.K H0 A0 (ts ++ hs) (demote ir.M ρ) F σ H1 := ((rel.ext s1).weak (demote_weak ir.M ρ)).hold fun t ht => ⟨(hts t ht).1, Shr.of rel (hts t ht).2⟩
  refine ⟨fun i m σ' H' => m = ir.items.length - i ∧ i ≤ ir.items.length ∧ ∃ ρi Fi, Rel X.K H0 A0 (ts ++ hs) ρi Fi σ' H' ∧ loopF t f (ir.items.drop i) ρi = some o, ⟨_, rfl, Nat.zero_le _, _, F, rel1, by simpa using e⟩, ?_⟩
  rintro i m σ' H' ⟨rfl, hi', ρi, Fi, reli, ei⟩
  have held : Held X.K H' ts := fun t ht => (reli.held t (List.mem_append_left _ ht)).1
  by_cases hlt : i < ir.items.length
  · rw [List.drop_eq_getElem_cons hlt] at ei
    unfold loopF at ei
    obtain ⟨ρ1, eb, ei⟩ := bind1 ei
    obtain ⟨o1, eo, ei⟩ := bind1 ei
    refine .inr ⟨wk.go i H' hlt held, fun σ2 H2 => ∃ ρ2 F2, Rel X.K H0 A0 (ts ++ hs) ρ2 F2 σ2 H2 ∧ loopF t f (ir.items.drop (i + 1)) ρ2 = some o, fun σ2 H2 ⟨ρ2, F2, rel2, e2⟩ => ⟨_, by omega, rfl, hlt, ρ2, F2, rel2, e2⟩, fun x H2 hy => ?_⟩
    obtain ⟨s2, G0, rp0, hG0⟩ := wk.yld i ir.items[i] H' x H2 (by simp [hlt]) held hy
    have shr : Shr H0 A0 ρi Fi G0 := fun a ha => by
      obtain ⟨t, ht, hat⟩ := hG0 a ha
      exact ⟨(reli.held t (List.mem_append_left _ ht)).2 a hat, fun j d ej hj => (reli.own j d ej).2.2.2.2 t (List.mem_append_left _ ht) a hj hat⟩
    refine ⟨ρi, ts ++ hs, Fi, ir.items[i], G0, ρ1, reli.ext s2, rp0, shr, eb, fun σ3 F3 rel3 _ _ => ⟨ρ1, ts ++ hs, F3, o1, rel3, eo, ?_⟩⟩
    cases o1 with
    | nx ρ2 => exact fun σ4 H4 F4 rel4 => ⟨ρ2, F4, rel4, ei⟩
    | ct ρ2 => exact fun σ4 H4 F4 rel4 => ⟨ρ2, F4, rel4, ei⟩
    | bk ρ2 => cases ei; exact fun σ4 H4 F4 rel4 => q σ4 H4 F4 rel4.unhold
    | rt d fr => cases ei; exact q
  · have hn : i = ir.items.length := by omega
    subst hn
    rw [List.drop_length] at ei
    cases ei
    exact .inl ⟨wk.stop H' held, q σ' H' Fi reli.unhold⟩
end
end HS
namespace HS
open PySem PySem.Spec L2
section
variable {K : PySem.W.Frag} {H H' : Hp}
theorem Rps.split : ∀ {ds : List D} {vs : List V} {F : List Addr} {j : Nat} {d : D}, Rps K H ds vs F → ds[j]? = some d →
    ∃ F1 G F2 v, F = F1 ++ (G ++ F2) ∧ vs[j]? = some v ∧ Rps K H (ds.take j) (vs.take j) F1 ∧ Rp K H d v G ∧ Rps K H (ds.drop (j + 1)) (vs.drop (j + 1)) F2
  | [], _, _, _, _, _, e => by simp at e
  | d :: ds, _, _, 0, _, h, e => by
    simp only [Rps] at h
    obtain ⟨v, ws, F1, F2, rfl, rfl, r, q⟩ := h
    simp at e; subst e
    exact ⟨[], F1, F2, v, rfl, by simp, by simp [Rps], r, by simpa using q⟩
  | d :: ds, _, _, j + 1, _, h, e => by
    simp only [Rps] at h
    obtain ⟨v, ws, F1, F2, rfl, rfl, r, q⟩ := h
    obtain ⟨G1, G, G2, v', h1, h2, h3, h4, h5⟩ := Rps.split q (j := j) (by simpa using e)
    refine ⟨F1 ++ G1, G, G2, v', by rw [h1, List.append_assoc], by simpa using h2, ?_, h4, by simpa using h5⟩
    simp only [List.take_succ_cons, Rps]
    exact ⟨v, _, F1, G1, rfl, rfl, r, h3⟩
theorem Rps.join {ds : List D} {vs : List V} {F1 G F2 : List Addr} {j : Nat} {d : D} {v : V} (h1 : Rps K H (ds.take j) (vs.take j) F1) (hd : Rp K H d v G) (h2 : Rps K H (ds.drop (j + 1)) (vs.drop (j + 1)) F2) (hj : j < ds.length) (hv : vs[j]? = some v) :
    Rps K H (ds.set j d) vs (F1 ++ (G ++ F2)) := by
  have e1 : ds.set j d = ds.take j ++ d :: ds.drop (j + 1) := List.set_eq_take_append_cons_drop .. |>.trans (by rw [if_pos hj])
  have hjv : j < vs.length := (List.getElem?_eq_some_iff.mp hv).1
  have hve : vs[j] = v := (List.getElem?_eq_some_iff.mp hv).2
  have e2 : vs = vs.take j ++ v :: vs.drop (j + 1) := by
    rw [← hve, ← List.drop_eq_getElem_cons hjv, List.take_append_drop]
  rw [e1, e2]
  refine h1.append ?_
  simp only [Rps]
  refine ⟨v, _, G, F2, rfl, rfl, hd, h2⟩
theorem Rps.joinV {ds : List D} {vs : List V} {F1 G F2 : List Addr} {j : Nat} {d : D} {v : V} (h1 : Rps K H (ds.take j) (vs.take j) F1) (hd : Rp K H d v G) (h2 : Rps K H (ds.drop (j + 1)) (vs.drop (j + 1)) F2) (hj : j < ds.length) (hv : j < vs.length) :
    Rps K H (ds.set j d) (vs.set j v) (F1 ++ (G ++ F2)) := by
  have e1 : ds.set j d = ds.take j ++ d :: ds.drop (j + 1) := List.set_eq_take_append_cons_drop .. |>.trans (by rw [if_pos hj])
  have e2 : vs.set j v = vs.take j ++ v :: vs.drop (j + 1) := List.set_eq_take_append_cons_drop .. |>.trans (by rw [if_pos hv])
  rw [e1, e2]
  refine h1.append ?_
  simp only [Rps]
  exact ⟨v, _, G, F2, rfl, rfl, hd, h2⟩
/-- the data at a path, with the way there -/
noncomputable def Focus (K : PySem.W.Frag) (H : Hp) : List Int → D → V → List Addr → D → V → List Addr → Prop
  | [], d, v, F, dm, w, Gm => dm = d ∧ w = v ∧ Gm = F ∧ Rp K H d v F
  | i :: is, d, v, F, dm, w, Gm => ∃ (ds : List D) (a : Addr) (vs : List V) (j : Nat) (F1 G F2 : List Addr) (d' : D) (v' : V), v = .ref a ∧ ixN ds.length i = some j ∧
      ((d = .lst ds ∧ ds.length ≤ sizeLine ∧ ((F = a :: (F1 ++ (G ++ F2)) ∧ H a = some (.lst vs)) ∨ (F = F1 ++ (G ++ F2) ∧ Fix K H a vs))) ∨ (d = .tup ds ∧ F = F1 ++ (G ++ F2) ∧ SqT K H a vs)) ∧
      Rps K H (ds.take j) (vs.take j) F1 ∧ Rps K H (ds.drop (j + 1)) (vs.drop (j + 1)) F2 ∧ ds[j]? = some d' ∧ vs[j]? = some v' ∧ ds.length = vs.length ∧ Focus K H is d' v' G dm w Gm
theorem Focus.same (s : Same H H') : ∀ {is : List Int} {d : D} {v : V} {F : List Addr} {dm : D} {w : V} {Gm : List Addr}, Focus K H is d v F dm w Gm → Focus K H' is d v F dm w Gm
  | [], _, _, _, _, _, _, h => ⟨h.1, h.2.1, h.2.2.1, h.2.2.2.same s⟩
  | i :: is, _, _, _, _, _, _, h => by
    obtain ⟨ds, a, vs, j, F1, G, F2, d', v', h1, h2, h3, h4, h5, h6, h7, h8, h9⟩ := h
    refine ⟨ds, a, vs, j, F1, G, F2, d', v', h1, h2, ?_, h4.same s, h5.same s, h6, h7, h8, h9.same s⟩
    rcases h3 with ⟨e, z, q⟩ | ⟨e, eF, q⟩
    · refine .inl ⟨e, z, ?_⟩
      rcases q with ⟨eF, q⟩ | ⟨eF, q⟩
      · exact .inl ⟨eF, s _ _ q⟩
      · exact .inr ⟨eF, fix_same s q⟩
    · exact .inr ⟨e, eF, sqT_same s q⟩
theorem Focus.rp : ∀ {is : List Int} {d : D} {v : V} {F : List Addr} {dm : D} {w : V} {Gm : List Addr}, Focus K H is d v F dm w Gm → Rp K H dm w Gm
  | [], _, _, _, _, _, _, h => by
    obtain ⟨rfl, rfl, rfl, r⟩ := h
    exact r
  | i :: is, _, _, _, _, _, _, h => by
    obtain ⟨ds, a, vs, j, F1, G, F2, d', v', h1, h2, h3, h4, h5, h6, h7, h8, h9⟩ := h
    exact h9.rp
theorem Focus.rpHead : ∀ {is : List Int} {d : D} {v : V} {F : List Addr} {dm : D} {w : V} {Gm : List Addr}, Focus K H is d v F dm w Gm → Rp K H d v F
  | [], _, _, _, _, _, _, h => h.2.2.2
  | i :: is, _, _, _, _, _, _, h => by
    obtain ⟨ds, a, vs, j, F1, G, F2, d', v', rfl, h2, h3, h4, h5, h6, h7, h8, h9⟩ := h
    have hjl : j < ds.length := (List.getElem?_eq_some_iff.mp h6).1
    have hdj : ds[j] = d' := (List.getElem?_eq_some_iff.mp h6).2
    have j1 := Rps.join h4 h9.rpHead h5 hjl h7
    rw [show ds.set j d' = ds by rw [← hdj]; exact List.set_getElem_self hjl] at j1
    rcases h3 with ⟨rfl, hz, ⟨rfl, q⟩ | ⟨rfl, q⟩⟩ | ⟨rfl, rfl, q⟩
    · exact Rp.lst_mk q j1 hz
    · simp only [Rp]
      exact ⟨hz, a, vs, rfl, .inr ⟨q, j1⟩⟩
    · simp only [Rp]
      exact ⟨a, vs, rfl, q, j1⟩
/-- one step deeper -/
theorem Focus.one {d : D} {v : V} {F : List Addr} {ds : List D} {i : Int} {d' : D} (r : Rp K H d v F) (hd : d.items = some ds) (hi : atI ds i = some d') :
    ∃ a vs v' G, v = .ref a ∧ ((d = .lst ds ∧ SqL K H a vs) ∨ (d = .tup ds ∧ SqT K H a vs)) ∧ atI vs i = some v' ∧ Focus K H [i] d v F d' v' G := by
  unfold atI at hi
  cases hj : ixN ds.length i with
  | none => rw [hj] at hi; cases hi
  | some j =>
    rw [hj] at hi
    have hdj : ds[j]? = some d' := hi
    have fin : ∀ (vs : List V) (L : List Addr), Rps K H ds vs L → ∃ v' G F1 F2, L = F1 ++ (G ++ F2) ∧ vs[j]? = some v' ∧ atI vs i = some v' ∧ Rps K H (ds.take j) (vs.take j) F1 ∧ Rp K H d' v' G ∧ Rps K H (ds.drop (j + 1)) (vs.drop (j + 1)) F2 ∧ ds.length = vs.length := fun vs L rl => by
      obtain ⟨F1, G, F2, v', h1, h2, h3, h4, h5⟩ := rl.split hdj
      refine ⟨v', G, F1, F2, h1, h2, ?_, h3, h4, h5, rl.length⟩
      unfold atI
      rw [← rl.length, hj]
      exact h2
    cases d with
    | lst xs =>
      cases hd
      simp only [Rp] at r
      obtain ⟨hz, a, vs, rfl, ⟨L, rfl, q, rl⟩ | ⟨q, rl⟩⟩ := r
      · obtain ⟨v', G, F1, F2, h1, h2, h3, h4, h5, h6, h7⟩ := fin vs L rl
        exact ⟨a, vs, v', G, rfl, .inl ⟨rfl, SqL.of q⟩, h3, ds, a, vs, j, F1, G, F2, d', v', rfl, hj, .inl ⟨rfl, hz, .inl ⟨by rw [h1], q⟩⟩, h4, h6, hdj, h2, h7, rfl, rfl, rfl, h5⟩
      · obtain ⟨v', G, F1, F2, h1, h2, h3, h4, h5, h6, h7⟩ := fin vs _ rl
        exact ⟨a, vs, v', G, rfl, .inl ⟨rfl, q.sq⟩, h3, ds, a, vs, j, F1, G, F2, d', v', rfl, hj, .inl ⟨rfl, hz, .inr ⟨h1, q⟩⟩, h4, h6, hdj, h2, h7, rfl, rfl, rfl, h5⟩
    | tup xs =>
      cases hd
      obtain ⟨a, vs, rfl, q, rl⟩ := r.tup_inv
      obtain ⟨v', G, F1, F2, h1, h2, h3, h4, h5, h6, h7⟩ := fin vs _ rl
      exact ⟨a, vs, v', G, rfl, .inr ⟨rfl, q⟩, h3, ds, a, vs, j, F1, G, F2, d', v', rfl, hj, .inr ⟨rfl, h1, q⟩, h4, h6, hdj, h2, h7, rfl, rfl, rfl, h5⟩
    | _ => cases hd
theorem Focus.snoc : ∀ {is : List Int} {d : D} {v : V} {F : List Addr} {dm : D} {w : V} {Gm : List Addr} {i : Int} {d' : D} {v' : V} {G : List Addr}, Focus K H is d v F dm w Gm → Focus K H [i] dm w Gm d' v' G → Focus K H (is ++ [i]) d v F d' v' G
  | [], _, _, _, _, _, _, _, _, _, _, h, g => by
    obtain ⟨rfl, rfl, rfl, r⟩ := h
    exact g
  | k :: is, _, _, _, _, _, _, _, _, _, _, h, g => by
    obtain ⟨ds, a, vs, j, F1, G, F2, d', v', h1, h2, h3, h4, h5, h6, h7, h8, h9⟩ := h
    exact ⟨ds, a, vs, j, F1, G, F2, d', v', h1, h2, h3, h4, h5, h6, h7, h8, h9.snoc g⟩
noncomputable def dpath : D → List Int → Option D
  | d, [] => some d
  | d, i :: is => (d.items).bind fun ds => (atI ds i).bind fun d' => dpath d' is
theorem dpath_snoc : ∀ {is : List Int} {d : D} {i : Int} {d' : D}, dpath d (is ++ [i]) = some d' → ∃ dm ds, dpath d is = some dm ∧ dm.items = some ds ∧ atI ds i = some d'
  | [], d, i, d', h => by
    obtain ⟨ds, h1, h⟩ := bind1 h
    obtain ⟨d'', h2, h⟩ := bind1 h
    cases h
    exact ⟨d, ds, rfl, h1, h2⟩
  | k :: is, d, i, d', h => by
    obtain ⟨ds, h1, h⟩ := bind1 h
    obtain ⟨d'', h2, h⟩ := bind1 h
    obtain ⟨dm, es, h3, h4, h5⟩ := dpath_snoc h
    refine ⟨dm, es, ?_, h4, h5⟩
    simp only [dpath, h1, h2, Option.bind_some, h3]
noncomputable def updP : List Int → D → D → D
  | [], _, new => new
  | i :: is, .lst ds, new => match ixN ds.length i with
    | some j => .lst (ds.set j (updP is (ds.getD j .non) new))
    | none => .lst ds
  | i :: is, .tup ds, new => match ixN ds.length i with
    | some j => .tup (ds.set j (updP is (ds.getD j .non) new))
    | none => .tup ds
  | _ :: _, d, _ => d
theorem nls_set : ∀ {ds : List D} {j : Nat} {d e : D}, ds[j]? = some d → nls (ds.set j e) + d.nl = nls ds + e.nl
  | [], _, _, _, h => by simp at h
  | x :: ds, 0, d, e, h => by simp at h; subst h; simp only [List.set_cons_zero, nls]; omega
  | x :: ds, j + 1, d, e, h => by
    have := nls_set (ds := ds) (j := j) (e := e) (by simpa using h)
    simp only [List.set_cons_succ, nls]; omega
theorem nls_append : ∀ (as bs : List D), nls (as ++ bs) = nls as + nls bs
  | [], bs => by simp [nls]
  | a :: as, bs => by simp only [List.cons_append, nls, nls_append as bs]; omega
/-- the list at a path is written -/
theorem Focus.mut {p : Addr} {dsm ds' : List D} {vs' : List V} {G' : List Addr} : ∀ {is : List Int} {d : D} {v : V} {F : List Addr} {Gm : List Addr}, Focus K H is d v F (.lst dsm) (.ref p) Gm → F.Nodup → F.length = d.nl →
    ∃ vsm Gp, H p = some (.lst vsm) ∧ Gm = p :: Gp ∧ Rps K H dsm vsm Gp ∧ Gp.length = nls dsm ∧ p ∈ F ∧ (∀ a ∈ Gp, a ∈ F) ∧ p ∉ Gp ∧
      (Rps K (upd H p (.lst vs')) ds' vs' G' → ds'.length ≤ sizeLine → G'.length = nls ds' →
        ∃ F', Rp K (upd H p (.lst vs')) (updP is d (.lst ds')) v F' ∧ F'.length = (updP is d (.lst ds')).nl ∧ ∀ a, F'.count a + Gp.count a = F.count a + G'.count a)
  | [], d, v, F, Gm, h, nd, hl => by
    obtain ⟨rfl, rfl, rfl, r⟩ := h
    simp only [Rp] at r
    obtain ⟨hz, a, vs, e, h⟩ := r
    cases e
    rcases h with ⟨L, rfl, q, rl⟩ | ⟨q, rl⟩
    · obtain ⟨n1, n2⟩ := List.nodup_cons.mp nd
      have hl' : L.length = nls dsm := by simp only [D.nl, List.length_cons] at hl; omega
      refine ⟨vs, L, q, rfl, rl, hl', List.mem_cons_self, fun a ha => List.mem_cons_of_mem _ ha, n1, fun r' hz' hl2 => ⟨p :: G', Rp.lst_mk upd_same r' hz', ?_, fun a => ?_⟩⟩
      · simp only [updP, D.nl, List.length_cons, hl2]
      · rw [List.count_cons, List.count_cons]; omega
    · have := rl.len_le
      simp only [D.nl] at hl
      omega
  | i :: is, d, v, F, Gm, h, nd, hl => by
    obtain ⟨ds, a, vs, j, F1, G, F2, d', v', rfl, hj, h3, h4, h5, h6, h7, h8, h9⟩ := h
    have hjl : j < ds.length := (List.getElem?_eq_some_iff.mp h6).1
    have gd : ds.getD j .non = d' := by rw [List.getD_eq_getElem?_getD, h6]; rfl
    have l1 := h4.len_le
    have l2 := h5.len_le
    have l3 := h9.rpHead.len_le
    have nlsplit : nls (ds.take j) + (d'.nl + nls (ds.drop (j + 1))) = nls ds := by
      have e1 : ds = ds.take j ++ d' :: ds.drop (j + 1) := by
        have : ds[j] = d' := (List.getElem?_eq_some_iff.mp h6).2
        rw [← this, ← List.drop_eq_getElem_cons hjl, List.take_append_drop]
      have e2 := congrArg nls e1
      rw [nls_append] at e2
      simp only [nls] at e2
      exact e2.symm
    -- the parts, whichever the node
    have core : (F1 ++ (G ++ F2)).Nodup → (F1 ++ (G ++ F2)).length = nls ds → _ := fun nd' hl' => by
      simp only [List.length_append] at hl'
      have hG : G.length = d'.nl := by omega
      have ndG : G.Nodup := (List.nodup_append.mp (List.nodup_append.mp nd').2.1).1
      exact (h9.mut (vs' := vs') (ds' := ds') (G' := G') ndG hG)
    have apart : (F1 ++ (G ++ F2)).Nodup → p ∈ G → p ∉ F1 ∧ p ∉ F2 := fun nd' hp => by
      have n1 := List.nodup_append.mp nd'
      have n2 := List.nodup_append.mp n1.2.1
      exact ⟨fun h => n1.2.2 p h p (List.mem_append_left _ hp) rfl, fun h => n2.2.2 p hp p h rfl⟩
    have cnt : ∀ (G'' Gp : List Addr), (∀ a, G''.count a + Gp.count a = G.count a + G'.count a) → ∀ a, (F1 ++ (G'' ++ F2)).count a + Gp.count a = (F1 ++ (G ++ F2)).count a + G'.count a := fun G'' Gp hc a => by
      have := hc a
      simp only [List.count_append]; omega
    rcases h3 with ⟨rfl, hz, ⟨rfl, q⟩ | ⟨rfl, q⟩⟩ | ⟨rfl, rfl, q⟩
    · -- a list of ours
      obtain ⟨n1, n2⟩ := List.nodup_cons.mp nd
      have hl' : (F1 ++ (G ++ F2)).length = nls ds := by simp only [D.nl, List.length_cons] at hl; omega
      obtain ⟨vsm, Gp, e1, e2, e3, e4, e5, e6, e7, e8⟩ := core n2 hl'
      have ap := apart n2 e5
      have hap : a ≠ p := fun z => n1 (by rw [z]; exact List.mem_append_right _ (List.mem_append_left _ e5))
      refine ⟨vsm, Gp, e1, e2, e3, e4, List.mem_cons_of_mem _ (List.mem_append_right _ (List.mem_append_left _ e5)), fun b hb => List.mem_cons_of_mem _ (List.mem_append_right _ (List.mem_append_left _ (e6 b hb))), e7, fun r' hz' hl2 => ?_⟩
      obtain ⟨G'', f1, f2, f3⟩ := e8 r' hz' hl2
      have j1 := Rps.join (h4.upd (ys := vs') e1 ap.1) f1 (h5.upd (ys := vs') e1 ap.2) hjl h7
      refine ⟨a :: (F1 ++ (G'' ++ F2)), ?_, ?_, fun b => ?_⟩
      · simp only [updP, hj, gd]
        exact Rp.lst_mk (by rw [upd_ne hap]; exact q) j1 (by rw [List.length_set]; exact hz)
      · have := nls_set (ds := ds) (j := j) (e := updP is d' (.lst ds')) h6
        simp only [updP, hj, gd, D.nl, List.length_cons, List.length_append, f2] at hl' ⊢
        omega
      · have := cnt G'' Gp f3 b
        rw [List.count_cons, List.count_cons]; omega
    · have : (F1 ++ (G ++ F2)).length ≤ nls ds := by simp only [List.length_append]; omega
      simp only [D.nl] at hl
      omega
    · -- a tuple
      have hl' : (F1 ++ (G ++ F2)).length = nls ds := by simpa only [D.nl] using hl
      obtain ⟨vsm, Gp, e1, e2, e3, e4, e5, e6, e7, e8⟩ := core nd hl'
      have ap := apart nd e5
      refine ⟨vsm, Gp, e1, e2, e3, e4, List.mem_append_right _ (List.mem_append_left _ e5), fun b hb => List.mem_append_right _ (List.mem_append_left _ (e6 b hb)), e7, fun r' hz' hl2 => ?_⟩
      obtain ⟨G'', f1, f2, f3⟩ := e8 r' hz' hl2
      have j1 := Rps.join (h4.upd (ys := vs') e1 ap.1) f1 (h5.upd (ys := vs') e1 ap.2) hjl h7
      refine ⟨F1 ++ (G'' ++ F2), ?_, ?_, cnt G'' Gp f3⟩
      · simp only [updP, hj, gd, Rp]
        exact ⟨a, vs, rfl, sqT_upd e1 q, j1⟩
      · have := nls_set (ds := ds) (j := j) (e := updP is d' (.lst ds')) h6
        simp only [updP, hj, gd, D.nl, List.length_append, f2] at hl' ⊢
        omega
end
end HS
namespace HS
open PySem PySem.Spec L2
section
variable {K : PySem.W.Frag} {H0 H H1 H2 : Hp} {A0 : List Addr} {hs : List (V × D × List Addr)} {ρ : En} {F : Nat → List Addr} {σ : L2.St}
/-- a slot's list at a path is written; the new part's lists Gn come from a result r -/
theorem Rel.mut (rel : Rel K H0 A0 hs ρ F σ H) {r : R} {vn : V} {Gn : List Addr} (p : Post K ρ F H H1 r vn Gn) (hf : r.fr = true) (nd : r.M.Nodup) (s12 : Same H1 H2) {x : Nat} {d : D} (hx : ρ[x]? = some (some (d, true))) (hxM : x ∉ r.M) {v0 : V} (hv0 : σ[x]? = some (some v0))
    {dnew : D} {q : Addr} {F' : List Addr} {vsm vs' : List V} (e1 : H2 q = some (.lst vsm)) (e5 : q ∈ F x) (f1 : Rp K (upd H2 q (.lst vs')) dnew v0 F') (f2 : F'.length = dnew.nl) (cF : ∀ a, F'.count a ≤ (F x).count a + Gn.count a) :
    ∃ F', Rel K H0 A0 hs ((kill r.M ρ).set x (some (dnew, true))) F' σ (upd H2 q (.lst vs')) := by
  obtain ⟨ol, on, o0, oap, oh⟩ := rel.own x d hx
  obtain ⟨gn, gs⟩ := p.fresh rel hf nd
  have rel2 := (rel.ext p.same).ext s12
  have relk := rel2.weak (kill_weak r.M ρ)
  -- Gn and the slot's own lists are apart
  have apn : ∀ a ∈ Gn, a ∉ F x := fun a ha hax => by
    rcases (gs a ha).2 with z | ⟨k, d', hk, ek, hak⟩
    · obtain ⟨vs, w⟩ := rel.mem hx hax
      rw [z] at w; cases w
    · have : k ≠ x := fun z => hxM (z ▸ hk)
      exact oap k d' true this ek a hax hak
  have memF : ∀ a ∈ F', a ∈ F x ∨ a ∈ Gn := fun a ha => by
    have h1 := cF a
    have h2 : 0 < F'.count a := List.count_pos_iff.mpr ha
    by_cases h : a ∈ F x
    · exact .inl h
    · rw [List.count_eq_zero.mpr h] at h1
      exact .inr (List.count_pos_iff.mp (by omega))
  -- what is left of the other slots, and what is held, stands apart from all this
  have apart : ∀ (j : Nat) d' b, j ≠ x → (kill r.M ρ)[j]? = some (some (d', b)) → ∀ a ∈ F', a ∉ F j := fun j d' b hj e a ha haj => by
    obtain ⟨b', e', _⟩ := (kill_weak r.M ρ).2 j d' b e
    rcases memF a ha with h | h
    · exact oap j d' b' hj e' a h haj
    · rcases (gs a h).2 with z | ⟨k, d'', hk, ek, hak⟩
      · obtain ⟨vs, w⟩ := rel.mem e' haj
        rw [z] at w; cases w
      · have hjk : j ≠ k := fun z => by subst z; exact kill_gone r.M ρ j d' b hk e
        exact (rel.own k d'' ek).2.2.2.1 j d' b' hjk e' a hak haj
  have apartH : ∀ t ∈ hs, ∀ a ∈ F', a ∉ t.2.2 := fun t ht a ha hat => by
    rcases memF a ha with h | h
    · exact oh t ht a h hat
    · rcases (gs a h).2 with z | ⟨k, d'', hk, ek, hak⟩
      · obtain ⟨vs, w⟩ := (rel.held t ht).1.mem a hat
        rw [z] at w; cases w
      · exact (rel.own k d'' ek).2.2.2.2 t ht a hak hat
  have nqj : ∀ (j : Nat) d' b, j ≠ x → ρ[j]? = some (some (d', b)) → q ∉ F j := fun j d' b hj e h => oap j d' b hj e q e5 h
  have nF' : F'.Nodup := List.nodup_iff_count.mpr fun a => by
    have h1 := cF a
    have h2 := List.nodup_iff_count.mp on a
    have h3 := List.nodup_iff_count.mp gn a
    by_cases h : a ∈ Gn
    · rw [List.count_eq_zero.mpr (apn a h)] at h1; omega
    · rw [List.count_eq_zero.mpr h] at h1; omega
  have lt : ∀ {j : Nat} {z : Option (D × Bool)} {y : D × Bool}, ((kill r.M ρ).set j z)[j]? = some (some y) → j < (kill r.M ρ).length := fun {j z y} e => by
    by_cases hl : j < (kill r.M ρ).length
    · exact hl
    · rw [List.getElem?_eq_none (by simp; omega)] at e; cases e
  refine ⟨fun j => if j = x then F' else F j, by simp [relk.len], fun j d' b e => ?_, fun j d' e => ?_, fun j d' b e a ha => ?_, fun t ht => ⟨(relk.held t ht).1.upd e1 fun h => oh t ht q e5 h, (relk.held t ht).2⟩, fun b o hb => ?_⟩
  · by_cases hj : j = x
    · subst hj
      have hl := lt e
      rw [List.getElem?_set_self hl] at e
      cases e
      exact ⟨v0, hv0, by rw [if_pos rfl]; exact f1⟩
    · rw [List.getElem?_set_ne (Ne.symm hj)] at e
      obtain ⟨w, h1, h2⟩ := relk.val j d' b e
      obtain ⟨b', e', _⟩ := (kill_weak r.M ρ).2 j d' b e
      exact ⟨w, h1, by rw [if_neg hj]; exact h2.upd e1 (nqj j d' b' hj e')⟩
  · by_cases hj : j = x
    · subst hj
      have hl := lt e
      rw [List.getElem?_set_self hl] at e
      cases e
      rw [if_pos rfl]
      refine ⟨f2, nF', fun a ha => ?_, fun k d'' b hk ek a ha => ?_, apartH⟩
      · rcases memF a ha with h | h
        · exact o0 a h
        · exact (gs a h).1
      · rw [List.getElem?_set_ne (Ne.symm hk)] at ek
        rw [if_neg hk]
        exact apart k d'' b hk ek a ha
    · rw [List.getElem?_set_ne (Ne.symm hj)] at e
      obtain ⟨h1, h2, h3, h4, h5⟩ := relk.own j d' e
      rw [if_neg hj]
      refine ⟨h1, h2, h3, fun k d'' b hk ek a ha => ?_, h5⟩
      by_cases hki : k = x
      · subst hki
        rw [if_pos rfl]
        exact fun hG => apart j d' true hj e a hG ha
      · rw [List.getElem?_set_ne (Ne.symm hki)] at ek
        rw [if_neg hki]
        exact h4 k d'' b hk ek a ha
  · by_cases hj : j = x
    · subst hj
      rw [if_pos rfl] at ha
      rcases memF a ha with h | h
      · exact .inl (o0 a h)
      · exact .inl (gs a h).1
    · rw [List.getElem?_set_ne (Ne.symm hj)] at e
      rw [if_neg hj] at ha
      exact relk.src j d' b e a ha
  · have hbq : b ≠ q := fun z => by rw [z, o0 q e5] at hb; cases hb
    rw [upd_ne hbq]
    exact relk.same b o hb
end
/-! ### paths in the text -/
noncomputable abbrev DP := En → Option (List Int)
noncomputable def pNil : DP := fun _ => some []
noncomputable def pSnoc (p : DP) (fb : DE) : DP := fun ρ => (p ρ).bind fun is => (fb ρ).bind fun r => match r.d with
  | .int i => some (is ++ [i])
  | _ => none
noncomputable def tP (K : PySem.W.Frag) (H0 : Hp) (A0 : List Addr) (x : Nat) (pf : DP) : TE := fun σ H Q => ∃ ρ hs F d b is dm, Rel K H0 A0 hs ρ F σ H ∧ ρ[x]? = some (some (d, b)) ∧ pf ρ = some is ∧ dpath d is = some dm ∧
  ∀ v0 v H' Gm, Same H H' → σ[x]? = some (some v0) → Focus K H' is d v0 (F x) dm v Gm → Q v H'
noncomputable def SPa (X : Cx) (e : Expr) (x : Nat) (pf : DP) : Prop := ∀ H0 A0, PE X e (tP X.K H0 A0 x pf)
section
variable {X : Cx} {a b e : Expr} {fa fb : DE} {pf : DP} {x : Nat} {pos : Pos}
theorem spa_name {y : Str} (h : PE X (.Name y pos) (tVar x)) : SPa X (.Name y pos) x pNil := fun H0 A0 => h.mono fun σ H Q ⟨ρ, hs, F, d, b, is, dm, rel, hx, hp, hd, q⟩ => by
  cases hp
  cases hd
  obtain ⟨v, h1, h2⟩ := rel.val x d b hx
  exact ⟨v, h1, q v v H (F x) (Same.refl _) h1 ⟨rfl, rfl, rfl, h2⟩⟩
theorem spa_sub (ha : SPa X a x pf) (hb : SE X b fb) (hs : PlainIx b) : SPa X (.Subscript a b pos) x (pSnoc pf fb) := fun H0 A0 =>
  (pe_ix (ix_list.or ix_tup) (ha H0 A0) (hb H0 A0) hs).mono fun σ H Q ⟨ρ, hs, F, d, b', is, dm, rel, hx, hp, hd, q⟩ => by
    obtain ⟨is', e1, hp⟩ := bind1 hp
    obtain ⟨r, e2, hp⟩ := bind1 hp
    cases hr : r.d with
    | int i =>
      rw [hr] at hp
      cases hp
      obtain ⟨dn, ds, g1, g2, g3⟩ := dpath_snoc hd
      refine ⟨ρ, hs, F, d, b', is', dn, rel, hx, e1, g1, fun v0 w H1 Gm s1 hv fo => ⟨ρ, hs, F, r, rel.ext s1, e2, fun u H2 G p2 => ?_⟩⟩
      have rp := p2.rp
      rw [hr] at rp
      rw [rp.int_inv]
      have fo2 := fo.same p2.same
      obtain ⟨c, vs, v', G', rfl, hc, h3, h4⟩ := Focus.one fo2.rp g2 g3
      have fin := q v0 v' H2 G' (s1.trans p2.same) hv (fo2.snoc h4)
      rcases hc with ⟨_, hc⟩ | ⟨_, hc⟩
      · exact .inl ⟨c, vs, i, v', rfl, rfl, hc, h3, fin⟩
      · exact .inr ⟨c, vs, i, v', rfl, rfl, hc, h3, fin⟩
    | _ => rw [hr] at hp; cases hp
/-- .. = e at an item -/
noncomputable def sSet (x : Nat) (pf : DP) (fi fa : DE) : DS := fun ρ => (fa ρ).bind fun r0 => match ρ[x]? with
  | some (some (d, true)) => (pf ρ).bind fun is => (fi ρ).bind fun ri => match ri.d, dpath d is with
    | .int k, some (.lst ds) => (ixN ds.length k).bind fun j => if r0.norm.fr && decide r0.norm.M.Nodup && !r0.norm.M.contains x then some (.nx ((kill r0.norm.M ρ).set x (some (updP is d (.lst (ds.set j r0.d)), true)))) else none
    | _, _ => none
  | _ => none
theorem set_mk {K : PySem.W.Frag} {H2 : Hp} {q : Addr} {dsm : List D} {vsm : List V} {Gp Gn : List Addr} {j : Nat} {dn : D} {vn : V} (hq : H2 q = some (.lst vsm)) (rs : Rps K H2 dsm vsm Gp) (hl : Gp.length = nls dsm) (nq : q ∉ Gp) (nqn : q ∉ Gn) (hn : Rp K H2 dn vn Gn) (hnl : Gn.length = dn.nl) (hj : j < dsm.length) :
    ∃ G', Rps K (upd H2 q (.lst (vsm.set j vn))) (dsm.set j dn) (vsm.set j vn) G' ∧ G'.length = nls (dsm.set j dn) ∧ ∀ a, G'.count a ≤ Gp.count a + Gn.count a := by
  obtain ⟨F1, G, F2, v, e1, e2, h1, h2, h3⟩ := rs.split (j := j) (d := dsm[j]) (by simp [hj])
  subst e1
  have hjv : j < vsm.length := by rw [← rs.length]; exact hj
  have n1 : q ∉ F1 := fun h => nq (List.mem_append_left _ h)
  have n2 : q ∉ F2 := fun h => nq (List.mem_append_right _ (List.mem_append_right _ h))
  refine ⟨F1 ++ (Gn ++ F2), Rps.joinV (h1.upd hq n1) (hn.upd hq nqn) (h3.upd hq n2) hj hjv, ?_, fun a => ?_⟩
  · have := nls_set (ds := dsm) (j := j) (d := dsm[j]) (e := dn) (by simp [hj])
    have l1 := h1.len_le
    have l2 := h2.len_le
    have l3 := h3.len_le
    have e1 : nls (dsm.take j) + ((dsm[j]).nl + nls (dsm.drop (j + 1))) = nls dsm := by
      have e2 := congrArg nls (List.take_append_drop j dsm)
      rw [nls_append, List.drop_eq_getElem_cons hj] at e2
      simpa only [nls] using e2
    simp only [List.length_append] at hl ⊢
    omega
  · simp only [List.count_append]; omega
theorem Post.same2 {K : PySem.W.Frag} {ρ : En} {F : Nat → List Addr} {H H1 H2 : Hp} {r : R} {v : V} {G : List Addr} (p : Post K ρ F H H1 r v G) (s : Same H1 H2) : Post K ρ F H H2 r v G := ⟨p.same.trans s, p.rp.same s, p.src, p.cnt, p.own⟩
theorem s1_set {i : Expr} {pos' : Pos} {fi : DE} (hv : SE X e fa) (ho : SPa X a x pf) (hi : SE X i fi)
    (h : ∀ te to ti, PE X e te → PE X a to → PE X i ti → PS X (.Assign [.Subscript a i pos'] e pos) (tAsg te (L2.gSub to ti rSetL))) : S1 X (.Assign [.Subscript a i pos'] e pos) (sSet x pf fi fa) := fun H0 A0 =>
  (h _ _ _ (hv H0 A0) (ho H0 A0) (hi H0 A0)).mono fun E σ H ⟨ρ, hs, F, o, rel, e, q⟩ => by
    obtain ⟨r0, e1, e⟩ := bind1 e
    split at e
    · rename_i d hx
      obtain ⟨is, e2, e⟩ := bind1 e
      obtain ⟨ri, e3, e⟩ := bind1 e
      split at e
      · rename_i k ds hk hp
        obtain ⟨j, e4, e⟩ := bind1 e
        split at e
        · rename_i hc
          cases e
          simp only [Bool.and_eq_true, decide_eq_true_eq, Bool.not_eq_true'] at hc
          obtain ⟨⟨c1, c2⟩, c3⟩ := hc
          have c3 : x ∉ r0.norm.M := fun h => by rw [List.contains_iff_mem.mpr h] at c3; cases c3
          refine ⟨ρ, hs, F, r0, rel, e1, fun vn H1 Gn p => ⟨ρ, hs, F, d, true, is, .lst ds, rel.ext p.same, hx, e2, hp, fun v0 w H2 Gm s2 hv0 fo => ⟨ρ, hs, F, ri, (rel.ext p.same).ext s2, e3, fun u H3 Gi pi => ?_⟩⟩⟩
          have p' := (p.norm.same2 s2).same2 pi.same
          have fo3 := fo.same pi.same
          have rpi := pi.rp
          rw [hk] at rpi
          rw [rpi.int_inv]
          obtain ⟨l, ws, L, rfl, _⟩ := fo3.rp.lst_inv
          obtain ⟨ol, on, _, oap, _⟩ := rel.own x d hx
          have hjl := (ixN_seq e4).2.1
          obtain ⟨gn, gs⟩ := p'.fresh rel c1 c2
          have rn := p'.rp
          rw [r0.norm_d] at rn
          have hnl := (p'.cnt c1).2
          rw [r0.norm_d] at hnl
          obtain ⟨vsm, _, f1, _⟩ := fo3.mut (vs' := []) (ds' := []) (G' := []) on ol
          obtain ⟨_, _, _, _, _, _, zl, _⟩ := fo3.rp.lst_inv
          -- the lists of the new list
          have key : ∃ F', Rp X.K (upd H3 l (.lst (vsm.set j vn))) (updP is d (.lst (ds.set j r0.d))) v0 F' ∧ F'.length = (updP is d (.lst (ds.set j r0.d))).nl ∧ l ∈ F x ∧ ds.length = vsm.length ∧ ∀ a, F'.count a ≤ (F x).count a + Gn.count a := by
            have own5 : ∀ G', _ := fun G' => fo3.mut (vs' := vsm.set j vn) (ds' := ds.set j r0.d) (G' := G') on ol
            obtain ⟨vs1, Gp, g1, g2, g3, g4, g5, g6, g7, _⟩ := own5 []
            rw [f1] at g1; cases g1
            have hq : l ∉ Gn := fun h => by
              rcases (gs l h).2 with z | ⟨k', d', hk', ek, hak⟩
              · obtain ⟨vs, w⟩ := rel.mem hx g5
                rw [z] at w; cases w
              · exact oap k' d' true (fun z => c3 (z ▸ hk')) ek l g5 hak
            obtain ⟨G', m1, m2, m3⟩ := set_mk f1 g3 g4 g7 hq rn hnl hjl
            obtain ⟨vs2, Gp2, k1, k2, k3, k4, k5, k6, k7, k8⟩ := own5 G'
            have eG : Gp2 = Gp := by rw [g2] at k2; exact (List.cons.inj k2).2.symm
            subst eG
            obtain ⟨F', h1, h2, h3⟩ := k8 m1 (by rw [List.length_set]; exact zl) m2
            exact ⟨F', h1, h2, g5, g3.length, fun a => by have := h3 a; have := m3 a; omega⟩
          obtain ⟨F', k1, k2, k3, k4, k5⟩ := key
          refine ⟨l, vsm, k, j, rfl, rfl, f1, by rw [← k4]; exact e4, ?_⟩
          obtain ⟨F'', rel'⟩ := rel.mut p' c1 c2 (Same.refl _) hx c3 hv0 f1 k3 k1 k2 k5
          exact q _ _ F'' rel'
        · cases e
      · cases e
    · cases e
end
end HS
namespace HS
open PySem PySem.Spec L2
section
variable {K : PySem.W.Frag} {H0 H H1 H2 H3 : Hp} {A0 : List Addr} {hs : List (V × D × List Addr)} {ρ : En} {F : Nat → List Addr} {σ : L2.St}
/-- the list at a path of an owned slot may be written anew -/
theorem Rel.write (rel : Rel K H0 A0 hs ρ F σ H) {r : R} {vn : V} {Gn : List Addr} (p : Post K ρ F H H3 r vn Gn) (hf : r.fr = true) (nd : r.M.Nodup) {x : Nat} {d : D} (hx : ρ[x]? = some (some (d, true))) (hxM : x ∉ r.M) {v0 w : V} (hv0 : σ[x]? = some (some v0))
    {is : List Int} {ds : List D} {Gm : List Addr} (fo : Focus K H3 is d v0 (F x) (.lst ds) w Gm) :
    ∃ l vsm Gp, w = .ref l ∧ H3 l = some (.lst vsm) ∧ Rps K H3 ds vsm Gp ∧ Gp.length = nls ds ∧ l ∉ Gp ∧ l ∉ Gn ∧ ds.length ≤ sizeLine ∧
      ∀ ds' vs' G', Rps K (upd H3 l (.lst vs')) ds' vs' G' → ds'.length ≤ sizeLine → G'.length = nls ds' → (∀ a, G'.count a ≤ Gp.count a + Gn.count a) →
        ∃ F', Rel K H0 A0 hs ((kill r.M ρ).set x (some (updP is d (.lst ds'), true))) F' σ (upd H3 l (.lst vs')) := by
  obtain ⟨l, ws, L, rfl, _, _, zl, _⟩ := fo.rp.lst_inv
  obtain ⟨ol, on, _, oap, _⟩ := rel.own x d hx
  obtain ⟨gn, gs⟩ := p.fresh rel hf nd
  obtain ⟨vsm, Gp, g1, g2, g3, g4, g5, g6, g7, _⟩ := fo.mut (vs' := []) (ds' := []) (G' := []) on ol
  have hq : l ∉ Gn := fun h => by
    rcases (gs l h).2 with z | ⟨k', d', hk', ek, hak⟩
    · obtain ⟨vs, w⟩ := rel.mem hx g5
      rw [z] at w; cases w
    · exact oap k' d' true (fun z => hxM (z ▸ hk')) ek l g5 hak
  refine ⟨l, vsm, Gp, rfl, g1, g3, g4, g7, hq, zl, fun ds' vs' G' m1 m2 m3 m4 => ?_⟩
  obtain ⟨vs2, Gp2, k1, k2, k3, k4, k5, k6, k7, k8⟩ := fo.mut (vs' := vs') (ds' := ds') (G' := G') on ol
  have eG : Gp2 = Gp := by rw [g2] at k2; exact (List.cons.inj k2).2.symm
  subst eG
  obtain ⟨F', h1, h2, h3⟩ := k8 m1 m2 m3
  exact rel.mut p hf nd (Same.refl _) hx hxM hv0 g1 g5 h1 h2 fun a => by have := h3 a; have := m4 a; omega
end
section
variable {X : Cx} {a b e : Expr} {fa fb : DE} {pf : DP} {x : Nat} {pos apos : Pos}
noncomputable def okOwn (r : R) (x : Nat) : Bool := r.norm.fr && decide r.norm.M.Nodup && !r.norm.M.contains x
theorem okOwn_inv {r : R} {x : Nat} (h : okOwn r x = true) : r.norm.fr = true ∧ r.norm.M.Nodup ∧ x ∉ r.norm.M := by
  unfold okOwn at h
  simp only [Bool.and_eq_true, decide_eq_true_eq, Bool.not_eq_true'] at h
  exact ⟨h.1.1, h.1.2, fun z => by rw [List.contains_iff_mem.mpr z] at h; cases h.2⟩
/-- ...append(e) -/
noncomputable def sApp (x : Nat) (pf : DP) (fa : DE) : DS := fun ρ => match ρ[x]? with
  | some (some (d, true)) => (pf ρ).bind fun is => (fa ρ).bind fun r0 => match dpath d is with
    | some (.lst ds) => if okOwn r0 x && decide (ds.length < sizeLine) then some (.nx ((kill r0.norm.M ρ).set x (some (updP is d (.lst (ds ++ [r0.d])), true)))) else none
    | _ => none
  | _ => none
theorem app_mono {H0 : Hp} {A0 : List Addr} {E : Ends} {σ : L2.St} {H : Hp} : tS X.K H0 A0 (sApp x pf fa) E σ H → tDrop (tBM X.K "list" rAppend (tP X.K H0 A0 x pf) (tCons (tV X.K H0 A0 fa) tNil)) E σ H := fun ⟨ρ, hs, F, o, rel, e, q⟩ => by
  unfold sApp at e
  split at e
  · rename_i d hx
    obtain ⟨is, e2, e⟩ := bind1 e
    obtain ⟨r0, e1, e⟩ := bind1 e
    split at e
    · rename_i ds hp
      split at e
      · rename_i hc
        simp only [Bool.and_eq_true, decide_eq_true_eq] at hc
        obtain ⟨c1, c2, c3⟩ := okOwn_inv hc.1
        cases e
        refine ⟨ρ, hs, F, d, true, is, .lst ds, rel, hx, e2, hp, fun v0 w H2 Gm s2 hv0 fo => ?_⟩
        have ty : tyV X.K "list" w H2 := by
          obtain ⟨l, ws, L, rfl, hl, _⟩ := fo.rp.lst_inv
          exact .inl ⟨rfl, ws, lst_sq hl⟩
        refine ⟨ty, ρ, hs, F, r0, rel.ext s2, e1, fun vn H3 Gn p => ?_⟩
        have p' := p.norm
        obtain ⟨l, vsm, Gp, rfl, g1, g2, g3, g4, g5, g6, g7⟩ := (rel.ext s2).write p' c1 c2 hx c3 hv0 (fo.same p.same)
        refine ⟨l, vsm, vn, rfl, rfl, g1, by rw [← g2.length]; exact hc.2, ?_⟩
        have rn := p'.rp
        rw [r0.norm_d] at rn
        have hnl := (p'.cnt c1).2
        rw [r0.norm_d] at hnl
        have rw1 : Rps X.K (upd H3 l (.lst (vsm ++ [vn]))) [r0.d] [vn] Gn := by
          simp only [Rps]
          exact ⟨vn, [], Gn, [], rfl, by simp, rn.upd g1 g5, rfl, rfl⟩
        obtain ⟨F', rel'⟩ := g7 (ds ++ [r0.d]) (vsm ++ [vn]) (Gp ++ Gn) ((g2.upd g1 g4).append rw1) (by rw [List.length_append, List.length_singleton]; omega) (by rw [List.length_append, nls_append, g3, hnl]; simp [nls]) (fun a => by rw [List.count_append]; omega)
        exact q _ _ F' rel'
      · cases e
    · cases e
  · cases e
open PyProof.Rows in
theorem get_listX : PGet X (rIxL X.K) := by
  intro pins s σ H o i ov iv Q I ro ri h
  obtain ⟨p, xs, k, v, rfl, rfl, hq, ha, q⟩ := h
  cases ro
  obtain ⟨t, rfl⟩ := ri
  obtain ⟨its, r, pl, hz⟩ := I.list hq
  obtain ⟨j, h1, h2, h3, h4, h5⟩ := atI_get ha
  obtain ⟨w, ew, rw'⟩ := r.get h2
  have hl := r.length
  have hn := line63
  by_cases h0 : 0 ≤ k
  · refine wpAny_getItem_list pl.isList h0 (by omega) (x := w) ?_ ⟨v, H, I, rw', q⟩
    have : k.toNat = j := by
      rw [seqIndex_of h0 h5] at h1
      exact Option.some.inj h1
    rw [this]; simpa using ew
  · refine wpAny_getItem_list_neg pl.isList (by omega) (by rw [List.size_toArray] <;> omega) (by omega) (x := w) ?_ ⟨v, H, I, rw', q⟩
    have hj : (k + (its.toArray.size : Int)).toNat = j := by
      rw [seqIndex_neg (by omega) h4] at h1
      rw [List.size_toArray, ← hl]
      exact Option.some.inj h1
    rw [hj]; simpa using ew
/-- ...[i] op= e -/
noncomputable def sAugI (g : D → D → Option D) (x : Nat) (pf : DP) (fi fa : DE) : DS := fun ρ => match ρ[x]? with
  | some (some (d, true)) => (pf ρ).bind fun is => (fi ρ).bind fun ri => match ri.d, dpath d is with
    | .int k, some (.lst ds) => (ixN ds.length k).bind fun j => (ds[j]?).bind fun old => (fa ρ).bind fun r => (g old r.d).map fun new => .nx (ρ.set x (some (updP is d (.lst (ds.set j new)), true)))
    | _, _ => none
  | _ => none
theorem s1_augI {op : Operator} {i : Expr} {pos' : Pos} {fi : DE} {g : D → D → Option D} {r : R2} (ho : OpR X (inplaceOp op) r) (hg : OpOk X.K g r) (hv : SE X e fa) (hp : SPa X a x pf) (hi : SE X i fi)
    (ha : ∀ ov iv new, augStore i ov iv new = (do holding [new, ov, iv] (setItem ov iv new); release [new, ov, iv] []; pure .next)) : S1 X (.AugAssign (.Subscript a i pos') op e pos) (sAugI g x pf fi fa) := fun H0 A0 =>
  (ps_augS (hp H0 A0) (hi H0 A0) get_listX (hv H0 A0) (fun pins s σ H x y v u Q I rx ry q => augR ho I rx ry q) set_list ha).mono fun E σ H ⟨ρ, hs, F, o, rel, e, q⟩ => by
    unfold sAugI at e
    split at e
    · rename_i d hx
      obtain ⟨is, e2, e⟩ := bind1 e
      obtain ⟨ri, e3, e⟩ := bind1 e
      split at e
      · rename_i k ds hk hp'
        obtain ⟨j, e4, e⟩ := bind1 e
        obtain ⟨old, e5, e⟩ := bind1 e
        obtain ⟨rv, e6, e⟩ := bind1 e
        obtain ⟨new, e7, e⟩ := Option.map_eq_some_iff.mp e
        subst e
        have hjl := (ixN_seq e4).2.1
        refine ⟨ρ, hs, F, d, true, is, .lst ds, rel, hx, e2, hp', fun v0 w H2 Gm s2 hv0 fo => ⟨ρ, hs, F, ri, rel.ext s2, e3, fun u H3 Gi pi => ?_⟩⟩
        have fo3 := fo.same pi.same
        have rpi := pi.rp
        rw [hk] at rpi
        rw [rpi.int_inv]
        have at3 : atI ds k = some old := by unfold atI; rw [e4]; exact e5
        obtain ⟨l, vs, v', Go, rfl, hc, h3, h4⟩ := Focus.one fo3.rp rfl at3
        have hc : SqL X.K H3 l vs := by
          rcases hc with ⟨_, hc⟩ | ⟨hc, _⟩
          · exact hc
          · cases hc
        refine ⟨l, vs, k, v', rfl, rfl, hc, h3, ρ, hs, F, rv, (rel.ext s2).ext pi.same, e6, fun y H4 G4 p4 => ?_⟩
        have fo4 := fo3.same p4.same
        have ro := h4.rp.same p4.same
        refine (hg _ _ _ e7).2 H4 v' y Go G4 _ ro p4.rp fun z hz => ?_
        have rel4 := ((rel.ext s2).ext pi.same).ext p4.same
        have pz : Post X.K ρ F H4 H4 ⟨new, true, []⟩ z [] := .flat (Same.refl _) (hz H4) (hg _ _ _ e7).1
        obtain ⟨l', vsm, Gp, el, g1, g2, g3, g4, g5, g6, g7⟩ := rel4.write pz rfl List.nodup_nil hx (by simp) hv0 fo4
        cases el
        refine ⟨l, vsm, k, j, rfl, rfl, g1, by rw [← g2.length]; exact e4, ?_⟩
        obtain ⟨G', m1, m2, m3⟩ := set_mk g1 g2 g3 g4 g5 (hz H4) (nl_flat new (hg _ _ _ e7).1).symm hjl
        obtain ⟨F', rel'⟩ := g7 _ _ G' m1 (by rw [List.length_set]; exact g6) m2 m3
        exact q _ _ F' rel'
      · cases e
    · cases e
end
end HS
namespace HS
open PySem PySem.Spec L2 PyProof.Rows
/-! ### rows of ints -/
noncomputable def D.asInt : D → Option Int
  | .int i => some i
  | _ => none
noncomputable def dInts : List D → Option (List Int)
  | [] => some []
  | d :: ds => (d.asInt).bind fun i => (dInts ds).map fun r => i :: r
theorem dInts_map : ∀ {ds : List D} {ns : List Int}, dInts ds = some ns → ds = ns.map .int
  | [], _, h => by cases h; rfl
  | d :: ds, ns, h => by
    unfold dInts at h
    obtain ⟨i, h1, h⟩ := bind1 h
    obtain ⟨r, h2, rfl⟩ := Option.map_eq_some_iff.mp h
    cases d with
    | int j => cases h1; rw [dInts_map h2]; rfl
    | _ => cases h1
theorem dInts_of : ∀ (ns : List Int), dInts (ns.map D.int) = some ns
  | [] => rfl
  | n :: ns => by simp [dInts, dInts_of ns, D.asInt]
theorem Rps.ints {K : PySem.W.Frag} {H : Hp} : ∀ {ns : List Int} {vs : List V} {F : List Addr}, Rps K H (ns.map .int) vs F → vs = ns.map .int
  | [], _, _, h => by simp only [List.map_nil, Rps] at h; rw [h.1]; rfl
  | n :: ns, _, _, h => by
    simp only [List.map_cons, Rps] at h
    obtain ⟨v, ws, F1, F2, rfl, rfl, r, q⟩ := h
    rw [r.int_inv, Rps.ints q]; rfl
theorem vals_ints {ns : List Int} {us : List Value} (h : Vals (ns.map V.int) us) : IntsAre us ns := intsAre_of h
noncomputable def dBls : List D → Option (List Bool)
  | [] => some []
  | d :: ds => (match d with | .bl b => some b | _ => none).bind fun i => (dBls ds).map fun r => i :: r
theorem dBls_map : ∀ {ds : List D} {ns : List Bool}, dBls ds = some ns → ds = ns.map .bl
  | [], _, h => by cases h; rfl
  | d :: ds, ns, h => by
    unfold dBls at h
    obtain ⟨i, h1, h⟩ := bind1 h
    obtain ⟨r, h2, rfl⟩ := Option.map_eq_some_iff.mp h
    cases d with
    | bl j => cases h1; rw [dBls_map h2]; rfl
    | _ => cases h1
theorem Rps.bls {K : PySem.W.Frag} {H : Hp} : ∀ {ns : List Bool} {vs : List V} {F : List Addr}, Rps K H (ns.map .bl) vs F → vs = ns.map .bl
  | [], _, _, h => by simp only [List.map_nil, Rps] at h; rw [h.1]; rfl
  | n :: ns, _, _, h => by
    simp only [List.map_cons, Rps] at h
    obtain ⟨v, ws, F1, F2, rfl, rfl, r, q⟩ := h
    rw [Rps.bls q]
    simp only [Rp] at r
    rw [r.1]; rfl
theorem bools_of : ∀ {ns : List Bool} {us : List Value}, Vals (ns.map V.bl) us → LSm.BoolsAre us ns
  | [], _, .nil => .nil
  | n :: ns, _, .cons r h => by cases r; exact .cons n (bools_of h)
section
variable {X : Cx} {a b e : Expr} {es : List Expr} {fa fb : DE} {fs : DA} {pos p2 : Pos}
/-! ### a[::-1] -/
theorem pe_rev {k : Expr} {te tk : TE} (he : PE X e te) (hk : PE X k tk) : PE X (.Subscript e (.Slice none none (some k) p2) pos)
    (fun σ H Q => te σ H fun x H1 => tk σ H1 fun y H2 => ∃ a xs, x = .ref a ∧ y = .int (-1) ∧ SqL X.K H2 a xs ∧ ∀ p, H2 p = none → Q (.ref p) (upd H2 p (.lst xs.reverse))) := by
  intro pins s σ H Q I h
  refine PyProof.Rows.Subscript_ (thn (he pins s σ H _ I h) fun v s1 ⟨x, H1, I1, r1, q1⟩ => ?_)
  refine wpAny_Slice ?_
  rw [evalPart_none]
  refine wpAny_pure (wpAny_pure ?_)
  rw [evalPart_some]
  refine thn (hk pins s1 σ H1 _ I1 q1) fun vk s3 ⟨y, H3, I3, r3, q3⟩ => ?_
  obtain ⟨c, xs, rfl, rfl, hq, q⟩ := q3
  cases r1
  obtain ⟨t, rfl⟩ := r3
  have I4 : Inv X pins σ H3 { s3 with heap := s3.heap.push { cls := .type "slice", data := .fields #[.none, .none, .int (-1) t] } } := I3.kept (t' := s3.toks) fun b ob q => Heap.get?_push_of_some _ q
  obtain ⟨its, r, ht, hz⟩ := I4.list hq
  have hlen := r.length
  refine tail_any (ops := [.ref c, .ref s3.heap.objs.size]) ht.isList.typeIs slot_list_getitem.lookup ?_ (by with_unfolding_all rfl)
  refine wpAny_getItem_list_slice ht.isList (Heap.IsSliceOf.new ..) .none .none (.int (-1) t) (by simp) ?_ (by rw [List.size_toArray] <;> omega)
  rw [PySem.W.krv_pick]
  refine ⟨.ref _, _, I4.laid (t' := s3.toks) (o := .lst xs.reverse) (fun b ob q => Heap.get?_push_of_some _ q) (Nat.le_refl _) ?_, rfl, q _ (I4.hok.fresh (Nat.le_refl _))⟩
  exact ⟨by rw [List.length_reverse]; exact hz, its.reverse, 0, r.reverse, Heap.get?_push_size _ rfl⟩
theorem Rps.rev {K : PySem.W.Frag} {H : Hp} : ∀ {ds : List D} {vs : List V} {F : List Addr}, Rps K H ds vs F → ∃ G, Rps K H ds.reverse vs.reverse G ∧ ∀ a ∈ G, a ∈ F
  | [], _, _, h => by simp only [Rps] at h; rw [h.1, h.2]; exact ⟨[], by simp [Rps], fun _ h => h⟩
  | d :: ds, _, _, h => by
    simp only [Rps] at h
    obtain ⟨v, ws, F1, F2, rfl, rfl, r, q⟩ := h
    obtain ⟨G, h1, h2⟩ := Rps.rev q
    refine ⟨G ++ F1, ?_, fun a ha => ?_⟩
    · rw [List.reverse_cons, List.reverse_cons]
      refine h1.append ?_
      simp only [Rps]
      exact ⟨v, [], F1, [], rfl, by simp, r, rfl, rfl⟩
    · rcases List.mem_append.mp ha with z | z
      · exact List.mem_append_right _ (h2 a z)
      · exact List.mem_append_left _ z
noncomputable def dRev (fa fk : DE) : DE := fun ρ => (fa ρ).bind fun ra => (fk ρ).bind fun rk => match ra.d, rk.d with
  | .lst xs, .int (-1) => some (newL xs.reverse ra.M)
  | _, _ => none
theorem se_rev {k : Expr} {fk : DE} (ha : SE X a fa) (hk : SE X k fk) : SE X (.Subscript a (.Slice none none (some k) p2) pos) (dRev fa fk) := fun H0 A0 =>
  (pe_rev (ha H0 A0) (hk H0 A0)).mono fun σ H Q ⟨ρ, hs, F, r', rel, e, q⟩ => by
    obtain ⟨ra, e1, e⟩ := bind1 e
    obtain ⟨rk, e2, e⟩ := bind1 e
    refine two rel e1 e2 fun x y H1 H2 G1 G2 p1 p2 => ?_
    split at e
    · rename_i xs hra hrk
      cases e
      have rp := p1.rp.same p2.same
      have rk' := p2.rp
      rw [hra] at rp
      rw [hrk] at rk'
      obtain ⟨c, vs, L, rfl, hc, rl, zl, el⟩ := rp.lst_inv
      refine ⟨c, vs, rfl, rk'.int_inv, lst_sq hc, fun p hp => ?_⟩
      obtain ⟨G, h1, h2⟩ := rl.rev
      refine q _ _ (p :: G) (Post.newL (p1.same.trans p2.same) hp h1 (by rw [List.length_reverse]; exact zl) (fun z hz => p1.src z ?_) p1.own)
      rcases el with rfl | rfl
      · exact List.mem_cons_of_mem _ (h2 z hz)
      · exact h2 z hz
    · cases e
/-! ### min, max, sum of a row of ints -/
noncomputable def rRow (K : PySem.W.Frag) (C : List Int → Int → Prop) : List V → Hp → VK → Prop := fun xs H Q => ∃ (p : Addr) (ns : List Int), xs = [.ref p] ∧ (SqL K H p (ns.map V.int) ∨ SqT K H p (ns.map V.int)) ∧ ns ≠ [] ∧ ∀ M, C ns M → Q (.int M) H
noncomputable def isMin (ns : List Int) (M : Int) : Prop := M ∈ ns ∧ ∀ a ∈ ns, M ≤ a
noncomputable def isMax (ns : List Int) (M : Int) : Prop := M ∈ ns ∧ ∀ a ∈ ns, a ≤ M
theorem ints_items {us : List Value} {ns : List Int} (hi : IntsAre us ns) : ∃ xs : Array (Int × Tok), us.toArray = intItems xs ∧ ns = xs.toList.map (·.1) := by
  obtain ⟨xs, e⟩ := hi.allInts.items
  exact ⟨xs, e, by rw [← hi.numsOf, ← nums_intItems, ← e]⟩
theorem min_intTuple {prog : Program} {w : World} {A : Around} {E : Value → Shared → Prop} {s : Shared} {l : Addr} {xs : Array (Int × Tok)} {Q : Value → Shared → Prop} (hh : A.handled = none) (hl : s.heap.IsTuple l (intItems xs)) (hne : 0 < xs.size)
    (h : ∀ v h' tk, (intItems xs)[argBest (fun i j => decide (numAt xs i < numAt xs j)) (xs.size - 1)]? = some v → (∀ b o, s.heap.get? b = some o → h'.get? b = some o) → Q v { s with heap := h', toks := tk }) :
    wpAny (model prog w) A (call (.builtin "min") [.ref l]) Q E s := by
  have hlt : l < s.heap.objs.size := by obtain ⟨_, e, _⟩ := hl; exact Heap.lt_size e
  refine call_min_walk (wpAny_pyIter_tuple hl ?_)
  refine ⟨_, [_, l], [_], _, _, _, _, rfl, Walks.tuple (A := A.in1) hh _ l (Nat.ne_of_lt hlt) (intItems xs), ⟨⟨_, Heap.get?_push_size _ rfl, rfl, rfl⟩, hl.push _⟩, fun b hb => ?_, by simpa [intItems] using hne, CmpOf.ints_lt (numAt xs) (fun _ _ => intItems_at), fun v h' tk hP hk => ?_⟩
  · show b < (s.heap.push _).objs.size
    rw [Heap.size_push]
    rcases List.mem_cons.mp hb with rfl | hb
    · exact Nat.lt_succ_self _
    · rcases List.mem_cons.mp hb with rfl | hb
      · exact Nat.lt_succ_of_lt hlt
      · cases hb
  · refine h v h' tk (by simpa [intItems] using hP) fun b o e => ?_
    refine hk b o (fun hm => ?_) (Heap.get?_push_of_some _ e)
    rcases List.mem_cons.mp hm with e1 | hm
    · exact absurd (e1 ▸ Heap.lt_size e) (Nat.lt_irrefl _)
    · cases hm
theorem call_min1 (hc : X.calm = true) : CallR X (.builtin "min") (rRow X.K isMin) := by
  intro pins s σ H xs us Q I r h
  obtain ⟨p, ns, rfl, hq, hne, q⟩ := h
  obtain ⟨u, rfl, rx⟩ := vals1 r
  cases rx
  rcases hq with hq | hq
  · obtain ⟨its, r', pl, hz⟩ := I.list hq
    obtain ⟨ys, e, hns⟩ := ints_items (vals_ints r')
    have hl := pl.isList
    rw [e] at hl
    have hsz : 0 < ys.size := by
      rcases Nat.eq_zero_or_pos ys.size with z | z
      · exact absurd (by rw [hns, List.map_eq_nil_iff]; exact List.eq_nil_of_length_eq_zero (by simpa using z)) hne
      · exact z
    refine min_intList (I.ok.hd hc) hl hsz fun v h' tk hv hk => ?_
    obtain ⟨t, rfl⟩ := intItems_at hv
    obtain ⟨h1, h2⟩ := argBest_lt (numAt ys) (ys.size - 1)
    refine ⟨.int _, H, I.kept hk, ⟨t, rfl⟩, q _ ⟨?_, fun a ha => ?_⟩⟩
    · rw [hns, numAt_eq]; exact getD_mem (by rw [List.length_map, Array.length_toList]; omega)
    · rw [hns] at ha
      obtain ⟨j, hj, rfl⟩ := mem_getD ha
      rw [List.length_map, Array.length_toList] at hj
      rw [← numAt_eq]; exact h2 j (by omega)
  · obtain ⟨its, r', pl, hz⟩ := I.tuple hq
    obtain ⟨ys, e, hns⟩ := ints_items (vals_ints r')
    have hl := pl
    rw [e] at hl
    have hsz : 0 < ys.size := by
      rcases Nat.eq_zero_or_pos ys.size with z | z
      · exact absurd (by rw [hns, List.map_eq_nil_iff]; exact List.eq_nil_of_length_eq_zero (by simpa using z)) hne
      · exact z
    refine min_intTuple (I.ok.hd hc) hl hsz fun v h' tk hv hk => ?_
    obtain ⟨t, rfl⟩ := intItems_at hv
    obtain ⟨h1, h2⟩ := argBest_lt (numAt ys) (ys.size - 1)
    refine ⟨.int _, H, I.kept hk, ⟨t, rfl⟩, q _ ⟨?_, fun a ha => ?_⟩⟩
    · rw [hns, numAt_eq]; exact getD_mem (by rw [List.length_map, Array.length_toList]; omega)
    · rw [hns] at ha
      obtain ⟨j, hj, rfl⟩ := mem_getD ha
      rw [List.length_map, Array.length_toList] at hj
      rw [← numAt_eq]; exact h2 j (by omega)
theorem max_intTuple {prog : Program} {w : World} {A : Around} {E : Value → Shared → Prop} {s : Shared} {l : Addr} {xs : Array (Int × Tok)} {Q : Value → Shared → Prop} (hh : A.handled = none) (hl : s.heap.IsTuple l (intItems xs)) (hne : 0 < xs.size)
    (h : ∀ v h' tk, (intItems xs)[argBest (fun i j => decide (numAt xs i > numAt xs j)) (xs.size - 1)]? = some v → (∀ b o, s.heap.get? b = some o → h'.get? b = some o) → Q v { s with heap := h', toks := tk }) :
    wpAny (model prog w) A (call (.builtin "max") [.ref l]) Q E s := by
  have hlt : l < s.heap.objs.size := by obtain ⟨_, e, _⟩ := hl; exact Heap.lt_size e
  refine call_max_walk (wpAny_pyIter_tuple hl ?_)
  refine ⟨_, [_, l], [_], _, _, _, _, rfl, Walks.tuple (A := A.in1) hh _ l (Nat.ne_of_lt hlt) (intItems xs), ⟨⟨_, Heap.get?_push_size _ rfl, rfl, rfl⟩, hl.push _⟩, fun b hb => ?_, by simpa [intItems] using hne, CmpOf.ints_gt (numAt xs) (fun _ _ => intItems_at), fun v h' tk hP hk => ?_⟩
  · show b < (s.heap.push _).objs.size
    rw [Heap.size_push]
    rcases List.mem_cons.mp hb with rfl | hb
    · exact Nat.lt_succ_self _
    · rcases List.mem_cons.mp hb with rfl | hb
      · exact Nat.lt_succ_of_lt hlt
      · cases hb
  · refine h v h' tk (by simpa [intItems] using hP) fun b o e => ?_
    refine hk b o (fun hm => ?_) (Heap.get?_push_of_some _ e)
    rcases List.mem_cons.mp hm with e1 | hm
    · exact absurd (e1 ▸ Heap.lt_size e) (Nat.lt_irrefl _)
    · cases hm
theorem call_max1 (hc : X.calm = true) : CallR X (.builtin "max") (rRow X.K isMax) := by
  intro pins s σ H xs us Q I r h
  obtain ⟨p, ns, rfl, hq, hne, q⟩ := h
  obtain ⟨u, rfl, rx⟩ := vals1 r
  cases rx
  rcases hq with hq | hq
  · obtain ⟨its, r', pl, hz⟩ := I.list hq
    obtain ⟨ys, e, hns⟩ := ints_items (vals_ints r')
    have hl := pl.isList
    rw [e] at hl
    have hsz : 0 < ys.size := by
      rcases Nat.eq_zero_or_pos ys.size with z | z
      · exact absurd (by rw [hns, List.map_eq_nil_iff]; exact List.eq_nil_of_length_eq_zero (by simpa using z)) hne
      · exact z
    refine max_intList (I.ok.hd hc) hl hsz fun v h' tk hv hk => ?_
    obtain ⟨t, rfl⟩ := intItems_at hv
    obtain ⟨h1, h2⟩ := argBest_gt (numAt ys) (ys.size - 1)
    refine ⟨.int _, H, I.kept hk, ⟨t, rfl⟩, q _ ⟨?_, fun a ha => ?_⟩⟩
    · rw [hns, numAt_eq]; exact getD_mem (by rw [List.length_map, Array.length_toList]; omega)
    · rw [hns] at ha
      obtain ⟨j, hj, rfl⟩ := mem_getD ha
      rw [List.length_map, Array.length_toList] at hj
      rw [← numAt_eq]; exact h2 j (by omega)
  · obtain ⟨its, r', pl, hz⟩ := I.tuple hq
    obtain ⟨ys, e, hns⟩ := ints_items (vals_ints r')
    have hl := pl
    rw [e] at hl
    have hsz : 0 < ys.size := by
      rcases Nat.eq_zero_or_pos ys.size with z | z
      · exact absurd (by rw [hns, List.map_eq_nil_iff]; exact List.eq_nil_of_length_eq_zero (by simpa using z)) hne
      · exact z
    refine max_intTuple (I.ok.hd hc) hl hsz fun v h' tk hv hk => ?_
    obtain ⟨t, rfl⟩ := intItems_at hv
    obtain ⟨h1, h2⟩ := argBest_gt (numAt ys) (ys.size - 1)
    refine ⟨.int _, H, I.kept hk, ⟨t, rfl⟩, q _ ⟨?_, fun a ha => ?_⟩⟩
    · rw [hns, numAt_eq]; exact getD_mem (by rw [List.length_map, Array.length_toList]; omega)
    · rw [hns] at ha
      obtain ⟨j, hj, rfl⟩ := mem_getD ha
      rw [List.length_map, Array.length_toList] at hj
      rw [← numAt_eq]; exact h2 j (by omega)
theorem sum_intTuple {prog : Program} {w : World} {A : Around} {E : Value → Shared → Prop} {s : Shared} {l : Addr} {xs : Array (Int × Tok)} {Q : Value → Shared → Prop} (hh : A.handled = none) (hl : s.heap.IsTuple l (intItems xs))
    (h : ∀ h' tk t', (∀ b o, s.heap.get? b = some o → h'.get? b = some o) → Q (.int (preSum (numAt xs) xs.size) t') { s with heap := h', toks := tk }) :
    wpAny (model prog w) A (call (.builtin "sum") [.ref l]) Q E s := by
  have hlt : l < s.heap.objs.size := by obtain ⟨_, e, _⟩ := hl; exact Heap.lt_size e
  refine call_sum_walkG (wpAny_pyIter_tuple hl ?_)
  refine ⟨_, [_, l], [_], _, _, _, numAt xs, rfl, Walks.tuple (A := A.in1) hh _ l (Nat.ne_of_lt hlt) (intItems xs), ⟨⟨_, Heap.get?_push_size _ rfl, rfl, rfl⟩, hl.push _⟩, fun b hb => ?_, (fun _ _ => intItems_at), fun h' tk t' hk => ?_⟩
  · show b < (s.heap.push _).objs.size
    rw [Heap.size_push]
    rcases List.mem_cons.mp hb with rfl | hb
    · exact Nat.lt_succ_self _
    · rcases List.mem_cons.mp hb with rfl | hb
      · exact Nat.lt_succ_of_lt hlt
      · cases hb
  · have := h h' tk t' fun b o e => by
      refine hk b o (fun hm => ?_) (Heap.get?_push_of_some _ e)
      rcases List.mem_cons.mp hm with e1 | hm
      · exact absurd (e1 ▸ Heap.lt_size e) (Nat.lt_irrefl _)
      · cases hm
    simpa [intItems] using this
noncomputable def rSum (K : PySem.W.Frag) : List V → Hp → VK → Prop := fun xs H Q => ∃ (p : Addr) (ns : List Int), xs = [.ref p] ∧ (SqL K H p (ns.map V.int) ∨ SqT K H p (ns.map V.int)) ∧ Q (.int ns.sum) H
theorem call_sum1 (hc : X.calm = true) : CallR X (.builtin "sum") (rSum X.K) := by
  intro pins s σ H xs us Q I r h
  obtain ⟨p, ns, rfl, hq, q⟩ := h
  obtain ⟨u, rfl, rx⟩ := vals1 r
  cases rx
  rcases hq with hq | hq
  · obtain ⟨its, r', pl, hz⟩ := I.list hq
    obtain ⟨ys, e, hns⟩ := ints_items (vals_ints r')
    have hl := pl.isList
    rw [e] at hl
    refine sum_intListG (I.ok.hd hc) hl fun h' tk t' hk => ?_
    refine ⟨.int ns.sum, H, I.kept hk, ⟨t', ?_⟩, q⟩
    rw [preSum_eq, List.take_of_length_le (by simp), hns]
  · obtain ⟨its, r', pl, hz⟩ := I.tuple hq
    obtain ⟨ys, e, hns⟩ := ints_items (vals_ints r')
    have hl := pl
    rw [e] at hl
    refine sum_intTuple (I.ok.hd hc) hl fun h' tk t' hk => ?_
    refine ⟨.int ns.sum, H, I.kept hk, ⟨t', ?_⟩, q⟩
    rw [preSum_eq, List.take_of_length_le (by simp), hns]
theorem call_all1 (hc : X.calm = true) : CallR X (.builtin "all") (fun xs H Q => ∃ (p : Addr) (ns : List Bool), xs = [.ref p] ∧ SqL X.K H p (ns.map V.bl) ∧ Q (.bl (ns.all id)) H) := by
  intro pins s σ H xs us Q I r h
  obtain ⟨p, ns, rfl, hq, q⟩ := h
  obtain ⟨u, rfl, rx⟩ := vals1 r
  cases rx
  obtain ⟨its, r', pl, hz⟩ := I.list hq
  have hb := bools_of r'
  have hl := pl.isList
  have hlt : p < s.heap.objs.size := by obtain ⟨_, e, _⟩ := hl; exact Heap.lt_size e
  refine call_all_walk (wpAny_pyIter_list hl ?_)
  refine ⟨s.heap.objs.size, [s.heap.objs.size, p], [s.heap.objs.size], its.toArray.size, _, _, fun i => (ns[i]?).getD true, rfl, Walks.list (A := X.A.in1) (I.ok.hd hc) _ p (Nat.ne_of_lt hlt) its.toArray,
    ⟨⟨_, Heap.get?_push_size _ rfl, rfl, rfl⟩, hl.push _⟩, fun i v s' Q' E' hP hQ => ?_, fun h' tk hk => ?_⟩
  · obtain ⟨b, e, rfl⟩ := hb.get i v (by simpa using hP)
    simp only [e, Option.getD_some] at hQ
    exact wpAny_truthy_bool hQ
  · have e : ((List.range its.toArray.size).all fun i => (ns[i]?).getD true) = ns.all id := by
      rw [List.size_toArray, hb.length]; exact LSm.range_all ns
    rw [e]
    exact ⟨.bl (ns.all id), H, I.kept (LSm.kept_iter hk), rfl, q⟩
theorem call_any1 (hc : X.calm = true) : CallR X (.builtin "any") (fun xs H Q => ∃ (p : Addr) (ns : List Bool), xs = [.ref p] ∧ SqL X.K H p (ns.map V.bl) ∧ Q (.bl (ns.any id)) H) := by
  intro pins s σ H xs us Q I r h
  obtain ⟨p, ns, rfl, hq, q⟩ := h
  obtain ⟨u, rfl, rx⟩ := vals1 r
  cases rx
  obtain ⟨its, r', pl, hz⟩ := I.list hq
  have hb := bools_of r'
  have hl := pl.isList
  have hlt : p < s.heap.objs.size := by obtain ⟨_, e, _⟩ := hl; exact Heap.lt_size e
  refine call_any_walk (wpAny_pyIter_list hl ?_)
  refine ⟨s.heap.objs.size, [s.heap.objs.size, p], [s.heap.objs.size], its.toArray.size, _, _, fun i => (ns[i]?).getD false, rfl, Walks.list (A := X.A.in1) (I.ok.hd hc) _ p (Nat.ne_of_lt hlt) its.toArray,
    ⟨⟨_, Heap.get?_push_size _ rfl, rfl, rfl⟩, hl.push _⟩, fun i v s' Q' E' hP hQ => ?_, fun h' tk hk => ?_⟩
  · obtain ⟨b, e, rfl⟩ := hb.get i v (by simpa using hP)
    simp only [e, Option.getD_some] at hQ
    exact wpAny_truthy_bool hQ
  · have e : ((List.range its.toArray.size).any fun i => (ns[i]?).getD false) = ns.any id := by
      rw [List.size_toArray, hb.length]; exact LSm.range_any ns
    rw [e]
    exact ⟨.bl (ns.any id), H, I.kept (LSm.kept_iter hk), rfl, q⟩
noncomputable def minI : List Int → Option Int
  | [] => none
  | [n] => some n
  | n :: r => (minI r).map fun m => if m < n then m else n
noncomputable def maxI : List Int → Option Int
  | [] => none
  | [n] => some n
  | n :: r => (maxI r).map fun m => if n < m then m else n
theorem minI_ok : ∀ {ns : List Int} {m : Int}, minI ns = some m → isMin ns m
  | [], _, h => by cases h
  | [n], _, h => by cases h; exact ⟨by simp, fun a ha => by simp at ha; omega⟩
  | n :: k :: r, m, h => by
    simp only [minI] at h
    obtain ⟨m', h1, rfl⟩ := Option.map_eq_some_iff.mp h
    obtain ⟨h2, h3⟩ := minI_ok h1
    constructor
    · split
      · exact List.mem_cons_of_mem _ h2
      · exact List.mem_cons_self
    · intro a ha
      rcases List.mem_cons.mp ha with rfl | ha
      · split <;> omega
      · have := h3 a ha; split <;> omega
theorem maxI_ok : ∀ {ns : List Int} {m : Int}, maxI ns = some m → isMax ns m
  | [], _, h => by cases h
  | [n], _, h => by cases h; exact ⟨by simp, fun a ha => by simp at ha; omega⟩
  | n :: k :: r, m, h => by
    simp only [maxI] at h
    obtain ⟨m', h1, rfl⟩ := Option.map_eq_some_iff.mp h
    obtain ⟨h2, h3⟩ := maxI_ok h1
    constructor
    · split
      · exact List.mem_cons_of_mem _ h2
      · exact List.mem_cons_self
    · intro a ha
      rcases List.mem_cons.mp ha with rfl | ha
      · split <;> omega
      · have := h3 a ha; split <;> omega
theorem isMin_one {ns : List Int} {a b : Int} (h : isMin ns a) (g : isMin ns b) : a = b := by have := h.2 b g.1; have := g.2 a h.1; omega
theorem isMax_one {ns : List Int} {a b : Int} (h : isMax ns a) (g : isMax ns b) : a = b := by have := h.2 b g.1; have := g.2 a h.1; omega
noncomputable def gMin1 : List D → Option D
  | [.lst xs] => (dInts xs).bind fun ns => (minI ns).map .int
  | [.tup xs] => (dInts xs).bind fun ns => (minI ns).map .int
  | _ => none
noncomputable def gMax1 : List D → Option D
  | [.lst xs] => (dInts xs).bind fun ns => (maxI ns).map .int
  | [.tup xs] => (dInts xs).bind fun ns => (maxI ns).map .int
  | _ => none
noncomputable def gSum1 : List D → Option D
  | [.lst xs] => (dInts xs).map fun ns => .int ns.sum
  | [.tup xs] => (dInts xs).map fun ns => .int ns.sum
  | _ => none
theorem ok_min1 {K : PySem.W.Frag} : CallOk K gMin1 (rRow K isMin) := fun ds d e => by
  unfold gMin1 at e
  split at e
  · obtain ⟨ns, h1, e⟩ := bind1 e
    obtain ⟨m, h2, rfl⟩ := Option.map_eq_some_iff.mp e
    refine ⟨rfl, fun H vs F Q r q => ?_⟩
    obtain ⟨v, rfl, rp⟩ := r.one
    obtain ⟨l, ws, L, rfl, hl, rl, zl, el⟩ := rp.lst_inv
    rw [dInts_map h1] at rl
    rw [rl.ints] at hl
    exact ⟨l, ns, rfl, .inl (lst_sq hl), fun z => (by rw [z] at h2; cases h2), fun M hM => by rw [isMin_one hM (minI_ok h2)]; exact q _ fun _ => .int_mk⟩
  · obtain ⟨ns, h1, e⟩ := bind1 e
    obtain ⟨m, h2, rfl⟩ := Option.map_eq_some_iff.mp e
    refine ⟨rfl, fun H vs F Q r q => ?_⟩
    obtain ⟨v, rfl, rp⟩ := r.one
    obtain ⟨l, ws, rfl, hl, rl⟩ := rp.tup_inv
    rw [dInts_map h1] at rl
    rw [rl.ints] at hl
    exact ⟨l, ns, rfl, .inr hl, fun z => (by rw [z] at h2; cases h2), fun M hM => by rw [isMin_one hM (minI_ok h2)]; exact q _ fun _ => .int_mk⟩
  · cases e
theorem ok_max1 {K : PySem.W.Frag} : CallOk K gMax1 (rRow K isMax) := fun ds d e => by
  unfold gMax1 at e
  split at e
  · obtain ⟨ns, h1, e⟩ := bind1 e
    obtain ⟨m, h2, rfl⟩ := Option.map_eq_some_iff.mp e
    refine ⟨rfl, fun H vs F Q r q => ?_⟩
    obtain ⟨v, rfl, rp⟩ := r.one
    obtain ⟨l, ws, L, rfl, hl, rl, zl, el⟩ := rp.lst_inv
    rw [dInts_map h1] at rl
    rw [rl.ints] at hl
    exact ⟨l, ns, rfl, .inl (lst_sq hl), fun z => (by rw [z] at h2; cases h2), fun M hM => by rw [isMax_one hM (maxI_ok h2)]; exact q _ fun _ => .int_mk⟩
  · obtain ⟨ns, h1, e⟩ := bind1 e
    obtain ⟨m, h2, rfl⟩ := Option.map_eq_some_iff.mp e
    refine ⟨rfl, fun H vs F Q r q => ?_⟩
    obtain ⟨v, rfl, rp⟩ := r.one
    obtain ⟨l, ws, rfl, hl, rl⟩ := rp.tup_inv
    rw [dInts_map h1] at rl
    rw [rl.ints] at hl
    exact ⟨l, ns, rfl, .inr hl, fun z => (by rw [z] at h2; cases h2), fun M hM => by rw [isMax_one hM (maxI_ok h2)]; exact q _ fun _ => .int_mk⟩
  · cases e
theorem ok_sum1 {K : PySem.W.Frag} : CallOk K gSum1 (rSum K) := fun ds d e => by
  unfold gSum1 at e
  split at e
  · obtain ⟨ns, h1, rfl⟩ := Option.map_eq_some_iff.mp e
    refine ⟨rfl, fun H vs F Q r q => ?_⟩
    obtain ⟨v, rfl, rp⟩ := r.one
    obtain ⟨l, ws, L, rfl, hl, rl, zl, el⟩ := rp.lst_inv
    rw [dInts_map h1] at rl
    rw [rl.ints] at hl
    exact ⟨l, ns, rfl, .inl (lst_sq hl), q _ fun _ => .int_mk⟩
  · obtain ⟨ns, h1, rfl⟩ := Option.map_eq_some_iff.mp e
    refine ⟨rfl, fun H vs F Q r q => ?_⟩
    obtain ⟨v, rfl, rp⟩ := r.one
    obtain ⟨l, ws, rfl, hl, rl⟩ := rp.tup_inv
    rw [dInts_map h1] at rl
    rw [rl.ints] at hl
    exact ⟨l, ns, rfl, .inr hl, q _ fun _ => .int_mk⟩
  · cases e
noncomputable def gAll1 : List D → Option D
  | [.lst xs] => (dBls xs).map fun ns => .bl (ns.all id)
  | _ => none
theorem ok_all1 {K : PySem.W.Frag} : CallOk K gAll1 (fun xs H Q => ∃ (p : Addr) (ns : List Bool), xs = [.ref p] ∧ SqL K H p (ns.map V.bl) ∧ Q (.bl (ns.all id)) H) := fun ds d e => by
  unfold gAll1 at e
  split at e
  · obtain ⟨ns, h1, rfl⟩ := Option.map_eq_some_iff.mp e
    refine ⟨rfl, fun H vs F Q r q => ?_⟩
    obtain ⟨v, rfl, rp⟩ := r.one
    obtain ⟨l, ws, L, rfl, hl, rl, zl, el⟩ := rp.lst_inv
    rw [dBls_map h1] at rl
    rw [rl.bls] at hl
    exact ⟨l, ns, rfl, lst_sq hl, q _ fun _ => .bl_mk⟩
  · cases e
noncomputable def gAny1 : List D → Option D
  | [.lst xs] => (dBls xs).map fun ns => .bl (ns.any id)
  | _ => none
theorem ok_any1 {K : PySem.W.Frag} : CallOk K gAny1 (fun xs H Q => ∃ (p : Addr) (ns : List Bool), xs = [.ref p] ∧ SqL K H p (ns.map V.bl) ∧ Q (.bl (ns.any id)) H) := fun ds d e => by
  unfold gAny1 at e
  split at e
  · obtain ⟨ns, h1, rfl⟩ := Option.map_eq_some_iff.mp e
    refine ⟨rfl, fun H vs F Q r q => ?_⟩
    obtain ⟨v, rfl, rp⟩ := r.one
    obtain ⟨l, ws, L, rfl, hl, rl, zl, el⟩ := rp.lst_inv
    rw [dBls_map h1] at rl
    rw [rl.bls] at hl
    exact ⟨l, ns, rfl, lst_sq hl, q _ fun _ => .bl_mk⟩
  · cases e
/-! ### is True, is False -/
noncomputable def gIsX (neg : Bool) (a b : D) : Option D := match a, b with
  | a, .non => some (.bl (if neg then !a.isNon else a.isNon))
  | .bl x, .bl y => some (.bl (if neg then !(x == y) else x == y))
  | _, _ => none
theorem op_isB : OpR X (compareOp .Is) (fun x y H Q => ∃ c d, x = .bl c ∧ y = .bl d ∧ Q (.bl (c == d)) H) := by
  intro pins s σ H x y v u Q I rx ry h
  obtain ⟨c, d, rfl, rfl, q⟩ := h
  cases rx
  cases ry
  exact PyProof.Rows.is_bool (fin_bl I q rfl)
theorem op_notB : OpR X (compareOp .IsNot) (fun x y H Q => ∃ c d, x = .bl c ∧ y = .bl d ∧ Q (.bl (!(c == d))) H) := by
  intro pins s σ H x y v u Q I rx ry h
  obtain ⟨c, d, rfl, rfl, q⟩ := h
  cases rx
  cases ry
  exact PyProof.Rows.isnot_bool (fin_bl I q rfl)
theorem ok_isX {K : PySem.W.Frag} : OpOk K (gIsX false) (fun x y H Q => (y = .non ∧ Q (.bl (decide (x = .non))) H) ∨ ∃ c d, x = .bl c ∧ y = .bl d ∧ Q (.bl (c == d)) H) := fun a b d e => by
  unfold gIsX at e
  split at e
  · cases e
    exact ⟨rfl, fun H x y F G Q ha hb q => .inl ⟨hb.non_inv, by rw [isNon_v ha]; exact q _ fun _ => .bl_mk⟩⟩
  · cases e
    exact ⟨rfl, fun H x y F G Q ha hb q => .inr ⟨_, _, ha.bl_inv, hb.bl_inv, q _ fun _ => .bl_mk⟩⟩
  · cases e
theorem ok_isnotX {K : PySem.W.Frag} : OpOk K (gIsX true) (fun x y H Q => (y = .non ∧ Q (.bl (!decide (x = .non))) H) ∨ ∃ c d, x = .bl c ∧ y = .bl d ∧ Q (.bl (!(c == d))) H) := fun a b d e => by
  unfold gIsX at e
  split at e
  · cases e
    exact ⟨rfl, fun H x y F G Q ha hb q => .inl ⟨hb.non_inv, by rw [isNon_v ha]; exact q _ fun _ => .bl_mk⟩⟩
  · cases e
    exact ⟨rfl, fun H x y F G Q ha hb q => .inr ⟨_, _, ha.bl_inv, hb.bl_inv, q _ fun _ => .bl_mk⟩⟩
  · cases e
theorem gIsX_bl {neg : Bool} : ∀ a b d, gIsX neg a b = some d → ∃ k, d = .bl k := fun a b d h => by
  unfold gIsX at h
  split at h <;> cases h <;> exact ⟨_, rfl⟩
/-! ### int(..) of an int or a bool -/
noncomputable def gInt : List D → Option D
  | [.int i] => some (.int i)
  | [.bl k] => some (.int (if k then 1 else 0))
  | _ => none
theorem ok_int {K : PySem.W.Frag} : CallOk K gInt (fun xs H Q => (∃ i, xs = [.int i] ∧ Q (.int i) H) ∨ ∃ k, xs = [.bl k] ∧ Q (.int (if k then 1 else 0)) H) := fun ds d e => by
  unfold gInt at e
  split at e
  · cases e
    refine ⟨rfl, fun H vs F Q r q => ?_⟩
    obtain ⟨v, rfl, rp⟩ := r.one
    exact .inl ⟨_, by rw [rp.int_inv], q _ fun _ => .int_mk⟩
  · cases e
    refine ⟨rfl, fun H vs F Q r q => ?_⟩
    obtain ⟨v, rfl, rp⟩ := r.one
    exact .inr ⟨_, by rw [rp.bl_inv], q _ fun _ => .int_mk⟩
  · cases e
theorem se_bty {x : Str} {T : String} {g : List D → Option D} {r : List V → Hp → VK → Prop} {p : Pos} (hc : CallR X (.type T) r) (hk : CallOk X.K g r) (hg : Gl X x) (hm : X.mg x = none) (hv : bootBuiltins x = some (.type T)) (ha : SA X (e :: es) fs) (hn : x ≠ "__name__") (hdb : (x == ("__debug__" : Str)) = false)
    (he : starEach (e :: es) X.env = (false, eval e X.env) :: starEach es X.env) (hpl : (backTo pos (starEach es X.env)).any (·.1) = false) : SE X (.Call (.Name x p) (e :: es) [] pos) (dBf g fs) := fun H0 A0 =>
  (pe_callTy hc hg hm hv (ha H0 A0) hn hdb he hpl).mono fun σ H Q ⟨ρ, hs, F, r', rel, e, q⟩ => by
    obtain ⟨ra, e1, e⟩ := bind1 e
    obtain ⟨d, ed, e⟩ := Option.map_eq_some_iff.mp e
    subst e
    exact ⟨ρ, hs, F, ra, rel, e1, fun vs H1 G p1 => (hk _ _ ed).2 H1 vs G Q p1.rp fun v hv => q v H1 [] (.flat p1.same (hv _) (hk _ _ ed).1)⟩
/-! ### divmod -/
end
end HS
namespace HS
open PySem PySem.Spec L2 PyProof.Rows
theorem vals_of_get : ∀ {vs : List V} {us : List Value}, us.length = vs.length → (∀ (k : Nat) (v : V), vs[k]? = some v → ∃ u, us[k]? = some u ∧ RelV v u) → Vals vs us
  | [], [], _, _ => .nil
  | [], _ :: _, h, _ => by simp at h
  | _ :: _, [], h, _ => by simp at h
  | v :: vs, u :: us, h, g => by
    obtain ⟨u', e, r⟩ := g 0 v rfl
    cases e
    exact .cons r (vals_of_get (by simpa using h) fun k v hk => g (k + 1) v hk)
section
variable {X : Cx} {a b c e tg : Expr} {es : List Expr} {fa fb fc : DE} {fs : DA} {pos p2 : Pos}
/-! ### list(range(n)) -/
theorem lrange_it {pins : List (Addr × Obj)} {σ : L2.St} {H : Hp} {s : Shared} {Q : VK} {E : Value → Shared → Prop} {j : Int} {t u v : Tok} {tk : Nat} (I : Inv X pins σ H s) (hc : X.calm = true) (h0 : 0 ≤ j) (h1 : j ≤ 1000000)
    (q : ∀ l, H l = none → Q (.ref l) (upd H l (.lst ((List.range j.toNat).map fun (k : Nat) => V.int (k : Int))))) :
    wpAny (model X.prog X.w) X.A (call (.type "list") [.ref s.heap.objs.size]) (EP X pins σ Q) E { s with heap := s.heap.push { cls := .type "range", data := .fields #[.int 0 t, .int j u, .int 1 v] }, toks := tk } := by
  have I2 : Inv X pins σ H { s with heap := s.heap.push { cls := .type "range", data := .fields #[.int 0 t, .int j u, .int 1 v] }, toks := tk } := I.kept fun b o e => Heap.get?_push_of_some _ e
  refine call_list_range (n := j.toNat) (I.ok.hd hc) (IsRange.new ..) (small_one (by omega) (by omega) (by omega) (by omega)) (by rw [rangeSize_one]; split <;> omega) (by omega) fun h' tk' acc' c' hk hS hacc => ?_
  have hv : Vals ((List.range j.toNat).map fun (k : Nat) => V.int (k : Int)) acc'.toList := by
    have hl := hacc.1
    refine vals_of_get (by simp [hl]) fun k v hk => ?_
    rw [List.getElem?_map] at hk
    have hkl : k < j.toNat := by
      by_cases z : k < j.toNat
      · exact z
      · rw [List.getElem?_eq_none (by simp; omega)] at hk; cases hk
    rw [List.getElem?_range hkl] at hk
    cases hk
    obtain ⟨w, hw⟩ : ∃ w, acc'[k]? = some w := ⟨acc'[k]'(by omega), by rw [Array.getElem?_eq_getElem (by omega)]⟩
    obtain ⟨t', rfl⟩ := hacc.2 k w hw
    exact ⟨_, by rw [Array.getElem?_toList]; exact hw, ⟨t', by simp⟩⟩
  refine ⟨.ref _, _, I2.laid hk (Nat.le_refl _) (show ObjOk X.prog X.w _ h' _ (.lst _) from ⟨by simp [line_eq]; omega, acc'.toList, c', hv, by simpa using hS⟩), rfl, q _ (I2.hok.fresh (Nat.le_refl _))⟩
theorem pe_lrange {p p' pos' : Pos} {ta : TA} (hg : Gl X "list") (hm : X.mg "list" = none) (hg' : Gl X "range") (hm' : X.mg "range" = none) (hc : X.calm = true) (ha : PA X [a] ta) (hs : starEach [a] X.env = [(false, eval a X.env)]) :
    PE X (.Call (.Name "list" p) [.Call (.Name "range" p') [a] [] pos'] [] pos) (fun σ H Q => ta σ H fun vs H1 => ∃ j : Int, vs = [.int j] ∧ 0 ≤ j ∧ j ≤ 1000000 ∧ ∀ l, H1 l = none → Q (.ref l) (upd H1 l (.lst ((List.range j.toNat).map fun (k : Nat) => V.int (k : Int))))) := by
  intro pins s σ H Q I h
  refine wpAny_Call_Name_kw (ld_blt I hg hm boot_list ?_ (by decide) (by decide))
  refine PyProof.Rows.callWith_type1 (Calls.spliced_cons ?_) rfl rfl
  refine Call_ (ld_blt I hg' hm' boot_range (PyProof.Rows.callWith_type1 (thn (ha pos' pins s σ H _ I h) fun us s1 ⟨vs, H1, I1, r1, q1⟩ => ?_) hs rfl))
  obtain ⟨j, e, q1, q2, q⟩ := q1
  subst e
  cases r1 with
  | cons r rr =>
    cases rr
    obtain ⟨t, rfl⟩ := r
    exact call_range_1 (Calls.spliced_nil (lrange_it I1 hc q1 q2 q))
noncomputable def dLrng (fa : DE) : DE := fun ρ => (fa ρ).bind fun r => match r.d with
  | .int j => if 0 ≤ j ∧ j ≤ 1000000 then some ⟨.lst ((List.range j.toNat).map fun (k : Nat) => .int (k : Int)), true, []⟩ else none
  | _ => none
theorem Rps.ofInts {K : PySem.W.Frag} {H : Hp} : ∀ ns : List Int, Rps K H (ns.map .int) (ns.map .int) []
  | [] => by simp [Rps]
  | n :: ns => by simp only [List.map_cons, Rps]; exact ⟨_, _, [], [], rfl, rfl, .int_mk, Rps.ofInts ns⟩
theorem flatsI : ∀ ns : List Int, flats (ns.map .int) = true
  | [] => rfl
  | n :: ns => by simp [flats, D.flat, flatsI ns]
theorem se_lrng {p p' pos' : Pos} (hg : Gl X "list") (hm : X.mg "list" = none) (hg' : Gl X "range") (hm' : X.mg "range" = none) (hc : X.calm = true) (ha : SE X a fa) (hs : starEach [a] X.env = [(false, eval a X.env)]) :
    SE X (.Call (.Name "list" p) [.Call (.Name "range" p') [a] [] pos'] [] pos) (dLrng fa) := fun H0 A0 =>
  (pe_lrange hg hm hg' hm' hc (pa_cons (ha H0 A0) pa_nil hs) hs).mono fun σ H Q ⟨ρ, hs, F, r', rel, e, q⟩ => by
    obtain ⟨ra, e1, e⟩ := bind1 e
    refine ⟨ρ, hs, F, ra, rel, e1, fun v H1 G p1 => ?_⟩
    cases hd : ra.d with
    | int j =>
      rw [hd] at e
      dsimp only at e
      split at e
      · rename_i hj
        cases e
        have rp := p1.rp
        rw [hd] at rp
        refine ⟨j, by rw [rp.int_inv], hj.1, hj.2, fun l hl => ?_⟩
        have e2 : ((List.range j.toNat).map fun (k : Nat) => D.int (k : Int)) = ((List.range j.toNat).map fun (k : Nat) => (k : Int)).map D.int := by rw [List.map_map]; rfl
        have e3 : ((List.range j.toNat).map fun (k : Nat) => V.int (k : Int)) = ((List.range j.toNat).map fun (k : Nat) => (k : Int)).map V.int := by rw [List.map_map]; rfl
        have := Post.newL (M := []) (ρ := ρ) (F := F) p1.same hl (Rps.ofInts (K := X.K) (H := H1) ((List.range j.toNat).map fun (k : Nat) => (k : Int))) (by simp [line_eq]; omega) Src.nil Owns.nil
        rw [← e2, ← e3] at this
        unfold newL at this
        rw [if_pos (by rw [e2]; exact flatsI _)] at this
        exact q _ _ _ this
      · cases e
    | _ => rw [hd] at e; cases e
/-! ### range(a, b, -1) -/
/-! ### n.bit_length() -/
/-! ### sorted(list of ints), fewer than 64 -/
noncomputable def insI (x : Int) : List Int → List Int
  | [] => [x]
  | y :: r => if x ≤ y then x :: y :: r else y :: insI x r
noncomputable def srtI : List Int → List Int
  | [] => []
  | x :: r => insI x (srtI r)
theorem insI_perm (x : Int) : ∀ l : List Int, (insI x l).Perm (x :: l)
  | [] => .refl _
  | y :: r => by
    unfold insI
    split
    · exact .refl _
    · exact ((insI_perm x r).cons y).trans (.swap x y r)
theorem srtI_perm : ∀ l : List Int, (srtI l).Perm l
  | [] => .refl _
  | x :: r => (insI_perm x (srtI r)).trans ((srtI_perm r).cons x)
theorem insI_sorted (x : Int) : ∀ l : List Int, l.Pairwise (· ≤ ·) → (insI x l).Pairwise (· ≤ ·)
  | [], _ => by simp [insI]
  | y :: r, h => by
    unfold insI
    have h1 := List.pairwise_cons.mp h
    split
    · rename_i hxy
      refine List.pairwise_cons.mpr ⟨fun z hz => ?_, h⟩
      rcases List.mem_cons.mp hz with rfl | hz
      · exact hxy
      · exact Int.le_trans hxy (h1.1 z hz)
    · rename_i hxy
      refine List.pairwise_cons.mpr ⟨fun z hz => ?_, insI_sorted x r h1.2⟩
      rcases List.mem_cons.mp ((insI_perm x r).mem_iff.mp hz) with rfl | hz
      · omega
      · exact h1.1 z hz
theorem srtI_sorted : ∀ l : List Int, (srtI l).Pairwise (· ≤ ·)
  | [] => .nil
  | x :: r => insI_sorted x _ (srtI_sorted r)
theorem sorted_one : ∀ {l l' : List Int}, l.Pairwise (· ≤ ·) → l'.Pairwise (· ≤ ·) → l.Perm l' → l = l'
  | [], l', _, _, p => (List.Perm.nil_eq p)
  | x :: l, [], _, _, p => by have := p.length_eq; simp at this
  | x :: l, y :: l', h, h', p => by
    have h1 := List.pairwise_cons.mp h
    have h2 := List.pairwise_cons.mp h'
    have e : x = y := by
      have a := p.mem_iff.mp (List.mem_cons_self (a := x) (l := l))
      have b := p.mem_iff.mpr (List.mem_cons_self (a := y) (l := l'))
      rcases List.mem_cons.mp a with a | a
      · exact a
      · rcases List.mem_cons.mp b with b | b
        · exact b.symm
        · have := h1.1 y b; have := h2.1 x a; omega
    subst e
    rw [sorted_one h1.2 h2.2 (List.Perm.cons_inv p)]
theorem call_sorted1 : CallR X (.builtin "sorted") (fun xs H Q => ∃ (p : Addr) (ns : List Int), xs = [.ref p] ∧ SqL X.K H p (ns.map V.int) ∧ ns.length < 64 ∧ ∀ l, H l = none → Q (.ref l) (upd H l (.lst ((srtI ns).map V.int)))) := by
  intro pins s σ H xs us Q I r h
  obtain ⟨p, ns, rfl, hq, hl64, q⟩ := h
  obtain ⟨u, rfl, rx⟩ := vals1 r
  cases rx
  obtain ⟨its, r', pl, hz⟩ := I.list hq
  have hI := vals_ints r'
  refine sorted_ints pl.isList hI (by rw [← hI.length] at *; simpa using hl64) fun out ns' a1 a2 a3 => ?_
  have e : ns' = srtI ns := sorted_one a3 (srtI_sorted ns) (a2.trans (srtI_perm ns).symm)
  subst e
  obtain ⟨ep, hat⟩ := sortedAll_at s.heap its out
  refine ⟨.ref (s.heap.objs.size + 1), _, I.laid (t' := s.toks) (o := .lst ((srtI ns).map V.int)) (fun b o hb => ?_) (Nat.le_succ _) ⟨?_, out.toList, ep, L2.vals_ints a1, by simpa using hat⟩, rfl, q _ (I.hok.fresh (Nat.le_succ _))⟩
  · exact sortedAll_old hb
  · rw [List.length_map, (srtI_perm ns).length_eq, line_eq]; omega
noncomputable def dSort (fs : DA) : DE := fun ρ => (fs ρ).bind fun r => match r.ds with
  | [.lst xs] => (dInts xs).bind fun ns => if ns.length < 64 then some ⟨.lst ((srtI ns).map .int), true, []⟩ else none
  | _ => none
theorem se_sort {p : Pos} (hg : Gl X "sorted") (hm : X.mg "sorted" = none) (ha : SA X (e :: es) fs) (he : starEach (e :: es) X.env = (false, eval e X.env) :: starEach es X.env) (hpl : (backTo pos (starEach es X.env)).any (·.1) = false) :
    SE X (.Call (.Name "sorted" p) (e :: es) [] pos) (dSort fs) := fun H0 A0 =>
  (pe_callB call_sorted1 hg hm boot_sorted (ha H0 A0) (by decide) (by decide) he hpl).mono fun σ H Q ⟨ρ, hs, F, r', rel, e, q⟩ => by
    obtain ⟨ra, e1, e⟩ := bind1 e
    refine ⟨ρ, hs, F, ra, rel, e1, fun vs H1 G p1 => ?_⟩
    split at e
    · rename_i xs hds
      obtain ⟨ns, h1, e⟩ := bind1 e
      split at e
      · rename_i hl
        cases e
        have rp := p1.rp
        rw [hds] at rp
        obtain ⟨v, rfl, rq⟩ := rp.one
        obtain ⟨l, ws, L, rfl, hl', rl, zl, el⟩ := rq.lst_inv
        rw [dInts_map h1] at rl
        rw [rl.ints] at hl'
        refine ⟨l, ns, rfl, lst_sq hl', hl, fun c hc => ?_⟩
        have := Post.newL (M := []) (ρ := ρ) (F := F) p1.same hc (Rps.ofInts (K := X.K) (H := H1) (srtI ns)) (by rw [List.length_map, (srtI_perm ns).length_eq, line_eq]; omega) Src.nil Owns.nil
        unfold newL at this
        rw [if_pos (flatsI _)] at this
        exact q _ _ _ this
      · cases e
    · cases e
end
end HS
namespace HS
open PySem PySem.Spec L2
/-- a def that is known -/
structure FnR where
  n : Nat
  dfl : List D
  den : Den
/-- what is known of the names -/
structure Th where
  N : List Str
  sc : List (Str × NameKind)
  Γ : List (Str × FnR)
  cs : List (Str × Int)
noncomputable def posOf (x : Str) : List Str → Option Nat
  | [] => none
  | y :: ys => if x = y then some 0 else (posOf x ys).map (· + 1)
theorem posOf_get : ∀ {x : Str} {ys : List Str} {i : Nat}, posOf x ys = some i → ys[i]? = some x
  | x, [], i, h => by cases h
  | x, y :: ys, i, h => by
    unfold posOf at h
    split at h
    · rename_i e; cases h; subst e; rfl
    · obtain ⟨j, hj, rfl⟩ := Option.map_eq_some_iff.mp h
      simpa using posOf_get hj
noncomputable def look {α : Type} (x : Str) : List (Str × α) → Option α
  | [] => none
  | (y, a) :: r => if x = y then some a else look x r
theorem look_eq {α : Type} : ∀ {x : Str} {l : List (Str × α)}, look x l = l.lookup x
  | x, [] => rfl
  | x, (y, a) :: r => by
    unfold look
    rw [List.lookup_cons]
    by_cases h : x = y
    · subst h; simp
    · rw [if_neg h, look_eq]
      have : (x == y) = false := by simpa using h
      rw [this]
noncomputable def isVis : NameKind → Bool
  | .local => true | .cell => true | .free => true | _ => false
noncomputable def isLoc : NameKind → Bool
  | .local => true | .cell => true | _ => false
noncomputable def isGl : NameKind → Bool
  | .globalImplicit => true | _ => false
noncomputable def isFree : NameKind → Bool
  | .free => true | _ => false
noncomputable def odd (x : Str) : Bool := decide (x = "__debug__") || decide (x = "__classdict__") || decide (x = "__name__")
noncomputable def Th.slot (Θ : Th) (x : Str) : Option Nat := if ((look x Θ.sc).map isVis).getD false && !odd x then posOf x Θ.N else none
noncomputable def Th.lslot (Θ : Th) (x : Str) : Option Nat := if ((look x Θ.sc).map isLoc).getD false && !odd x then posOf x Θ.N else none
noncomputable def Th.gl (Θ : Th) (x : Str) : Bool := ((look x Θ.sc).map isGl).getD false && !odd x
noncomputable def FnKnown (X : Cx) (x : Str) (r : FnR) : Prop := ∃ k f fd ps, FnOk X.prog X.w X.K X.mg X.base CX0 k f fd ps (spV X.K r.n r.den) ∧ Room k X.A ∧ X.mg x = some (.ref f) ∧ PySem.W.keepIn X.K (.ref f) = true ∧
  ∀ m, m ≤ r.dfl.length → ∃ ds dvs, Binds X.K fd ps ds ∧ Vals dvs ds ∧ ∀ H, Rps X.K H (r.dfl.drop (r.dfl.length - m)) dvs []
noncomputable def bNames : List Str := ["range", "enumerate", "zip", "len", "list", "min", "max", "sum", "abs", "isinstance", "int", "bool", "tuple", "str", "divmod", "sorted", "any", "all"]
structure CtxOk (X : Cx) (Θ : Th) : Prop where
  N : X.N = Θ.N
  nd : Θ.N.Nodup
  lc : ∀ x, look x Θ.sc = some .local → X.env.scope.names.lookup x = some .local
  ce : ∀ x, look x Θ.sc = some .cell → X.env.scope.names.lookup x = some .cell ∧ X.fn x = true
  fe : ∀ x, look x Θ.sc = some .free → X.env.scope.names.lookup x = some .cell ∨ X.env.scope.names.lookup x = some .free
  gl : ∀ x, look x Θ.sc = some .globalImplicit → X.env.scope.names.lookup x = some .globalImplicit
  calm : X.calm = true
  pass : PassesOwn (model X.prog X.w) X.A X.env X.xe
  units : X.A.units + 64 < cLine
  mg : ∀ x ∈ bNames, X.mg x = none
  fns : ∀ x r, look x Θ.Γ = some r → FnKnown X x r
  cs : ∀ x i, look x Θ.cs = some i → ∃ t, X.mg x = some (.int i t)
section
variable {X : Cx} {Θ : Th} (ok : CtxOk X Θ)
theorem odd_inv {x : Str} (h : odd x = false) : (x == ("__debug__" : Str)) = false ∧ (x == ("__classdict__" : Str)) = false ∧ x ≠ "__name__" := by
  unfold odd at h
  simp only [Bool.or_eq_false_iff, decide_eq_false_iff_not] at h
  exact ⟨by simpa using h.1.1, by simpa using h.1.2, h.2⟩
theorem slot_ok (ok : CtxOk X Θ) {x : Str} {i : Nat} {pos : Pos} (h : Θ.slot x = some i) : PE X (.Name x pos) (tVar i) := by
  unfold Th.slot at h
  split at h
  · rename_i hc
    simp only [Bool.and_eq_true, Bool.not_eq_true'] at hc
    obtain ⟨h1, h2, _⟩ := odd_inv hc.2
    refine pe_var (by rw [ok.N]; exact posOf_get h) ?_ h1 h2
    cases q : look x Θ.sc with
    | none => rw [q] at hc; cases hc.1
    | some k =>
      rw [q] at hc
      cases k with
      | «local» => exact .inl (ok.lc x q)
      | cell => exact .inr (.inl (ok.ce x q).1)
      | free => exact .inr (ok.fe x q)
      | _ => cases hc.1
  · cases h
theorem lslot_ok (ok : CtxOk X Θ) {x : Str} {i : Nat} (h : Θ.lslot x = some i) : X.N[i]? = some x ∧ Loc X.env.scope x ∧ (X.fn x = true ∨ X.env.scope.names.lookup x = some .local) := by
  unfold Th.lslot at h
  split at h
  · rename_i hc
    simp only [Bool.and_eq_true, Bool.not_eq_true'] at hc
    refine ⟨by rw [ok.N]; exact posOf_get h, ?_⟩
    cases q : look x Θ.sc with
    | none => rw [q] at hc; cases hc.1
    | some k =>
      rw [q] at hc
      cases k with
      | «local» => exact ⟨.inl (ok.lc x q), .inr (ok.lc x q)⟩
      | cell => exact ⟨.inr (ok.ce x q).1, .inl (ok.ce x q).2⟩
      | _ => cases hc.1
  · cases h
theorem gl_ok (ok : CtxOk X Θ) {x : Str} (h : Θ.gl x = true) : Gl X x ∧ (x == ("__debug__" : Str)) = false ∧ x ≠ "__name__" := by
  unfold Th.gl at h
  simp only [Bool.and_eq_true, Bool.not_eq_true'] at h
  obtain ⟨h1, h2, h3⟩ := odd_inv h.2
  refine ⟨?_, h1, h3⟩
  cases q : look x Θ.sc with
  | none => rw [q] at h; cases h.1
  | some k =>
    rw [q] at h
    cases k with
    | globalImplicit => exact ok.gl x q
    | _ => cases h.1
end
/-! ### the text, turned -/
noncomputable def isTup : Expr → Bool
  | .Tuple .. => true
  | _ => false
noncomputable def nameOf : Expr → Option Str
  | .Name x _ => some x
  | _ => none
noncomputable def tgOf (Θ : Th) : Expr → Option Tg
  | .Name x _ => (Θ.lslot x).map .nm
  | .Tuple es _ _ => ((es.mapM nameOf).bind fun xs => xs.mapM Θ.lslot).map .tp
  | _ => none
noncomputable def cmpG : CmpOp → Option (D → D → Option D)
  | .Eq => some gEq | .NotEq => some gNe | .Lt => some gLt | .LtE => some gLe | .Gt => some gGt | .GtE => some gGe
  | .Is => some (gIsX false) | .IsNot => some (gIsX true) | .In => some (gIn false) | .NotIn => some (gIn true)
noncomputable def tyOf (x : Str) : Option String :=
  if x = "int" then some "int" else if x = "bool" then some "bool" else if x = "list" then some "list" else if x = "tuple" then some "tuple" else if x = "str" then some "str" else none
noncomputable def inner (Θ : Th) (scope : Scope) : Th := { N := (scope.names.filter fun y => isVis y.2).map (·.1), sc := scope.names, Γ := Θ.Γ, cs := Θ.cs }
noncomputable def capOf (Θ : Th) (scope : Scope) : List (Option Nat) := (inner Θ scope).N.map fun x => if ((look x scope.names).map isFree).getD false then posOf x Θ.N else none
noncomputable def compOk (Θ : Th) (scope : Scope) (t : Tg) : Bool := (scope.kind == .function) && decide (inner Θ scope).N.Nodup &&
  (scope.names.all fun y => match y.2 with
    | .cell => decide (look y.1 scope.names = some .cell)
    | .local => decide (look y.1 scope.names = some .local)
    | .free => match look y.1 Θ.sc with
      | some .cell => true
      | some .free => true
      | _ => false
    | _ => true) &&
  t.slots.all fun j => match (capOf Θ scope)[j]? with
    | some (some _) => false
    | _ => true
/-- the n of list(range(n)) -/
noncomputable def rangeArg (Θ : Th) (x : Str) (a : Expr) : Option Expr := match a with
  | .Call (.Name y _) [b] [] _ => if x = "list" ∧ y = "range" ∧ Θ.gl y = true ∧ (look y Θ.Γ).isNone = true then some b else none
  | _ => none
noncomputable def isIfs : List Expr → Bool
  | [] => true | [_] => true | _ => false
noncomputable def bf1 (x : Str) (fa : DE) : Option DE :=
  if x = "len" then some (dBf gLen (dCons fa dNil)) else
  if x = "list" then some (dList (dCons fa dNil)) else
  if x = "min" then some (dBf gMin1 (dCons fa dNil)) else
  if x = "max" then some (dBf gMax1 (dCons fa dNil)) else
  if x = "sum" then some (dBf gSum1 (dCons fa dNil)) else
  if x = "int" then some (dBf gInt (dCons fa dNil)) else
  if x = "sorted" then some (dSort (dCons fa dNil)) else
  if x = "all" then some (dBf gAll1 (dCons fa dNil)) else
  if x = "any" then some (dBf gAny1 (dCons fa dNil)) else
  none
noncomputable def bf2 (x : Str) (fa fb : DE) : Option DE :=
  if x = "min" then some (dBf gMin2 (dCons fa (dCons fb dNil))) else
  none
mutual
noncomputable def compE (n : Nat) (Θ : Th) (e : Expr) : Option DE := match n with
  | 0 => none
  | n + 1 => match e with
    | .Name x _ => match Θ.slot x with
      | some i => some (dVar i)
      | none => if Θ.gl x then (look x Θ.cs).map fun i => dC (.int i) else none
    | .Constant (.int i) _ _ => some (dC (.int i))
    | .Constant (.bool b) _ _ => some (dC (.bl b))
    | .Constant .none _ _ => some (dC .non)
    | .Constant (.str x) _ _ => some (dC (.str x))
    | .BinOp a op b _ => (compE n Θ a).bind fun fa => (compE n Θ b).bind fun fb => match op with
      | .Add => some (dAdd fa fb)
      | .Mult => some (dMul fa fb)
      | .Sub => some (dOp gSub fa fb)
      | .FloorDiv => some (dOp gDiv fa fb)
      | .Mod => some (dOp gMod fa fb)
      | _ => none
    | .UnaryOp .USub a _ => (compE n Θ a).map dNeg
    | .UnaryOp .Not a _ => (compE n Θ a).map dNot
    | .BoolOp .And [a] _ => compE n Θ a
    | .BoolOp .And (a :: b :: r) p => (compE n Θ a).bind fun fa => (compE n Θ (.BoolOp .And (b :: r) p)).map fun fb => dAnd fa fb
    | .BoolOp .Or [a] _ => compE n Θ a
    | .BoolOp .Or (a :: b :: r) p => (compE n Θ a).bind fun fa => (compE n Θ (.BoolOp .Or (b :: r) p)).map fun fb => dOr fa fb
    | .Compare a [op] [b] _ => (compE n Θ a).bind fun fa => (compE n Θ b).bind fun fb => (cmpG op).map fun g => dOp g fa fb
    | .Tuple es _ _ => (compA n Θ es).map dTup
    | .List es _ => (compA n Θ es).map dLst
    | .Subscript a (.Slice lo hi none _) _ => (compE n Θ a).bind fun fa => (compO n Θ lo).bind fun fl => (compO n Θ hi).map fun fh => dSlc fa fl fh
    | .Subscript a (.Slice none none (some k) _) _ => (compE n Θ a).bind fun fa => (compE n Θ k).map fun fk => dRev fa fk
    | .Subscript a b _ => (compE n Θ a).bind fun fa => (compE n Θ b).map fun fb => dIdx fa fb
    | .Call (.Name x _) args [] _ => if Θ.gl x then (match look x Θ.Γ with
        | some r => if r.n ≤ args.length + r.dfl.length ∧ args.length ≤ r.n then (compA n Θ args).map fun fs => dCall r.n r.den (r.dfl.drop (r.dfl.length - (r.n - args.length))) fs else none
        | none => compB n Θ x args) else none
    | .ListComp elt [⟨tg, iter, ifs, 0⟩] scope _ => (tgOf (inner Θ scope) tg).bind fun t => if compOk Θ scope t && isIfs ifs then
        (compI n Θ tg iter).bind fun fi => (compTs n (inner Θ scope) ifs).bind fun ft => (compE n (inner Θ scope) elt).map fun fe => dComp fi t (capOf Θ scope) ft fe else none
    | _ => none
noncomputable def compB (n : Nat) (Θ : Th) (x : Str) (args : List Expr) : Option DE := match n with
  | 0 => none
  | n + 1 => match args with
    | [a] => match rangeArg Θ x a with
     | some b => (compE n Θ b).map dLrng
     | none => (compE n Θ a).bind fun fa => bf1 x fa
    | [a, b] => if x = "isinstance" then (compE n Θ a).bind fun fa => match b with
        | .Name y _ => if Θ.gl y then (tyOf y).map fun T => dIsi T fa else none
        | _ => none
      else (compE n Θ a).bind fun fa => (compE n Θ b).bind fun fb => bf2 x fa fb
    | _ => none
noncomputable def compT (n : Nat) (Θ : Th) (e : Expr) : Option DT := match n with
  | 0 => none
  | n + 1 => match e with
    | .UnaryOp .Not a _ => (compT n Θ a).map bNot
    | .BoolOp .And [a] _ => compT n Θ a
    | .BoolOp .And (a :: b :: r) p => (compT n Θ a).bind fun fa => (compT n Θ (.BoolOp .And (b :: r) p)).map fun fb => bAnd fa fb
    | .BoolOp .Or [a] _ => compT n Θ a
    | .BoolOp .Or (a :: b :: r) p => (compT n Θ a).bind fun fa => (compT n Θ (.BoolOp .Or (b :: r) p)).map fun fb => bOr fa fb
    | .Compare a [op] [b] _ => (compE n Θ a).bind fun fa => (compE n Θ b).bind fun fb => (cmpG op).map fun g => dTru (dOp g fa fb)
    | .BoolOp _ _ _ => none
    | .IfExp _ _ _ _ => none
    | .Compare _ _ _ _ => none
    | e => (compE n Θ e).map dTru
noncomputable def compTs (n : Nat) (Θ : Th) (es : List Expr) : Option DT := match n with
  | 0 => none
  | n + 1 => match es with
    | [] => some tYesD
    | [c] => compT n Θ c
    | _ => none
noncomputable def compA (n : Nat) (Θ : Th) (es : List Expr) : Option DA := match n with
  | 0 => none
  | n + 1 => match es with
    | [] => some dNil
    | e :: es => (compE n Θ e).bind fun fa => (compA n Θ es).map fun fs => dCons fa fs
noncomputable def compO (n : Nat) (Θ : Th) (e : Option Expr) : Option DO := match n with
  | 0 => none
  | n + 1 => match e with
    | none => some oNone
    | some e => (compE n Θ e).map oSome
noncomputable def compI (n : Nat) (Θ : Th) (tg e : Expr) : Option DI := match n with
  | 0 => none
  | n + 1 => match e with
    | .Call (.Name x _) args [] _ => if Θ.gl x && (look x Θ.Γ).isNone then (match args with
        | [a] => if x = "range" then (compE n Θ a).map iRange1 else if x = "enumerate" then (if isTup tg then (compE n Θ a).map iEnumD else none) else (compE n Θ e).map iVal
        | [a, b] => if x = "range" then (compE n Θ a).bind fun fa => (compE n Θ b).map fun fb => iRange2 fa fb else if x = "zip" then (if isTup tg then (compE n Θ a).bind fun fa => (compE n Θ b).map fun fb => iZipD fa fb else none) else (compE n Θ e).map iVal
        | _ => (compE n Θ e).map iVal) else (compE n Θ e).map iVal
    | e => (compE n Θ e).map iVal
end
end HS
namespace HS
open PySem PySem.Spec L2
theorem bindm {α β γ : Type} {x : Option α} {y : α → Option β} {k : α → β → γ} {r : γ} (e : (x.bind fun a => (y a).map fun b => k a b) = some r) : ∃ a b, x = some a ∧ y a = some b ∧ k a b = r := by
  obtain ⟨a, h1, e⟩ := bind1 e
  obtain ⟨b, h2, e⟩ := Option.map_eq_some_iff.mp e
  exact ⟨a, b, h1, h2, e⟩
theorem star1 {n : Nat} {Θ : Th} {e : Expr} {f : DE} (h : compE n Θ e = some f) (es : List Expr) (env : Env) : starEach (e :: es) env = (false, eval e env) :: starEach es env := by
  cases n with
  | zero => exact nomatch (show (none : Option DE) = some _ from h)
  | succ n => cases e <;> first | rfl | (exact nomatch (show (none : Option DE) = some _ from h))
theorem anyStar : ∀ {n : Nat} {Θ : Th} {es : List Expr} {f : DA}, compA n Θ es = some f → ∀ (pos : Pos) (env : Env), (backTo pos (starEach es env)).any (·.1) = false
  | 0, _, _, _, h, _, _ => by simp [compA] at h
  | n + 1, _, [], _, h, _, _ => rfl
  | n + 1, _, e :: es, _, h, pos, env => by
    simp only [compA] at h
    obtain ⟨fa, fs, h1, h2, _⟩ := bindm h
    rw [star1 h1]
    have := anyStar h2 pos env
    simpa [backTo] using this
theorem plainIx {n : Nat} {Θ : Th} {b : Expr} {f : DE} (h : compE n Θ b = some f) : PlainIx b := by
  cases n with
  | zero => exact nomatch (show (none : Option DE) = some _ from h)
  | succ n => cases b <;> first | (intro o i; rfl) | (exact nomatch (show (none : Option DE) = some _ from h))
theorem noFold {n : Nat} {Θ : Th} {e : Expr} {f : DE} (h : compE n Θ e = some f) (env : Env) : ∀ x, foldedSetIterable e env x = pure x := by
  cases n with
  | zero => exact nomatch (show (none : Option DE) = some _ from h)
  | succ n => cases e <;> first | (intro x; rfl) | (exact nomatch (show (none : Option DE) = some _ from h))
theorem noMark {n : Nat} {Θ : Th} {e : Expr} {f : DE} (h : compE n Θ e = some f) (op : CmpOp) : behindInMarks op e = false := by
  cases n with
  | zero => exact nomatch (show (none : Option DE) = some _ from h)
  | succ n => cases e <;> first | rfl | (exact nomatch (show (none : Option DE) = some _ from h))
theorem lookup_relabel_cell {env : Env} : ∀ {names : List (Str × NameKind)} {x : Str}, names.lookup x = some .cell →
    (names.map fun (n, k) => if (k == NameKind.free && env.scope.kind == .function && env.kindOf n == some .cell) then (n, NameKind.cell) else (n, k)).lookup x = some .cell
  | [], _, h => by simp at h
  | (n, k) :: r, x, h => by
    have ih := @lookup_relabel_cell env r x
    rw [List.map_cons]
    cases hx : x == n with
    | true =>
      simp only [List.lookup_cons, hx] at h
      cases h
      dsimp only
      split <;> simp [List.lookup_cons, hx]
    | false =>
      simp only [List.lookup_cons, hx] at h
      dsimp only
      split <;> (simp only [List.lookup_cons, hx]; exact ih h)
theorem inner_ok {X : Cx} {Θ : Th} {scope : Scope} {t : Tg} (ok : CtxOk X Θ) (h : compOk Θ scope t = true) : CScope X (inner Θ scope).N scope ∧ CapIs X (inner Θ scope).N scope (capOf Θ scope) t.slots ∧ ∀ cl C fp s3 H3, CtxOk (cxc X (inner Θ scope).N scope cl C fp s3 H3) (inner Θ scope) := by
  unfold compOk at h
  simp only [Bool.and_eq_true, decide_eq_true_eq] at h
  obtain ⟨⟨⟨h1, h2⟩, h3⟩, h4⟩ := h
  have hk : scope.kind = .function := by simpa using h1
  have each : ∀ y ∈ scope.names, (y.2 = .cell → scope.names.lookup y.1 = some .cell) ∧ (y.2 = .local → scope.names.lookup y.1 = some .local) ∧ (y.2 = .free → X.env.kindOf y.1 = some .cell ∨ X.env.kindOf y.1 = some .free) := fun y hy => by
    have := List.all_eq_true.mp h3 y hy
    obtain ⟨y, k⟩ := y
    cases k with
    | cell => exact ⟨fun _ => (by rw [← look_eq]; simpa using this), fun z => (by cases z), fun z => (by cases z)⟩
    | «local» => exact ⟨fun z => (by cases z), fun _ => by rw [← look_eq]; simpa using this, fun z => by cases z⟩
    | free =>
      refine ⟨fun z => (by cases z), fun z => (by cases z), fun _ => ?_⟩
      dsimp only at this
      split at this
      · rename_i q; exact .inl (ok.ce _ q).1
      · rename_i q; exact ok.fe _ q
      · cases this
    | _ => exact ⟨fun z => (by cases z), fun z => (by cases z), fun z => (by cases z)⟩
  have S : CScope X (inner Θ scope).N scope := ⟨hk, fun y hy => (each y hy).1, fun y hy => (each y hy).2.1, fun y hy => (each y hy).2.2⟩
  refine ⟨S, ⟨by unfold capOf; simp, fun j i e => ?_, fun j i e hj => ?_⟩, fun cl C fp s3 H3 => ⟨rfl, h2, fun x e => ?_, fun x e => ?_, fun x e => ?_, fun x e => ?_, ok.calm, PassesOwn.never, ok.units, ok.mg, ok.fns, ok.cs⟩⟩
  · unfold capOf at e
    rw [List.getElem?_map] at e
    cases q : (inner Θ scope).N[j]? with
    | none => rw [q] at e; cases e
    | some x =>
      rw [q] at e
      simp only [Option.map_some, Option.some.injEq] at e
      split at e
      · rename_i hf
        cases hl : look x scope.names with
        | none => rw [hl] at hf; cases hf
        | some k =>
          rw [hl] at hf
          cases k with
          | free =>
            rw [look_eq] at hl
            exact ⟨x, rfl, hl, by rw [ok.N]; exact posOf_get e, (each (x, .free) (PySem.mem_of_lookup hl)).2.2 rfl⟩
          | _ => cases hf
      · cases e
  · have := List.all_eq_true.mp h4 j hj
    rw [e] at this
    cases this
  · have e' : scope.names.lookup x = some .local := by rw [← look_eq]; exact e
    exact lookup_relabel_local e'
  · have e' : scope.names.lookup x = some .cell := by rw [← look_eq]; exact e
    exact ⟨lookup_relabel_cell e', decide_eq_true e'⟩
  · have e' : scope.names.lookup x = some .free := by rw [← look_eq]; exact e
    exact lookup_relabel_free e'
  · have e' : scope.names.lookup x = some .globalImplicit := by rw [← look_eq]; exact e
    show (relabel scope X.env).names.lookup x = some .globalImplicit
    unfold relabel
    have gen : ∀ {names : List (Str × NameKind)}, names.lookup x = some .globalImplicit →
        (names.map fun (n, k) => if (k == NameKind.free && X.env.scope.kind == .function && X.env.kindOf n == some .cell) then (n, NameKind.cell) else (n, k)).lookup x = some .globalImplicit := by
      intro names
      induction names with
      | nil => intro z; simp at z
      | cons y r ih =>
        intro z
        obtain ⟨n, k⟩ := y
        rw [List.map_cons]
        cases hx : x == n with
        | true =>
          simp only [List.lookup_cons, hx] at z
          cases z
          simp [List.lookup_cons, hx]
        | false =>
          simp only [List.lookup_cons, hx] at z
          dsimp only
          split <;> (simp only [List.lookup_cons, hx]; exact ih z)
    exact gen e'
theorem tg_ok {X : Cx} {Θ : Th} (ok : CtxOk X Θ) {tg : Expr} {t : Tg} (h : tgOf Θ tg = some t) : SG X tg t := by
  have hN : X.N.Nodup := by rw [ok.N]; exact ok.nd
  cases tg with
  | Name x pos =>
    simp only [tgOf] at h
    obtain ⟨i, hi, rfl⟩ := Option.map_eq_some_iff.mp h
    obtain ⟨h1, h2, h3⟩ := lslot_ok ok hi
    exact sg_name (pg_name hN h1 h2 h3)
  | Tuple es k pos =>
    simp only [tgOf] at h
    obtain ⟨is, hi, rfl⟩ := Option.map_eq_some_iff.mp h
    obtain ⟨xs, h1, h2⟩ := bind1 hi
    have key : ∀ (es : List Expr) (xs : List Str) (is : List Nat), es.mapM nameOf = some xs → xs.mapM Θ.lslot = some is → PGs X es (gNames is) ∧ (assignEach es X.env).length = is.length ∧ (assignEach es X.env).findIdx? (·.1) = none := by
      intro es
      induction es with
      | nil =>
        intro xs is h1 h2
        cases h1
        cases h2
        exact ⟨pgs_nil, rfl, rfl⟩
      | cons e es ih =>
        intro xs is h1 h2
        rw [List.mapM_cons] at h1
        obtain ⟨x, hx, h1⟩ := bind1 h1
        obtain ⟨ys, hy, h1⟩ := bind1 h1
        cases h1
        rw [List.mapM_cons] at h2
        obtain ⟨i, hi, h2⟩ := bind1 h2
        obtain ⟨js, hj, h2⟩ := bind1 h2
        cases h2
        obtain ⟨a1, a2, a3⟩ := ih ys js hy hj
        cases e with
        | Name y p =>
          cases hx
          obtain ⟨g1, g2, g3⟩ := lslot_ok ok hi
          refine ⟨pgs_cons (pg_name hN g1 g2 g3) a1 rfl, ?_, ?_⟩
          · show (assignEach es X.env).length + 1 = _
            rw [a2]; rfl
          · show List.findIdx? (·.1) ((false, assign (.Name x p) X.env) :: assignEach es X.env) = none
            rw [List.findIdx?_cons]
            simp only [a3]; rfl
        | _ => cases hx
    obtain ⟨a1, a2, a3⟩ := key es xs is h1 h2
    exact sg_tup ok.calm a1 a2 a3
  | _ => simp only [tgOf] at h; cases h
theorem I_bl {f : Int → Int → Bool} : ∀ a b d, gI (fun i j => some (.bl (f i j))) a b = some d → ∃ k, d = .bl k := fun a b d h => by
  obtain ⟨i, j, _, _, e⟩ := gI_inv h
  cases e
  exact ⟨_, rfl⟩
/-- a comparison's rule -/
theorem cmp_ok {X : Cx} {Θ : Th} (ok : CtxOk X Θ) {op : CmpOp} {g : D → D → Option D} (h : cmpG op = some g) : ∃ r, OpR X (compareOp op) r ∧ OpOk X.K g r ∧ ∀ a b d, g a b = some d → ∃ k, d = .bl k := by
  cases op <;> cases h
  · exact ⟨_, op_eqX ok.units, ok_eq, fun a b d h => by unfold gEq at h; split at h <;> cases h; exact ⟨_, rfl⟩⟩
  · exact ⟨_, op_neX ok.units, ok_ne, fun a b d h => by unfold gNe at h; split at h <;> cases h; exact ⟨_, rfl⟩⟩
  · exact ⟨_, op_lt, ok_lt, I_bl⟩
  · exact ⟨_, op_le, ok_le, I_bl⟩
  · exact ⟨_, op_gt, ok_gt, I_bl⟩
  · exact ⟨_, op_ge, ok_ge, I_bl⟩
  · exact ⟨_, op_isN.or op_isB, ok_isX, gIsX_bl⟩
  · exact ⟨_, op_notN.or op_notB, ok_isnotX, gIsX_bl⟩
  · exact ⟨_, op_inX ok.units, ok_in, fun a b d h => by unfold gIn at h; split at h <;> first | (split at h <;> cases h; exact ⟨_, rfl⟩) | cases h⟩
  · exact ⟨_, op_notInX ok.units, ok_in, fun a b d h => by unfold gIn at h; split at h <;> first | (split at h <;> cases h; exact ⟨_, rfl⟩) | cases h⟩
structure AllOk (n : Nat) : Prop where
  E : ∀ X Θ e f, CtxOk X Θ → compE n Θ e = some f → SE X e f
  B : ∀ X Θ x args f p pos, CtxOk X Θ → Θ.gl x = true → compB n Θ x args = some f → SE X (.Call (.Name x p) args [] pos) f
  T : ∀ X Θ e f, CtxOk X Θ → compT n Θ e = some f → ST X e f
  Ts : ∀ X Θ e f, CtxOk X Θ → compTs n Θ e = some f → SPTs X e f
  A : ∀ X Θ e f, CtxOk X Θ → compA n Θ e = some f → SA X e f
  O : ∀ X Θ e f, CtxOk X Θ → compO n Θ e = some f → SO X e f
  I : ∀ X Θ tg e f, CtxOk X Θ → compI n Θ tg e = some f → SI X tg e f ∧ ∀ x, foldedSetIterable e X.env x = pure x
theorem callArgs {X : Cx} {n : Nat} {Θ : Th} {es : List Expr} {fs : DA} (h : compA n Θ es = some fs) {e : Expr} {es' : List Expr} (he : es = e :: es') (pos : Pos) : starEach (e :: es') X.env = (false, eval e X.env) :: starEach es' X.env ∧ (backTo pos (starEach es' X.env)).any (·.1) = false := by
  subst he
  cases n with
  | zero => simp [compA] at h
  | succ n =>
    simp only [compA] at h
    obtain ⟨fa, fs', h1, h2, _⟩ := bindm h
    exact ⟨star1 h1 es' X.env, anyStar h2 pos X.env⟩
theorem all_E {n : Nat} (ih : AllOk n) : ∀ X Θ e f, CtxOk X Θ → compE (n + 1) Θ e = some f → SE X e f := by
  intro X Θ e f ok h
  cases e with
  | Name x pos =>
    (conv at h => lhs; whnf)
    cases q : Θ.slot x with
    | some i => rw [q] at h; cases h; exact se_var (slot_ok ok q)
    | none =>
      rw [q] at h
      dsimp only at h
      split at h
      · rename_i hg
        obtain ⟨i, hi, rfl⟩ := Option.map_eq_some_iff.mp h
        obtain ⟨g1, g2, g3⟩ := gl_ok ok hg
        obtain ⟨t, hm⟩ := ok.cs x i hi
        exact se_c (v := .int i) (pe_glob g1 hm ⟨t, rfl⟩ g2) (fun _ _ => .int_mk) rfl
      · cases h
  | Constant c k pos =>
    cases c with
    | int i => (conv at h => lhs; whnf); cases h; exact se_c pe_int (fun _ _ => .int_mk) rfl
    | bool b => (conv at h => lhs; whnf); cases h; exact se_c pe_bl (fun _ _ => .bl_mk) rfl
    | none => (conv at h => lhs; whnf); cases h; exact se_c pe_non (fun _ _ => .non_mk) rfl
    | str x => (conv at h => lhs; whnf); cases h; exact se_c pe_str (fun _ _ => .str_mk) rfl
    | _ => exact nomatch (show (none : Option DE) = some _ from h)
  | BinOp a op b pos =>
    (conv at h => lhs; whnf)
    obtain ⟨fa, h1, h⟩ := bind1 h
    obtain ⟨fb, h2, h⟩ := bind1 h
    have ha := ih.E X Θ a fa ok h1
    have hb := ih.E X Θ b fb ok h2
    cases op with
    | Add => cases h; exact se_add ha hb
    | Mult => cases h; exact se_mul ha hb
    | Sub => cases h; exact se_op op_sub ok_sub ha hb
    | FloorDiv => cases h; exact se_op op_divX ok_div ha hb
    | Mod => cases h; exact se_op op_modX ok_mod ha hb
    | _ => cases h
  | UnaryOp op a pos =>
    cases op with
    | USub =>
      (conv at h => lhs; whnf)
      obtain ⟨fa, h1, rfl⟩ := Option.map_eq_some_iff.mp h
      exact se_neg (ih.E X Θ a fa ok h1)
    | Not =>
      (conv at h => lhs; whnf)
      obtain ⟨fa, h1, rfl⟩ := Option.map_eq_some_iff.mp h
      exact se_not (ih.E X Θ a fa ok h1)
    | _ => exact nomatch (show (none : Option DE) = some _ from h)
  | BoolOp op es pos =>
    cases op with
    | And =>
      match es, h with
      | [], h => exact nomatch (show (none : Option DE) = some _ from h)
      | [a], h => (conv at h => lhs; whnf); exact se_one (ih.E X Θ a f ok h)
      | a :: b :: r, h =>
        (conv at h => lhs; whnf)
        obtain ⟨fa, fb, h1, h2, rfl⟩ := bindm h
        exact se_and (ih.E X Θ a fa ok h1) (ih.E X Θ _ fb ok h2)
    | Or =>
      match es, h with
      | [], h => exact nomatch (show (none : Option DE) = some _ from h)
      | [a], h => (conv at h => lhs; whnf); exact se_one (ih.E X Θ a f ok h)
      | a :: b :: r, h =>
        (conv at h => lhs; whnf)
        obtain ⟨fa, fb, h1, h2, rfl⟩ := bindm h
        exact se_or (ih.E X Θ a fa ok h1) (ih.E X Θ _ fb ok h2)
  | Compare a ops bs pos =>
    match ops, bs, h with
    | [op], [b], h =>
      (conv at h => lhs; whnf)
      obtain ⟨fa, h1, h⟩ := bind1 h
      obtain ⟨fb, g, h2, h3, rfl⟩ := bindm h
      obtain ⟨r, o1, o2, _⟩ := cmp_ok ok h3
      exact se_cmp o1 o2 (ih.E X Θ a fa ok h1) (ih.E X Θ b fb ok h2) (noMark h2 op)
    | [], _, h => exact nomatch (show (none : Option DE) = some _ from h)
    | [_], [], h => exact nomatch (show (none : Option DE) = some _ from h)
    | [_], _ :: _ :: _, h => exact nomatch (show (none : Option DE) = some _ from h)
    | _ :: _ :: _, _, h => exact nomatch (show (none : Option DE) = some _ from h)
  | Tuple es k pos =>
    (conv at h => lhs; whnf)
    obtain ⟨fs, h1, rfl⟩ := Option.map_eq_some_iff.mp h
    exact se_tup (ih.A X Θ es fs ok h1)
  | List es pos =>
    (conv at h => lhs; whnf)
    obtain ⟨fs, h1, rfl⟩ := Option.map_eq_some_iff.mp h
    exact se_lst (ih.A X Θ es fs ok h1)
  | Subscript a b pos =>
    by_cases hb : ∃ lo hi p2, b = .Slice lo hi none p2
    · obtain ⟨lo, hi, p2, rfl⟩ := hb
      (conv at h => lhs; whnf)
      obtain ⟨fa, h1, h⟩ := bind1 h
      obtain ⟨fl, fh, h2, h3, rfl⟩ := bindm h
      exact se_slc (ih.E X Θ a fa ok h1) (ih.O X Θ lo fl ok h2) (ih.O X Θ hi fh ok h3)
    · by_cases hk : ∃ k p2, b = .Slice none none (some k) p2
      · obtain ⟨k, p2, rfl⟩ := hk
        (conv at h => lhs; whnf)
        obtain ⟨fa, fk, h1, h2, rfl⟩ := bindm h
        exact se_rev (ih.E X Θ a fa ok h1) (ih.E X Θ k fk ok h2)
      · have h' : ((compE n Θ a).bind fun fa => (compE n Θ b).map fun fb => dIdx fa fb) = some f := by
          cases b <;> first
            | (exact h)
            | (rename_i lo hi st p2; cases lo <;> cases hi <;> cases st <;> first | (exact absurd ⟨_, _, _, rfl⟩ hb) | (exact absurd ⟨_, _, rfl⟩ hk) | (exact h))
        obtain ⟨fa, fb, h1, h2, rfl⟩ := bindm h'
        exact se_idx (ih.E X Θ a fa ok h1) (ih.E X Θ b fb ok h2) (plainIx h2)
  | Call fn args kws pos =>
    cases fn with
    | Name x p =>
     cases kws with
     | cons k ks => exact nomatch (show (none : Option DE) = some _ from h)
     | nil =>
      have h : (if Θ.gl x then (match look x Θ.Γ with | some r => if r.n ≤ args.length + r.dfl.length ∧ args.length ≤ r.n then (compA n Θ args).map fun fs => dCall r.n r.den (r.dfl.drop (r.dfl.length - (r.n - args.length))) fs else none | none => compB n Θ x args) else none) = some f := h
      split at h
      · rename_i hg
        obtain ⟨g1, g2, g3⟩ := gl_ok ok hg
        split at h
        · rename_i r hr
          split at h
          · rename_i hn
            obtain ⟨fs, h1, rfl⟩ := Option.map_eq_some_iff.mp h
            obtain ⟨k, fa, fd, ps, F1, F2, F3, F4, F5⟩ := ok.fns x r hr
            obtain ⟨ds, dvs, b1, b2, b3⟩ := F5 (r.n - args.length) (by omega)
            cases args with
            | nil =>
              cases n with
              | zero => simp [compA] at h1
              | succ n =>
                simp only [compA] at h1
                cases h1
                exact se_call0 F1 F2 g1 F3 F4 b1 b2 b3 g2
            | cons e es =>
              obtain ⟨s1, s2⟩ := callArgs (X := X) h1 rfl pos
              exact se_call F1 F2 g1 F3 F4 b1 b2 b3 (ih.A X Θ _ fs ok h1) g2 s1 s2
          · cases h
        · exact ih.B X Θ x args f p pos ok hg h
      · cases h
    | _ => exact nomatch (show (none : Option DE) = some _ from h)
  | ListComp elt gens scope pos =>
    match gens, h with
    | [⟨tg, iter, ifs, k⟩], h =>
      by_cases hk : k = 0
      · subst hk
        (conv at h => lhs; whnf)
        obtain ⟨t, ht, h⟩ := bind1 h
        split at h
        · rename_i hc
          simp only [Bool.and_eq_true] at hc
          obtain ⟨fi, h1, h⟩ := bind1 h
          obtain ⟨ft, fe, h2, h3, rfl⟩ := bindm h
          obtain ⟨S, cap, inn⟩ := inner_ok ok hc.1
          obtain ⟨i1, i2⟩ := ih.I X Θ tg iter fi ok h1
          exact se_comp ok.calm S i1 cap (fun cl C fp s3 H3 => ⟨tg_ok (inn cl C fp s3 H3) ht, ih.Ts _ _ ifs ft (inn cl C fp s3 H3) h2, ih.E _ _ elt fe (inn cl C fp s3 H3) h3⟩) i2
        · cases h
      · exfalso
        cases k with
        | ofNat k =>
          cases k with
          | zero => exact hk rfl
          | succ k => exact nomatch (show (none : Option DE) = some _ from h)
        | negSucc k => exact nomatch (show (none : Option DE) = some _ from h)
    | [], h => exact nomatch (show (none : Option DE) = some _ from h)
    | ⟨_, _, _, .ofNat 0⟩ :: _ :: _, h => exact nomatch (show (none : Option DE) = some _ from h)
    | ⟨_, _, _, .ofNat (k + 1)⟩ :: _ :: _, h => exact nomatch (show (none : Option DE) = some _ from h)
    | ⟨_, _, _, .negSucc k⟩ :: _ :: _, h => exact nomatch (show (none : Option DE) = some _ from h)
  | _ => exact nomatch (show (none : Option DE) = some _ from h)
theorem bf1_ok {X : Cx} {Θ : Th} {x : Str} {a : Expr} {fa f : DE} {p pos : Pos} (ok : CtxOk X Θ) (g1 : Gl X x) (sa : SA X [a] (dCons fa dNil)) (st : starEach [a] X.env = (false, eval a X.env) :: starEach [] X.env) (h : bf1 x fa = some f) : SE X (.Call (.Name x p) [a] [] pos) f := by
  unfold bf1 at h
  by_cases e : x = "len"
  · rw [if_pos e] at h; cases h; subst e; have hm := ok.mg "len" (by decide +kernel)
    exact se_bf call_len_seq ok_len g1 hm PySem.boot_len sa (by decide) (by decide) st rfl
  rw [if_neg e] at h; clear e
  by_cases e : x = "list"
  · rw [if_pos e] at h; cases h; subst e; have hm := ok.mg "list" (by decide +kernel)
    exact se_list g1 hm sa st rfl
  rw [if_neg e] at h; clear e
  by_cases e : x = "min"
  · rw [if_pos e] at h; cases h; subst e; have hm := ok.mg "min" (by decide +kernel)
    exact se_bf (call_min1 ok.calm) ok_min1 g1 hm PyProof.Rows.boot_min sa (by decide) (by decide) st rfl
  rw [if_neg e] at h; clear e
  by_cases e : x = "max"
  · rw [if_pos e] at h; cases h; subst e; have hm := ok.mg "max" (by decide +kernel)
    exact se_bf (call_max1 ok.calm) ok_max1 g1 hm PyProof.Rows.boot_max sa (by decide) (by decide) st rfl
  rw [if_neg e] at h; clear e
  by_cases e : x = "sum"
  · rw [if_pos e] at h; cases h; subst e; have hm := ok.mg "sum" (by decide +kernel)
    exact se_bf (call_sum1 ok.calm) ok_sum1 g1 hm PyProof.Rows.boot_sum sa (by decide) (by decide) st rfl
  rw [if_neg e] at h; clear e
  by_cases e : x = "int"
  · rw [if_pos e] at h; cases h; subst e; have hm := ok.mg "int" (by decide +kernel)
    exact se_bty call_int1 ok_int g1 hm PyProof.Rows.boot_int sa (by decide) (by decide) st rfl
  rw [if_neg e] at h; clear e
  by_cases e : x = "sorted"
  · rw [if_pos e] at h; cases h; subst e; have hm := ok.mg "sorted" (by decide +kernel)
    exact se_sort g1 hm sa st rfl
  rw [if_neg e] at h; clear e
  by_cases e : x = "all"
  · rw [if_pos e] at h; cases h; subst e; have hm := ok.mg "all" (by decide +kernel)
    exact se_bf (call_all1 ok.calm) ok_all1 g1 hm PyProof.Rows.boot_all sa (by decide) (by decide) st rfl
  rw [if_neg e] at h; clear e
  by_cases e : x = "any"
  · rw [if_pos e] at h; cases h; subst e; have hm := ok.mg "any" (by decide +kernel)
    exact se_bf (call_any1 ok.calm) ok_any1 g1 hm PyProof.Rows.boot_any sa (by decide) (by decide) st rfl
  rw [if_neg e] at h; clear e
  cases h
theorem bf2_ok {X : Cx} {Θ : Th} {x : Str} {a b : Expr} {fa fb f : DE} {p pos : Pos} (ok : CtxOk X Θ) (g1 : Gl X x) (sa : SA X [a, b] (dCons fa (dCons fb dNil))) (st : starEach [a, b] X.env = (false, eval a X.env) :: starEach [b] X.env) (pl : (backTo pos (starEach [b] X.env)).any (·.1) = false) (h : bf2 x fa fb = some f) : SE X (.Call (.Name x p) [a, b] [] pos) f := by
  unfold bf2 at h
  by_cases e : x = "min"
  · rw [if_pos e] at h; cases h; subst e; have hm := ok.mg "min" (by decide +kernel)
    exact se_bf (call_min2 ok.calm) ok_min2 g1 hm PyProof.Rows.boot_min sa (by decide) (by decide) st pl
  rw [if_neg e] at h; clear e
  cases h
theorem all_B {n : Nat} (ih : AllOk n) : ∀ X Θ x args f p pos, CtxOk X Θ → Θ.gl x = true → compB (n + 1) Θ x args = some f → SE X (.Call (.Name x p) args [] pos) f := by
  intro X Θ x args f p pos ok hg h
  obtain ⟨g1, g2, g3⟩ := gl_ok ok hg
  match args, h with
  | [], h => exact nomatch (show (none : Option DE) = some _ from h)
  | [a], h =>
    change (match rangeArg Θ x a with | some b => (compE n Θ b).map dLrng | none => (compE n Θ a).bind fun fa => bf1 x fa) = some f at h
    split at h
    · rename_i b hr
      obtain ⟨fb, h1, rfl⟩ := Option.map_eq_some_iff.mp h
      unfold rangeArg at hr
      split at hr
      · rename_i y p' b' pos'
        split at hr
        · rename_i hc
          cases hr
          obtain ⟨c1, c2, c3, _⟩ := hc
          subst c1
          subst c2
          obtain ⟨y1, y2, y3⟩ := gl_ok ok c3
          exact se_lrng g1 (ok.mg _ (by decide +kernel)) y1 (ok.mg _ (by decide +kernel)) ok.calm (ih.E X Θ b fb ok h1) (star1 h1 [] X.env)
        · cases hr
      · cases hr
    obtain ⟨fa, h1, h⟩ := bind1 h
    have ha := ih.E X Θ a fa ok h1
    have st := star1 h1 [] X.env
    exact bf1_ok ok g1 (sa_cons ha sa_nil st) st h
  | [a, b], h =>
    change (if x = "isinstance" then (compE n Θ a).bind fun fa => (match b with | .Name y _ => if Θ.gl y then (tyOf y).map fun T => dIsi T fa else none | _ => none) else (compE n Θ a).bind fun fa => (compE n Θ b).bind fun fb => bf2 x fa fb) = some f at h
    split at h
    · rename_i e
      obtain ⟨fa, h1, h⟩ := bind1 h
      have ha := ih.E X Θ a fa ok h1
      split at h
      · rename_i y p2
        split at h
        · rename_i hy
          obtain ⟨T, hT, rfl⟩ := Option.map_eq_some_iff.mp h
          obtain ⟨y1, y2, y3⟩ := gl_ok ok hy
          clear h
          subst e
          refine se_isi g1 (ok.mg _ (by decide +kernel)) ha ?_ (star1 h1 _ X.env)
          unfold tyOf at hT
          split at hT
          · rename_i e; cases hT; subst e
            exact pe_bltn y1 (ok.mg _ (by decide +kernel)) PyProof.Rows.boot_int rfl
          · split at hT
            · rename_i e; cases hT; subst e
              exact pe_bltn y1 (ok.mg _ (by decide +kernel)) PyProof.Rows.boot_bool rfl
            · split at hT
              · rename_i e; cases hT; subst e
                exact pe_bltn y1 (ok.mg _ (by decide +kernel)) PyProof.Rows.boot_list rfl
              · split at hT
                · rename_i e; cases hT; subst e
                  exact pe_bltn y1 (ok.mg _ (by decide +kernel)) PyProof.Rows.boot_tuple rfl
                · split at hT
                  · rename_i e; cases hT; subst e
                    exact pe_bltn y1 (ok.mg _ (by decide +kernel)) PyProof.Rows.boot_str rfl
                  · cases hT
        · cases h
      · cases h
    · obtain ⟨fa, h1, h⟩ := bind1 h
      obtain ⟨fb, h2, h⟩ := bind1 h
      have ha := ih.E X Θ a fa ok h1
      have hb := ih.E X Θ b fb ok h2
      have sb : SA X [b] (dCons fb dNil) := sa_cons hb sa_nil (star1 h2 [] X.env)
      have sa : SA X [a, b] (dCons fa (dCons fb dNil)) := sa_cons ha sb (star1 h1 [b] X.env)
      have pl : (backTo pos (starEach [b] X.env)).any (·.1) = false := by rw [star1 h2 [] X.env]; rfl
      exact bf2_ok ok g1 sa (star1 h1 [b] X.env) pl h
  | _ :: _ :: _ :: _, h => exact nomatch (show (none : Option DE) = some _ from h)
theorem all_T {n : Nat} (ih : AllOk n) : ∀ X Θ e f, CtxOk X Θ → compT (n + 1) Θ e = some f → ST X e f := by
  intro X Θ e f ok h
  have dflt : (compE n Θ e).map dTru = some f → (∀ whole, isTrue e X.env whole = (do let v ← whole; standAt e.pos; holding [v] (truthy v))) → ST X e f := fun h he => by
    obtain ⟨fa, h1, rfl⟩ := Option.map_eq_some_iff.mp h
    exact st_tru (ih.E X Θ e fa ok h1) he
  cases e with
  | UnaryOp op a pos =>
    cases op with
    | Not =>
      change (compT n Θ a).map bNot = some f at h
      obtain ⟨fa, h1, rfl⟩ := Option.map_eq_some_iff.mp h
      exact st_not (ih.T X Θ a fa ok h1)
    | _ => exact dflt h fun _ => rfl
  | BoolOp op es pos =>
    cases op with
    | And =>
      match es, h with
      | [], h => exact nomatch (show (none : Option DT) = some _ from h)
      | [a], h => exact (sw_and1 (ih.T X Θ a f ok h)).st
      | a :: b :: r, h =>
        change ((compT n Θ a).bind fun fa => (compT n Θ (.BoolOp .And (b :: r) pos)).map fun fb => bAnd fa fb) = some f at h
        obtain ⟨fa, fb, h1, h2, rfl⟩ := bindm h
        have hb := ih.T X Θ _ fb ok h2
        exact (sw_and (ih.T X Θ a fa ok h1) (fun H0 A0 wh pins s σ H Q I q => by have := hb H0 A0 pins s σ H Q I q; exact this)).st
    | Or =>
      match es, h with
      | [], h => exact nomatch (show (none : Option DT) = some _ from h)
      | [a], h => exact (sw_or1 (ih.T X Θ a f ok h)).st
      | a :: b :: r, h =>
        change ((compT n Θ a).bind fun fa => (compT n Θ (.BoolOp .Or (b :: r) pos)).map fun fb => bOr fa fb) = some f at h
        obtain ⟨fa, fb, h1, h2, rfl⟩ := bindm h
        have hb := ih.T X Θ _ fb ok h2
        exact (sw_or (ih.T X Θ a fa ok h1) (fun H0 A0 wh pins s σ H Q I q => by have := hb H0 A0 pins s σ H Q I q; exact this)).st
  | Compare a ops bs pos =>
    match ops, bs, h with
    | [op], [b], h =>
      change ((compE n Θ a).bind fun fa => (compE n Θ b).bind fun fb => (cmpG op).map fun g => dTru (dOp g fa fb)) = some f at h
      obtain ⟨fa, h1, h⟩ := bind1 h
      obtain ⟨fb, g, h2, h3, rfl⟩ := bindm h
      obtain ⟨r, o1, o2, o3⟩ := cmp_ok ok h3
      exact st_cmp o1 o2 o3 (ih.E X Θ a fa ok h1) (ih.E X Θ b fb ok h2) (noMark h2 op)
    | [], _, h => exact nomatch (show (none : Option DT) = some _ from h)
    | [_], [], h => exact nomatch (show (none : Option DT) = some _ from h)
    | [_], _ :: _ :: _, h => exact nomatch (show (none : Option DT) = some _ from h)
    | _ :: _ :: _, _, h => exact nomatch (show (none : Option DT) = some _ from h)
  | IfExp c a b pos => exact nomatch (show (none : Option DT) = some _ from h)
  | _ => exact dflt h fun _ => rfl
theorem all_I {n : Nat} (ih : AllOk n) : ∀ X Θ tg e f, CtxOk X Θ → compI (n + 1) Θ tg e = some f → SI X tg e f ∧ ∀ x, foldedSetIterable e X.env x = pure x := by
  intro X Θ tg e f ok h
  have dflt : (compE n Θ e).map iVal = some f → SI X tg e f ∧ ∀ x, foldedSetIterable e X.env x = pure x := fun h => by
    obtain ⟨fa, h1, rfl⟩ := Option.map_eq_some_iff.mp h
    exact ⟨si_val (ih.E X Θ e fa ok h1), noFold h1 X.env⟩
  cases e with
  | Call fn args kws pos =>
    cases fn with
    | Name x p =>
      cases kws with
      | cons k ks => exact dflt h
      | nil =>
        simp only [compI] at h
        split at h
        · rename_i hg
          simp only [Bool.and_eq_true] at hg
          obtain ⟨g1, g2, g3⟩ := gl_ok ok hg.1
          match args, h with
          | [], h => exact dflt h
          | [a], h =>
            dsimp only at h
            split at h
            · rename_i e
              obtain ⟨fa, h1, rfl⟩ := Option.map_eq_some_iff.mp h
              subst e
              exact ⟨si_range1 g1 (ok.mg _ (by decide +kernel)) (ih.E X Θ a fa ok h1) (star1 h1 [] X.env), fun _ => rfl⟩
            · split at h
              · rename_i e
                split at h
                · rename_i ht
                  obtain ⟨fa, h1, rfl⟩ := Option.map_eq_some_iff.mp h
                  subst e
                  cases tg with
                  | Tuple es k tp => exact ⟨si_enum g1 (ok.mg _ (by decide +kernel)) (ih.E X Θ a fa ok h1) (star1 h1 [] X.env), fun _ => rfl⟩
                  | _ => simp [isTup] at ht
                · cases h
              · exact dflt h
          | [a, b], h =>
            dsimp only at h
            split at h
            · rename_i e
              obtain ⟨fa, fb, h1, h2, rfl⟩ := bindm h
              subst e
              exact ⟨si_range2 g1 (ok.mg _ (by decide +kernel)) (ih.E X Θ a fa ok h1) (ih.E X Θ b fb ok h2) (by rw [star1 h1 [b] X.env, star1 h2 [] X.env]; rfl) (star1 h2 [] X.env), fun _ => rfl⟩
            · split at h
              · rename_i e
                split at h
                · rename_i ht
                  obtain ⟨fa, fb, h1, h2, rfl⟩ := bindm h
                  subst e
                  cases tg with
                  | Tuple es k tp => exact ⟨si_zip g1 (ok.mg _ (by decide +kernel)) (ih.E X Θ a fa ok h1) (ih.E X Θ b fb ok h2) (by rw [star1 h1 [b] X.env, star1 h2 [] X.env]; rfl) (star1 h2 [] X.env), fun _ => rfl⟩
                  | _ => simp [isTup] at ht
                · cases h
              · exact dflt h
          | _ :: _ :: _ :: _, h => exact dflt h
        · exact dflt h
    | _ => exact dflt h
  | _ => exact dflt h
theorem all_ok : ∀ n, AllOk n
  | 0 => ⟨fun _ _ _ _ _ h => (nomatch (show (none : Option DE) = some _ from h)), fun _ _ _ _ _ _ _ _ _ h => by simp [compB] at h, fun _ _ _ _ _ h => by simp [compT] at h, fun _ _ _ _ _ h => by simp [compTs] at h, fun _ _ _ _ _ h => by simp [compA] at h, fun _ _ _ _ _ h => by simp [compO] at h, fun _ _ _ _ _ _ h => by simp [compI] at h⟩
  | n + 1 => by
    have ih := all_ok n
    refine ⟨all_E ih, all_B ih, all_T ih, fun X Θ e f ok h => ?_, fun X Θ e f ok h => ?_, fun X Θ e f ok h => ?_, all_I ih⟩
    · match e, h with
      | [], h => simp only [compTs] at h; cases h; exact spts_nil
      | [c], h => simp only [compTs] at h; exact spts_one (ih.T X Θ c f ok h)
      | _ :: _ :: _, h => simp only [compTs] at h; cases h
    · match e, h with
      | [], h => simp only [compA] at h; cases h; exact sa_nil
      | e :: es, h =>
        simp only [compA] at h
        obtain ⟨fa, fs, h1, h2, rfl⟩ := bindm h
        exact sa_cons (ih.E X Θ e fa ok h1) (ih.A X Θ es fs ok h2) (star1 h1 es X.env)
    · match e, h with
      | none, h => simp only [compO] at h; cases h; exact so_none
      | some e, h =>
        simp only [compO] at h
        obtain ⟨fa, h1, rfl⟩ := Option.map_eq_some_iff.mp h
        exact so_some (ih.E X Θ e fa ok h1)
end HS
namespace HS
open PySem PySem.Spec L2
section
variable {X : Cx} {st : Stmt} {sts : List Stmt} {e : Expr} {fa : DE} {f g : DS} {gc : DT} {pos : Pos}
noncomputable def sNever : DS := fun _ => none
theorem s1_never : S1 X st sNever := fun H0 A0 => ps_never.mono fun E σ H ⟨ρ, hs, F, o, rel, e, q⟩ => by cases e
/-! ### while, without a bound of its own -/
/-! ### a, b = .. -/
noncomputable def sAsgT (t : Tg) (fa : DE) : DS := fun ρ => (fa ρ).bind fun r => (bindT t r.d (demote r.norm.M ρ)).map .nx
theorem s1_asgT {tg : Expr} {t : Tg} (he : SE X e fa) (hg : SG X tg t) (hs : swapsWithSole [tg] e pos.line X.env = pure false) (hw : swappedStores [tg] e X.env = pure none) (h1 : (assignEach [tg] X.env).map (·.2) = [assign tg X.env]) :
    S1 X (.Assign [tg] e pos) (sAsgT t fa) := fun H0 A0 => (ps_asg (he H0 A0) (hg H0 A0) hs hw h1).mono fun E σ H ⟨ρ, hs, F, o, rel, e, q⟩ => by
  obtain ⟨r, e1, e⟩ := bind1 e
  obtain ⟨ρ', e2, rfl⟩ := Option.map_eq_some_iff.mp e
  refine ⟨ρ, hs, F, r, rel, e1, fun v H' G p => ?_⟩
  have p' := p.norm
  have rp := p'.rp
  rw [r.norm_d] at rp
  exact ⟨demote r.norm.M ρ, hs, F, r.d, G, ρ', (rel.ext p'.same).weak (demote_weak _ _), rp, Shr.of rel p'.src, e2, fun σ' F' rel' _ _ => q _ _ F' rel'⟩
/-- name = [..] -/
theorem s1_comp {tg iter elt : Expr} {ifs : List Expr} {scope : Scope} {N' : List Str} {fi : DI} {t : Tg} {cap : List (Option Nat)} {ft : DT} {fe : DE} {i : Nat} {x : Str} {pos' spos : Pos} (hN : X.N.Nodup) (hx1 : X.N[i]? = some x) (hx : Loc X.env.scope x) (hf : X.fn x = true ∨ X.env.scope.names.lookup x = some .local)
    (hcalm : X.calm = true) (S : CScope X N' scope) (hi : SI X tg iter fi) (hcap : CapIs X N' scope cap t.slots)
    (hin : ∀ cl C fp s3 H3, SG (cxc X N' scope cl C fp s3 H3) tg t ∧ SPTs (cxc X N' scope cl C fp s3 H3) ifs ft ∧ SE (cxc X N' scope cl C fp s3 H3) elt fe) (hs : ∀ x, foldedSetIterable iter X.env x = pure x) :
    S1 X (.Assign [.Name x pos'] (.ListComp elt [⟨tg, iter, ifs, 0⟩] scope pos) spos) (sAsg i (dComp fi t cap ft fe)) :=
  s1_asg fun H0 A0 => (ps_comp hN hx1 hx hf hcalm S (hi H0 A0) (fun cl C fp s3 H3 => ⟨(hin cl C fp s3 H3).1 _ _, (hin cl C fp s3 H3).2.1 _ _, (hin cl C fp s3 H3).2.2 _ _⟩) hs).mono fun E σ H h => comp_mono hcap h
end
end HS
namespace HS
open PySem PySem.Spec L2 PyProof.Rows
section
variable {X : Cx} {a b e : Expr} {fa fb : DE} {pf : DP} {x : Nat} {pos apos : Pos}
theorem list_ty {X : Cx} {H : Hp} {ds : List D} {w : V} {Gm : List Addr} (h : Rp X.K H (.lst ds) w Gm) : tyV X.K "list" w H := by
  obtain ⟨l, ws, L, rfl, hl, _⟩ := h.lst_inv
  exact .inl ⟨rfl, ws, lst_sq hl⟩
theorem Post.unit {K : PySem.W.Frag} {ρ : En} {F : Nat → List Addr} {H : Hp} : Post K ρ F H H ⟨.non, true, []⟩ .non [] := .flat (Same.refl _) .non_mk
/-- ...clear() -/
noncomputable def sClr (x : Nat) (pf : DP) : DS := fun ρ => match ρ[x]? with
  | some (some (d, true)) => (pf ρ).bind fun is => match dpath d is with
    | some (.lst _) => some (.nx (ρ.set x (some (updP is d (.lst []), true))))
    | _ => none
  | _ => none
theorem clr_mono {H0 : Hp} {A0 : List Addr} {E : Ends} {σ : L2.St} {H : Hp} : tS X.K H0 A0 (sClr x pf) E σ H → tDrop (tBM0 X.K "list" rClear (tP X.K H0 A0 x pf)) E σ H := fun ⟨ρ, hs, F, o, rel, e, q⟩ => by
  unfold sClr at e
  split at e
  · rename_i d hx
    obtain ⟨is, e2, e⟩ := bind1 e
    split at e
    · rename_i ds hp
      cases e
      refine ⟨ρ, hs, F, d, true, is, .lst ds, rel, hx, e2, hp, fun v0 w H2 Gm s2 hv0 fo => ⟨list_ty fo.rp, ?_⟩⟩
      obtain ⟨l, vsm, Gp, rfl, g1, g2, g3, g4, g5, g6, g7⟩ := (rel.ext s2).write .unit rfl List.nodup_nil hx (by simp) hv0 fo
      refine ⟨l, vsm, rfl, rfl, g1, ?_⟩
      obtain ⟨F', rel'⟩ := g7 [] [] [] (by simp [Rps]) (Nat.zero_le _) rfl (fun a => by simp)
      exact q _ _ F' rel'
    · cases e
  · cases e
/-! ### ...extend(e), flat items -/
/-! ### ...insert(i, e) -/
/-! ### ...remove(e), ints -/
/-! ### x.append(y.pop(i)), flat items -/
theorem Rps.erase {K : PySem.W.Frag} {H : Hp} : ∀ {ds : List D} {vs : List V} {F : List Addr} (k : Nat), flats ds = true → Rps K H ds vs F → Rps K H (ds.eraseIdx k) (vs.eraseIdx k) []
  | [], vs, F, k, _, h => by
    simp only [Rps] at h
    obtain ⟨rfl, rfl⟩ := h
    simp [Rps]
  | d :: ds, vs, F, 0, hf, h => by
    have hF := h.flat0 hf
    subst hF
    simp only [Rps] at h
    obtain ⟨w, ws, F1, F2, rfl, eF, r, q⟩ := h
    have : F2 = [] := (List.append_eq_nil_iff.mp eF.symm).2
    subst this
    simpa using q
  | d :: ds, vs, F, k + 1, hf, h => by
    have hF := h.flat0 hf
    subst hF
    simp only [Rps] at h
    obtain ⟨w, ws, F1, F2, rfl, eF, r, q⟩ := h
    obtain ⟨rfl, rfl⟩ := List.append_eq_nil_iff.mp eF.symm
    simp only [flats, Bool.and_eq_true] at hf
    have ih := Rps.erase k hf.2 q
    simp only [List.eraseIdx_cons_succ, Rps]
    exact ⟨w, _, [], [], rfl, rfl, r, ih⟩
end
/-! ### statements, turned -/
noncomputable def notComp : Expr → Bool
  | .ListComp .. => false
  | .SetComp .. => false
  | .DictComp .. => false
  | _ => true
theorem swaps_not {e : Expr} {t : Option Expr} {l : Nat} {env : Env} (h : notComp e = true) : swapsWith e t l env = pure false := by
  cases e <;> first | rfl | cases h
noncomputable def isTupE : Expr → Bool
  | .Tuple .. => true
  | _ => false
/-- a written place: a name, items of it -/
noncomputable def compP (n : Nat) (Θ : Th) (e : Expr) : Option (Nat × DP) := match n with
  | 0 => none
  | n + 1 => match e with
    | .Name x _ => (Θ.slot x).map fun i => (i, pNil)
    | .Subscript a b _ => (compP n Θ a).bind fun q => (compE n Θ b).map fun fb => (q.1, pSnoc q.2 fb)
    | _ => none
theorem compP_ok : ∀ (n : Nat) (X : Cx) (Θ : Th) (e : Expr) (q : Nat × DP), CtxOk X Θ → compP n Θ e = some q → SPa X e q.1 q.2 ∧ attributeBase e = fun _ env w => w
  | 0, _, _, _, _, _, h => by simp [compP] at h
  | n + 1, X, Θ, e, q, ok, h => by
    cases e with
    | Name x pos =>
      simp only [compP] at h
      obtain ⟨i, hi, rfl⟩ := Option.map_eq_some_iff.mp h
      exact ⟨spa_name (slot_ok ok hi), by funext a b c; rfl⟩
    | Subscript a b pos =>
      simp only [compP] at h
      obtain ⟨q', fb, h1, h2, rfl⟩ := bindm h
      exact ⟨spa_sub (compP_ok n X Θ a q' ok h1).1 ((all_ok n).E X Θ b fb ok h2) (plainIx h2), by funext a b c; rfl⟩
    | _ => simp [compP] at h
/-- an alias of something else -/
noncomputable def isAlias : Expr → Bool
  | .Name .. => true
  | .Subscript _ (.Slice ..) _ => false
  | .Subscript (.Call ..) _ _ => false
  | .Subscript .. => true
  | _ => false
noncomputable def augG : Operator → Option (D → D → Option D)
  | .Add => some (gI fun i j => some (.int (i + j)))
  | .Sub => some gSub
  | _ => none
theorem aug_ok {X : Cx} {op : Operator} {g : D → D → Option D} (h : augG op = some g) : ∃ r, OpR X (inplaceOp op) r ∧ OpOk X.K g r := by
  cases op <;> cases h
  · exact ⟨_, iop_add, ok_I (fun i j d e => by cases e; rfl) fun i j d e H Q q => by cases e; exact ⟨i, j, rfl, rfl, q _ fun _ => .int_mk⟩⟩
  · exact ⟨_, iop_sub, ok_sub⟩
noncomputable def isSlice : Expr → Bool
  | .Slice .. => true
  | _ => false
noncomputable def compM (n : Nat) (Θ : Th) (o : Expr) (m : Str) (args : List Expr) : Option DS := match args with
  | [] => (compP n Θ o).bind fun q => if m = "clear" then some (sClr q.1 q.2) else
    none
  | [e] => if m = "append" then
     ((compP n Θ o).bind fun q => (compE n Θ e).map fun fa => sApp q.1 q.2 fa)
    else
    none
  | _ => none
theorem compM_ok {n : Nat} {X : Cx} {Θ : Th} {o : Expr} {m : Str} {args : List Expr} {f : DS} {apos cpos pos : Pos} (ok : CtxOk X Θ) (h : compM n Θ o m args = some f) (hl : (apos.endLine == cpos.line) = true) :
    S1 X (.Expr (.Call (.Attribute o m apos) args [] cpos) pos) f := by
  have base : ∀ {q : Nat × DP}, compP n Θ o = some q → SPa X o q.1 q.2 ∧ attributeBase o m X.env (eval o X.env) = eval o X.env := fun {q} h1 => by
    obtain ⟨sp, ab⟩ := compP_ok n X Θ o _ ok h1
    exact ⟨sp, by rw [ab]⟩
  have app : ∀ {e : Expr} {f : DS}, m = "append" → ((compP n Θ o).bind fun q => (compE n Θ e).map fun fa => sApp q.1 q.2 fa) = some f → S1 X (.Expr (.Call (.Attribute o m apos) [e] [] cpos) pos) f := fun {e f} em h => by
    obtain ⟨q, fa, h1, h2, rfl⟩ := bindm h
    obtain ⟨sp, hb⟩ := base h1
    subst em
    have he := (all_ok n).E X Θ e fa ok h2
    have st := star1 h2 [] X.env
    have sa : ∀ H0 A0, PA X [e] (tCons (tV X.K H0 A0 fa) tNil) := fun H0 A0 => pa_cons (he H0 A0) pa_nil st
    exact fun H0 A0 => (ps_expr (pe_bm PySem.F.plainAttrs_list PySem.F.slot_list_append PySem.F.type_list_append mt_append (sp H0 A0) (sa H0 A0) hb (by rw [st]; rfl) hl st rfl) rfl).mono fun E σ H q => app_mono q
  match args, h with
  | [], h =>
    unfold compM at h
    dsimp only at h
    obtain ⟨⟨x, pf⟩, h1, h⟩ := bind1 h
    obtain ⟨sp, hb⟩ := base h1
    by_cases e : m = "clear"
    · rw [if_pos e] at h; cases h; subst e
      exact fun H0 A0 => (ps_expr (pe_bm0 PySem.F.plainAttrs_list PySem.F.slot_list_clear PySem.F.type_list_clear mt_clear (sp H0 A0) hb hl) rfl).mono fun E σ H q => clr_mono q
    rw [if_neg e] at h
    cases h
  | [e], h =>
    unfold compM at h
    dsimp only at h
    by_cases em : m = "append"
    · rw [if_pos em] at h
      exact app em h
    rw [if_neg em] at h
    clear em
    clear app
    cases h
  | _ :: _ :: _, h => exact nomatch (show (none : Option DS) = some _ from h)
end HS
namespace HS
open PySem PySem.Spec L2 PyProof.Rows
mutual
noncomputable def compS (n : Nat) (Θ : Th) (st : Stmt) : Option DS := match n with
  | 0 => none
  | n + 1 => match st with
    | .Pass _ => some sNil
    | .Break _ => some sBrk
    | .Continue _ => some sCnt
    | .Raise _ _ _ => some sNever
    | .Return none _ => some sRetN
    | .Return (some e) _ => (compE n Θ e).map sRet
    | .Expr (.Constant (.str _) _ _) _ => some sNil
    | .Expr (.Call (.Attribute o m apos) args [] cpos) _ => if (apos.endLine == cpos.line) = true then compM n Θ o m args else none
    | .Expr (.Call (.Name x p) args [] cpos) _ => (compE n Θ (.Call (.Name x p) args [] cpos)).map sDrop
    | .Assign [.Name x _] e _ => (Θ.lslot x).bind fun i => (compE n Θ e).map fun fa => sAsg i (if isAlias e = true then dShare fa else fa)
    | .Assign [.Tuple es k p] e _ => if notComp e = true ∧ isTupE e = false then (tgOf Θ (.Tuple es k p)).bind fun t => (compE n Θ e).map fun fa => sAsgT t fa else none
    | .Assign [.Subscript a i _] e _ => (compP n Θ a).bind fun q => (compE n Θ i).bind fun fi => (compE n Θ e).map fun fa => sSet q.1 q.2 fi fa
    | .AugAssign (.Subscript a i _) op e _ => (compP n Θ a).bind fun q => (compE n Θ i).bind fun fi => (augG op).bind fun g => (compE n Θ e).map fun fa => sAugI g q.1 q.2 fi fa
    | .If c a b _ => (compT n Θ c).bind fun g => (compSs n Θ a).bind fun f1 => (compSs n Θ b).map fun f2 => sIf g f1 f2
    | .For tg iter body [] _ => (tgOf Θ tg).bind fun t => (compI n Θ tg iter).bind fun fi => (compSs n Θ body).map fun fb => sFor fi t fb
    | _ => none
noncomputable def compSs (n : Nat) (Θ : Th) (sts : List Stmt) : Option DS := match n with
  | 0 => none
  | n + 1 => match sts with
    | [] => some sNil
    | st :: r => (compS n Θ st).bind fun f => (compSs n Θ r).map fun g => sSeq f g
end
theorem noSlice {n : Nat} {Θ : Th} {e : Expr} {f : DE} (h : compE n Θ e = some f) : isSlice e = false := by
  cases n with
  | zero => exact nomatch (show (none : Option DE) = some _ from h)
  | succ n => cases e <;> first | rfl | (exact nomatch (show (none : Option DE) = some _ from h))
theorem compGen {n : Nat} {Θ : Th} {elt : Expr} {gens : List Comprehension} {scope : Scope} {pos : Pos} {f : DE} (h : compE n Θ (.ListComp elt gens scope pos) = some f) : ∃ m tg iter ifs t fi ft fe, n = m + 1 ∧ gens = [⟨tg, iter, ifs, 0⟩] ∧ tgOf (inner Θ scope) tg = some t ∧ compOk Θ scope t = true ∧
    compI m Θ tg iter = some fi ∧ compTs m (inner Θ scope) ifs = some ft ∧ compE m (inner Θ scope) elt = some fe ∧ f = dComp fi t (capOf Θ scope) ft fe := by
  cases n with
  | zero => exact nomatch (show (none : Option DE) = some _ from h)
  | succ n =>
    match gens, h with
    | [⟨tg, iter, ifs, k⟩], h =>
      by_cases hk : k = 0
      · subst hk
        (conv at h => lhs; whnf)
        obtain ⟨t, ht, h⟩ := bind1 h
        split at h
        · rename_i hc
          simp only [Bool.and_eq_true] at hc
          obtain ⟨fi, h1, h⟩ := bind1 h
          obtain ⟨ft, fe, h2, h3, rfl⟩ := bindm h
          exact ⟨n, tg, iter, ifs, t, fi, ft, fe, rfl, rfl, ht, hc.1, h1, h2, h3, rfl⟩
        · cases h
      · exfalso
        cases k with
        | ofNat k =>
          cases k with
          | zero => exact hk rfl
          | succ k => exact nomatch (show (none : Option DE) = some _ from h)
        | negSucc k => exact nomatch (show (none : Option DE) = some _ from h)
    | [], h => exact nomatch (show (none : Option DE) = some _ from h)
    | ⟨_, _, _, .ofNat 0⟩ :: _ :: _, h => exact nomatch (show (none : Option DE) = some _ from h)
    | ⟨_, _, _, .ofNat (k + 1)⟩ :: _ :: _, h => exact nomatch (show (none : Option DE) = some _ from h)
    | ⟨_, _, _, .negSucc k⟩ :: _ :: _, h => exact nomatch (show (none : Option DE) = some _ from h)
theorem s1_name {n : Nat} {X : Cx} {Θ : Th} {x : Str} {p pos : Pos} {e : Expr} {fa : DE} {i : Nat} (ok : CtxOk X Θ) (hx : Θ.lslot x = some i) (h : compE n Θ e = some fa) : S1 X (.Assign [.Name x p] e pos) (sAsg i fa) := by
  have hN : X.N.Nodup := by rw [ok.N]; exact ok.nd
  obtain ⟨h1, h2, h3⟩ := lslot_ok ok hx
  by_cases hc : notComp e = true
  · have he := (all_ok n).E X Θ e fa ok h
    exact s1_asg fun H0 A0 => ps_set hN h1 h2 (he H0 A0) (swaps_not hc) h3
  · cases e with
    | ListComp elt gens scope cpos =>
      obtain ⟨m, tg, iter, ifs, t, fi, ft, fe, rfl, rfl, ht, hco, g1, g2, g3, rfl⟩ := compGen h
      obtain ⟨S, cap, inn⟩ := inner_ok ok hco
      obtain ⟨i1, i2⟩ := (all_ok m).I X Θ tg iter fi ok g1
      exact s1_comp hN h1 h2 h3 ok.calm S i1 cap (fun cl C fp s3 H3 => ⟨tg_ok (inn cl C fp s3 H3) ht, (all_ok m).Ts _ _ ifs ft (inn cl C fp s3 H3) g2, (all_ok m).E _ _ elt fe (inn cl C fp s3 H3) g3⟩) i2
    | SetComp _ _ _ _ => cases n <;> exact nomatch (show (none : Option DE) = some _ from h)
    | DictComp _ _ _ _ _ => cases n <;> exact nomatch (show (none : Option DE) = some _ from h)
    | _ => exact absurd rfl hc
theorem s1_share {X : Cx} {x : Str} {p pos : Pos} {e : Expr} {fa : DE} {i : Nat} {n : Nat} {Θ : Th} (ok : CtxOk X Θ) (hx : Θ.lslot x = some i) (h : compE n Θ e = some fa) (ha : isAlias e = true) : S1 X (.Assign [.Name x p] e pos) (sAsg i (dShare fa)) := by
  have hN : X.N.Nodup := by rw [ok.N]; exact ok.nd
  obtain ⟨h1, h2, h3⟩ := lslot_ok ok hx
  have hc : notComp e = true := by cases e <;> first | rfl | cases ha
  have he := se_share ((all_ok n).E X Θ e fa ok h)
  exact s1_asg fun H0 A0 => ps_set hN h1 h2 (he H0 A0) (swaps_not hc) h3
theorem sub_swaps {a i e : Expr} {p : Pos} {l : Nat} {env : Env} : swapsWithSole [.Subscript a i p] e l env = pure false := by
  cases e <;> rfl
structure AllS (n : Nat) : Prop where
  S : ∀ X Θ st f, CtxOk X Θ → compS n Θ st = some f → S1 X st f
  Ss : ∀ X Θ sts f, CtxOk X Θ → compSs n Θ sts = some f → SS X sts f
theorem all_S1 {n : Nat} (ih : AllS n) : ∀ X Θ st f, CtxOk X Θ → compS (n + 1) Θ st = some f → S1 X st f := by
  intro X Θ st f ok h
  have hN : X.N.Nodup := by rw [ok.N]; exact ok.nd
  have E := all_ok n
  cases st with
  | Pass pos => change some sNil = some f at h; cases h; exact s1_pass
  | Break pos => change some sBrk = some f at h; cases h; exact s1_break
  | Continue pos => change some sCnt = some f at h; cases h; exact s1_cont
  | Raise a b pos => change some sNever = some f at h; cases h; exact s1_never
  | Return e pos =>
    cases e with
    | none => change some sRetN = some f at h; cases h; exact s1_retN
    | some e =>
      change (compE n Θ e).map sRet = some f at h
      obtain ⟨fa, h1, rfl⟩ := Option.map_eq_some_iff.mp h
      exact s1_ret (E.E X Θ e fa ok h1)
  | Expr e pos =>
    cases e with
    | Constant c k p =>
      cases c with
      | str x =>
        change some sNil = some f at h
        cases h
        exact fun H0 A0 => ps_doc.mono fun E σ H ⟨ρ, hs, F, o, rel, e, q⟩ => by cases e; exact q σ H F rel
      | _ => exact nomatch (show (none : Option DS) = some _ from h)
    | Call fn args kws cpos =>
      cases fn with
      | Attribute o m apos =>
        cases kws with
        | nil =>
          change (if (apos.endLine == cpos.line) = true then compM n Θ o m args else none) = some f at h
          split at h
          · rename_i hl
            exact compM_ok ok h hl
          · cases h
        | cons _ _ => exact nomatch (show (none : Option DS) = some _ from h)
      | Name x p =>
        cases kws with
        | nil =>
          change (compE n Θ (.Call (.Name x p) args [] cpos)).map sDrop = some f at h
          obtain ⟨fa, h1, rfl⟩ := Option.map_eq_some_iff.mp h
          exact fun H0 A0 => s1_drop (ps_expr (E.E X Θ _ fa ok h1 H0 A0) rfl)
        | cons _ _ => exact nomatch (show (none : Option DS) = some _ from h)
      | _ => exact nomatch (show (none : Option DS) = some _ from h)
    | _ => exact nomatch (show (none : Option DS) = some _ from h)
  | Assign ts e pos =>
    match ts, h with
    | [t], h =>
      cases t with
      | Name x p =>
        change ((Θ.lslot x).bind fun i => (compE n Θ e).map fun fa => sAsg i (if isAlias e = true then dShare fa else fa)) = some f at h
        obtain ⟨i, fa, h1, h2, rfl⟩ := bindm h
        split
        · rename_i ha; exact s1_share ok h1 h2 ha
        · exact s1_name ok h1 h2
      | Tuple es k p =>
        change (if notComp e = true ∧ isTupE e = false then (tgOf Θ (.Tuple es k p)).bind fun t => (compE n Θ e).map fun fa => sAsgT t fa else none) = some f at h
        split at h
        · rename_i hc
          obtain ⟨t, fa, h1, h2, rfl⟩ := bindm h
          refine s1_asgT (E.E X Θ e fa ok h2) (tg_ok ok h1) (by show swapsWith e (some (.Tuple es k p)) pos.line X.env = pure false; exact swaps_not hc.1) ?_ rfl
          cases e <;> first | rfl | (cases hc.2)
        · cases h
      | Subscript a i p =>
        change ((compP n Θ a).bind fun q => (compE n Θ i).bind fun fi => (compE n Θ e).map fun fa => sSet q.1 q.2 fi fa) = some f at h
        obtain ⟨q, h1, h⟩ := bind1 h
        obtain ⟨fi, fa, h2, h3, rfl⟩ := bindm h
        obtain ⟨sp, _⟩ := compP_ok n X Θ a q ok h1
        have ns := noSlice h2
        refine s1_set (E.E X Θ e fa ok h3) sp (E.E X Θ i fi ok h2) fun te to ti he ho hi => ps_asg he (pg_sub ho hi set_list ?_) sub_swaps ?_ rfl
        · intro v; cases i <;> first | rfl | (cases ns)
        · cases e <;> rfl
      | _ => exact nomatch (show (none : Option DS) = some _ from h)
    | [], h => exact nomatch (show (none : Option DS) = some _ from h)
    | t :: _ :: _, h => cases t <;> exact nomatch (show (none : Option DS) = some _ from h)
  | AugAssign t op e pos =>
    cases t with
    | Subscript a i p =>
      change ((compP n Θ a).bind fun q => (compE n Θ i).bind fun fi => (augG op).bind fun g => (compE n Θ e).map fun fa => sAugI g q.1 q.2 fi fa) = some f at h
      obtain ⟨q, h1, h⟩ := bind1 h
      obtain ⟨fi, h2, h⟩ := bind1 h
      obtain ⟨g, fa, h3, h4, rfl⟩ := bindm h
      obtain ⟨r, o1, o2⟩ := aug_ok (X := X) h3
      obtain ⟨sp, _⟩ := compP_ok n X Θ a q ok h1
      have ns := noSlice h2
      exact s1_augI o1 o2 (E.E X Θ e fa ok h4) sp (E.E X Θ i fi ok h2) fun ov iv new => by cases i <;> first | rfl | (cases ns)
    | _ => exact nomatch (show (none : Option DS) = some _ from h)
  | If c a b pos =>
    change ((compT n Θ c).bind fun g => (compSs n Θ a).bind fun f1 => (compSs n Θ b).map fun f2 => sIf g f1 f2) = some f at h
    obtain ⟨g, h1, h⟩ := bind1 h
    obtain ⟨f1, f2, h2, h3, rfl⟩ := bindm h
    exact s1_if (E.T X Θ c g ok h1) (ih.Ss X Θ a f1 ok h2) (ih.Ss X Θ b f2 ok h3)
  | For tg iter body els pos =>
    cases els with
    | nil =>
      change ((tgOf Θ tg).bind fun t => (compI n Θ tg iter).bind fun fi => (compSs n Θ body).map fun fb => sFor fi t fb) = some f at h
      obtain ⟨t, h1, h⟩ := bind1 h
      obtain ⟨fi, fb, h2, h3, rfl⟩ := bindm h
      obtain ⟨i1, i2⟩ := E.I X Θ tg iter fi ok h2
      exact s1_for ok.pass ok.calm i1 (tg_ok ok h1) (ih.Ss X Θ body fb ok h3) i2
    | cons _ _ => exact nomatch (show (none : Option DS) = some _ from h)
  | _ => exact nomatch (show (none : Option DS) = some _ from h)
theorem all_S : ∀ n, AllS n
  | 0 => ⟨fun _ _ _ _ _ h => (nomatch (show (none : Option DS) = some _ from h)), fun _ _ _ _ _ h => (nomatch (show (none : Option DS) = some _ from h))⟩
  | n + 1 => by
    have ih := all_S n
    refine ⟨all_S1 ih, fun X Θ sts f ok h => ?_⟩
    match sts, h with
    | [], h => change some sNil = some f at h; cases h; exact ss_nil
    | st :: r, h =>
      change ((compS n Θ st).bind fun f => (compSs n Θ r).map fun g => sSeq f g) = some f at h
      obtain ⟨fs, fr, h1, h2, rfl⟩ := bindm h
      exact ss_cons (ih.S X Θ st fs ok h1) (ih.Ss X Θ r fr ok h2)
end HS
namespace HS
open PySem PySem.Spec L2 PyProof.Rows
noncomputable def startEn (k : Nat) (ds : List D) : En := ds.map (fun d => some (d, d.flat)) ++ List.replicate (k - ds.length) none
noncomputable def outD : Out → Option (D × Bool)
  | .rt d fr => some (d, fr)
  | .nx _ => some (.non, true)
  | _ => none
noncomputable def denOf (k : Nat) (f : DS) : Den := fun ds => (f (startEn k ds)).bind outD
theorem Rps.parts {K : PySem.W.Frag} {H : Hp} : ∀ {ds : List D} {vs : List V} {F : List Addr}, Rps K H ds vs F →
    ∃ Fs : List (List Addr), (∀ L ∈ Fs, ∀ a ∈ L, a ∈ F) ∧ ∀ (i : Nat) (d : D), ds[i]? = some d → ∃ v, vs[i]? = some v ∧ Rp K H d v (Fs.getD i [])
  | [], _, _, h => ⟨[], fun L hL => by simp at hL, fun i d e => by simp at e⟩
  | d :: ds, _, _, h => by
    simp only [Rps] at h
    obtain ⟨v, ws, F1, F2, rfl, rfl, r, q⟩ := h
    obtain ⟨Fs, h1, h2⟩ := Rps.parts q
    refine ⟨F1 :: Fs, fun L hL a ha => ?_, fun i d' e => ?_⟩
    · rcases List.mem_cons.mp hL with rfl | hL
      · exact List.mem_append_left _ ha
      · exact List.mem_append_right _ (h1 L hL a ha)
    · cases i with
      | zero => simp at e; subst e; exact ⟨v, by simp, by simpa using r⟩
      | succ i => obtain ⟨w, hw, hr⟩ := h2 i d' (by simpa using e); exact ⟨w, by simpa using hw, by simpa using hr⟩
theorem startEn_get {k : Nat} {ds : List D} {i : Nat} {d : D} {b : Bool} (h : (startEn k ds)[i]? = some (some (d, b))) : ds[i]? = some d ∧ b = d.flat := by
  unfold startEn at h
  by_cases hi : i < ds.length
  · rw [List.getElem?_append_left (by simpa using hi), List.getElem?_map] at h
    cases e : ds[i]? with
    | none => rw [e] at h; cases h
    | some a => rw [e] at h; cases h; exact ⟨rfl, rfl⟩
  · rw [List.getElem?_append_right (by simpa using hi), List.getElem?_replicate] at h
    split at h <;> cases h
theorem rel_start {K : PySem.W.Frag} {H : Hp} {ds : List D} {vs : List V} {F : List Addr} {N : List Str} (r : Rps K H ds vs F) : ∃ F0, Rel K H F [] (startEn N.length ds) F0 (start N vs) H := by
  obtain ⟨Fs, h1, h2⟩ := r.parts
  have hl := r.length
  have src : ∀ i a, a ∈ Fs.getD i [] → a ∈ F := fun i a ha => by
    by_cases hi : i < Fs.length
    · have : Fs.getD i [] ∈ Fs := by rw [List.getD_eq_getElem?_getD, List.getElem?_eq_getElem hi]; exact List.getElem_mem hi
      exact h1 _ this a ha
    · rw [List.getD_eq_getElem?_getD, List.getElem?_eq_none (by omega)] at ha; simp at ha
  refine ⟨fun i => Fs.getD i [], ?_, fun i d b e => ?_, fun i d e => ?_, fun i d b e a ha => .inr (src i a ha), fun t ht => absurd ht (by simp), Same.refl _⟩
  · unfold startEn L2.start; simp [hl]
  · obtain ⟨e1, _⟩ := startEn_get e
    obtain ⟨v, hv, hr⟩ := h2 i d e1
    refine ⟨v, ?_, hr⟩
    have hi : i < vs.length := (List.getElem?_eq_some_iff.mp hv).1
    unfold L2.start
    rw [List.getElem?_append_left (by simpa using hi), List.getElem?_map, hv]; rfl
  · obtain ⟨e1, e2⟩ := startEn_get e
    obtain ⟨v, hv, hr⟩ := h2 i d e1
    have z : Fs.getD i [] = [] := hr.flat0 e2.symm
    simp only [z]
    exact ⟨(nl_flat d e2.symm).symm, List.nodup_nil, fun a ha => by simp at ha, fun _ _ _ _ _ a ha => by simp at ha, fun _ _ a ha => by simp at ha⟩
section
variable (P : Program) (w : World) (K : PySem.W.Frag) (mg : Str → Option Value) (base : Heap)
/-- a def of the text that is known, callable from level k on -/
noncomputable def Known (k : Nat) (x : Str) (r : FnR) : Prop := ∃ f fd ps, FnOk P w K mg base CX0 k f fd ps (spV K r.n r.den) ∧ mg x = some (.ref f) ∧ PySem.W.keepIn K (.ref f) = true ∧
  ∀ m, m ≤ r.dfl.length → ∃ ds dvs, Binds K fd ps ds ∧ Vals dvs ds ∧ ∀ H, Rps K H (r.dfl.drop (r.dfl.length - m)) dvs []
noncomputable def TabOk (k : Nat) (Γ : List (Str × FnR)) : Prop := ∀ x r, look x Γ = some r → Known P w K mg base k x r
/-- what the module holds -/
structure ModOk (cs : List (Str × Int)) : Prop where
  bn : ∀ x ∈ bNames, mg x = none
  cs : ∀ x i, look x cs = some i → ∃ t, mg x = some (.int i t)
end
section
variable {P : Program} {w : World} {K : PySem.W.Frag} {mg : Str → Option Value} {base : Heap}
theorem TabOk.nil {k : Nat} : TabOk P w K mg base k [] := fun x r h => by cases h
theorem Known.mono {j k : Nat} {x : Str} {r : FnR} (h : Known P w K mg base j x r) (hk : j ≤ k) : Known P w K mg base k x r := by
  obtain ⟨f, fd, ps, h1, h2⟩ := h
  exact ⟨f, fd, ps, h1.mono hk, h2⟩
theorem TabOk.cons {k : Nat} {Γ : List (Str × FnR)} {x : Str} {r : FnR} (t : TabOk P w K mg base k Γ) (h : Known P w K mg base (k + 1) x r) : TabOk P w K mg base (k + 1) ((x, r) :: Γ) := fun y q e => by
  unfold look at e
  split at e
  · rename_i z; cases e; subst z; exact h
  · exact (t y q e).mono (Nat.le_succ _)
noncomputable def namesOf (sc : Scope) : List Str := (sc.names.filter fun y => isLoc y.2).map (·.1)
noncomputable def thOf (st : Stmt) (Γ : List (Str × FnR)) (cs : List (Str × Int)) : Th := ⟨namesOf (defScope st), (defScope st).names, Γ, cs⟩
theorem ctx_ok {st : Stmt} {ps : List Str} {qual : Str} {f : Addr} {cdv : Value} {A : Around} {outer : List Env} {s : Shared} {H : Hp} {E : XK} {k : Nat} {Γ : List (Str × FnR)} {cs : List (Str × Int)} (S : FnScope (namesOf (defScope st)) ps (defScope st)) (M : ModOk mg cs) (tab : TabOk P w K mg base k Γ)
    (hr : Room k (A.deeper (envOfC qual (defScope st) s.heap.objs.size f cdv))) : CtxOk (cxOf CX0 P w K mg base (namesOf (defScope st)) qual (defScope st) f cdv A outer s H E).nox (thOf st Γ cs) where
  N := rfl
  nd := S.nd
  lc := fun x h => by rw [look_eq] at h; exact h
  ce := fun x h => by rw [look_eq] at h; exact ⟨h, rfl⟩
  fe := fun x h => by rw [look_eq] at h; exact absurd rfl (S.nofree _ (PySem.mem_of_lookup h))
  gl := fun x h => by rw [look_eq] at h; exact h
  calm := rfl
  pass := PassesOwn.never
  units := hr.units
  mg := M.bn
  fns := fun x r h => by
    obtain ⟨f', fd, ps', h1, h2, h3, h4⟩ := tab x r h
    exact ⟨k, f', fd, ps', h1, hr, h2, h3, h4⟩
  cs := M.cs
theorem def_ok {x qual : Str} {st : Stmt} {f : Addr} {fd : FuncData} {ps : List Str} {k n : Nat} {Γ : List (Str × FnR)} {cs : List (Str × Int)} {g : DS} (F : Fun K x qual st f fd) (S : FnScope (namesOf (defScope st)) ps (defScope st)) (M : ModOk mg cs) (tab : TabOk P w K mg base k Γ)
    (hc : compSs n (thOf st Γ cs) (defBody st) = some g) : FnOk P w K mg base CX0 (k + 1) f fd ps (spV K ps.length (denOf (namesOf (defScope st)).length g)) := by
  refine F.ok S (spV_len rfl) fun cdv A outer s H vs Q E hr h => ?_
  obtain ⟨ds, L, d, fr, rps, hl, hd, q⟩ := h
  refine ⟨_, (all_S n).Ss _ _ _ g (ctx_ok S M tab hr) hc H L, ?_⟩
  obtain ⟨F0, rel⟩ := rel_start (N := namesOf (defScope st)) rps
  unfold denOf at hd
  obtain ⟨o, ho, hd⟩ := bind1 hd
  refine ⟨_, [], F0, o, rel, ho, ?_⟩
  cases o with
  | nx ρ =>
    cases hd
    exact fun σ H' F' rel' => q .non H' [] ⟨rel'.same, .non_mk, fun a ha => by simp at ha, fun _ => ⟨List.nodup_nil, rfl, fun a ha => by simp at ha⟩⟩
  | bk ρ => cases hd
  | ct ρ => cases hd
  | rt d' fr' =>
    cases hd
    exact fun v H' G r => q v H' G r
/-- a def as the top has left it -/
structure Fact (K : PySem.W.Frag) (x : Str) (st : Stmt) : Prop where
  ex : ∃ f fd, Fun K x x st f fd ∧ PySem.W.nsIn K mainGlobals x = some (some (.ref f))
theorem fact_mk {x : Str} {st : Stmt} {f : Addr} {oc : Value} {od an : Option Addr} {osl : Array (Option Value)} {kV doc pm cdv ct : Value} (a : PySem.W.nsIn K mainGlobals x = some (some (.ref f))) (l : K.lookup f = some ⟨oc, od, .func (PySem.W.fnOf x x (defArgs st) (defBody st) (defScope st) .none kV doc pm an cdv ct), osl⟩)
    (c : PySem.W.codeIn K cdv x = true) (k : PySem.W.keepIn K (.ref f) = true) : Fact K x st := ⟨f, _, fun_mk l c k, a⟩
/-- how a def without defaults binds -/
noncomputable def BindsAll (x : Str) (st : Stmt) (ps : List Str) : Prop := ∀ (kV doc pm : Value) (an : Option Addr) (cdv ct : Value) (us : List Value), us.length = ps.length → bindArgs (PySem.W.fnOf x x (defArgs st) (defBody st) (defScope st) .none kV doc pm an cdv ct) ⟨us, []⟩ = pure (ps.zip us)
theorem known_ok {h : Heap} {x : Str} {st : Stmt} {ps : List Str} {k n : Nat} {Γ : List (Str × FnR)} {cs : List (Str × Int)} {g : DS} (X : K.In h) (G : h.Ns mainGlobals mg) (F : Fact K x st) (S : FnScope (namesOf (defScope st)) ps (defScope st)) (B : BindsAll x st ps) (M : ModOk mg cs) (tab : TabOk P w K mg base k Γ)
    (hc : compSs n (thOf st Γ cs) (defBody st) = some g) : Known P w K mg base (k + 1) x ⟨ps.length, [], denOf (namesOf (defScope st)).length g⟩ := by
  obtain ⟨f, fd, Fn, a⟩ := F.ex
  refine ⟨f, fd, ps, def_ok Fn S M tab hc, PySem.W.mg_of X G a, Fn.kp, fun m hm => ⟨[], [], Fn.binds (B ·), .nil, fun H => by simp [Rps]⟩⟩
end
end HS
namespace HS
open PySem PySem.Spec L2 PyProof.Rows
theorem law_walk {l : PySem.W.OpenLaw} {k : Nat} {q : Program} {loose : List Str} {XP : (Str → Option Value) → Heap → Prop} {YP : World → Heap → Prop} {d : DefRec} {K : Params → PySem.W.Frag} {den : Den} {x : Str}
    (hn : l.most = some 63) (hdf : d.params.defaults = []) (hr : Room k callerA) (hY : ∀ (w : World) (h : Heap), YP w h → (K w.params).In h)
    (hden : ∀ ns : List Int, ns.length ≤ 63 → ∃ fr, den [.lst (ns.map .int)] = some (.bl true, fr))
    (F : ∀ (w : World) (mg : Str → Option Value) (fa : Addr) (h : Heap), (K w.params).In h → h.Ns mainGlobals mg → mg d.name = some (.ref fa) →
      ∃ fd : FuncData, (∀ (s : Shared) (u : Value), BindsTo s fd ⟨[u], []⟩ [(x, u)]) ∧
        ∀ base : Heap, (K w.params).In base → base.Ns mainGlobals mg → FnOk l.prog w (K w.params) mg base CX0 k fa fd [x] (spV (K w.params) 1 den)) :
    PySem.W.WalkO q loose XP YP l.row.toRowW d [] (fun f vs => PySem.call f vs) := by
  refine Att.attach_call hn hdf fun w s₀ s₁ mg mb fa o pm cd doc a vs ns G Y ho hd hcd hmg hobj hints hlen hg => ?_
  have KX := hY w _ Y
  obtain ⟨fd, hb, hF⟩ := F w mg fa _ KX G.T.g hmg
  have h63 : (63 : Nat) ≤ sizeLine := by decide
  refine law_call KX G.T.g G.T.b G.T.builtins G.T.nolimit hg hobj hints (Nat.le_trans hlen h63) hr hF hb (fun H hO hS => ?_) fun H e s' z => z
  have fx : Fix (K w.params) H a (ns.map V.int) := by
    rcases hS with (h | ⟨o, h⟩) | ⟨o, its, n, hk, hc, hdn, hda, hz, rv⟩
    · rcases hO a with z | ⟨o, xs, z⟩ <;> rw [h] at z <;> cases z
    · exact .inl ⟨o, h⟩
    · have e := KX a o hk
      rw [hobj] at e
      cases e
      cases hda
      exact .inr ⟨vs, _, hk, by rw [List.length_map]; exact Nat.le_trans hlen h63, by simpa using rv⟩
  obtain ⟨fr, hfr⟩ := hden ns hlen
  have rp : Rp (K w.params) H (.lst (ns.map .int)) (.ref a) [] := by
    simp only [Rp]
    refine ⟨by rw [List.length_map]; exact Nat.le_trans hlen h63, a, _, rfl, .inr ⟨fx, ?_⟩⟩
    have gen : ∀ ns : List Int, Rps (K w.params) H (ns.map .int) (ns.map .int) [] := by
      intro ns
      induction ns with
      | nil => simp [Rps]
      | cons n ns ih => simp only [List.map_cons, Rps]; exact ⟨_, _, [], [], rfl, rfl, .int_mk, ih⟩
    exact gen ns
  refine ⟨[.lst (ns.map .int)], [], .bl true, fr, ?_, rfl, hfr, fun v H' G r => r.rp.bl_inv⟩
  simp only [Rps]
  exact ⟨_, _, [], [], rfl, rfl, rp, rfl, rfl⟩
theorem law_F {P : Program} {w : World} {K : PySem.W.Frag} {mg : Str → Option Value} {h : Heap} {x y : Str} {st : Stmt} {fa : Addr} {k n : Nat} {Γ : List (Str × FnR)} {cs : List (Str × Int)} {g : DS} (X : K.In h) (G : h.Ns mainGlobals mg) (hmg : mg x = some (.ref fa))
    (F : Fact K x st) (S : FnScope (namesOf (defScope st)) [y] (defScope st)) (B : BindsAll x st [y]) (M : ModOk mg cs) (tab : ∀ base : Heap, TabOk P w K mg base k Γ) (hc : compSs n (thOf st Γ cs) (defBody st) = some g) :
    ∃ fd : FuncData, (∀ (s : Shared) (u : Value), BindsTo s fd ⟨[u], []⟩ [(y, u)]) ∧
        ∀ base : Heap, K.In base → base.Ns mainGlobals mg → FnOk P w K mg base CX0 (k + 1) fa fd [y] (spV K 1 (denOf (namesOf (defScope st)).length g)) := by
  obtain ⟨f, fd, Fn, a⟩ := F.ex
  have e := hmg.symm.trans (PySem.W.mg_of X G a)
  cases e
  refine ⟨fd, fun s u => ?_, fun base _ _ => def_ok Fn S M (tab base) hc⟩
  obtain ⟨oc, od, kV, doc, pm, an, cdv, ct, osl, rfl, lk, hcd⟩ := Fn.ex
  exact .of_eq (B kV doc pm an cdv ct [u] rfl)
end HS
namespace HS
open PySem L2
/-! ### data in plain words -/
noncomputable def pairD (p : Int × Int) : D := .tup [.int p.1, .int p.2]
noncomputable def wayD (p : Int × Int × Bool) : D := .tup [.int p.1, .int p.2.1, .bl p.2.2]
noncomputable def intsD (ns : List Int) : D := .lst (ns.map .int)
noncomputable def pairsD (ps : List (Int × Int)) : D := .lst (ps.map pairD)
noncomputable def netD (m : Int) (R L : List (Int × Int)) : D := .tup [.int m, pairsD R, pairsD L]
theorem flats_map {α : Type} {f : α → D} (h : ∀ a, (f a).flat = true) : ∀ l : List α, flats (l.map f) = true
  | [] => rfl
  | a :: l => by simp [flats, h a, flats_map h l]
@[simp] theorem flat_int (i : Int) : (D.int i).flat = true := rfl
@[simp] theorem flat_bl (i : Bool) : (D.bl i).flat = true := rfl
@[simp] theorem flat_non : D.non.flat = true := rfl
@[simp] theorem flat_str (x : Str) : (D.str x).flat = true := rfl
@[simp] theorem flat_lst (xs : List D) : (D.lst xs).flat = false := rfl
@[simp] theorem flat_tup (xs : List D) : (D.tup xs).flat = flats xs := rfl
@[simp] theorem flats_nil : flats [] = true := rfl
@[simp] theorem flats_cons (d : D) (ds : List D) : flats (d :: ds) = (d.flat && flats ds) := rfl
@[simp] theorem flat_pair (p : Int × Int) : (pairD p).flat = true := rfl
@[simp] theorem flat_way (p : Int × Int × Bool) : (wayD p).flat = true := rfl
@[simp] theorem flat_ints (ns : List Int) : (intsD ns).flat = false := rfl
@[simp] theorem flat_pairs (ns : List (Int × Int)) : (pairsD ns).flat = false := rfl
@[simp] theorem flats_pairs (ps : List (Int × Int)) : flats (ps.map pairD) = true := flats_map (fun _ => rfl) _
@[simp] theorem flats_ways (ps : List (Int × Int × Bool)) : flats (ps.map wayD) = true := flats_map (fun _ => rfl) _
@[simp] theorem flats_ints (ns : List Int) : flats (ns.map .int) = true := flats_map (fun _ => rfl) _
@[simp] theorem flats_app (xs ys : List D) : flats (xs ++ ys) = (flats xs && flats ys) := flats_append xs ys
/-! ### runs -/
noncomputable def Run (f : DS) (ρ : En) (Q : Out → Prop) : Prop := ∃ o, f ρ = some o ∧ Q o
noncomputable def Nx (Q : En → Prop) : Out → Prop
  | .nx ρ => Q ρ
  | _ => False
noncomputable def Rt (Q : D → Bool → Prop) : Out → Prop
  | .rt d fr => Q d fr
  | _ => False
theorem Run.mono {f : DS} {ρ : En} {Q Q' : Out → Prop} (h : Run f ρ Q) (m : ∀ o, Q o → Q' o) : Run f ρ Q' := let ⟨o, h1, h2⟩ := h; ⟨o, h1, m o h2⟩
theorem run_nil {ρ : En} {Q : Out → Prop} (h : Q (.nx ρ)) : Run sNil ρ Q := ⟨_, rfl, h⟩
/-- a statement that goes on, then the rest -/
theorem run_seq {f g : DS} {ρ : En} {Q : Out → Prop} (h : Run f ρ (Nx fun ρ' => Run g ρ' Q)) : Run (sSeq f g) ρ Q := by
  obtain ⟨o, h1, h2⟩ := h
  cases o with
  | nx ρ' =>
    obtain ⟨o', h3, h4⟩ := h2
    exact ⟨o', by simp [sSeq, h1, h3], h4⟩
  | _ => exact False.elim h2
/-- any end -/
theorem run_seqX {f g : DS} {ρ : En} {Q : Out → Prop} (h : Run f ρ fun o => match o with | .nx ρ' => Run g ρ' Q | o => Q o) : Run (sSeq f g) ρ Q := by
  obtain ⟨o, h1, h2⟩ := h
  cases o with
  | nx ρ' =>
    obtain ⟨o', h3, h4⟩ := h2
    exact ⟨o', by simp [sSeq, h1, h3], h4⟩
  | bk ρ' => exact ⟨_, by simp [sSeq, h1], h2⟩
  | ct ρ' => exact ⟨_, by simp [sSeq, h1], h2⟩
  | rt d fr => exact ⟨_, by simp [sSeq, h1], h2⟩
theorem run_asg {i : Nat} {fa : DE} {r : R} {ρ : En} {Q : Out → Prop} (h : fa ρ = some r) (q : Q (.nx (asg i r ρ))) : Run (sAsg i fa) ρ Q := ⟨_, by simp [sAsg, h], q⟩
theorem run_ret {fa : DE} {r : R} {ρ : En} {Q : Out → Prop} (h : fa ρ = some r) (q : Q (.rt r.d (r.norm.fr && decide r.norm.M.Nodup))) : Run (sRet fa) ρ Q := ⟨_, by simp [sRet, h], q⟩
theorem run_if {g : DT} {f1 f2 : DS} {b : Bool} {ρ : En} {Q : Out → Prop} (h : g ρ = some b) (q1 : b = true → Run f1 ρ Q) (q2 : b = false → Run f2 ρ Q) : Run (sIf g f1 f2) ρ Q := by
  cases b with
  | true => obtain ⟨o, h1, h2⟩ := q1 rfl; exact ⟨o, by simp [sIf, h, h1], h2⟩
  | false => obtain ⟨o, h1, h2⟩ := q2 rfl; exact ⟨o, by simp [sIf, h, h1], h2⟩
theorem den_of {k : Nat} {f : DS} {ds : List D} {d : D} {fr : Bool} (h : Run f (startEn k ds) (Rt fun d' fr' => d' = d ∧ fr' = fr)) : denOf k f ds = some (d, fr) := by
  obtain ⟨o, h1, h2⟩ := h
  unfold denOf
  cases o with
  | rt d' fr' => obtain ⟨rfl, rfl⟩ := h2; rw [h1]; rfl
  | _ => exact False.elim h2
/-- a loop by an invariant: I of the number of turns done -/
theorem run_loop {α : Type} {t : Tg} {fb : DS} {toD : α → D} {Q : Out → Prop} (I : Nat → En → Prop) : ∀ (xs ys : List α) (ρ : En), I ys.length ρ →
    (∀ i x ρ, (ys ++ xs)[i]? = some x → ys.length ≤ i → I i ρ → ∃ ρ1, bindT t (toD x) ρ = some ρ1 ∧ Run fb ρ1 fun o => match o with | .nx ρ2 => I (i + 1) ρ2 | .ct ρ2 => I (i + 1) ρ2 | .bk ρ2 => Q (.nx ρ2) | .rt d fr => Q (.rt d fr)) →
    (∀ ρ, I (ys ++ xs).length ρ → Q (.nx ρ)) → Run (loopF t fb (xs.map toD)) ρ Q
  | [], ys, ρ, h0, _, fin => ⟨_, rfl, fin ρ (by simpa using h0)⟩
  | x :: xs, ys, ρ, h0, turn, fin => by
    obtain ⟨ρ1, h1, o, h2, h3⟩ := turn ys.length x ρ (by simp) (Nat.le_refl _) h0
    have next : ∀ ρ2, I (ys.length + 1) ρ2 → Run (loopF t fb (xs.map toD)) ρ2 Q := fun ρ2 hi =>
      run_loop I xs (ys ++ [x]) ρ2 (by simpa using hi) (fun i y ρ' e hl => turn i y ρ' (by simpa using e) (by simp at hl; omega)) (fun ρ' h => fin ρ' (by simpa using h))
    cases o with
    | nx ρ2 => obtain ⟨o', e1, e2⟩ := next ρ2 h3; exact ⟨o', by simp [loopF, h1, h2, e1], e2⟩
    | ct ρ2 => obtain ⟨o', e1, e2⟩ := next ρ2 h3; exact ⟨o', by simp [loopF, h1, h2, e1], e2⟩
    | bk ρ2 => exact ⟨_, by simp [loopF, h1, h2], h3⟩
    | rt d fr => exact ⟨_, by simp [loopF, h1, h2], h3⟩
/-- for x in xs -/
theorem run_for {α : Type} {fi : DI} {t : Tg} {fb : DS} {toD : α → D} {ρ : En} {ir : IR} {Q : Out → Prop} (xs : List α) (I : Nat → En → Prop) (h : fi ρ = some ir) (hx : ir.items = xs.map toD) (h0 : I 0 (demote ir.M ρ))
    (turn : ∀ i x ρ, xs[i]? = some x → I i ρ → ∃ ρ1, bindT t (toD x) ρ = some ρ1 ∧ Run fb ρ1 fun o => match o with | .nx ρ2 => I (i + 1) ρ2 | .ct ρ2 => I (i + 1) ρ2 | .bk ρ2 => Q (.nx ρ2) | .rt d fr => Q (.rt d fr))
    (fin : ∀ ρ, I xs.length ρ → Q (.nx ρ)) : Run (sFor fi t fb) ρ Q := by
  obtain ⟨o, h1, h2⟩ := run_loop (t := t) (fb := fb) (toD := toD) (Q := Q) I xs [] (demote ir.M ρ) h0 (fun i x ρ e _ => turn i x ρ (by simpa using e)) (fun ρ h => fin ρ (by simpa using h))
  exact ⟨o, by simp [sFor, h, hx, h1], h2⟩
/-! ### comprehensions -/
theorem fold_comp {α : Type} {t : Tg} {ft : DT} {fe : DE} {ρc : En} {toD : α → D} {keep : α → Bool} {out : α → D} : ∀ (xs : List α) (acc : List D),
    (∀ x ∈ xs, ∃ ρ1, bindT t (toD x) ρc = some ρ1 ∧ ft ρ1 = some (keep x) ∧ (keep x = true → ∃ r, fe ρ1 = some r ∧ r.d = out x ∧ r.norm.fr = true)) →
    (xs.map toD).foldlM (stepC t ft fe ρc) (acc, true) = some (acc ++ (xs.filter keep).map out, true)
  | [], acc, _ => by simp
  | x :: xs, acc, h => by
    obtain ⟨ρ1, h1, h2, h3⟩ := h x List.mem_cons_self
    have ih := fun acc => fold_comp xs acc (fun y hy => h y (List.mem_cons_of_mem _ hy))
    cases hk : keep x with
    | false =>
      have e : stepC t ft fe ρc (acc, true) (toD x) = some (acc, true) := by simp [stepC, h1, h2, hk]
      simp [List.foldlM_cons, e, ih, hk]
    | true =>
      obtain ⟨r, h4, h5, h6⟩ := h3 hk
      have e : stepC t ft fe ρc (acc, true) (toD x) = some (acc ++ [out x], true) := by simp [stepC, h1, h2, hk, h4, h5, h6]
      simp [List.foldlM_cons, e, ih, hk]
theorem ev_comp {α : Type} {fi : DI} {t : Tg} {cap : List (Option Nat)} {ft : DT} {fe : DE} {ρ : En} {ir : IR} {toD : α → D} {keep : α → Bool} {out : α → D} (xs : List α) (h : fi ρ = some ir) (hx : ir.items = xs.map toD)
    (turn : ∀ x ∈ xs, ∃ ρ1, bindT t (toD x) (capEn cap ρ) = some ρ1 ∧ ft ρ1 = some (keep x) ∧ (keep x = true → ∃ r, fe ρ1 = some r ∧ r.d = out x ∧ r.norm.fr = true)) :
    dComp fi t cap ft fe ρ = some ⟨.lst ((xs.filter keep).map out), true, []⟩ := by
  unfold dComp
  rw [h, Option.bind_some, hx, fold_comp xs [] turn]
  simp
/-- without a test -/
theorem ev_compA {α : Type} {fi : DI} {t : Tg} {cap : List (Option Nat)} {fe : DE} {ρ : En} {ir : IR} {toD : α → D} {out : α → D} (xs : List α) (h : fi ρ = some ir) (hx : ir.items = xs.map toD)
    (turn : ∀ x ∈ xs, ∃ ρ1, bindT t (toD x) (capEn cap ρ) = some ρ1 ∧ ∃ r, fe ρ1 = some r ∧ r.d = out x ∧ r.norm.fr = true) :
    dComp fi t cap tYesD fe ρ = some ⟨.lst (xs.map out), true, []⟩ := by
  have := ev_comp (keep := fun _ => true) (ft := tYesD) xs h hx (cap := cap) (t := t) (fe := fe) (out := out) fun x hx => by
    obtain ⟨ρ1, h1, h2⟩ := turn x hx
    exact ⟨ρ1, h1, rfl, fun _ => h2⟩
  rw [this, List.filter_eq_self.mpr fun _ _ => rfl]
end HS
namespace HS
open PySem L2
@[simp] theorem norm_nil (d : D) : R.norm ⟨d, true, []⟩ = ⟨d, true, []⟩ := by unfold R.norm; split <;> rfl
@[simp] theorem asg_nil (i : Nat) (d : D) (ρ : En) : asg i ⟨d, true, []⟩ ρ = ρ.set i (some (d, true)) := by unfold asg; simp [kill]
theorem asg_flat {i : Nat} {d : D} {fr : Bool} {M : List Nat} {ρ : En} (h : d.flat = true) : asg i ⟨d, fr, M⟩ ρ = ρ.set i (some (d, true)) := by
  unfold asg R.norm; simp [h, kill]
/-! ### the parts -/
theorem ev_var {i : Nat} {ρ : En} {d : D} {b : Bool} (h : ρ[i]? = some (some (d, b))) : dVar i ρ = some (if d.flat then ⟨d, true, []⟩ else if b then ⟨d, true, [i]⟩ else ⟨d, false, []⟩) := by
  unfold dVar
  rw [h]
  dsimp only
  split
  · simp_all
  · split <;> simp_all
@[simp] theorem ev_c (d : D) (ρ : En) : dC d ρ = some ⟨d, true, []⟩ := rfl
theorem ev_op {g : D → D → Option D} {fa fb : DE} {ρ : En} {ra rb : R} {d : D} (ha : fa ρ = some ra) (hb : fb ρ = some rb) (h : g ra.d rb.d = some d) : dOp g fa fb ρ = some ⟨d, true, []⟩ := by simp [dOp, ha, hb, h]
theorem ev_cons {fa : DE} {fs : DA} {ρ : En} {r : R} {rs : RA} (ha : fa ρ = some r) (hs : fs ρ = some rs) : dCons fa fs ρ = some ⟨r.d :: rs.ds, r.fr && rs.fr, r.M ++ rs.M⟩ := by simp [dCons, ha, hs]
@[simp] theorem ev_nil (ρ : En) : dNil ρ = some ⟨[], true, []⟩ := rfl
/-- whether it is owned does not matter -/
noncomputable def vf (d : D) (b : Bool) (i : Nat) : R := if d.flat then ⟨d, true, []⟩ else if b then ⟨d, true, [i]⟩ else ⟨d, false, []⟩
@[simp] theorem vf_d (d : D) (b : Bool) (i : Nat) : (vf d b i).d = d := by unfold vf; split; rfl; split <;> rfl
@[simp] theorem pmod_pos (i j : Int) (h : 0 ≤ j) : pmod i j = i % j := by unfold pmod; rw [if_pos h]
@[simp] theorem pdiv_pos (i j : Int) (h : 0 ≤ j) : pdiv i j = i / j := by unfold pdiv; rw [if_pos h]
theorem mulOk_l {i j : Int} (h : i.natAbs < 2 ^ 64) : mulOk i j = true := by unfold mulOk; simp [h]
theorem mulOk_r {i j : Int} (h : j.natAbs < 2 ^ 64) : mulOk i j = true := by unfold mulOk; simp [h]
theorem line0 : (sizeLine : Nat) = 16777216 := sizeLine_eq
/-! ### rows and tables by functions -/
noncomputable def rowD (m : Nat) (f : Nat → Int) : D := .lst ((List.range m).map fun i => .int (f i))
noncomputable def tabD (m n : Nat) (f : Nat → Nat → Int) : D := .lst ((List.range m).map fun i => rowD n (f i))
@[simp] theorem flat_row (m : Nat) (f : Nat → Int) : (rowD m f).flat = false := rfl
@[simp] theorem flat_tab (m n : Nat) (f : Nat → Nat → Int) : (tabD m n f).flat = false := rfl
@[simp] theorem flats_row (m : Nat) (f : Nat → Int) : flats ((List.range m).map fun i => D.int (f i)) = true := flats_map (f := fun i => D.int (f i)) (fun _ => rfl) _
noncomputable def up (f : Nat → Int) (i : Nat) (v : Int) : Nat → Int := fun j => if j = i then v else f j
noncomputable def up2 (f : Nat → Nat → Int) (i j : Nat) (v : Int) : Nat → Nat → Int := fun k => if k = i then up (f k) j v else f k
theorem ixN_int {n : Nat} {i : Int} (h0 : 0 ≤ i) (h : i < n) : ixN n i = some i.toNat := by
  unfold ixN; rw [if_pos (by omega), if_pos (by omega)]
theorem atI_int {α : Type} {xs : List α} {i : Int} (h0 : 0 ≤ i) (h : i < xs.length) : atI xs i = xs[i.toNat]? := by
  unfold atI; rw [ixN_int h0 h]; rfl
theorem range_map_set {α : Type} {m : Nat} {f : Nat → α} {i : Nat} {v : α} : ((List.range m).map f).set i v = (List.range m).map fun j => if j = i then v else f j := by
  apply List.ext_getElem?
  intro k
  rw [List.getElem?_set]
  simp only [List.length_map, List.length_range, List.getElem?_map]
  by_cases hk : k < m
  · rw [List.getElem?_range hk]
    by_cases e : i = k
    · subst e; simp [hk]
    · simp [e, Ne.symm e]
  · rw [List.getElem?_eq_none (by simp; omega)]
    by_cases e : i = k
    · subst e; simp [hk]
    · simp [e]
theorem row_set {m : Nat} {f : Nat → Int} {i : Nat} {v : Int} : ((List.range m).map fun j => D.int (f j)).set i (.int v) = (List.range m).map fun j => D.int (up f i v j) := by
  rw [range_map_set]
  congr 1; funext j; unfold up; split <;> rfl
theorem row_get {m : Nat} {f : Nat → Int} {i : Int} (h0 : 0 ≤ i) (h : i < m) : atI ((List.range m).map fun j => D.int (f j)) i = some (.int (f i.toNat)) := by
  rw [atI_int h0 (by simpa using h), List.getElem?_map, List.getElem?_range (by omega)]; rfl
theorem tab_get {m n : Nat} {f : Nat → Nat → Int} {i : Int} (h0 : 0 ≤ i) (h : i < m) : atI ((List.range m).map fun j => rowD n (f j)) i = some (rowD n (f i.toNat)) := by
  rw [atI_int h0 (by simpa using h), List.getElem?_map, List.getElem?_range (by omega)]; rfl
/-- x[i] = v on a row -/
theorem run_setR {x m : Nat} {f : Nat → Int} {fi fa : DE} {ρ : En} {i : Int} {v : Int} {ri ra : R} {Q : Out → Prop} (hx : ρ[x]? = some (some (rowD m f, true))) (hi : fi ρ = some ri) (ei : ri.d = .int i) (ha : fa ρ = some ra) (ea : ra.d = .int v) (h0 : 0 ≤ i) (h : i < m)
    (q : Q (.nx (ρ.set x (some (rowD m (up f i.toNat v), true))))) : Run (sSet x pNil fi fa) ρ Q := by
  refine ⟨_, ?_, q⟩
  have hn : ra.norm = ⟨.int v, true, []⟩ := by unfold R.norm; rw [ea]; rfl
  unfold sSet
  rw [ha, Option.bind_some, hx]
  simp only [pNil, Option.bind_some, hi, ei, dpath, rowD, List.length_map, List.length_range, ixN_int h0 h, hn, ea, updP, row_set]
  simp [kill]
/-- x[a][b] op= v on a table -/
theorem run_augT {g : D → D → Option D} {x m n : Nat} {f : Nat → Nat → Int} {fp fi fa : DE} {ρ : En} {i j w : Int} {rp ri ra : R} {Q : Out → Prop} (hx : ρ[x]? = some (some (tabD m n f, true))) (hp : fp ρ = some rp) (ep : rp.d = .int i) (hi : fi ρ = some ri) (ei : ri.d = .int j) (ha : fa ρ = some ra)
    (h0 : 0 ≤ i) (h : i < m) (k0 : 0 ≤ j) (k : j < n) (hg : g (.int (f i.toNat j.toNat)) ra.d = some (.int w)) (q : Q (.nx (ρ.set x (some (tabD m n (up2 f i.toNat j.toNat w), true))))) : Run (sAugI g x (pSnoc pNil fp) fi fa) ρ Q := by
  refine ⟨_, ?_, q⟩
  have hj : ((List.range n).map fun k => D.int (f i.toNat k))[j.toNat]? = some (.int (f i.toNat j.toNat)) := by rw [List.getElem?_map, List.getElem?_range (by omega)]; rfl
  have hd : dpath (tabD m n f) [i] = some (rowD n (f i.toNat)) := by
    simp only [dpath, tabD, D.items, Option.bind_some, tab_get h0 h]
  have hu : updP [i] (tabD m n f) (.lst (((List.range n).map fun k => D.int (f i.toNat k)).set j.toNat (.int w))) = tabD m n (up2 f i.toNat j.toNat w) := by
    simp only [updP, tabD, List.length_map, List.length_range, ixN_int h0 h, row_set]
    rw [range_map_set]
    congr 2; funext k
    unfold up2
    split
    · rename_i e; subst e; rfl
    · rfl
  unfold sAugI
  rw [hx]
  simp only [pSnoc, pNil, Option.bind_some, hp, ep, List.nil_append, hi, ei, hd, rowD, List.length_map, List.length_range, ixN_int k0 k, hj, ha, hg, Option.map_some]
  rw [hu]
end HS
namespace HS
open PySem L2
theorem ev_range {fa : DE} {ρ : En} {r : R} {n : Nat} (h : fa ρ = some r) (e : r.d = .int n) (hn : n ≤ 16777216) : iRange1 fa ρ = some ⟨(List.range n).map fun (k : Nat) => .int (k : Int), []⟩ := by
  unfold iRange1
  rw [h, Option.bind_some, e]
  dsimp only
  rw [if_pos ⟨by omega, by omega⟩]
  simp [rngD]
theorem rep_one {α : Type} (x : α) : ∀ n : Nat, (List.replicate n [x]).flatten = (List.range n).map fun _ => x
  | 0 => rfl
  | n + 1 => by
    rw [List.replicate_succ, List.flatten_cons, rep_one x n, List.range_succ_eq_map, List.map_cons, List.map_map]; rfl
theorem ev_rep {fb : DE} {ρ : En} {r : R} {n : Nat} {z : Int} (h : fb ρ = some r) (e : r.d = .int n) (hn : n ≤ 16777216) : dMul (dLst (dCons (dC (.int z)) dNil)) fb ρ = some ⟨rowD n (fun _ => z), true, []⟩ := by
  have h1 : dLst (dCons (dC (.int z)) dNil) ρ = some ⟨.lst [.int z], true, []⟩ := rfl
  unfold dMul
  rw [h1, Option.bind_some, h, Option.bind_some, e]
  dsimp only
  rw [if_pos ⟨by simp [line0]; omega, by omega, by omega, rfl⟩]
  simp only [Int.toNat_natCast, rep_one]
  rfl
/-- steps -/
noncomputable def G_steps : DS := (sSeq (sAsg 2 (dComp (iVal (dVar 0)) (.tp [1, 2]) [none, none, none] tYesD (dTup (dCons (dVar 1) (dCons (dVar 2) dNil))))) (sSeq (sAsg 3 (dComp (iVal (dVar 0)) (.tp [1, 2]) [none, none, none] tYesD (dTup (dCons (dVar 2) (dCons (dVar 1) dNil))))) (sSeq (sRet (dAdd (dAdd (dVar 2) (dVar 3)) (dList (dCons (dVar 1) dNil)))) sNil)))
theorem ev_addP {fa fb : DE} {ρ : En} {ra rb : R} {A B : List (Int × Int)} (ha : fa ρ = some ra) (ea : ra.d = pairsD A) (hb : fb ρ = some rb) (eb : rb.d = pairsD B) (hl : A.length + B.length ≤ 16777216) : dAdd fa fb ρ = some ⟨pairsD (A ++ B), true, []⟩ := by
  unfold dAdd
  rw [ha, Option.bind_some, hb, Option.bind_some, ea, eb]
  simp only [pairsD, List.length_map, line0, if_pos hl, newL]
  simp
theorem ev_listP {ρ : En} {A : List (Int × Int)} {fs : DA} {rs : RA} (h : fs ρ = some rs) (e : rs.ds = [pairsD A]) (_ : True = True) : dList fs ρ = some ⟨pairsD A, true, []⟩ := by
  unfold dList
  rw [h, Option.bind_some, e]
  simp [pairsD, newL]
theorem run_retL {fa : DE} {r : R} {g : DS} {ρ : En} {Q : D → Bool → Prop} (h : fa ρ = some r) (q : Q r.d (r.norm.fr && decide r.norm.M.Nodup)) : Run (sSeq (sRet fa) g) ρ (Rt Q) := run_seqX (run_ret h q)
theorem den_steps {R L : List (Int × Int)} (hl : R.length + R.length + L.length ≤ 16777216) : denOf 4 G_steps [pairsD R, pairsD L] = some (pairsD (R ++ R.map Prod.swap ++ L), true) := by
  refine den_of ?_
  refine run_seq (run_asg (ev_compA (toD := pairD) (out := pairD) R rfl rfl fun x _ => ⟨[none, some (.int x.1, true), some (.int x.2, true)], rfl, ⟨pairD x, true, []⟩, rfl, rfl, rfl⟩) ?_)
  refine run_seq (run_asg (ev_compA (toD := pairD) (out := fun x => pairD x.swap) R rfl rfl fun x _ => ⟨[none, some (.int x.1, true), some (.int x.2, true)], rfl, ⟨pairD x.swap, true, []⟩, rfl, rfl, rfl⟩) ?_)
  have e1 : (R.map fun x => pairD x.swap) = (R.map Prod.swap).map pairD := by simp [List.map_map, Function.comp_def]
  rw [e1]
  exact run_retL (ev_addP (ev_addP rfl rfl rfl rfl (by simpa using (by omega : R.length + R.length ≤ 16777216))) rfl (ev_listP rfl rfl rfl) rfl (by simpa using hl)) ⟨rfl, rfl⟩
theorem ev_call {n : Nat} {den : Den} {dfl : List D} {fs : DA} {ρ : En} {r : RA} {d : D} (h : fs ρ = some r) (hd : den (r.ds ++ dfl) = some (d, true)) (hl : r.ds.length + dfl.length = n) : dCall n den dfl fs ρ = some ⟨d, true, []⟩ := by
  unfold dCall
  rw [h, Option.bind_some, if_pos hl, hd]
  simp
theorem ev_iVal {fa : DE} {ρ : En} {r : R} {xs : List D} (h : fa ρ = some r) (e : r.d = .lst xs) : iVal fa ρ = some ⟨xs, r.M⟩ := by
  unfold iVal
  rw [h, Option.bind_some, e]
/-! ### the tolls -/
noncomputable def stepT (m : Nat) (f : Nat → Nat → Int) (s : Int × Int) : Nat → Nat → Int :=
  let f1 := if s.1 < m then up2 f s.1.toNat s.1.toNat (f s.1.toNat s.1.toNat - 1) else f
  if s.1 < m ∧ s.2 < m then up2 f1 s.1.toNat s.2.toNat (f1 s.1.toNat s.2.toNat + 1) else f1
noncomputable def tollF (m : Nat) (S : List (Int × Int)) : Nat → Nat → Int := S.foldl (stepT m) fun _ _ => 0
noncomputable def G_toll_table (d_steps : Den) : DS := (sSeq (sAsg 1 (dShare (dIdx (dVar 0) (dC (.int 0))))) (sSeq (sAsg 2 (dComp (iRange1 (dVar 1)) (.nm 1) [none, none, some 1] tYesD (dMul (dLst (dCons (dC (.int 0)) dNil)) (dVar 2)))) (sSeq (sFor (iVal (dCall 2 d_steps [] (dCons (dIdx (dVar 0) (dC (.int 1))) (dCons (dIdx (dVar 0) (dC (.int 2))) dNil)))) (.tp [3, 4]) (sSeq (sIf (dTru (dOp gLt (dVar 3) (dVar 1))) (sSeq (sAugI gSub 2 (pSnoc pNil (dVar 3)) (dVar 3) (dC (.int 1))) sNil) sNil) (sSeq (sIf (bAnd (dTru (dOp gLt (dVar 3) (dVar 1))) (dTru (dOp gLt (dVar 4) (dVar 1)))) (sSeq (sAugI (gI fun i j => some (.int (i + j))) 2 (pSnoc pNil (dVar 3)) (dVar 4) (dC (.int 1))) sNil) sNil) sNil))) (sSeq (sRet (dVar 2)) sNil))))
theorem den_toll {d_steps : Den} {m : Nat} {R L S : List (Int × Int)} (hm : m ≤ 16777216) (hs : d_steps [pairsD R, pairsD L] = some (pairsD S, true)) (hS : ∀ s ∈ S, 0 ≤ s.1 ∧ 0 ≤ s.2) : denOf 5 (G_toll_table d_steps) [netD m R L] = some (tabD m m (tollF m S), true) := by
  refine den_of ?_
  refine run_seq (run_asg (r := ⟨.int m, false, []⟩) rfl ?_)
  refine run_seq (run_asg (ev_compA (out := fun _ => rowD m fun _ => 0) (List.range m) (ev_range (n := m) (r := ⟨.int m, true, []⟩) rfl rfl hm) rfl fun x _ => ⟨[none, some (.int x, true), some (.int m, true)], rfl, _, ev_rep (r := ⟨.int m, true, []⟩) rfl rfl hm, rfl, rfl⟩) ?_)
  refine run_seq (run_for (toD := pairD) S (fun i ρ => ∃ j1 j2, ρ = [some (netD m R L, false), some (.int m, true), some (tabD m m (tollF m (S.take i)), true), j1, j2]) (ir := ⟨S.map pairD, []⟩) ?_ rfl ⟨none, none, rfl⟩ ?_ ?_)
  · exact ev_iVal (ev_call (r := ⟨[pairsD R, pairsD L], false, []⟩) (d := pairsD S) rfl hs rfl) rfl
  · rintro i s ρ hi ⟨j1, j2, rfl⟩
    refine ⟨_, rfl, ?_⟩
    obtain ⟨s1, s2⟩ := hS s (List.mem_of_getElem? hi)
    refine run_seq (f := sIf _ _ _) (Run.mono (Q := Nx fun ρ => ρ = [some (netD m R L, false), some (.int m, true), some (tabD m m (if s.1 < m then up2 (tollF m (S.take i)) s.1.toNat s.1.toNat (tollF m (S.take i) s.1.toNat s.1.toNat - 1) else tollF m (S.take i)), true), some (.int s.1, true), some (.int s.2, true)]) ?_ ?_)
    · refine run_if (b := decide (s.1 < m)) rfl (fun h => ?_) (fun h => ?_)
      · have h := of_decide_eq_true h
        rw [if_pos h]
        exact run_seq (run_augT (i := s.1) (j := s.1) rfl rfl rfl rfl rfl rfl s1 h s1 h rfl (run_nil rfl))
      · have h := of_decide_eq_false h
        rw [if_neg h]
        exact run_nil rfl
    · intro o ho
      cases o with
      | nx ρ =>
        subst ho
        have fin : tollF m (S.take (i + 1)) = stepT m (tollF m (S.take i)) s := by
          unfold tollF
          rw [List.take_add_one, hi, List.foldl_append]; rfl
        refine run_seq (f := sIf _ _ _) (Run.mono (Q := Nx fun ρ => ρ = [some (netD m R L, false), some (.int m, true), some (tabD m m (stepT m (tollF m (S.take i)) s), true), some (.int s.1, true), some (.int s.2, true)]) ?_ ?_)
        · refine run_if (b := decide (s.1 < m ∧ s.2 < m)) ?_ (fun h => ?_) (fun h => ?_)
          · by_cases h : s.1 < (m : Int)
            · simp [bAnd, dTru, dOp, dVar, gLt, gI, D.tru, h]
            · simp [bAnd, dTru, dOp, dVar, gLt, gI, D.tru, h]
          · have h := of_decide_eq_true h
            refine run_seq (run_augT (i := s.1) (j := s.2) rfl rfl rfl rfl rfl rfl s1 h.1 s2 h.2 rfl (run_nil ?_))
            unfold stepT
            rw [if_pos h]; rfl
          · have h := of_decide_eq_false h
            refine run_nil ?_
            unfold stepT
            rw [if_neg h]; rfl
        · intro o ho
          cases o with
          | nx ρ =>
            subst ho
            exact run_nil ⟨_, _, by rw [fin]⟩
          | _ => exact False.elim ho
      | _ => exact False.elim ho
  · rintro ρ ⟨j1, j2, rfl⟩
    rw [List.take_length]
    exact run_retL rfl ⟨rfl, rfl⟩
end HS
namespace HS
open PySem L2
/-! ### the tolls in closed form -/
noncomputable def hit (i j : Nat) (s : Int × Int) : Int := (if s.1 = i ∧ s.2 = j then 1 else 0) - (if s.1 = i ∧ i = j then 1 else 0)
theorem up2_get {f : Nat → Nat → Int} {a b : Nat} {v : Int} {i j : Nat} : up2 f a b v i j = if i = a ∧ j = b then v else f i j := by
  unfold up2 up
  by_cases h1 : i = a
  · by_cases h2 : j = b
    · simp [h1, h2]
    · simp [h1, h2]
  · simp [h1]
theorem stepT_get {m : Nat} {f : Nat → Nat → Int} {s : Int × Int} {i j : Nat} (hi : i < m) (hj : j < m) (h1 : 0 ≤ s.1) (h2 : 0 ≤ s.2) : stepT m f s i j = f i j + hit i j s := by
  unfold stepT hit
  have e1 : (s.1 = (i : Int)) ↔ (i = s.1.toNat) := by omega
  have e2 : (s.2 = (j : Int)) ↔ (j = s.2.toNat) := by omega
  simp only [e1, e2]
  by_cases c1 : s.1 < (m : Int)
  · by_cases c2 : s.2 < (m : Int)
    · simp only [c1, c2, and_self, if_true, up2_get]
      generalize s.1.toNat = a
      generalize s.2.toNat = b
      by_cases d1 : i = a
      · subst d1
        by_cases d2 : j = b
        · subst d2
          by_cases d3 : i = j
          · subst d3; simp
          · have d4 : ¬ j = i := fun z => d3 z.symm
            simp [d3, d4]
        · by_cases d3 : i = j
          · subst d3; simp [d2]; omega
          · have d4 : ¬ j = i := fun z => d3 z.symm
            simp [d2, d3, d4]
      · simp [d1]
    · have d2 : ¬ (j = s.2.toNat) := by omega
      simp only [c1, c2, and_false, if_false, if_true, up2_get, d2]
      generalize s.1.toNat = a
      by_cases d1 : i = a
      · subst d1
        by_cases d3 : i = j
        · subst d3; simp; omega
        · have d4 : ¬ j = i := fun z => d3 z.symm
          simp [d3, d4]
      · simp [d1]
  · have d1 : ¬ (i = s.1.toNat) := by omega
    simp [c1, d1]
theorem foldT_get {m : Nat} {i j : Nat} (hi : i < m) (hj : j < m) : ∀ (S : List (Int × Int)) (f : Nat → Nat → Int), (∀ s ∈ S, 0 ≤ s.1 ∧ 0 ≤ s.2) → S.foldl (stepT m) f i j = f i j + (S.map (hit i j)).sum
  | [], f, _ => by simp
  | s :: S, f, h => by
    obtain ⟨h1, h2⟩ := h s List.mem_cons_self
    rw [List.foldl_cons, foldT_get hi hj S _ (fun t ht => h t (List.mem_cons_of_mem _ ht)), stepT_get hi hj h1 h2, List.map_cons, List.sum_cons]
    omega
theorem toll_get {m : Nat} {S : List (Int × Int)} {i j : Nat} (hi : i < m) (hj : j < m) (h : ∀ s ∈ S, 0 ≤ s.1 ∧ 0 ≤ s.2) : tollF m S i j = (S.map (hit i j)).sum := by
  unfold tollF
  rw [foldT_get hi hj S _ h]; simp
/-- how many ways lead from i -/
noncomputable def isI (i : Nat) (a : Int) : Int := if a = i then 1 else 0
noncomputable def spanF (R L : List (Int × Int)) (i : Nat) : Int := (R.map fun r => isI i r.1 + isI i r.2).sum + (L.map fun l => isI i l.1).sum
theorem sum_neg (S : List (Int × Int)) (i : Nat) (h : ∀ s ∈ S, s.1 ≠ s.2) : (S.map (hit i i)).sum = - (S.map fun s => isI i s.1).sum := by
  induction S with
  | nil => rfl
  | cons s S ih =>
    rw [List.map_cons, List.sum_cons, ih fun t ht => h t (List.mem_cons_of_mem _ ht), List.map_cons, List.sum_cons]
    have hn := h s List.mem_cons_self
    unfold hit isI
    by_cases e : s.1 = (i : Int)
    · have : ¬ (s.2 = (i : Int)) := fun z => hn (e.trans z.symm)
      simp [e, this]; omega
    · simp [e]
noncomputable def stepsL (R L : List (Int × Int)) : List (Int × Int) := R ++ R.map Prod.swap ++ L
theorem sum_steps (R L : List (Int × Int)) (i : Nat) : ((stepsL R L).map fun s => isI i s.1).sum = spanF R L i := by
  unfold stepsL spanF
  rw [List.map_append, List.map_append, List.sum_append_int, List.sum_append_int]
  have : (R.map fun r => isI i r.1 + isI i r.2).sum = (R.map fun s => isI i s.1).sum + ((R.map Prod.swap).map fun s => isI i s.1).sum := by
    induction R with
    | nil => rfl
    | cons r R ih => simp only [List.map_cons, List.sum_cons, ih, Prod.fst_swap]; omega
  omega
/-- a good road or lane -/
noncomputable def Good (m : Nat) (s : Int × Int) : Prop := 0 ≤ s.1 ∧ 0 ≤ s.2 ∧ s.1 ≤ m ∧ s.2 ≤ m ∧ s.1 ≠ s.2
theorem good_steps {m : Nat} {R L : List (Int × Int)} (hR : ∀ s ∈ R, Good m s) (hL : ∀ s ∈ L, Good m s) : ∀ s ∈ stepsL R L, Good m s := fun s hs => by
  unfold stepsL at hs
  rcases List.mem_append.mp hs with hs | hs
  · rcases List.mem_append.mp hs with hs | hs
    · exact hR s hs
    · obtain ⟨t, ht, rfl⟩ := List.mem_map.mp hs
      obtain ⟨h1, h2, h3, h4, h5⟩ := hR t ht
      exact ⟨h2, h1, h4, h3, fun z => h5 z.symm⟩
  · exact hL s hs
/-- the den of toll_table, of span_list -/
noncomputable def TollOk (d : Den) : Prop := ∀ (m : Nat) (R L : List (Int × Int)), m ≤ 1000 → R.length + R.length + L.length ≤ 1000000 → (∀ s ∈ R, Good m s) → (∀ s ∈ L, Good m s) → d [netD m R L] = some (tabD m m (tollF m (stepsL R L)), true)
theorem toll_ok : TollOk (denOf 5 (G_toll_table (denOf 4 G_steps))) := fun m R L hm hl hR hL => by
  refine den_toll (by omega) (den_steps (by omega)) fun s hs => ?_
  obtain ⟨h1, h2, _⟩ := good_steps hR hL s hs
  exact ⟨h1, h2⟩
noncomputable def G_span_list (d_toll_table : Den) : DS := (sSeq (sRet (dComp (iEnumD (dCall 1 d_toll_table [] (dCons (dVar 0) dNil))) (.tp [1, 2]) [none, none, none] tYesD (dOp gSub (dC (.int 0)) (dIdx (dVar 2) (dVar 1))))) sNil)
theorem enum_range {α : Type} (m : Nat) (f : Nat → D) : enumD ((List.range m).map f) = (List.range m).map fun i => .tup [.int i, f i] := by
  apply List.ext_getElem?
  intro k
  unfold enumD
  simp only [List.getElem?_map, List.getElem?_zipIdx, Nat.zero_add]
  by_cases hk : k < m
  · rw [List.getElem?_range hk]; rfl
  · rw [List.getElem?_eq_none (by simp; omega)]; rfl
theorem den_span {d : Den} (hd : TollOk d) {m : Nat} {R L : List (Int × Int)} (hm : m ≤ 1000) (hl : R.length + R.length + L.length ≤ 1000000) (hR : ∀ s ∈ R, Good m s) (hL : ∀ s ∈ L, Good m s) : denOf 1 (G_span_list d) [netD m R L] = some (rowD m (spanF R L), true) := by
  refine den_of ?_
  refine run_retL (ev_compA (toD := fun (i : Nat) => .tup [.int i, rowD m (tollF m (stepsL R L) i)]) (out := fun (i : Nat) => .int (spanF R L i)) (ir := ⟨enumD ((List.range m).map fun i => rowD m (tollF m (stepsL R L) i)), []⟩) (List.range m) ?_ ?_ fun i hi => ?_) ⟨rfl, rfl⟩
  · unfold iEnumD
    rw [ev_call (n := 1) (fs := dCons (dVar 0) dNil) (ρ := startEn 1 [netD m R L]) (dfl := []) (r := ⟨[netD m R L], false, []⟩) rfl (hd m R L hm hl hR hL) rfl]; rfl
  · exact enum_range (α := Nat) m _
  · have hi := List.mem_range.mp hi
    refine ⟨[none, some (.int i, true), some (rowD m (tollF m (stepsL R L) i), false)], rfl, ⟨.int (0 - tollF m (stepsL R L) i i), true, []⟩, ?_, ?_, rfl⟩
    · have e : dIdx (dVar 2) (dVar 1) [none, some (.int (i : Int), true), some (rowD m (tollF m (stepsL R L) i), false)] = some ⟨.int (tollF m (stepsL R L) i i), true, []⟩ := by
        show ((D.items (rowD m (tollF m (stepsL R L) i))).bind fun xs => (atI xs (i : Int)).map fun d => (HS.R.norm ⟨d, false, []⟩)) = _
        unfold rowD
        rw [show D.items (.lst ((List.range m).map fun j => D.int (tollF m (stepsL R L) i j))) = some ((List.range m).map fun j => D.int (tollF m (stepsL R L) i j)) from rfl, Option.bind_some, row_get (by omega) (by omega)]
        rfl
      exact ev_op (rfl) e rfl
    · have g := good_steps hR hL
      rw [toll_get hi hi fun s hs => ⟨(g s hs).1, (g s hs).2.1⟩, sum_neg _ i fun s hs => (g s hs).2.2.2.2, sum_steps]
      show D.int (0 - -(spanF R L i)) = _
      rw [show (0 : Int) - -(spanF R L i) = spanF R L i by omega]
end HS
namespace HS
open PySem L2
/-! ### small words -/
theorem deq_int (a b : Int) : deq (.int a) (.int b) = decide (a = b) := by
  show PyData.eqv (.int a) (.int b) = _
  unfold PyData.eqv
  exact Bool.beq_eq_decide_eq a b
theorem ev_eqI {fa fb : DE} {ρ : En} {ra rb : R} {a b : Int} (ha : fa ρ = some ra) (ea : ra.d = .int a) (hb : fb ρ = some rb) (eb : rb.d = .int b) : dOp gEq fa fb ρ = some ⟨.bl (decide (a = b)), true, []⟩ := by
  refine ev_op ha hb ?_
  rw [ea, eb]
  show some (D.bl (deq (.int a) (.int b))) = _
  rw [deq_int]
theorem ev_neI {fa fb : DE} {ρ : En} {ra rb : R} {a b : Int} (ha : fa ρ = some ra) (ea : ra.d = .int a) (hb : fb ρ = some rb) (eb : rb.d = .int b) : dOp gNe fa fb ρ = some ⟨.bl (!decide (a = b)), true, []⟩ := by
  refine ev_op ha hb ?_
  rw [ea, eb]
  show some (D.bl (!deq (.int a) (.int b))) = _
  rw [deq_int]
theorem ev_or {fa fb : DE} {ρ : En} {a b : Bool} (ha : fa ρ = some ⟨.bl a, true, []⟩) (hb : fb ρ = some ⟨.bl b, true, []⟩) : dOr fa fb ρ = some ⟨.bl (a || b), true, []⟩ := by
  unfold dOr
  rw [ha]
  cases a <;> simp [D.tru, hb]
theorem ev_and {fa fb : DE} {ρ : En} {a b : Bool} (ha : fa ρ = some ⟨.bl a, true, []⟩) (hb : fb ρ = some ⟨.bl b, true, []⟩) : dAnd fa fb ρ = some ⟨.bl (a && b), true, []⟩ := by
  unfold dAnd
  rw [ha]
  cases a <;> simp [D.tru, hb]
theorem ev_tru {fa : DE} {ρ : En} {r : R} {b : Bool} (ha : fa ρ = some r) (e : r.d = .bl b) : dTru fa ρ = some b := by
  unfold dTru
  rw [ha, Option.bind_some, e]; rfl
theorem ev_not {g : DT} {ρ : En} {b : Bool} (h : g ρ = some b) : bNot g ρ = some (!b) := by unfold bNot; rw [h]; rfl
theorem ev_bor {g1 g2 : DT} {ρ : En} {a b : Bool} (ha : g1 ρ = some a) (hb : g2 ρ = some b) : bOr g1 g2 ρ = some (a || b) := by
  unfold bOr; rw [ha]; cases a <;> simp [hb]
theorem ev_band {g1 g2 : DT} {ρ : En} {a b : Bool} (ha : g1 ρ = some a) (hb : g2 ρ = some b) : bAnd g1 g2 ρ = some (a && b) := by
  unfold bAnd; rw [ha]; cases a <;> simp [hb]
theorem ev_mul {fa fb : DE} {ρ : En} {ra rb : R} {a b : Int} (ha : fa ρ = some ra) (ea : ra.d = .int a) (hb : fb ρ = some rb) (eb : rb.d = .int b) (h : mulOk a b = true) : dMul fa fb ρ = some ⟨.int (a * b), true, []⟩ := by
  unfold dMul
  rw [ha, Option.bind_some, hb, Option.bind_some, ea, eb]
  simp [h]
theorem ev_add {fa fb : DE} {ρ : En} {ra rb : R} {a b : Int} (ha : fa ρ = some ra) (ea : ra.d = .int a) (hb : fb ρ = some rb) (eb : rb.d = .int b) : dAdd fa fb ρ = some ⟨.int (a + b), true, []⟩ := by
  unfold dAdd
  rw [ha, Option.bind_some, hb, Option.bind_some, ea, eb]
theorem ev_mod {fa fb : DE} {ρ : En} {ra rb : R} {a b : Int} (ha : fa ρ = some ra) (ea : ra.d = .int a) (hb : fb ρ = some rb) (eb : rb.d = .int b) (h : 0 < b) : dOp gMod fa fb ρ = some ⟨.int (a % b), true, []⟩ := by
  refine ev_op ha hb ?_
  rw [ea, eb]
  show (if b ≠ 0 then some (D.int (pmod a b)) else none) = _
  rw [if_pos (by omega), pmod_pos _ _ (by omega)]
theorem ev_div {fa fb : DE} {ρ : En} {ra rb : R} {a b : Int} (ha : fa ρ = some ra) (ea : ra.d = .int a) (hb : fb ρ = some rb) (eb : rb.d = .int b) (h : 0 < b) (h2 : b < 2 ^ 64) : dOp gDiv fa fb ρ = some ⟨.int (a / b), true, []⟩ := by
  refine ev_op ha hb ?_
  rw [ea, eb]
  have : divOk b = true := by
    unfold divOk
    have h3 : b.natAbs < 2 ^ 8000 := Nat.lt_of_lt_of_le (by omega : b.natAbs < 2 ^ 64) (Nat.pow_le_pow_right (by decide) (by decide))
    simp only [Bool.and_eq_true, decide_eq_true_eq]
    exact ⟨by omega, h3⟩
  show (if divOk b = true then some (D.int (pdiv a b)) else none) = _
  rw [if_pos this, pdiv_pos _ _ (by omega)]
/-- item of a row -/
theorem ev_idxR {fa fb : DE} {ρ : En} {ra rb : R} {m : Nat} {f : Nat → Int} {i : Int} (ha : fa ρ = some ra) (ea : ra.d = rowD m f) (hb : fb ρ = some rb) (eb : rb.d = .int i) (h0 : 0 ≤ i) (h : i < m) : dIdx fa fb ρ = some ⟨.int (f i.toNat), true, []⟩ := by
  unfold dIdx
  rw [ha, Option.bind_some, hb, Option.bind_some, ea, eb]
  simp only [rowD, D.items, Option.bind_some, row_get h0 h, Option.map_some]
  rfl
/-- item of a list of ints -/
theorem ev_idxI {fa fb : DE} {ρ : En} {ra rb : R} {ns : List Int} {i : Int} {v : Int} (ha : fa ρ = some ra) (ea : ra.d = .lst (ns.map .int)) (hb : fb ρ = some rb) (eb : rb.d = .int i) (h0 : 0 ≤ i) (h : ns[i.toNat]? = some v) : dIdx fa fb ρ = some ⟨.int v, true, []⟩ := by
  have hl : i < ns.length := by have := (List.getElem?_eq_some_iff.mp h).1; omega
  unfold dIdx
  rw [ha, Option.bind_some, hb, Option.bind_some, ea, eb]
  simp only [D.items, Option.bind_some]
  rw [atI_int h0 (by simpa using hl), List.getElem?_map, h]
  rfl
/-! ### the law's own defs -/
noncomputable def G__law_cell_at : DS := (sSeq (sIf (dTru (dOp gLt (dVar 1) (dBf gLen (dCons (dVar 0) dNil)))) (sSeq (sRet (dIdx (dVar 0) (dVar 1))) sNil) sNil) (sSeq (sRet (dC (.int 0))) sNil))
noncomputable def CellOk (d : Den) : Prop := ∀ (ns : List Int) (k : Nat), d [.lst (ns.map .int), .int k] = some (.int (ns.getD k 0), true)
theorem cell_ok : CellOk (denOf 2 G__law_cell_at) := fun ns k => by
  refine den_of ?_
  refine run_seqX (run_if (b := decide ((k : Int) < ns.length)) ?_ (fun h => ?_) (fun h => ?_))
  · refine ev_tru (r := ⟨.bl (decide ((k : Int) < ns.length)), true, []⟩) (ev_op (ra := ⟨.int k, true, []⟩) (rb := ⟨.int ns.length, true, []⟩) rfl ?_ rfl) rfl
    show some (HS.R.mk (.int ((ns.map D.int).length : Int)) true []) = _
    rw [List.length_map]
  · have h := of_decide_eq_true h
    have hk : k < ns.length := by omega
    have e : ns[k]? = some (ns.getD k 0) := by rw [List.getD_eq_getElem?_getD, List.getElem?_eq_getElem hk]; rfl
    exact run_seqX (run_ret (ev_idxI (ns := ns) (i := k) rfl rfl rfl rfl (by omega) (by simpa using e)) ⟨rfl, rfl⟩)
  · have h := of_decide_eq_false h
    have e : ns.getD k 0 = 0 := by rw [List.getD_eq_getElem?_getD, List.getElem?_eq_none (by omega)]; rfl
    rw [e]
    exact run_nil (run_retL rfl ⟨rfl, rfl⟩)
noncomputable def G__law_whole : DS := (sSeq (sRet (dAnd (dIsi "int" (dVar 0)) (dNot (dIsi "bool" (dVar 0))))) sNil)
noncomputable def WholeOk (d : Den) : Prop := ∀ i : Int, d [.int i] = some (.bl true, true)
theorem whole_ok : WholeOk (denOf 1 G__law_whole) := fun i => rfl
end HS
namespace HS
open PySem L2
/-! ### nets drawn by cells -/
noncomputable def bNum (t k : Int) : Int := (t + 17) * (k * k + 7 * k + 11) * 69621 % 2147483647
noncomputable def bEnd (m t k : Int) : Int := if bNum t k % (k + 1) < k then (bNum t k % (k + 1) + t) % m else m
noncomputable def bWay (m t kind : Int) (k : Int) : Int × Int × Bool := ((k + t) % m, bEnd m t k, decide (kind = 2) || (decide (kind = 3) && decide (bNum t k / 64 % 2 = 1)))
noncomputable def baseW (m : Nat) (t kind : Int) : List (Int × Int × Bool) := (List.range m).map fun (k : Nat) => bWay m t kind k
noncomputable def GoodW (m : Nat) (w : Int × Int × Bool) : Prop := Good m (w.1, w.2.1) ∧ (w.2.2 = true → w.1 < m)
noncomputable def waysD (W : List (Int × Int × Bool)) : D := .lst (W.map wayD)
@[simp] theorem flat_ways' (W : List (Int × Int × Bool)) : (waysD W).flat = false := rfl
theorem mod_ne {a x n : Int} (h1 : 0 < x) (h2 : x < n) : (a + x) % n ≠ a % n := fun h => by
  have h3 : (a + x - a) % n = 0 := Int.emod_eq_emod_iff_emod_sub_eq_zero.mp h
  rw [show a + x - a = x by omega, Int.emod_eq_of_lt (by omega) h2] at h3
  omega
theorem good_bWay {m : Nat} {t kind : Int} {k : Nat} (hk : k < m) : GoodW m (bWay m t kind k) := by
  have hm : (0 : Int) < m := by omega
  have h1 := Int.emod_nonneg ((k : Int) + t) (by omega : (m : Int) ≠ 0)
  have h2 := Int.emod_lt_of_pos ((k : Int) + t) hm
  unfold bWay bEnd
  split
  · rename_i hlt
    have h3 := Int.emod_nonneg (bNum t k) (by omega : ((k : Int) + 1) ≠ 0)
    have h4 := Int.emod_nonneg (bNum t k % (k + 1) + t) (by omega : (m : Int) ≠ 0)
    have h5 := Int.emod_lt_of_pos (bNum t k % (k + 1) + t) hm
    refine ⟨⟨h1, h4, by dsimp only; omega, by dsimp only; omega, ?_⟩, fun _ => by dsimp only; omega⟩
    dsimp only
    have h6 := mod_ne (a := bNum t k % (k + 1) + t) (x := k - bNum t k % (k + 1)) (n := m) (by omega) (by omega)
    rw [show bNum t k % (k + 1) + t + (k - bNum t k % (k + 1)) = k + t by omega] at h6
    exact h6
  · exact ⟨⟨h1, by dsimp only; omega, by dsimp only; omega, by dsimp only; omega, by dsimp only; omega⟩, fun _ => by dsimp only; omega⟩
/-- x.append(e), e flat -/
theorem run_app {x : Nat} {fa : DE} {ρ : En} {r : R} {xs : List D} {Q : Out → Prop} (hx : ρ[x]? = some (some (.lst xs, true))) (ha : fa ρ = some r) (hf : r.d.flat = true) (hl : xs.length < 16777216) (q : Q (.nx (ρ.set x (some (.lst (xs ++ [r.d]), true))))) : Run (sApp x pNil fa) ρ Q := by
  refine ⟨_, ?_, q⟩
  have hn : r.norm = ⟨r.d, true, []⟩ := by unfold HS.R.norm; rw [if_pos hf]
  unfold sApp
  rw [hx]
  simp only [pNil, Option.bind_some, ha, dpath, okOwn, hn, updP, kill, line0]
  simp [hl]
end HS
namespace HS
open PySem L2
theorem Run.nx {f : DS} {ρ : En} {Q Q' : En → Prop} (h : Run f ρ (Nx Q)) (m : ∀ ρ, Q ρ → Q' ρ) : Run f ρ (Nx Q') := h.mono fun o ho => by
  cases o with
  | nx ρ => exact m ρ ho
  | _ => exact ho.elim
/-- a statement that goes on with Q, then the rest -/
theorem run_then {f g : DS} {ρ : En} {P : En → Prop} {Q : Out → Prop} (h : Run f ρ (Nx P)) (k : ∀ ρ', P ρ' → Run g ρ' Q) : Run (sSeq f g) ρ Q := run_seq (h.nx k)
end HS
namespace HS
open PySem L2
/-! ### more ways -/
noncomputable def mNum (c : Int) : Int := c * 48271 % 2147483647
noncomputable def mStart (m c : Int) : Int := mNum c % (m + 1)
noncomputable def mEnd (m c : Int) : Int := (mStart m c + 1 + mNum c / 9 % m) % (m + 1)
noncomputable def mWay (m kind c : Int) : Int × Int × Bool := (mStart m c, mEnd m c, decide (mStart m c < m) && (decide (kind = 2) || (decide (kind = 3) && decide (mNum c / 72 % 3 = 1))))
theorem good_mWay {m : Nat} (hm : 0 < m) (kind c : Int) : GoodW m (mWay m kind c) := by
  have h1 := Int.emod_nonneg (mNum c) (by omega : (m : Int) + 1 ≠ 0)
  have h2 := Int.emod_lt_of_pos (mNum c) (by omega : (0 : Int) < m + 1)
  have h3 := Int.emod_nonneg (mNum c / 9) (by omega : (m : Int) ≠ 0)
  have h4 := Int.emod_lt_of_pos (mNum c / 9) (by omega : (0 : Int) < m)
  have h5 := Int.emod_nonneg (mStart m c + 1 + mNum c / 9 % m) (by omega : (m : Int) + 1 ≠ 0)
  have h6 := Int.emod_lt_of_pos (mStart m c + 1 + mNum c / 9 % m) (by omega : (0 : Int) < m + 1)
  have h7 := mod_ne (a := mStart m c) (x := 1 + mNum c / 9 % m) (n := (m : Int) + 1) (by omega) (by omega)
  rw [← Int.add_assoc, show mStart m c % ((m : Int) + 1) = mStart m c from Int.emod_eq_of_lt h1 h2] at h7
  refine ⟨⟨h1, h5, ?_, ?_, fun z => h7 z.symm⟩, fun h => ?_⟩
  · show mStart m c ≤ m; unfold mStart; omega
  · show mEnd m c ≤ m; unfold mEnd; omega
  · have : (mWay m kind c).2.2 = (decide (mStart m c < m) && (decide (kind = 2) || (decide (kind = 3) && decide (mNum c / 72 % 3 = 1)))) := rfl
    rw [this, Bool.and_eq_true, decide_eq_true_eq] at h
    exact h.1
end HS
namespace HS
open PySem L2
noncomputable def roadOf (w : Int × Int × Bool) : Int × Int := (if w.2.1 < w.1 then w.2.1 else w.1, if w.2.1 > w.1 then w.2.1 else w.1)
noncomputable def laneOf (w : Int × Int × Bool) : Int × Int := (w.1, w.2.1)
noncomputable def roadsOf (W : List (Int × Int × Bool)) : List (Int × Int) := (W.filter fun w => !w.2.2).map roadOf
noncomputable def lanesOf (W : List (Int × Int × Bool)) : List (Int × Int) := (W.filter fun w => w.2.2).map laneOf
theorem good_roads {m : Nat} {W : List (Int × Int × Bool)} (h : ∀ w ∈ W, GoodW m w) : ∀ s ∈ roadsOf W, Good m s ∧ s.1 < s.2 := fun s hs => by
  obtain ⟨w, hw, rfl⟩ := List.mem_map.mp hs
  obtain ⟨⟨h1, h2, h3, h4, h5⟩, _⟩ := h w (List.mem_filter.mp hw).1
  simp only at h1 h2 h3 h4 h5
  unfold roadOf Good
  simp only
  split <;> split <;> omega
theorem good_lanes {m : Nat} {W : List (Int × Int × Bool)} (h : ∀ w ∈ W, GoodW m w) : ∀ s ∈ lanesOf W, Good m s ∧ s.1 < m := fun s hs => by
  obtain ⟨w, hw, rfl⟩ := List.mem_map.mp hs
  obtain ⟨h1, h2⟩ := h w (List.mem_filter.mp hw).1
  exact ⟨h1, h2 (by simpa using (List.mem_filter.mp hw).2)⟩
theorem roads_len (W : List (Int × Int × Bool)) : (roadsOf W).length ≤ W.length := by unfold roadsOf; rw [List.length_map]; exact List.length_filter_le _ _
theorem lanes_len (W : List (Int × Int × Bool)) : (lanesOf W).length ≤ W.length := by unfold lanesOf; rw [List.length_map]; exact List.length_filter_le _ _
/-- what is drawn -/
structure NetP (m : Nat) (t kind : Int) (R L : List (Int × Int)) : Prop where
  ex : ∃ W, (∀ w ∈ baseW m t kind, w ∈ W) ∧ (∀ w ∈ W, GoodW m w) ∧ W.length ≤ 100 ∧ R = roadsOf W ∧ L = lanesOf W
theorem NetP.good {m : Nat} {t kind : Int} {R L : List (Int × Int)} (h : NetP m t kind R L) : (∀ s ∈ R, Good m s) ∧ (∀ s ∈ L, Good m s) ∧ R.length ≤ 100 ∧ L.length ≤ 100 := by
  obtain ⟨W, _, h2, h3, rfl, rfl⟩ := h.ex
  exact ⟨fun s hs => (good_roads h2 s hs).1, fun s hs => (good_lanes h2 s hs).1, Nat.le_trans (roads_len W) h3, Nat.le_trans (lanes_len W) h3⟩
theorem slc_ints {fa : DE} {ρ : En} {r : R} {ns : List Int} {a b : Int} (h : fa ρ = some r) (e : r.d = .lst (ns.map .int)) : ∃ cs : List Int, cs.length ≤ ns.length ∧ dSlc fa (oSome (dC (.int a))) (oSome (dC (.int b))) ρ = some ⟨.lst (cs.map .int), true, []⟩ := by
  refine ⟨(ns.drop (HT.sIx ns.length 0 (some a))).take (HT.sIx ns.length ns.length (some b) - HT.sIx ns.length 0 (some a)), by rw [List.length_take, List.length_drop]; omega, ?_⟩
  unfold dSlc oSome
  rw [h, Option.bind_some, e]
  simp only [ev_c, Option.bind_some, cutD, newL, List.length_map, ← List.map_drop, ← List.map_take, flats_ints, if_true]
theorem goodBase {m : Nat} {t kind : Int} : ∀ w ∈ baseW m t kind, GoodW m w := fun w hw => by
  obtain ⟨k, hk, rfl⟩ := List.mem_map.mp hw
  exact good_bWay (List.mem_range.mp hk)
theorem base_len (m : Nat) (t kind : Int) : (baseW m t kind).length = m := by simp [baseW]
end HS
namespace HS
open PySem L2
/-! ### spans, counted -/
theorem up_row {f : Nat → Int} {i k : Nat} {v : Int} : up f i v k = if k = i then v else f k := rfl
theorem ev_item {fa : DE} {ρ : En} {r : R} {m : Int} {R L : List (Int × Int)} (h : fa ρ = some r) (e : r.d = netD m R L) :
    dIdx fa (dC (.int 0)) ρ = some ⟨.int m, true, []⟩ ∧ dIdx fa (dC (.int 1)) ρ = some ⟨pairsD R, r.fr, r.M⟩ ∧ dIdx fa (dC (.int 2)) ρ = some ⟨pairsD L, r.fr, r.M⟩ := by
  unfold dIdx
  rw [h]
  simp only [Option.bind_some, e, ev_c]
  exact ⟨rfl, rfl, rfl⟩
/-! ### numbers alike -/
theorem ev_len {fa : DE} {ρ : En} {r : R} {xs : List D} (h : fa ρ = some r) (e : r.d = .lst xs) : dBf gLen (dCons fa dNil) ρ = some ⟨.int xs.length, true, []⟩ := by
  unfold dBf
  rw [ev_cons h (ev_nil _), Option.bind_some]
  simp [e, gLen]
end HS
namespace HS
open PySem L2
theorem sim_pairs (n : Nat) (ps : List (Int × Int)) : (pairsD ps).sim (n + 2) = true := by
  unfold pairsD
  simp only [D.sim, List.all_map, List.all_eq_true]
  intro p _
  cases n <;> rfl
theorem ev_neS {fa fb : DE} {ρ : En} {ra rb : R} {d : D} (ha : fa ρ = some ra) (ea : ra.d = d) (hb : fb ρ = some rb) (eb : rb.d = d) (hs : d.sim 8 = true) : dOp gNe fa fb ρ = some ⟨.bl false, true, []⟩ := by
  refine ev_op ha hb ?_
  rw [ea, eb]
  unfold gNe
  rw [hs, deq_refl hs]; rfl
theorem ev_eqX {fa fb : DE} {ρ : En} {ra rb : R} (ha : fa ρ = some ra) (hb : fb ρ = some rb) (h1 : ra.d.sim 8 = true) (h2 : rb.d.sim 8 = true) : dOp gEq fa fb ρ = some ⟨.bl (deq ra.d rb.d), true, []⟩ := by
  refine ev_op ha hb ?_
  unfold gEq
  rw [h1, h2]; rfl
noncomputable def SpanOk (d : Den) : Prop := ∀ (m : Nat) (R L : List (Int × Int)), m ≤ 1000 → R.length + R.length + L.length ≤ 1000000 → (∀ s ∈ R, Good m s) → (∀ s ∈ L, Good m s) → d [netD m R L] = some (rowD m (spanF R L), true)
theorem span_ok {d : Den} (h : TollOk d) : SpanOk (denOf 1 (G_span_list d)) := fun m R L h1 h2 h3 h4 => den_span h h1 h2 h3 h4
end HS
namespace HS
open PySem L2
end HS
namespace HS
open PySem L2
/-- from every set of places a way leads out -/
noncomputable def Esc (m : Nat) (W : List (Int × Int × Bool)) : Prop := ∀ A : Nat → Prop, (∃ p, p < m ∧ A p) → ∃ w ∈ W, w.1 < m ∧ A w.1.toNat ∧ (w.2.1 = m ∨ ¬ A w.2.1.toNat)
theorem Esc.mono {m : Nat} {W W' : List (Int × Int × Bool)} (h : Esc m W) (s : ∀ w ∈ W, w ∈ W') : Esc m W' := fun A hA => let ⟨w, hw, r⟩ := h A hA; ⟨w, s w hw, r⟩
/-- w leads from the j-th of the order to the pit or an earlier one -/
noncomputable def From (m : Nat) (O : List Int) (w : Int × Int × Bool) (j : Nat) : Prop := O[j]? = some w.1 ∧ (w.2.1 = m ∨ ∃ i, i < j ∧ O[i]? = some w.2.1)
theorem From.app {m : Nat} {O O' : List Int} {w : Int × Int × Bool} {j : Nat} (h : From m O w j) : From m (O ++ O') w j := by
  obtain ⟨h1, h2⟩ := h
  have hj : j < O.length := (List.getElem?_eq_some_iff.mp h1).1
  refine ⟨by rw [List.getElem?_append_left hj]; exact h1, ?_⟩
  rcases h2 with h2 | ⟨i, hi, h2⟩
  · exact .inl h2
  · exact .inr ⟨i, hi, by rw [List.getElem?_append_left (by omega)]; exact h2⟩
end HS
namespace HS
open PySem L2
/-! ### more ways, put in at any place -/
end HS
namespace HS
open PySem L2
/-! ### the row behind counts -/
noncomputable def sumR (m : Nat) (g : Nat → Int) : Int := ((List.range m).map g).sum
theorem sumR_succ (m : Nat) (g : Nat → Int) : sumR (m + 1) g = sumR m g + g m := by
  unfold sumR; rw [List.range_succ, List.map_append, List.sum_append_int]; simp
theorem sumR_congr {m : Nat} {f g : Nat → Int} (h : ∀ i, i < m → f i = g i) : sumR m f = sumR m g := by
  unfold sumR; rw [List.map_congr_left fun i hi => h i (List.mem_range.mp hi)]
theorem sumR_add (m : Nat) (f g : Nat → Int) : sumR m (fun i => f i + g i) = sumR m f + sumR m g := by
  induction m with
  | zero => rfl
  | succ m ih => rw [sumR_succ, sumR_succ, sumR_succ, ih]; omega
theorem sumR_zero (m : Nat) : sumR m (fun _ => 0) = 0 := by
  induction m with
  | zero => rfl
  | succ m ih => rw [sumR_succ, ih]; rfl
theorem sumR_single {m : Nat} {p : Nat} (hp : p < m) (v : Int) (f : Nat → Int) : sumR m (fun i => (if i = p then v else 0) * f i) = v * f p := by
  induction m with
  | zero => omega
  | succ m ih =>
    rw [sumR_succ]
    by_cases h : p = m
    · subst h
      rw [if_pos rfl, sumR_congr (g := fun _ => 0) fun i hi => by rw [if_neg (by omega)]; simp, sumR_zero]; simp
    · rw [ih (by omega), if_neg (fun z => h z.symm)]; simp
noncomputable def aftF (m : Nat) (T : Nat → Nat → Int) (f c : Nat → Int) : Nat → Int := fun j => f j + sumR m fun i => c i * T i j
theorem row_ext {m : Nat} {f g : Nat → Int} (h : ∀ i, i < m → f i = g i) : rowD m f = rowD m g := by
  unfold rowD
  congr 1
  refine List.map_congr_left fun i hi => ?_
  rw [h i (List.mem_range.mp hi)]
noncomputable def G_need_rows : DS := (sSeq (sFor (iVal (dVar 1)) (.nm 2) (sSeq (sIf (dTru (dOp gNe (dBf gLen (dCons (dVar 2) dNil)) (dIdx (dVar 0) (dC (.int 0))))) (sSeq sNever sNil) sNil) sNil)) sNil)
noncomputable def NeedOk (d : Den) : Prop := ∀ (m : Nat) (R L : List (Int × Int)) (fs : List (Nat → Int)), d [netD m R L, .lst (fs.map fun f => rowD m f)] = some (.non, true)
theorem need_ok : NeedOk (denOf 3 G_need_rows) := fun m R L fs => by
  have key : Run G_need_rows (startEn 3 [netD m R L, .lst (fs.map fun f => rowD m f)]) (Nx fun _ => True) := by
    refine run_seq (run_for (toD := fun f => rowD m f) fs (fun _ ρ => ∃ j2, ρ = [some (netD m R L, false), some (.lst (fs.map fun f => rowD m f), false), j2]) (ir := ⟨fs.map fun f => rowD m f, []⟩) rfl rfl ⟨none, rfl⟩ ?_ ?_)
    · rintro i f ρ _ ⟨j2, rfl⟩
      refine ⟨_, rfl, ?_⟩
      refine run_seq (run_if (b := false) (ev_tru (ev_neI (ev_len (xs := (List.range m).map fun i => .int (f i)) (r := ⟨rowD m f, false, []⟩) rfl rfl) rfl (ev_item (m := m) (R := R) (L := L) (r := ⟨netD m R L, false, []⟩) rfl rfl).1 rfl) (by simp)) (fun h => by cases h) (fun _ => run_nil (run_nil ⟨_, rfl⟩)))
    · rintro ρ ⟨j2, rfl⟩
      exact run_nil trivial
  obtain ⟨o, h1, h2⟩ := key
  unfold denOf
  rw [h1]
  cases o with
  | nx ρ => rfl
  | _ => exact h2.elim
theorem run_drop {fa : DE} {r : R} {ρ : En} {Q : Out → Prop} (h : fa ρ = some r) (q : Q (.nx ρ)) : Run (sDrop fa) ρ Q := ⟨_, by simp [sDrop, h], q⟩
theorem zip_ranges {m : Nat} (f g : Nat → D) : zipD ((List.range m).map f) ((List.range m).map g) = (List.range m).map fun i => .tup [f i, g i] := by
  generalize List.range m = l
  induction l with
  | nil => rfl
  | cons n ns ih => unfold zipD at ih ⊢; simp only [List.map_cons, List.zip_cons_cons, ih]
theorem ev_listR {ρ : En} {m : Nat} {f : Nat → Int} {fs : DA} {rs : RA} (h : fs ρ = some rs) (e : rs.ds = [rowD m f]) : dList fs ρ = some ⟨rowD m f, true, []⟩ := by
  unfold dList
  rw [h, Option.bind_some, e]
  simp [rowD, newL]
theorem ev_zipR {fa fb : DE} {ρ : En} {ra rb : R} {m : Nat} {f g : Nat → D} (ha : fa ρ = some ra) (ea : ra.d = .lst ((List.range m).map f)) (hb : fb ρ = some rb) (eb : rb.d = .lst ((List.range m).map g)) : iZipD fa fb ρ = some ⟨(List.range m).map fun i => .tup [f i, g i], ra.M ++ rb.M⟩ := by
  unfold iZipD
  rw [ha, Option.bind_some, hb, Option.bind_some, ea, eb]
  simp only [zip_ranges]
theorem abs_hit (i j : Nat) (s : Int × Int) : (hit i j s).natAbs ≤ 1 := by unfold hit; split <;> split <;> decide
theorem abs_sum_hit (i j : Nat) : ∀ S : List (Int × Int), ((S.map (hit i j)).sum).natAbs ≤ S.length
  | [] => by simp
  | s :: S => by
    have := abs_sum_hit i j S
    have := abs_hit i j s
    rw [List.map_cons, List.sum_cons, List.length_cons]
    omega
end HS
namespace HS
open PySem L2
/-! ### cells, cut -/
structure NetW (m : Nat) (R L : List (Int × Int)) : Prop where
  ex : ∃ W, Esc m W ∧ (∀ w ∈ W, GoodW m w) ∧ W.length ≤ 200 ∧ R = roadsOf W ∧ L = lanesOf W
theorem NetW.good {m : Nat} {R L : List (Int × Int)} (h : NetW m R L) : (∀ s ∈ R, Good m s) ∧ (∀ s ∈ L, Good m s) ∧ R.length ≤ 200 ∧ L.length ≤ 200 ∧ (∀ s ∈ R, s.1 < s.2) ∧ ∀ s ∈ L, s.1 < m := by
  obtain ⟨W, _, h2, h3, rfl, rfl⟩ := h.ex
  exact ⟨fun s hs => (good_roads h2 s hs).1, fun s hs => (good_lanes h2 s hs).1, Nat.le_trans (roads_len W) h3, Nat.le_trans (lanes_len W) h3, fun s hs => (good_roads h2 s hs).2, fun s hs => (good_lanes h2 s hs).2⟩
/-! ### row, deeds, numbers, what is gone -/
theorem run_appP {x : Nat} {fa : DE} {ρ : En} {r : R} {A : List (Int × Int)} {p : Int × Int} {Q : Out → Prop} (hx : ρ[x]? = some (some (pairsD A, true))) (ha : fa ρ = some r) (hf : r.d = pairD p) (hl : A.length < 16777216) (q : Q (.nx (ρ.set x (some (pairsD (A ++ [p]), true))))) : Run (sApp x pNil fa) ρ Q := by
  refine run_app (xs := A.map pairD) hx ha (by rw [hf]; rfl) (by simpa using hl) ?_
  rw [hf]
  unfold pairsD at q
  rw [List.map_append] at q
  exact q
end HS
namespace HS
open PySem L2
/-! ### what toppling takes from all grains -/
theorem sumR_list {α : Type} (m : Nat) (g : Nat → α → Int) : ∀ S : List α, sumR m (fun j => (S.map (g j)).sum) = (S.map fun s => sumR m fun j => g j s).sum
  | [] => by simp [sumR_zero]
  | s :: S => by
    simp only [List.map_cons, List.sum_cons]
    rw [sumR_add, sumR_list m g S]
theorem mul_sum {α : Type} (c : Int) (f : α → Int) : ∀ S : List α, c * (S.map f).sum = (S.map fun s => c * f s).sum
  | [] => by simp
  | s :: S => by simp only [List.map_cons, List.sum_cons, Int.mul_add, mul_sum c f S]
theorem ev_eqS' {fa fb : DE} {ρ : En} {ra rb : R} {d : D} (ha : fa ρ = some ra) (ea : ra.d = d) (hb : fb ρ = some rb) (eb : rb.d = d) (hs : d.sim 8 = true) : dOp gEq fa fb ρ = some ⟨.bl true, true, []⟩ := by
  refine ev_op ha hb ?_
  rw [ea, eb]
  unfold gEq
  rw [hs, deq_refl hs]; rfl
end HS
namespace HS
open PySem L2
/-! ### toppling -/
structure TP (m : Nat) (T : Nat → Nat → Int) : Prop where
  neg : ∀ p, p < m → T p p < 0
  pos : ∀ i j, i < m → j < m → i ≠ j → 0 ≤ T i j
  bnd : ∀ i j, i < m → j < m → (T i j).natAbs < 2 ^ 64
  wt : ∃ w : Nat → Int, (∀ j, 0 ≤ w j) ∧ ∀ i, i < m → sumR m (fun j => T i j * w j) ≤ -1
/-- counts reached by topplings that may be -/
inductive Leg (m : Nat) (T : Nat → Nat → Int) (f : Nat → Int) : (Nat → Int) → Prop where
  | nil : Leg m T f fun _ => 0
  | step {c : Nat → Int} {p : Nat} {t : Int} : Leg m T f c → p < m → 0 ≤ t → t * (0 - T p p) ≤ aftF m T f c p → Leg m T f (up c p (c p + t))
noncomputable def Stb (m : Nat) (T : Nat → Nat → Int) (g : Nat → Int) : Prop := ∀ p, p < m → g p < 0 - T p p
theorem sumR_le {m : Nat} {f g : Nat → Int} (h : ∀ i, i < m → f i ≤ g i) : sumR m f ≤ sumR m g := by
  induction m with
  | zero => exact Int.le_refl _
  | succ m ih =>
    rw [sumR_succ, sumR_succ]
    have := ih fun i hi => h i (by omega)
    have := h m (by omega)
    omega
/-- no row of counts that leaves every place below its span is less at any place -/
theorem Leg.least {m : Nat} {T : Nat → Nat → Int} (tp : TP m T) {f c : Nat → Int} (h : Leg m T f c) {c' : Nat → Int} (h0 : ∀ i, i < m → 0 ≤ c' i) (hs : Stb m T (aftF m T f c')) : ∀ i, i < m → c i ≤ c' i := by
  induction h with
  | nil => exact h0
  | @step c p t _ hp ht hle ih =>
    intro i hi
    unfold up
    split
    · rename_i e
      subst e
      -- Σ over the others is at most as much
      have key : aftF m T f c i + (c' i - c i) * T i i ≤ aftF m T f c' i := by
        unfold aftF
        have e1 : sumR m (fun k => c k * T k i) + (c' i - c i) * T i i = sumR m (fun k => c k * T k i + (if k = i then c' i - c i else 0) * T k i) := by rw [sumR_add, sumR_single hi]
        have e2 : sumR m (fun k => c k * T k i + (if k = i then c' i - c i else 0) * T k i) ≤ sumR m (fun k => c' k * T k i) := by
          refine sumR_le fun k hk => ?_
          by_cases hki : k = i
          · subst hki; rw [if_pos rfl, ← Int.add_mul]; rw [show c k + (c' k - c k) = c' k by omega]; exact Int.le_refl _
          · rw [if_neg hki, Int.zero_mul, Int.add_zero]
            exact Int.mul_le_mul_of_nonneg_right (ih k hk) (tp.pos k i hk hi hki)
        omega
      have h1 := hs i hi
      have h2 := tp.neg i hi
      -- t * s ≤ h < (c' - c + 1) * s
      by_cases hlt : c i + t ≤ c' i
      · exact hlt
      · exfalso
        have h3 : (c' i - c i + 1) ≤ t := by omega
        have h4 : (c' i - c i + 1) * (0 - T i i) ≤ t * (0 - T i i) := Int.mul_le_mul_of_nonneg_right h3 (by omega)
        have h5 : (c' i - c i + 1) * (0 - T i i) = (0 - T i i) - (c' i - c i) * T i i := by rw [Int.add_mul, Int.one_mul, Int.mul_sub, Int.mul_zero]; omega
        omega
    · exact ih i hi
/-! ### while by a measure -/
theorem ev_idxR' {fa fb : DE} {ρ : En} {ra rb : R} {m : Nat} {f : Nat → Int} {i : Nat} (ha : fa ρ = some ra) (ea : ra.d = rowD m f) (hb : fb ρ = some rb) (eb : rb.d = .int i) (h : i < m) : dIdx fa fb ρ = some ⟨.int (f i), true, []⟩ := by
  have := ev_idxR ha ea hb eb (by omega) (by omega)
  rw [Int.toNat_natCast] at this
  exact this
/-! ### settled -/
end HS
namespace HS
open PySem L2
/-! ### the weights of a net -/
noncomputable def EscS (m : Nat) (S : List (Int × Int)) : Prop := ∀ A : Nat → Prop, (∃ p, p < m ∧ A p) → ∃ s ∈ S, s.1 < m ∧ A s.1.toNat ∧ (s.2 = m ∨ ¬ A s.2.toNat)
theorem esc_steps {m : Nat} {W : List (Int × Int × Bool)} (h : Esc m W) : EscS m (stepsL (roadsOf W) (lanesOf W)) := fun A hA => by
  obtain ⟨w, hw, h1, h2, h3⟩ := h A hA
  refine ⟨(w.1, w.2.1), ?_, h1, h2, h3⟩
  unfold stepsL
  cases e : w.2.2 with
  | true => exact List.mem_append_right _ (List.mem_map.mpr ⟨w, List.mem_filter.mpr ⟨hw, e⟩, rfl⟩)
  | false =>
    have hr : roadOf w ∈ roadsOf W := List.mem_map.mpr ⟨w, List.mem_filter.mpr ⟨hw, by simp [e]⟩, rfl⟩
    by_cases hlt : w.2.1 < w.1
    · refine List.mem_append_left _ (List.mem_append_right _ (List.mem_map.mpr ⟨roadOf w, hr, ?_⟩))
      unfold roadOf
      rw [if_pos hlt, if_neg (by omega)]; rfl
    · refine List.mem_append_left _ (List.mem_append_left _ ?_)
      have : roadOf w = (w.1, w.2.1) := by
        unfold roadOf
        rw [if_neg hlt]
        by_cases hgt : w.2.1 > w.1
        · rw [if_pos hgt]
        · rw [if_neg hgt]; rw [show w.2.1 = w.1 by omega]
      rw [← this]; exact hr
inductive Rk (m : Nat) (S : List (Int × Int)) : Nat → Nat → Prop where
  | pit {s : Int × Int} {n : Nat} : s ∈ S → s.2 = m → Rk m S (n + 1) s.1.toNat
  | step {s : Int × Int} {k n : Nat} : s ∈ S → s.2 ≠ m → Rk m S k s.2.toNat → k < n → Rk m S n s.1.toNat
theorem least_of {P : Nat → Prop} (h : ∃ n, P n) : ∃ n, P n ∧ ∀ k, k < n → ¬ P k := by
  obtain ⟨n, hn⟩ := h
  induction n using Nat.strongRecOn with
  | _ n ih =>
    by_cases h : ∃ k, k < n ∧ P k
    · obtain ⟨k, hk, h⟩ := h; exact ih k hk h
    · exact ⟨n, hn, fun k hk hx => h ⟨k, hk, hx⟩⟩
theorem rk_ex {m : Nat} {S : List (Int × Int)} (he : EscS m S) : ∀ p, p < m → ∃ n, Rk m S n p := fun p hp => by
  by_cases h : ∃ n, Rk m S n p
  · exact h
  · exfalso
    obtain ⟨s, hs, h1, h2, h3⟩ := he (fun p => ¬ ∃ n, Rk m S n p) ⟨p, hp, h⟩
    by_cases e : s.2 = m
    · exact h2 ⟨1, .pit hs e⟩
    · rcases h3 with h3 | h3
      · exact e h3
      · have : ∃ n, Rk m S n s.2.toNat := Classical.byContradiction fun z => h3 z
        obtain ⟨k, hk⟩ := this
        exact h2 ⟨k + 1, .step hs e hk (by omega)⟩
theorem rank_ex {m : Nat} {S : List (Int × Int)} (hg : ∀ s ∈ S, Good m s) (he : EscS m S) : ∃ r : Nat → Nat, r m = 0 ∧ ∀ p, p < m → ∃ s ∈ S, s.1 = p ∧ r s.2.toNat < r p := by
  have h : ∀ p, ∃ n, (p < m → Rk m S n p ∧ ∀ k, k < n → ¬ Rk m S k p) ∧ (p = m → n = 0) := fun p => by
    by_cases hp : p < m
    · obtain ⟨n, hn⟩ := least_of (rk_ex he p hp)
      exact ⟨n, fun _ => hn, fun z => by omega⟩
    · exact ⟨0, fun z => absurd z hp, fun _ => rfl⟩
  obtain ⟨r, hr⟩ := Classical.axiomOfChoice h
  refine ⟨r, (hr m).2 rfl, fun p hp => ?_⟩
  have h1 := ((hr p).1 hp).1
  generalize r p = n at h1
  cases h1 with
  | @pit s n hs e => 
    obtain ⟨g1, g2, g3, g4, g5⟩ := hg s hs
    exact ⟨s, hs, by omega, by rw [e, Int.toNat_natCast, (hr m).2 rfl]; omega⟩
  | @step s k n hs e hk hkn =>
    obtain ⟨g1, g2, g3, g4, g5⟩ := hg s hs
    refine ⟨s, hs, by omega, ?_⟩
    have hl : s.2.toNat < m := by omega
    have := ((hr s.2.toNat).1 hl).2 k
    have : ¬ k < r s.2.toNat := fun z => this z hk
    omega
theorem bound_ex (r : Nat → Nat) : ∀ m : Nat, ∃ N, ∀ p, p ≤ m → r p ≤ N
  | 0 => ⟨r 0, fun p hp => by rw [show p = 0 by omega]; exact Nat.le_refl _⟩
  | m + 1 => by
    obtain ⟨N, hN⟩ := bound_ex r m
    refine ⟨N + r (m + 1), fun p hp => ?_⟩
    by_cases e : p = m + 1
    · subst e; omega
    · have := hN p (by omega); omega
theorem sumR_hitw {m : Nat} {i : Nat} {s : Int × Int} (hi : i < m) (g : Good m s) (w : Nat → Int) (hw : w m = 0) : sumR m (fun j => hit i j s * w j) = if s.1 = i then w s.2.toNat - w i else 0 := by
  obtain ⟨g1, g2, g3, g4, g5⟩ := g
  by_cases h : s.1 = i
  · rw [if_pos h]
    have e : sumR m (fun j => hit i j s * w j) = sumR m (fun j => (if j = s.2.toNat then 1 else 0) * w j + (if j = i then -1 else 0) * w j) := sumR_congr fun j _ => by
      have : hit i j s = (if j = s.2.toNat then 1 else 0) + (if j = i then -1 else 0) := by
        unfold hit
        by_cases a : s.2 = j
        · by_cases b : i = j
          · rw [if_pos ⟨h, a⟩, if_pos ⟨h, b⟩, if_pos (by omega), if_pos b.symm]; omega
          · rw [if_pos ⟨h, a⟩, if_neg (fun z => b z.2), if_pos (by omega), if_neg (fun z => b z.symm)]; omega
        · by_cases b : i = j
          · rw [if_neg (fun z => a z.2), if_pos ⟨h, b⟩, if_neg (by omega), if_pos b.symm]; omega
          · rw [if_neg (fun z => a z.2), if_neg (fun z => b z.2), if_neg (by omega), if_neg (fun z => b z.symm)]; omega
      rw [this, Int.add_mul]
    rw [e, sumR_add, sumR_single hi]
    by_cases hm : s.2.toNat < m
    · rw [sumR_single hm]; omega
    · have e2 : sumR m (fun j => (if j = s.2.toNat then 1 else 0) * w j) = 0 := by
        rw [sumR_congr (g := fun _ => 0) fun j hj => by rw [if_neg (by omega), Int.zero_mul], sumR_zero]
      rw [e2, show s.2.toNat = m by omega, hw]; omega
  · rw [if_neg h]
    rw [sumR_congr (g := fun _ => 0) fun j hj => by
      unfold hit
      rw [if_neg (fun z => h z.1), if_neg (fun z => h z.1)]; rw [Int.sub_self, Int.zero_mul], sumR_zero]
theorem sum_le_len {α : Type} {g : α → Int} {X : Int} : ∀ S : List α, (∀ s ∈ S, g s ≤ X) → (S.map g).sum ≤ S.length * X
  | [], _ => by simp
  | a :: S, h => by
    have h1 := h a (by simp)
    have h2 := sum_le_len S fun s hs => h s (by simp [hs])
    simp only [List.map_cons, List.sum_cons, List.length_cons, Int.natCast_add, Int.add_mul]
    rw [show ((1 : Nat) : Int) * X = X by simp]
    omega
theorem sum_le_one {α : Type} {g : α → Int} {X Y : Int} : ∀ (S : List α), (∀ s ∈ S, g s ≤ X) → (∃ s ∈ S, g s ≤ Y) → (S.map g).sum ≤ S.length * X - X + Y
  | [], _, h => by obtain ⟨s, hs, _⟩ := h; exact absurd hs (by simp)
  | a :: S, h, h2 => by
    obtain ⟨s, hs, hy⟩ := h2
    have hb : ∀ s ∈ S, g s ≤ X := fun s hs => h s (by simp [hs])
    simp only [List.map_cons, List.sum_cons, List.length_cons, Int.natCast_add, Int.add_mul]
    rw [show ((1 : Nat) : Int) * X = X by simp]
    rcases List.mem_cons.mp hs with e | hs
    · subst e
      have := sum_le_len S hb
      omega
    · have := sum_le_one S hb ⟨s, hs, hy⟩
      have := h a (by simp)
      omega
theorem sum_nonneg {α : Type} {g : α → Int} : ∀ S : List α, (∀ s ∈ S, 0 ≤ g s) → 0 ≤ (S.map g).sum
  | [], _ => by simp
  | a :: S, h => by
    have h1 := h a (by simp)
    have h2 := sum_nonneg S fun s hs => h s (by simp [hs])
    simp only [List.map_cons, List.sum_cons]
    omega
theorem tp_steps {m : Nat} {S : List (Int × Int)} (hg : ∀ s ∈ S, Good m s) (he : EscS m S) (hl : S.length < 2 ^ 60) : TP m (tollF m S) := by
  have hn : ∀ s ∈ S, 0 ≤ s.1 ∧ 0 ≤ s.2 := fun s hs => ⟨(hg s hs).1, (hg s hs).2.1⟩
  have pos : ∀ i j, i < m → j < m → i ≠ j → 0 ≤ tollF m S i j := fun i j hi hj hij => by
    rw [toll_get hi hj hn]
    refine sum_nonneg S fun s _ => ?_
    unfold hit
    rw [if_neg (fun z => hij z.2) (c := s.1 = i ∧ i = j)]
    split <;> omega
  obtain ⟨r, r0, hr⟩ := rank_ex hg he
  obtain ⟨N, hN⟩ := bound_ex r m
  have M1 : 1 ≤ S.length + 1 := by omega
  have wt : ∃ w : Nat → Int, (∀ j, 0 ≤ w j) ∧ ∀ i, i < m → sumR m (fun j => tollF m S i j * w j) ≤ -1 := by
    refine ⟨fun v => (((S.length + 1) ^ N : Nat) : Int) - (((S.length + 1) ^ (N - r v) : Nat) : Int), fun j => ?_, fun i hi => ?_⟩
    · have := Nat.pow_le_pow_right M1 (Nat.sub_le N (r j))
      show (0 : Int) ≤ (((S.length + 1) ^ N : Nat) : Int) - (((S.length + 1) ^ (N - r j) : Nat) : Int)
      omega
    · generalize hw : (fun v => (((S.length + 1) ^ N : Nat) : Int) - (((S.length + 1) ^ (N - r v) : Nat) : Int)) = w
      have hw' : ∀ v, w v = (((S.length + 1) ^ N : Nat) : Int) - (((S.length + 1) ^ (N - r v) : Nat) : Int) := fun v => by rw [← hw]
      have wm : w m = 0 := by rw [hw', r0, Nat.sub_zero]; omega
      have e : sumR m (fun j => tollF m S i j * w j) = (S.map fun s => if s.1 = (i : Int) then w s.2.toNat - w i else 0).sum := by
        rw [sumR_congr (g := fun j => (S.map fun s => hit i j s * w j).sum) fun j hj => by
          rw [toll_get hi hj hn, Int.mul_comm, mul_sum]
          congr 1
          exact List.map_congr_left fun s _ => Int.mul_comm _ _]
        rw [sumR_list m (fun j s => hit i j s * w j) S]
        congr 1
        exact List.map_congr_left fun s hs => sumR_hitw hi (hg s hs) w wm
      rw [e]
      obtain ⟨s0, hs0, e0, hlt⟩ := hr i hi
      generalize hX : (((S.length + 1) ^ (N - r i) : Nat) : Int) = X
      have X1 : 1 ≤ X := by
        have : 0 < (S.length + 1) ^ (N - r i) := Nat.pow_pos (by omega)
        omega
      have key := sum_le_one (g := fun s : Int × Int => if s.1 = i then w s.2.toNat - w i else 0) (X := X) (Y := X - (S.length + 1) * X) S (fun s _ => by
        show (if s.1 = i then w s.2.toNat - w i else 0) ≤ X
        split
        · rw [hw', hw' i, hX]
          have : 0 ≤ (((S.length + 1) ^ (N - r s.2.toNat) : Nat) : Int) := Int.natCast_nonneg _
          omega
        · omega) ⟨s0, hs0, by
        show (if s0.1 = i then w s0.2.toNat - w i else 0) ≤ _
        rw [if_pos e0, hw', hw' i, hX]
        have hb := hN i (by omega)
        have h1 : (S.length + 1) ^ (N - r i + 1) ≤ (S.length + 1) ^ (N - r s0.2.toNat) := Nat.pow_le_pow_right M1 (by omega)
        rw [Nat.pow_succ] at h1
        have h2 : ((((S.length + 1) ^ (N - r i) * (S.length + 1) : Nat)) : Int) ≤ (((S.length + 1) ^ (N - r s0.2.toNat) : Nat) : Int) := by exact_mod_cast h1
        rw [Int.natCast_mul, hX, Int.mul_comm] at h2
        rw [show ((S.length + 1 : Nat) : Int) = (S.length : Int) + 1 by omega] at h2
        omega⟩
      have : ((S.length : Int) + 1) * X = S.length * X + X := by rw [Int.add_mul, Int.one_mul]
      omega
  refine ⟨fun p hp => ?_, pos, fun i j hi hj => ?_, wt⟩
  · obtain ⟨w, w0, hw⟩ := wt
    have h1 := hw p hp
    by_cases hneg : tollF m S p p < 0
    · exact hneg
    · exfalso
      have : 0 ≤ sumR m (fun j => tollF m S p j * w j) := by
        have := sumR_le (m := m) (f := fun _ => 0) (g := fun j => tollF m S p j * w j) fun j hj => by
          by_cases e : p = j
          · subst e; exact Int.mul_nonneg (by omega) (w0 _)
          · exact Int.mul_nonneg (pos p j hp hj e) (w0 _)
        rw [sumR_zero] at this
        exact this
      omega
  · rw [toll_get hi hj hn]
    have := abs_sum_hit i j S
    omega
theorem NetW.tp {m : Nat} {R L : List (Int × Int)} (h : NetW m R L) : TP m (tollF m (stepsL R L)) := by
  have hg := h.good
  refine tp_steps (good_steps hg.1 hg.2.1) ?_ ?_
  · obtain ⟨W, h1, _, _, rfl, rfl⟩ := h.ex
    exact esc_steps h1
  · unfold stepsL
    simp only [List.length_append, List.length_map]
    omega
theorem NetW.neg {m : Nat} {R L : List (Int × Int)} (h : NetW m R L) {i : Nat} (hi : i < m) : 0 - tollF m (stepsL R L) i i = spanF R L i := by
  have hg := h.good
  have hs := good_steps hg.1 hg.2.1
  rw [toll_get hi hi (fun s z => ⟨(hs s z).1, (hs s z).2.1⟩), sum_neg _ _ (fun s z => (hs s z).2.2.2.2), sum_steps]
  omega
end HS
namespace HS
open PySem L2
/-! ### least and greatest of a row -/
theorem rowD_ints (m : Nat) (f : Nat → Int) : rowD m f = .lst (((List.range m).map f).map D.int) := by
  unfold rowD; rw [List.map_map]; rfl
theorem minI_ne : ∀ {ns : List Int}, ns ≠ [] → ∃ m, minI ns = some m
  | [], h => absurd rfl h
  | [n], _ => ⟨n, rfl⟩
  | n :: k :: r, _ => by
    obtain ⟨m, hm⟩ := minI_ne (ns := k :: r) (by simp)
    exact ⟨if m < n then m else n, by simp only [minI, hm, Option.map_some]⟩
theorem row_ne {m : Nat} (h : 0 < m) (f : Nat → Int) : (List.range m).map f ≠ [] := by
  intro z
  have := congrArg List.length z
  simp at this
  omega
theorem ev_minR {m : Nat} (m0 : 0 < m) (f : Nat → Int) : ∃ v, (∃ i, i < m ∧ v = f i) ∧ (∀ i, i < m → v ≤ f i) ∧ ∀ {fa : DE} {ρ : En} {r : R}, fa ρ = some r → r.d = rowD m f → dBf gMin1 (dCons fa dNil) ρ = some ⟨.int v, true, []⟩ := by
  obtain ⟨v, hv⟩ := minI_ne (row_ne m0 f)
  obtain ⟨h1, h2⟩ := minI_ok hv
  refine ⟨v, ?_, fun i hi => h2 _ (List.mem_map.mpr ⟨i, List.mem_range.mpr hi, rfl⟩), fun {fa ρ r} h e => ?_⟩
  · obtain ⟨i, hi, e⟩ := List.mem_map.mp h1
    exact ⟨i, List.mem_range.mp hi, e.symm⟩
  · unfold dBf
    rw [ev_cons h (ev_nil _), Option.bind_some]
    simp only [e, rowD_ints, gMin1, dInts_of, Option.bind_some, hv, Option.map_some]
/-! ### heaps -/
noncomputable def G_need_heaps (d_need_rows : Den) : DS := (sSeq (sDrop (dCall 2 d_need_rows [] (dCons (dVar 0) (dCons (dVar 1) dNil)))) (sSeq (sFor (iVal (dVar 1)) (.nm 2) (sSeq (sIf (dTru (dOp gLt (dBf gMin1 (dCons (dVar 2) dNil)) (dC (.int 0)))) (sSeq sNever sNil) sNil) sNil)) sNil))
noncomputable def NeedHOk (d : Den) : Prop := ∀ (m : Nat) (R L : List (Int × Int)) (fs : List (Nat → Int)), 0 < m → (∀ f ∈ fs, ∀ j, j < m → 0 ≤ f j) → d [netD m R L, .lst (fs.map fun f => rowD m f)] = some (.non, true)
theorem needh_ok {dn : Den} (hn : NeedOk dn) : NeedHOk (denOf 3 (G_need_heaps dn)) := fun m R L fs m0 hf => by
  have key : Run (G_need_heaps dn) (startEn 3 [netD m R L, .lst (fs.map fun f => rowD m f)]) (Nx fun _ => True) := by
    refine run_seq (run_drop (ev_call (r := ⟨[netD m R L, .lst (fs.map fun f => rowD m f)], false, []⟩) rfl (hn m R L fs) rfl) ?_)
    refine run_seq (run_for (toD := fun f => rowD m f) fs (fun _ ρ => ∃ j2, ρ = [some (netD m R L, false), some (.lst (fs.map fun f => rowD m f), false), j2]) (ir := ⟨fs.map fun f => rowD m f, []⟩) rfl rfl ⟨none, rfl⟩ ?_ ?_)
    · rintro i f ρ hi ⟨j2, rfl⟩
      refine ⟨_, rfl, ?_⟩
      obtain ⟨v, ⟨q, hq, e⟩, _, hv⟩ := ev_minR m0 f
      have h0 := hf f (List.mem_of_getElem? hi) q hq
      refine run_seq (run_if (b := false) (ev_tru (ev_op (rb := ⟨.int 0, true, []⟩) (d := .bl (decide (v < 0))) (hv (r := ⟨rowD m f, false, []⟩) rfl rfl) rfl rfl) ?_) (fun h => by cases h) (fun _ => run_nil (run_nil ⟨_, rfl⟩)))
      show D.bl _ = _
      rw [decide_eq_false (by omega)]
    · rintro ρ ⟨j2, rfl⟩
      exact run_nil trivial
  obtain ⟨o, h1, h2⟩ := key
  unfold denOf
  rw [h1]
  cases o with
  | nx ρ => rfl
  | _ => exact h2.elim
/-! ### still -/
structure Told (m : Nat) (T : Nat → Nat → Int) (f c : Nat → Int) : Prop where
  leg : Leg m T f c
  pos : ∀ j, j < m → 0 ≤ aftF m T f c j
  stb : Stb m T (aftF m T f c)
end HS
namespace HS
open PySem L2
/-- from every place of the first ways one comes to the pit -/
theorem esc_base {m : Nat} {t kind : Int} : Esc m (baseW m t kind) := fun A ⟨p, hp, hA⟩ => by
  have ex : ∃ j : Nat, j < m ∧ A (((j : Int) + t) % m).toNat := by
    have h1 := Int.emod_nonneg ((p : Int) - t) (by omega : (m : Int) ≠ 0)
    have h2 := Int.emod_lt_of_pos ((p : Int) - t) (by omega : (0 : Int) < m)
    refine ⟨(((p : Int) - t) % m).toNat, by omega, ?_⟩
    have e : (((((p : Int) - t) % m).toNat : Int) + t) % m = p := by
      rw [Int.toNat_of_nonneg h1, Int.emod_add_emod, Int.sub_add_cancel]
      exact Int.emod_eq_of_lt (by omega) (by omega)
    rw [e, Int.toNat_natCast]; exact hA
  obtain ⟨j, ⟨hj, hAj⟩, hmin⟩ := least_of ex
  have s1 := Int.emod_nonneg ((j : Int) + t) (by omega : (m : Int) ≠ 0)
  have s2 := Int.emod_lt_of_pos ((j : Int) + t) (by omega : (0 : Int) < m)
  refine ⟨bWay m t kind j, List.mem_map.mpr ⟨j, List.mem_range.mpr hj, rfl⟩, ?_, hAj, ?_⟩
  · exact s2
  · show bEnd m t j = m ∨ ¬ A (bEnd m t j).toNat
    unfold bEnd
    split
    · rename_i h
      have n1 := Int.emod_nonneg (bNum t j) (by omega : (j : Int) + 1 ≠ 0)
      right
      intro z
      refine hmin (bNum t j % ((j : Int) + 1)).toNat (by omega) ⟨by omega, ?_⟩
      rw [Int.toNat_of_nonneg n1]
      exact z
    · exact .inl rfl
end HS
namespace HS
open PySem L2
/-! ### the row behind counts, way by way -/
noncomputable def ext0 (m : Nat) (f : Nat → Int) : Nat → Int := fun i => if i < m then f i else 0
theorem ev_addRow {fa : DE} {ρ : En} {ra : R} {m : Nat} {f : Nat → Int} (ha : fa ρ = some ra) (ea : ra.d = rowD m f) (hm : m ≤ 1000) : dAdd fa (dLst (dCons (dC (.int 0)) dNil)) ρ = some ⟨rowD (m + 1) (ext0 m f), true, []⟩ := by
  have e : rowD (m + 1) (ext0 m f) = .lst (((List.range m).map fun i => D.int (f i)) ++ [.int 0]) := by
    unfold rowD
    rw [List.range_succ, List.map_append]
    congr 2
    · refine List.map_congr_left fun i hi => ?_
      unfold ext0
      rw [if_pos (List.mem_range.mp hi)]
    · show [D.int (ext0 m f m)] = _
      unfold ext0
      rw [if_neg (by omega)]
  rw [e]
  unfold dAdd
  rw [ha, Option.bind_some]
  show (Option.bind (some (⟨.lst [.int 0], true, []⟩ : HS.R)) _) = _
  rw [Option.bind_some, ea]
  simp only [rowD, List.length_map, List.length_range, line0]
  rw [if_pos (by simp; omega)]
  simp [newL]
end HS
namespace HS
open PySem L2
theorem row_snoc {i : Nat} {g : Nat → Int} {v : Int} : ((List.range i).map fun k => D.int (g k)) ++ [.int v] = (List.range (i + 1)).map fun k => D.int (up g i v k) := by
  rw [List.range_succ, List.map_append]
  congr 1
  · refine List.map_congr_left fun k hk => ?_
    have := List.mem_range.mp hk
    unfold up
    rw [if_neg (by omega)]
  · show _ = [D.int (up g i v i)]
    unfold up
    rw [if_pos rfl]
theorem run_appR {x : Nat} {fa : DE} {ρ : En} {r : R} {i : Nat} {g : Nat → Int} {v : Int} {Q : Out → Prop} (hx : ρ[x]? = some (some (rowD i g, true))) (ha : fa ρ = some r) (e : r.d = .int v) (hl : i < 16777216) (q : Q (.nx (ρ.set x (some (rowD (i + 1) (up g i v), true))))) : Run (sApp x pNil fa) ρ Q := by
  refine run_app (xs := (List.range i).map fun k => D.int (g k)) hx ha (by rw [e]; rfl) (by simpa using hl) ?_
  rw [e, row_snoc]
  exact q
theorem ev_lenR {fa : DE} {ρ : En} {r : R} {m : Nat} {f : Nat → Int} (h : fa ρ = some r) (e : r.d = rowD m f) : dBf gLen (dCons fa dNil) ρ = some ⟨.int m, true, []⟩ := by
  rw [ev_len h e]; simp
theorem ev_lst {fs : DA} {ρ : En} {rs : RA} (h : fs ρ = some rs) (hl : rs.ds.length ≤ 64) : dLst fs ρ = some ⟨.lst rs.ds, rs.fr, rs.M⟩ := by
  unfold dLst
  rw [h, Option.bind_some, if_pos hl]
end HS
namespace HS
open PySem L2
theorem sim_row (n m : Nat) (f : Nat → Int) : (rowD m f).sim (n + 1) = true := by
  unfold rowD
  simp only [D.sim, List.all_map, List.all_eq_true]
  intro p _
  cases n <;> rfl
end HS
namespace HS
open PySem L2
/-- a row of a table -/
theorem ev_idxT {fa fb : DE} {ρ : En} {ra rb : R} {m n : Nat} {f : Nat → Nat → Int} {i : Int} (ha : fa ρ = some ra) (ea : ra.d = tabD m n f) (hb : fb ρ = some rb) (eb : rb.d = .int i) (h0 : 0 ≤ i) (h : i < m) : dIdx fa fb ρ = some ⟨rowD n (f i.toNat), ra.fr, ra.M⟩ := by
  unfold dIdx
  rw [ha, Option.bind_some, hb, Option.bind_some, ea, eb]
  simp only [tabD, D.items, Option.bind_some, tab_get h0 h, Option.map_some]
  rfl
noncomputable def G_is_plain : DS := (sSeq (sRet (dOp gEq (dBf gLen (dCons (dIdx (dVar 0) (dC (.int 2))) dNil)) (dC (.int 0)))) sNil)
noncomputable def PlainOk (d : Den) : Prop := ∀ (m : Int) (R L : List (Int × Int)), d [netD m R L] = some (.bl (decide ((L.length : Int) = 0)), true)
theorem plain_ok : PlainOk (denOf 1 G_is_plain) := fun m R L => by
  refine den_of ?_
  refine run_retL (ev_eqI (ev_len (ev_item (r := ⟨netD m R L, false, []⟩) rfl rfl).2.2 rfl) rfl rfl rfl) ⟨?_, rfl⟩
  simp
end HS
namespace HS
open PySem L2
/-! ### sums over places -/
noncomputable def natsD (l : List Nat) : D := .lst (l.map fun (p : Nat) => .int (p : Int))
noncomputable def amongF (T : Nat → Nat → Int) (p : Nat) (l : List Nat) : Int := ((l.filter fun o => decide (o ≠ p)).map (T p)).sum
noncomputable def readyL (T : Nat → Nat → Int) (a : Nat → Int) (l : List Nat) : List Nat := l.filter fun p => decide (amongF T p l ≤ a p)
noncomputable def nextL (T : Nat → Nat → Int) (a : Nat → Int) (l : List Nat) : List Nat := l.filter fun p => !(readyL T a l).contains p
/-! ### the paper -/
end HS
namespace HS
open PySem L2
theorem flats_nats (l : List Nat) : flats (l.map fun (p : Nat) => D.int (p : Int)) = true := flats_map (fun _ => rfl) l
theorem nats_ints (l : List Nat) : natsD l = .lst ((l.map fun (p : Nat) => (p : Int)).map D.int) := by unfold natsD; rw [List.map_map]; rfl
/-- an item of a row, by a place -/
theorem ev_sumL {fa : DE} {ρ : En} {r : R} {ns : List Int} (h : fa ρ = some r) (e : r.d = .lst (ns.map D.int)) : dBf gSum1 (dCons fa dNil) ρ = some ⟨.int ns.sum, true, []⟩ := by
  unfold dBf
  rw [ev_cons h (ev_nil _), Option.bind_some]
  simp only [e, gSum1, dInts_of, Option.map_some]
noncomputable def G_roads_among : DS := (sSeq (sRet (dBf gSum1 (dCons (dComp (iVal (dVar 2)) (.nm 1) [none, none, some 1, some 0] (dTru (dOp gNe (dVar 1) (dVar 2))) (dIdx (dVar 3) (dVar 1))) dNil))) sNil)
noncomputable def AmongOk (d : Den) : Prop := ∀ (m : Nat) (t : Nat → Int) (p : Nat) (l : List Nat), (∀ o ∈ l, o < m) → d [rowD m t, .int p, natsD l] = some (.int (((l.filter fun o => decide (o ≠ p)).map t).sum), true)
theorem among_ok : AmongOk (denOf 3 G_roads_among) := fun m t p l hl => by
  refine den_of ?_
  have e := ev_comp (fi := iVal (dVar 2)) (t := .nm 1) (cap := [none, none, some 1, some 0]) (ft := dTru (dOp gNe (dVar 1) (dVar 2))) (fe := dIdx (dVar 3) (dVar 1)) (ρ := [some (rowD m t, false), some (.int p, true), some (natsD l, false)])
    (toD := fun (o : Nat) => .int (o : Int)) (keep := fun o => decide (o ≠ p)) (out := fun (o : Nat) => .int (t o)) l (ev_iVal (r := ⟨natsD l, false, []⟩) rfl rfl) rfl fun o ho => by
      refine ⟨[none, some (.int o, true), some (.int p, true), some (rowD m t, false)], rfl, ?_, fun _ => ⟨_, ev_idxR' (m := m) (f := t) (i := o) (ra := ⟨rowD m t, false, []⟩) rfl rfl rfl rfl (hl o ho), rfl, rfl⟩⟩
      refine (ev_tru (ev_neI (a := o) (b := p) rfl rfl rfl rfl) rfl).trans ?_
      congr 1
      by_cases h : o = p
      · subst h; simp
      · simp [h]
        omega
  refine run_retL (ev_sumL (ns := (l.filter fun o => decide (o ≠ p)).map t) e ?_) ⟨rfl, rfl⟩
  show D.lst _ = D.lst _
  rw [List.map_map]; rfl
noncomputable def G_need_plain (d_is_plain : Den) : DS := (sSeq (sIf (bNot (dTru (dCall 1 d_is_plain [] (dCons (dVar 0) dNil)))) (sSeq sNever sNil) sNil) sNil)
noncomputable def NeedPOk (d : Den) : Prop := ∀ (m : Nat) (R : List (Int × Int)), d [netD m R []] = some (.non, true)
theorem needp_ok {dp : Den} (hp : PlainOk dp) : NeedPOk (denOf 1 (G_need_plain dp)) := fun m R => by
  have key : Run (G_need_plain dp) (startEn 1 [netD m R []]) (Nx fun _ => True) := by
    refine run_seq (run_if (b := false) (ev_not (b := true) (ev_tru (b := true) (ev_call (r := ⟨[netD m R []], false, []⟩) rfl (hp m R []) rfl) rfl)) (fun h => by cases h) (fun _ => run_nil (run_nil trivial)))
  obtain ⟨o, h1, h2⟩ := key
  unfold denOf
  rw [h1]
  cases o with
  | nx ρ => rfl
  | _ => exact h2.elim
theorem in_nats {o : Nat} {l : List Nat} : (l.map fun (p : Nat) => D.int (p : Int)).any (fun y => deq y (.int o)) = l.contains o := by
  induction l with
  | nil => rfl
  | cons a l ih =>
    rw [List.map_cons, List.any_cons, ih, deq_int, List.contains_cons]
    congr 1
    by_cases h : a = o
    · subst h; simp
    · rw [decide_eq_false (by omega)]
      exact (beq_eq_false_iff_ne.mpr (fun z => h z.symm)).symm
theorem sim_nats (n : Nat) (l : List Nat) : (natsD l).sim (n + 1) = true := by
  unfold natsD
  simp only [D.sim, List.all_map, List.all_eq_true]
  intro p _
  cases n <;> rfl
theorem ev_inN {neg : Bool} {fa fb : DE} {ρ : En} {ra rb : R} {o : Nat} {l : List Nat} (ha : fa ρ = some ra) (ea : ra.d = .int o) (hb : fb ρ = some rb) (eb : rb.d = natsD l) : dOp (gIn neg) fa fb ρ = some ⟨.bl (if neg then !l.contains o else l.contains o), true, []⟩ := by
  refine ev_op ha hb ?_
  rw [ea, eb]
  have : (D.int (o : Int)).sim 8 = true := rfl
  show (if (D.int (o : Int)).sim 8 && (natsD l).sim 8 then some (D.bl (if neg then !((l.map fun (p : Nat) => D.int (p : Int)).any fun y => deq y (.int o)) else (l.map fun (p : Nat) => D.int (p : Int)).any fun y => deq y (.int o))) else none) = _
  rw [this, sim_nats 7 l, in_nats]
  rfl
end HS
namespace HS
open PySem L2
theorem sum_one {A : Prop} [Decidable A] {x : Int} (hx : 0 ≤ x) : ∀ {l : List Nat}, l.Nodup → (l.map fun (o : Nat) => if A ∧ x = (o : Int) then (1 : Int) else 0).sum = if A ∧ x.toNat ∈ l then 1 else 0
  | [], _ => by simp
  | a :: l, nd => by
    have nd' := List.nodup_cons.mp nd
    rw [List.map_cons, List.sum_cons, sum_one hx nd'.2]
    by_cases hA : A
    · by_cases h : x = a
      · have : x.toNat = a := by omega
        rw [if_pos ⟨hA, h⟩, if_neg (fun z => nd'.1 (this ▸ z.2)), if_pos ⟨hA, by simp [this]⟩]; rfl
      · have : ¬ x.toNat = a := by omega
        rw [if_neg (fun z => h z.2)]
        by_cases h2 : x.toNat ∈ l
        · rw [if_pos ⟨hA, h2⟩, if_pos ⟨hA, by simp [h2]⟩]; rfl
        · rw [if_neg (fun z => h2 z.2), if_neg (fun z => by rcases List.mem_cons.mp z.2 with e | e; exact this e; exact h2 e)]; rfl
    · rw [if_neg (fun z => hA z.1), if_neg (fun z => hA z.1), if_neg (fun z => hA z.1)]; rfl
theorem sum_zeros {β : Type} : ∀ S : List β, (S.map fun _ => (0 : Int)).sum = 0
  | [] => rfl
  | _ :: S => by rw [List.map_cons, List.sum_cons, sum_zeros S]; rfl
theorem sum_swapL {α β : Type} (g : α → β → Int) : ∀ (l : List α) (S : List β), (l.map fun o => (S.map (g o)).sum).sum = (S.map fun s => (l.map fun o => g o s).sum).sum
  | [], S => (sum_zeros S).symm
  | a :: l, S => by
    rw [List.map_cons, List.sum_cons, sum_swapL g l S]
    clear sum_swapL
    induction S with
    | nil => rfl
    | cons s S ih => simp only [List.map_cons, List.sum_cons] at ih ⊢; omega
noncomputable def roadHit (p : Nat) (l : List Nat) (s : Int × Int) : Int := if (s.1 = p ∧ s.2.toNat ∈ l) ∨ (s.2 = p ∧ s.1.toNat ∈ l) then 1 else 0
theorem roads_sum {m : Nat} {R : List (Int × Int)} (hR : ∀ s ∈ R, Good m s) {p : Nat} (hp : p < m) {l : List Nat} (nd : l.Nodup) (hl : ∀ o ∈ l, o < m) (hpl : p ∉ l) : (l.map (tollF m (stepsL R []) p)).sum = (R.map (roadHit p l)).sum := by
  have gS := good_steps (L := []) hR (fun s hs => absurd hs (by simp))
  have hn : ∀ s ∈ stepsL R [], 0 ≤ s.1 ∧ 0 ≤ s.2 := fun s hs => ⟨(gS s hs).1, (gS s hs).2.1⟩
  have e1 : l.map (tollF m (stepsL R []) p) = l.map fun o => ((stepsL R []).map (hit p o)).sum := List.map_congr_left fun o ho => toll_get hp (hl o ho) hn
  rw [e1, sum_swapL (fun o s => hit p o s) l (stepsL R [])]
  have e2 : (stepsL R []).map (fun s => (l.map fun o => hit p o s).sum) = (stepsL R []).map fun s => if s.1 = (p : Int) ∧ s.2.toNat ∈ l then (1 : Int) else 0 := List.map_congr_left fun s hs => by
    rw [← sum_one (hn s hs).2 nd]
    congr 1
    refine List.map_congr_left fun o ho => ?_
    unfold hit
    rw [if_neg (fun z => hpl (z.2 ▸ ho)) (c := s.1 = p ∧ p = o)]; omega
  rw [e2]
  unfold stepsL
  rw [List.append_nil, List.map_append, List.sum_append, List.map_map]
  clear e1 e2 hn gS
  induction R with
  | nil => rfl
  | cons s R ih =>
    have hs := hR s (by simp)
    obtain ⟨h1, h2, h3, h4, h5⟩ := hs
    have ih := ih fun s hs => hR s (by simp [hs])
    simp only [List.map_cons, List.sum_cons, Function.comp, Prod.fst_swap, Prod.snd_swap] at ih ⊢
    have : (if s.1 = p ∧ s.2.toNat ∈ l then (1 : Int) else 0) + (if s.2 = p ∧ s.1.toNat ∈ l then 1 else 0) = roadHit p l s := by
      unfold roadHit
      by_cases a : s.1 = p ∧ s.2.toNat ∈ l
      · rw [if_pos a, if_neg (fun z => h5 (a.1.trans z.1.symm)) (c := s.2 = p ∧ s.1.toNat ∈ l), if_pos (Or.inl a)]; rfl
      · by_cases b : s.2 = p ∧ s.1.toNat ∈ l
        · rw [if_neg a, if_pos b, if_pos (Or.inr b)]; rfl
        · rw [if_neg a, if_neg b, if_neg (fun z => z.elim a b)]; rfl
    omega
theorem nats_cut {l : List Nat} {n : Nat} : cutD (l.map fun (p : Nat) => D.int (p : Int)) (some (n : Int)) none = (l.drop n).map fun (p : Nat) => D.int (p : Int) := by
  unfold cutD
  simp only [List.length_map, HT.sIx_none, HT.sIx_nat, Nat.sub_zero]
  rw [← List.map_drop, ← List.map_take]
  congr 1
  by_cases h : n ≤ l.length
  · rw [Nat.min_eq_left h, List.take_of_length_le (by simp)]
  · rw [Nat.min_eq_right (by omega), List.drop_of_length_le (by omega), List.drop_of_length_le (by omega)]; simp
theorem ev_slcN {fa fb : DE} {ρ : En} {ra rb : R} {l : List Nat} {n : Nat} (ha : fa ρ = some ra) (ea : ra.d = natsD l) (hb : fb ρ = some rb) (eb : rb.d = .int n) : dSlc fa (oSome fb) oNone ρ = some ⟨natsD (l.drop n), true, []⟩ := by
  unfold dSlc oNone oSome
  simp only [ha, hb, Option.bind_some, ea, eb, natsD, nats_cut, newL, flats_nats, if_true]
theorem ev_inP {fa fb : DE} {ρ : En} {ra rb : R} {x : Int} {s : Int × Int} (ha : fa ρ = some ra) (ea : ra.d = .int x) (hb : fb ρ = some rb) (eb : rb.d = pairD s) : dOp (gIn false) fa fb ρ = some ⟨.bl (decide (s.1 = x) || decide (s.2 = x)), true, []⟩ := by
  refine ev_op ha hb ?_
  rw [ea, eb]
  show some (D.bl ([D.int s.1, D.int s.2].any fun y => deq y (.int x))) = _
  rw [List.any_cons, List.any_cons, List.any_nil, deq_int, deq_int, Bool.or_false]
theorem ends_span {m : Nat} {R : List (Int × Int)} (hR : ∀ s ∈ R, Good m s) (p : Nat) : ((R.filter fun s => decide (s.1 = (p : Int)) || decide (s.2 = (p : Int))).length : Int) = spanF R [] p := by
  unfold spanF
  rw [show (([] : List (Int × Int)).map fun l => isI p l.1).sum = 0 from rfl, Int.add_zero]
  induction R with
  | nil => rfl
  | cons s R ih =>
    obtain ⟨h1, h2, h3, h4, h5⟩ := hR s (by simp)
    have ih := ih fun s hs => hR s (by simp [hs])
    rw [List.map_cons, List.sum_cons, ← ih]
    unfold isI
    by_cases a : s.1 = p
    · have b : ¬ s.2 = p := fun z => h5 (a.trans z.symm)
      rw [List.filter_cons_of_pos (by simp [a]), List.length_cons, if_pos a, if_neg b]; omega
    · by_cases b : s.2 = p
      · rw [List.filter_cons_of_pos (by simp [b]), List.length_cons, if_neg a, if_pos b]; omega
      · rw [List.filter_cons_of_neg (by simp [a, b]), if_neg a, if_neg b]; omega
end HS
namespace HS
open PySem L2
noncomputable def plainW (w : Int × Int × Bool) : Int × Int × Bool := (w.1, w.2.1, false)
theorem plain_net {m : Nat} {W : List (Int × Int × Bool)} (he : Esc m W) (hg : ∀ w ∈ W, GoodW m w) (hl : W.length ≤ 200) : NetW m (W.map roadOf) [] := by
  refine ⟨W.map plainW, fun A hA => ?_, fun w hw => ?_, by rw [List.length_map]; exact hl, ?_, ?_⟩
  · obtain ⟨w, h1, h2⟩ := he A hA
    exact ⟨plainW w, List.mem_map.mpr ⟨w, h1, rfl⟩, h2⟩
  · obtain ⟨w', h1, rfl⟩ := List.mem_map.mp hw
    exact ⟨(hg w' h1).1, fun z => by cases z⟩
  · unfold roadsOf
    rw [List.filter_eq_self.mpr fun w hw => by obtain ⟨w', _, rfl⟩ := List.mem_map.mp hw; rfl, List.map_map]
    rfl
  · unfold lanesOf
    rw [List.filter_eq_nil_iff.mpr fun w hw => by obtain ⟨w', _, rfl⟩ := List.mem_map.mp hw; simp [plainW]]
    rfl
theorem ev_min2 {fa fb : DE} {ρ : En} {ra rb : R} {a b : Int} (ha : fa ρ = some ra) (ea : ra.d = .int a) (hb : fb ρ = some rb) (eb : rb.d = .int b) : dBf gMin2 (dCons fa (dCons fb dNil)) ρ = some ⟨.int (if b < a then b else a), true, []⟩ := by
  unfold dBf
  rw [ev_cons ha (ev_cons hb (ev_nil _)), Option.bind_some]
  simp only [ea, eb, gMin2, Option.map_some]
end HS
namespace HS
open PySem L2
/-! ### rows of numbers and None -/
noncomputable def optD : Option Int → D
  | none => .non
  | some i => .int i
@[simp] theorem flat_opt (o : Option Int) : (optD o).flat = true := by cases o <;> rfl
noncomputable def farD (m : Nat) (F : Nat → Option Int) : D := .lst ((List.range m).map fun i => optD (F i))
@[simp] theorem flat_far (m : Nat) (F : Nat → Option Int) : (farD m F).flat = false := rfl
@[simp] theorem flats_far (m : Nat) (F : Nat → Option Int) : flats ((List.range m).map fun i => optD (F i)) = true := flats_map (f := fun i => optD (F i)) (fun _ => flat_opt _) _
noncomputable def upO (F : Nat → Option Int) (i : Nat) (v : Option Int) : Nat → Option Int := fun j => if j = i then v else F j
theorem far_get {m : Nat} {F : Nat → Option Int} {i : Int} (h0 : 0 ≤ i) (h : i < m) : atI ((List.range m).map fun j => optD (F j)) i = some (optD (F i.toNat)) := by
  rw [atI_int h0 (by simpa using h), List.getElem?_map, List.getElem?_range (by omega)]; rfl
theorem norm_flat {d : D} {fr : Bool} {M : List Nat} (h : d.flat = true) : HS.R.norm ⟨d, fr, M⟩ = ⟨d, true, []⟩ := by unfold HS.R.norm; rw [if_pos h]
theorem ev_idxF {fa fb : DE} {ρ : En} {ra rb : R} {m : Nat} {F : Nat → Option Int} {i : Int} (ha : fa ρ = some ra) (ea : ra.d = farD m F) (hb : fb ρ = some rb) (eb : rb.d = .int i) (h0 : 0 ≤ i) (h : i < m) : dIdx fa fb ρ = some ⟨optD (F i.toNat), true, []⟩ := by
  unfold dIdx
  rw [ha, Option.bind_some, hb, Option.bind_some, ea, eb]
  simp only [farD, D.items, Option.bind_some, far_get h0 h, Option.map_some, norm_flat (flat_opt _)]
theorem run_setF {x m : Nat} {F : Nat → Option Int} {fi fa : DE} {ρ : En} {i v : Int} {ri ra : R} {Q : Out → Prop} (hx : ρ[x]? = some (some (farD m F, true))) (hi : fi ρ = some ri) (ei : ri.d = .int i) (ha : fa ρ = some ra) (ea : ra.d = .int v) (h0 : 0 ≤ i) (h : i < m)
    (q : Q (.nx (ρ.set x (some (farD m (upO F i.toNat (some v)), true))))) : Run (sSet x pNil fi fa) ρ Q := by
  refine ⟨_, ?_, q⟩
  have hn : ra.norm = ⟨.int v, true, []⟩ := by unfold HS.R.norm; rw [ea]; rfl
  have hs : ((List.range m).map fun j => optD (F j)).set i.toNat (.int v) = (List.range m).map fun j => optD (upO F i.toNat (some v) j) := by
    rw [range_map_set]
    congr 1; funext j; unfold upO; split <;> rfl
  unfold sSet
  rw [ha, Option.bind_some, hx]
  simp only [pNil, Option.bind_some, hi, ei, dpath, farD, List.length_map, List.length_range, ixN_int h0 h, hn, ea, updP, hs]
  simp [kill]
theorem far_slice {m n : Nat} {F : Nat → Option Int} (h : n ≤ m) : cutD ((List.range m).map fun i => optD (F i)) none (some (n : Int)) = (List.range n).map fun i => optD (F i) := by
  unfold cutD
  simp only [List.length_map, List.length_range, HT.sIx_none, HT.sIx_nat, List.drop_zero, Nat.sub_zero, Nat.min_eq_left h]
  rw [← List.map_take, List.take_range, Nat.min_eq_left h]
theorem ev_slcF {fa fb : DE} {ρ : En} {ra rb : R} {m n : Nat} {F : Nat → Option Int} (ha : fa ρ = some ra) (ea : ra.d = farD m F) (hb : fb ρ = some rb) (eb : rb.d = .int n) (h : n ≤ m) : dSlc fa oNone (oSome fb) ρ = some ⟨farD n F, true, []⟩ := by
  unfold dSlc oNone oSome
  rw [ha, Option.bind_some, hb, ea]
  simp only [Option.bind_some, eb, farD, far_slice h, newL, flats_far, if_true]
theorem ev_repN {fb : DE} {ρ : En} {r : R} {n : Nat} (h : fb ρ = some r) (e : r.d = .int n) (hn : n ≤ 16777216) : dMul (dLst (dCons (dC .non) dNil)) fb ρ = some ⟨farD n (fun _ => none), true, []⟩ := by
  have h1 : dLst (dCons (dC .non) dNil) ρ = some ⟨.lst [.non], true, []⟩ := rfl
  unfold dMul
  rw [h1, Option.bind_some, h, Option.bind_some, e]
  dsimp only
  rw [if_pos ⟨by simp [line0]; omega, by omega, by omega, rfl⟩]
  simp only [Int.toNat_natCast, rep_one]
  rfl
theorem deq_opt (o : Option Int) (t : Int) : deq (optD o) (.int t) = decide (o = some t) := by
  cases o with
  | none => rfl
  | some a =>
    show deq (.int a) (.int t) = _
    rw [deq_int]
    by_cases h : a = t <;> simp [h]
theorem sim_opt (n : Nat) (o : Option Int) : (optD o).sim n = true := by cases o <;> cases n <;> rfl
/-! ### leads -/
noncomputable def stepL (t : Int) (F : Nat → Option Int) (s : Int × Int) : Nat → Option Int := if F s.1.toNat = none ∧ F s.2.toNat = some t then upO F s.1.toNat (some (t + 1)) else F
noncomputable def leadF (S : List (Int × Int)) (F : Nat → Option Int) : Nat → Nat → Option Int
  | 0 => F
  | t + 1 => S.foldl (stepL t) (leadF S F t)
noncomputable def G_leads (d_steps : Den) : DS := (sSeq (sAsg 3 (dAdd (dMul (dLst (dCons (dC .non) dNil)) (dVar 0)) (dLst (dCons (dC (.int 0)) dNil)))) (sSeq (sAsg 4 (dCall 2 d_steps [] (dCons (dVar 1) (dCons (dVar 2) dNil)))) (sSeq (sFor (iRange1 (dVar 0)) (.nm 5) (sSeq (sFor (iVal (dVar 4)) (.tp [6, 7]) (sSeq (sIf (bAnd (dTru (dOp (gIsX false) (dIdx (dVar 3) (dVar 6)) (dC .non))) (dTru (dOp gEq (dIdx (dVar 3) (dVar 7)) (dVar 5)))) (sSeq (sSet 3 pNil (dVar 6) (dAdd (dVar 5) (dC (.int 1)))) sNil) sNil) sNil)) sNil)) (sSeq (sRet (dSlc (dVar 3) oNone (oSome (dVar 0)))) sNil))))
noncomputable def far0 (m : Nat) : Nat → Option Int := fun i => if i = m then some 0 else none
theorem far_app {m : Nat} : D.lst (((List.range m).map fun _ => D.non) ++ [.int 0]) = farD (m + 1) (far0 m) := by
  unfold farD
  rw [List.range_succ, List.map_append]
  congr 2
  · refine List.map_congr_left fun i hi => ?_
    have := List.mem_range.mp hi
    unfold far0
    rw [if_neg (by omega)]; rfl
  · simp [far0, optD]
noncomputable def LeadsOk (d : Den) : Prop := ∀ (m : Nat) (R L : List (Int × Int)), 0 < m → m ≤ 1000 → R.length + R.length + L.length ≤ 1000000 → (∀ s ∈ R, Good m s) → (∀ s ∈ L, Good m s) → d [.int m, pairsD R, pairsD L] = some (farD m (leadF (stepsL R L) (far0 m) m), true)
theorem leads_ok {ds : Den} (hs : ∀ R L : List (Int × Int), R.length + R.length + L.length ≤ 1000000 → ds [pairsD R, pairsD L] = some (pairsD (stepsL R L), true)) : LeadsOk (denOf 8 (G_leads ds)) := fun m R L m0 hm hl hR hL => by
  have gS := good_steps hR hL
  refine den_of ?_
  refine run_seq (run_asg (r := ⟨farD (m + 1) (far0 m), true, []⟩) ?_ ?_)
  · unfold dAdd
    rw [ev_repN (n := m) (r := ⟨.int m, true, []⟩) rfl rfl (by omega)]
    show (if ((List.range m).map fun i => D.non).length + [D.int 0].length ≤ sizeLine then some (newL (((List.range m).map fun i => D.non) ++ [D.int 0]) []) else none) = _
    rw [if_pos (by simp [line0]; omega)]
    unfold newL
    rw [if_pos (by rw [flats_app]; simp [flats_map (f := fun _ : Nat => D.non) (fun _ => rfl)]), far_app]
  rw [asg_nil]
  refine run_seq (run_asg (ev_call (r := ⟨[pairsD R, pairsD L], false, []⟩) rfl (hs R L hl) rfl) ?_)
  rw [asg_nil]
  refine run_then (P := fun ρ => ∃ j5 j6 j7 b, ρ = [some (.int m, true), some (pairsD R, false), some (pairsD L, false), some (farD (m + 1) (leadF (stepsL R L) (far0 m) m), true), some (pairsD (stepsL R L), b), j5, j6, j7]) ?_ ?_
  · refine run_for (List.range m) (fun i ρ => ∃ j5 j6 j7 b, ρ = [some (.int m, true), some (pairsD R, false), some (pairsD L, false), some (farD (m + 1) (leadF (stepsL R L) (far0 m) i), true), some (pairsD (stepsL R L), b), j5, j6, j7]) (ev_range (n := m) (r := ⟨.int m, true, []⟩) rfl rfl (by omega)) rfl ⟨none, none, none, true, rfl⟩ ?_ ?_
    · rintro i k ρ hi ⟨j5, j6, j7, b, rfl⟩
      have hk : i < m ∧ i = k := by
        obtain ⟨h1, h2⟩ := List.getElem?_eq_some_iff.mp hi
        simp at h1 h2; exact ⟨h1, h2⟩
      obtain ⟨hk, rfl⟩ := hk
      refine ⟨_, rfl, ?_⟩
      refine run_seq (g := sNil) (Run.mono (Q := Nx fun ρ => ∃ j6 j7, ρ = [some (.int m, true), some (pairsD R, false), some (pairsD L, false), some (farD (m + 1) (leadF (stepsL R L) (far0 m) (i + 1)), true), some (pairsD (stepsL R L), false), some (.int i, true), j6, j7]) ?_ ?_)
      · refine run_for (toD := pairD) (stepsL R L) (fun j ρ => ∃ j6 j7, ρ = [some (.int m, true), some (pairsD R, false), some (pairsD L, false), some (farD (m + 1) (((stepsL R L).take j).foldl (stepL i) (leadF (stepsL R L) (far0 m) i)), true), some (pairsD (stepsL R L), false), some (.int i, true), j6, j7]) (ir := ⟨(stepsL R L).map pairD, if b = true then [4] else []⟩) ?_ rfl ⟨j6, j7, ?_⟩ ?_ ?_
        · have := ev_iVal (ev_var (i := 4) (d := pairsD (stepsL R L)) (b := b) (ρ := [some (.int m, true), some (pairsD R, false), some (pairsD L, false), some (farD (m + 1) (leadF (stepsL R L) (far0 m) i), true), some (pairsD (stepsL R L), b), some (.int i, true), j6, j7]) rfl) (xs := (stepsL R L).map pairD) (by cases b <;> rfl)
          cases b <;> exact this
        · cases b <;> rfl
        · rintro j s ρ hj ⟨j6, j7, rfl⟩
          obtain ⟨s1, s2, s3, s4, s5⟩ := gS s (List.mem_of_getElem? hj)
          have c1 : s.1 < ((m + 1 : Nat) : Int) := by omega
          have c2 : s.2 < ((m + 1 : Nat) : Int) := by omega
          refine ⟨_, rfl, ?_⟩
          generalize eF : ((stepsL R L).take j).foldl (stepL i) (leadF (stepsL R L) (far0 m) i) = F
          have step : ((stepsL R L).take (j + 1)).foldl (stepL i) (leadF (stepsL R L) (far0 m) i) = stepL i F s := by
            rw [List.take_add_one, hj, List.foldl_append, eF]; rfl
          have e6 := ev_idxF (fa := dVar 3) (fb := dVar 6) (F := F) (m := m + 1) (i := s.1) (ra := ⟨farD (m + 1) F, true, [3]⟩) (ρ := [some (.int m, true), some (pairsD R, false), some (pairsD L, false), some (farD (m + 1) F, true), some (pairsD (stepsL R L), false), some (.int i, true), some (.int s.1, true), some (.int s.2, true)]) rfl rfl rfl rfl s1 c1
          have e7 := ev_idxF (fa := dVar 3) (fb := dVar 7) (F := F) (m := m + 1) (i := s.2) (ra := ⟨farD (m + 1) F, true, [3]⟩) (ρ := [some (.int m, true), some (pairsD R, false), some (pairsD L, false), some (farD (m + 1) F, true), some (pairsD (stepsL R L), false), some (.int i, true), some (.int s.1, true), some (.int s.2, true)]) rfl rfl rfl rfl s2 c2
          have t1 : dTru (dOp (gIsX false) (dIdx (dVar 3) (dVar 6)) (dC .non)) [some (.int m, true), some (pairsD R, false), some (pairsD L, false), some (farD (m + 1) F, true), some (pairsD (stepsL R L), false), some (.int i, true), some (.int s.1, true), some (.int s.2, true)] = some (decide (F s.1.toNat = none)) := by
            refine ev_tru (ev_op e6 (rb := ⟨.non, true, []⟩) rfl (d := .bl (decide (F s.1.toNat = none))) ?_) rfl
            cases F s.1.toNat <;> rfl
          have t2 : dTru (dOp gEq (dIdx (dVar 3) (dVar 7)) (dVar 5)) [some (.int m, true), some (pairsD R, false), some (pairsD L, false), some (farD (m + 1) F, true), some (pairsD (stepsL R L), false), some (.int i, true), some (.int s.1, true), some (.int s.2, true)] = some (decide (F s.2.toNat = some (i : Int))) := by
            have := ev_eqX e7 (fb := dVar 5) (rb := ⟨.int i, true, []⟩) rfl (sim_opt 8 _) rfl
            refine ev_tru this ?_
            show D.bl (deq (optD (F s.2.toNat)) (.int i)) = _
            rw [deq_opt]
          refine run_seq (run_if (b := decide (F s.1.toNat = none ∧ F s.2.toNat = some (i : Int))) ?_ (fun h => ?_) (fun h => ?_))
          · exact (ev_band t1 t2).trans (by rw [Bool.decide_and])
          · have h := of_decide_eq_true h
            refine run_seq (run_setF (i := s.1) (v := i + 1) (F := F) (m := m + 1) rfl rfl rfl (ev_add (a := (i : Int)) (b := 1) rfl rfl rfl rfl) rfl s1 c1 (run_nil (run_nil ⟨some (.int s.1, true), some (.int s.2, true), ?_⟩)))
            rw [step]
            unfold stepL
            rw [if_pos h]; rfl
          · have h := of_decide_eq_false h
            refine run_nil (run_nil ⟨some (.int s.1, true), some (.int s.2, true), ?_⟩)
            rw [step]
            unfold stepL
            rw [if_neg h]; rfl
        · rintro ρ ⟨j6, j7, rfl⟩
          rw [List.take_length]
          exact ⟨j6, j7, rfl⟩
      · intro o ho
        cases o with
        | nx ρ =>
          obtain ⟨j6, j7, rfl⟩ := ho
          exact run_nil ⟨_, _, _, false, rfl⟩
        | _ => exact ho.elim
    · rintro ρ ⟨j5, j6, j7, b, rfl⟩
      rw [List.length_range]
      exact ⟨j5, j6, j7, b, rfl⟩
  rintro ρ ⟨j5, j6, j7, b, rfl⟩
  exact run_retL (ev_slcF (m := m + 1) (n := m) (ev_var (d := farD (m + 1) (leadF (stepsL R L) (far0 m) m)) (b := true) rfl) rfl rfl rfl (by omega)) ⟨rfl, rfl⟩
end HS
namespace HS
open PySem L2
theorem fold_lead {t : Int} {v : Nat} : ∀ (S : List (Int × Int)) (F : Nat → Option Int), S.foldl (stepL t) F v = if F v = none ∧ ∃ s ∈ S, s.1.toNat = v ∧ F s.2.toNat = some t then some (t + 1) else F v
  | [], F => by simp
  | s :: S, F => by
    rw [List.foldl_cons, fold_lead S]
    have key : ∀ w, (stepL t F s w = some t ↔ F w = some t) := fun w => by
      unfold stepL
      split
      · rename_i h
        unfold upO
        split
        · rename_i e; subst e; rw [h.1]; simp; omega
        · exact Iff.rfl
      · exact Iff.rfl
    by_cases c : F s.1.toNat = none ∧ F s.2.toNat = some t
    · by_cases hv : v = s.1.toNat
      · have e1 : stepL t F s v = some (t + 1) := by unfold stepL upO; rw [if_pos c, if_pos hv]
        rw [if_neg (by rw [e1]; simp), e1, if_pos ⟨by rw [hv]; exact c.1, s, List.mem_cons_self, hv.symm, c.2⟩]
      · have e1 : stepL t F s v = F v := by unfold stepL upO; rw [if_pos c, if_neg hv]
        rw [e1]
        simp only [key]
        by_cases h : F v = none ∧ ∃ s' ∈ S, s'.1.toNat = v ∧ F s'.2.toNat = some t
        · obtain ⟨h1, s', h2, h3⟩ := h
          rw [if_pos ⟨h1, s', h2, h3⟩, if_pos ⟨h1, s', List.mem_cons_of_mem _ h2, h3⟩]
        · rw [if_neg h, if_neg]
          rintro ⟨h1, s', h2, h3, h4⟩
          rcases List.mem_cons.mp h2 with rfl | h2
          · exact hv h3.symm
          · exact h ⟨h1, s', h2, h3, h4⟩
    · have e1 : stepL t F s = F := by unfold stepL; rw [if_neg c]
      rw [e1]
      by_cases h : F v = none ∧ ∃ s' ∈ S, s'.1.toNat = v ∧ F s'.2.toNat = some t
      · obtain ⟨h1, s', h2, h3⟩ := h
        rw [if_pos ⟨h1, s', h2, h3⟩, if_pos ⟨h1, s', List.mem_cons_of_mem _ h2, h3⟩]
      · rw [if_neg h, if_neg]
        rintro ⟨h1, s', h2, h3, h4⟩
        rcases List.mem_cons.mp h2 with rfl | h2
        · exact c ⟨h3 ▸ h1, h4⟩
        · exact h ⟨h1, s', h2, h3, h4⟩
structure LInv (m : Nat) (S : List (Int × Int)) (t : Nat) (F : Nat → Option Int) : Prop where
  pit : F m = some 0
  val : ∀ v d, F v = some d → 0 ≤ d ∧ d ≤ t ∧ v ≤ m ∧ (v ≠ m → 1 ≤ d)
  pred : ∀ v d, v ≠ m → F v = some d → ∃ s ∈ S, s.1.toNat = v ∧ F s.2.toNat = some (d - 1)
  low : ∀ v d, v ≠ m → F v = some d → ∀ s ∈ S, s.1.toNat = v → ∀ e, F s.2.toNat = some e → d - 1 ≤ e
  non : ∀ v, F v = none → ∀ s ∈ S, s.1.toNat = v → ∀ e, F s.2.toNat = some e → e = t
theorem linv {m : Nat} {S : List (Int × Int)} (hS : ∀ s ∈ S, Good m s) : ∀ t, LInv m S t (leadF S (far0 m) t)
  | 0 => by
    have z : ∀ v d, far0 m v = some d → v = m ∧ d = 0 := fun v d h => by
      unfold far0 at h
      split at h
      · cases h; exact ⟨by assumption, rfl⟩
      · cases h
    refine ⟨by simp [leadF, far0], fun v d h => ?_, fun v d hv h => ?_, fun v d hv h => ?_, fun v h s hs e1 e h2 => ?_⟩
    · obtain ⟨rfl, rfl⟩ := z v d h; exact ⟨by omega, by omega, by omega, fun h => absurd rfl h⟩
    · exact absurd (z v d h).1 hv
    · exact absurd (z v d h).1 hv
    · obtain ⟨_, rfl⟩ := z _ _ h2; rfl
  | t + 1 => by
    have I := linv hS t
    generalize hF : leadF S (far0 m) t = F at I
    have nx : ∀ v, leadF S (far0 m) (t + 1) v = if F v = none ∧ ∃ s ∈ S, s.1.toNat = v ∧ F s.2.toNat = some (t : Int) then some ((t : Int) + 1) else F v := fun v => by
      show S.foldl (stepL t) (leadF S (far0 m) t) v = _
      rw [fold_lead, hF]
    generalize leadF S (far0 m) (t + 1) = F' at nx
    have old : ∀ v d, F v = some d → F' v = some d := fun v d h => by rw [nx, if_neg (by rw [h]; simp)]; exact h
    have new : ∀ v d, F' v = some d → F v = some d ∨ (F v = none ∧ d = t + 1 ∧ ∃ s ∈ S, s.1.toNat = v ∧ F s.2.toNat = some (t : Int)) := fun v d h => by
      rw [nx] at h
      split at h
      · rename_i c; cases h; exact .inr ⟨c.1, rfl, c.2⟩
      · exact .inl h
    refine ⟨old _ _ I.pit, fun v d h => ?_, fun v d hv h => ?_, fun v d hv h s hs e1 e h2 => ?_, fun v h s hs e1 e h2 => ?_⟩
    · rcases new v d h with h | ⟨h, rfl, s, hs, e1, _⟩
      · obtain ⟨a, b, c, d⟩ := I.val v d h; exact ⟨a, by omega, c, d⟩
      · have g := hS s hs
        exact ⟨by omega, by omega, by have := g.2.2.1; have := g.1; omega, fun _ => by omega⟩
    · rcases new v d h with h | ⟨h, rfl, s, hs, e1, e2⟩
      · obtain ⟨s, hs, e1, e2⟩ := I.pred v d hv h
        exact ⟨s, hs, e1, old _ _ e2⟩
      · exact ⟨s, hs, e1, by rw [old _ _ e2]; congr 1; omega⟩
    · rcases new v d h with h | ⟨hq, rfl, _⟩
      · rcases new _ e h2 with h2 | ⟨_, rfl, _⟩
        · exact I.low v d hv h s hs e1 e h2
        · have := (I.val v d h).2.1; omega
      · rcases new _ e h2 with h2 | ⟨_, rfl, _⟩
        · have := I.non v hq s hs e1 e h2; omega
        · omega
    · rw [nx] at h
      split at h
      · cases h
      · rename_i c
        rcases new _ e h2 with h2 | ⟨_, rfl, _⟩
        · exact absurd ⟨h, s, hs, e1, by rw [h2, I.non v h s hs e1 e h2]⟩ c
        · omega
theorem nodup_lt : ∀ (m : Nat) (l : List Nat), l.Nodup → (∀ x ∈ l, x < m) → l.length ≤ m
  | 0, l, _, h => by cases l with
    | nil => simp
    | cons x l => exact absurd (h x List.mem_cons_self) (by omega)
  | m + 1, l, nd, h => by
    by_cases hm : m ∈ l
    · have := nodup_lt m (l.erase m) (nd.erase m) fun x hx => by
        have h1 := h x (List.mem_of_mem_erase hx)
        have h2 : x ≠ m := fun z => by subst z; exact (List.Nodup.not_mem_erase nd) hx
        omega
      rw [List.length_erase_of_mem hm] at this
      omega
    · have := nodup_lt m l nd fun x hx => by
        have h1 := h x hx
        have h2 : x ≠ m := fun z => hm (z ▸ hx)
        omega
      omega
/-- what is told at the end -/
theorem lead_end {m : Nat} {S : List (Int × Int)} (m0 : 0 < m) (hS : ∀ s ∈ S, Good m s) {v : Nat} (hv : v < m) (hn : leadF S (far0 m) m v = none) : ∀ s ∈ S, s.1.toNat = v → leadF S (far0 m) m s.2.toNat = none := fun s hs e1 => by
  have I := linv hS m
  generalize leadF S (far0 m) m = F at I hn
  cases h : F s.2.toNat with
  | none => rfl
  | some e =>
    exfalso
    have he := I.non v hn s hs e1 e h
    -- a place for each number of roads
    have chain : ∀ k : Nat, k ≤ m → ∃ w, F w = some ((m : Int) - k) := fun k => by
      induction k with
      | zero => intro _; exact ⟨_, by rw [h, he]; simp⟩
      | succ k ih =>
        intro hk
        obtain ⟨w, hw⟩ := ih (by omega)
        have hwm : w ≠ m := fun z => by rw [z, I.pit] at hw; have := Option.some.inj hw; omega
        obtain ⟨s', _, _, h2⟩ := I.pred w _ hwm hw
        exact ⟨_, by rw [h2]; congr 1; omega⟩
    have pick : ∀ k : Nat, ∃ w, k < m → F w = some ((k : Int) + 1) := fun k => by
      by_cases hk : k < m
      · obtain ⟨w, hw⟩ := chain (m - (k + 1)) (by omega)
        exact ⟨w, fun _ => by rw [hw]; congr 1; omega⟩
      · exact ⟨0, fun z => absurd z hk⟩
    obtain ⟨f, this⟩ := Classical.axiomOfChoice pick
    have hl := nodup_lt m (v :: (List.range m).map f) ?_ ?_
    · simp at hl; omega
    · refine List.nodup_cons.mpr ⟨fun hm => ?_, ?_⟩
      · obtain ⟨k, hk, ek⟩ := List.mem_map.mp hm
        have := this k (List.mem_range.mp hk)
        rw [ek, hn] at this; cases this
      · rw [List.nodup_iff_pairwise_ne, List.pairwise_map]
        refine List.Pairwise.imp_of_mem ?_ List.nodup_range
        intro a b ha hb hab e
        have h1 := this a (List.mem_range.mp ha)
        have h2 := this b (List.mem_range.mp hb)
        rw [e, h2] at h1
        have := Option.some.inj h1
        omega
    · intro x hx
      rcases List.mem_cons.mp hx with rfl | hx
      · exact hv
      · obtain ⟨k, hk, rfl⟩ := List.mem_map.mp hx
        have h1 := this k (List.mem_range.mp hk)
        have h2 := I.val _ _ h1
        have h3 : f k ≠ m := fun z => by rw [z, I.pit] at h1; have := Option.some.inj h1; omega
        omega
end HS
namespace HS
open PySem L2
/-! ### fire -/
noncomputable def coldL (T : Nat → Nat → Int) (h : Nat → Int) (m : Nat) : Nat → List Nat
  | 0 => List.range m
  | k + 1 => nextL T h (coldL T h m k)
noncomputable def fireF (T : Nat → Nat → Int) (h : Nat → Int) (m : Nat) : Nat → Nat → Option Int
  | 0, _ => none
  | k + 1, p => if p ∈ readyL T h (coldL T h m k) then some ((k : Int) + 1) else fireF T h m k p
theorem cold_nodup {T : Nat → Nat → Int} {h : Nat → Int} {m : Nat} : ∀ k, (coldL T h m k).Nodup
  | 0 => List.nodup_range
  | k + 1 => (cold_nodup k).filter _
theorem mem_next {T : Nat → Nat → Int} {h : Nat → Int} {l : List Nat} {p : Nat} : p ∈ nextL T h l ↔ p ∈ l ∧ p ∉ readyL T h l := by
  unfold nextL
  rw [List.mem_filter]
  simp
theorem mem_ready {T : Nat → Nat → Int} {h : Nat → Int} {l : List Nat} {p : Nat} : p ∈ readyL T h l ↔ p ∈ l ∧ amongF T p l ≤ h p := by
  unfold readyL
  rw [List.mem_filter]
  simp
theorem cold_sub {T : Nat → Nat → Int} {h : Nat → Int} {m : Nat} {k j : Nat} (hkj : k ≤ j) {p : Nat} (hp : p ∈ coldL T h m j) : p ∈ coldL T h m k := by
  induction j with
  | zero => rw [show k = 0 by omega]; exact hp
  | succ j ih =>
    by_cases e : k = j + 1
    · rw [e]; exact hp
    · exact ih (by omega) (mem_next.mp hp).1
theorem cold_lt {T : Nat → Nat → Int} {h : Nat → Int} {m k p : Nat} (hp : p ∈ coldL T h m k) : p < m := List.mem_range.mp (cold_sub (Nat.zero_le k) hp)
theorem fire_none {T : Nat → Nat → Int} {h : Nat → Int} {m : Nat} : ∀ k p, p < m → (fireF T h m k p = none ↔ p ∈ coldL T h m k)
  | 0, p, hp => ⟨fun _ => List.mem_range.mpr hp, fun _ => rfl⟩
  | k + 1, p, hp => by
    show (if p ∈ readyL T h (coldL T h m k) then some ((k : Int) + 1) else fireF T h m k p) = none ↔ p ∈ nextL T h (coldL T h m k)
    rw [mem_next]
    by_cases hr : p ∈ readyL T h (coldL T h m k)
    · rw [if_pos hr]
      exact ⟨fun z => (by cases z), fun z => absurd hr z.2⟩
    · rw [if_neg hr, fire_none k p hp]
      exact ⟨fun z => ⟨z, hr⟩, fun z => z.1⟩
noncomputable def G_fire (d_need_plain : Den) (d_need_heaps : Den) (d_toll_table : Den) (d_roads_among : Den) : DS := (sSeq (sDrop (dCall 1 d_need_plain [] (dCons (dVar 0) dNil))) (sSeq (sDrop (dCall 2 d_need_heaps [] (dCons (dVar 0) (dCons (dLst (dCons (dVar 1) dNil)) dNil)))) (sSeq (sAsg 2 (dCall 1 d_toll_table [] (dCons (dVar 0) dNil))) (sSeq (sAsg 3 (dMul (dLst (dCons (dC .non) dNil)) (dIdx (dVar 0) (dC (.int 0))))) (sSeq (sAsg 4 (dLrng (dIdx (dVar 0) (dC (.int 0))))) (sSeq (sFor (iRange2 (dC (.int 1)) (dAdd (dIdx (dVar 0) (dC (.int 0))) (dC (.int 1)))) (.nm 5) (sSeq (sAsg 7 (dComp (iVal (dVar 4)) (.nm 1) [none, none, some 4, some 1, some 2] (dTru (dOp gGe (dIdx (dVar 3) (dVar 1)) (dCall 3 d_roads_among [] (dCons (dIdx (dVar 4) (dVar 1)) (dCons (dVar 1) (dCons (dVar 2) dNil)))))) (dVar 1))) (sSeq (sFor (iVal (dVar 7)) (.nm 6) (sSeq (sSet 3 pNil (dVar 6) (dVar 5)) sNil)) (sSeq (sAsg 4 (dComp (iVal (dVar 4)) (.nm 1) [none, none, some 7] (dTru (dOp (gIn true) (dVar 1) (dVar 2))) (dVar 1))) sNil)))) (sSeq (sRet (dVar 3)) sNil)))))))
theorem ev_range2 {fa fb : DE} {ρ : En} {ra rb : R} {i j : Int} {n : Nat} (ha : fa ρ = some ra) (ea : ra.d = .int i) (hb : fb ρ = some rb) (eb : rb.d = .int j) (hn : (n : Int) = j - i) (hl : n ≤ 16777216) (h1 : -(2 ^ 62) ≤ i) (h2 : i < 2 ^ 61) : iRange2 fa fb ρ = some ⟨(List.range n).map fun (k : Nat) => .int (i + k), []⟩ := by
  unfold iRange2
  rw [ha, Option.bind_some, hb, Option.bind_some, ea, eb]
  show (if j - i ≤ 16777216 ∧ _ then _ else _) = _
  rw [if_pos ⟨by omega, by omega, by omega, by omega, by omega⟩]
  rw [show (j - i).toNat = n by omega]
  rfl
noncomputable def FireOk (d : Den) : Prop := ∀ (m : Nat) (R : List (Int × Int)) (h : Nat → Int), 0 < m → m ≤ 1000 → R.length ≤ 1000 → (∀ s ∈ R, Good m s) → (∀ j, j < m → 0 ≤ h j) → d [netD m R [], rowD m h] = some (farD m (fireF (tollF m (stepsL R [])) h m m), true)
theorem ev_lrng {fa : DE} {ρ : En} {r : R} {n : Nat} (h : fa ρ = some r) (e : r.d = .int n) (hn : n ≤ 1000000) : dLrng fa ρ = some ⟨natsD (List.range n), true, []⟩ := by
  unfold dLrng
  rw [h, Option.bind_some, e]
  show (if 0 ≤ (n : Int) ∧ (n : Int) ≤ 1000000 then some (HS.R.mk (.lst ((List.range (n : Int).toNat).map fun (k : Nat) => .int (k : Int))) true []) else none) = _
  rw [if_pos ⟨by omega, by omega⟩, Int.toNat_natCast]
  rfl
theorem far_ext {m : Nat} {F G : Nat → Option Int} (h : ∀ i, i < m → F i = G i) : farD m F = farD m G := by
  unfold farD
  congr 1
  exact List.map_congr_left fun i hi => by rw [h i (List.mem_range.mp hi)]
theorem fire_ok {dp dh dt da : Den} (hp : NeedPOk dp) (hh : NeedHOk dh) (ht : TollOk dt) (ha : AmongOk da) : FireOk (denOf 8 (G_fire dp dh dt da)) := fun m R h m0 hm hRl hR hpos => by
  have htoll := ht m R [] hm (by simp; omega) hR (fun s hs => absurd hs (by simp))
  have hneed := hh m R [] [h] m0 (fun g hg' j hj => by rw [List.mem_singleton.mp hg']; exact hpos j hj)
  generalize tollF m (stepsL R []) = T at *
  refine den_of ?_
  refine run_seq (run_drop (ev_call (r := ⟨[netD m R []], false, []⟩) rfl (hp m R) rfl) ?_)
  refine run_seq (run_drop (ev_call (r := ⟨[netD m R [], .lst [rowD m h]], false, []⟩) rfl hneed rfl) ?_)
  refine run_seq (run_asg (ev_call (r := ⟨[netD m R []], false, []⟩) rfl htoll rfl) ?_)
  rw [asg_nil]
  refine run_seq (run_asg (ev_repN (n := m) (r := ⟨.int m, true, []⟩) rfl rfl (by omega)) ?_)
  rw [asg_nil]
  refine run_seq (run_asg (ev_lrng (n := m) (r := ⟨.int m, true, []⟩) rfl rfl (by omega)) ?_)
  rw [asg_nil]
  refine run_then (P := fun ρ => ∃ j4 j5 j6 j7, ρ = [some (netD m R [], false), some (rowD m h, false), some (tabD m m T, true), some (farD m (fireF T h m m), true), j4, j5, j6, j7]) ?_ ?_
  · refine run_for (toD := fun (k : Nat) => .int (1 + (k : Int))) (List.range m) (fun k ρ => ∃ j5 j6 j7, ρ = [some (netD m R [], false), some (rowD m h, false), some (tabD m m T, true), some (farD m (fireF T h m k), true), some (natsD (coldL T h m k), true), j5, j6, j7]) (ev_range2 (n := m) (i := 1) (j := (m : Int) + 1) rfl rfl (ev_add (a := m) (b := 1) rfl rfl rfl rfl) rfl (by omega) (by omega) (by decide) (by decide)) rfl ⟨none, none, none, rfl⟩ ?_ ?_
    · rintro k k' ρ hk ⟨j5, j6, j7, rfl⟩
      have hk' : k < m ∧ k = k' := by
        obtain ⟨h1, h2⟩ := List.getElem?_eq_some_iff.mp hk
        simp at h1 h2; exact ⟨h1, h2⟩
      obtain ⟨hkm, rfl⟩ := hk'
      refine ⟨_, rfl, ?_⟩
      generalize el : coldL T h m k = l
      have hl : ∀ p ∈ l, p < m := fun p hp => by rw [← el] at hp; exact cold_lt hp
      have enext : coldL T h m (k + 1) = nextL T h l := by rw [← el]; rfl
      have efire : ∀ p, fireF T h m (k + 1) p = if p ∈ readyL T h l then some ((k : Int) + 1) else fireF T h m k p := fun p => by rw [← el]; rfl
      rw [enext]
      refine run_seq (run_asg (r := ⟨natsD (readyL T h l), true, []⟩) ?_ ?_)
      · refine ev_comp (fi := iVal (dVar 4)) (t := .nm 1) (cap := [none, none, some 4, some 1, some 2]) (ft := dTru (dOp gGe (dIdx (dVar 3) (dVar 1)) (dCall 3 da [] (dCons (dIdx (dVar 4) (dVar 1)) (dCons (dVar 1) (dCons (dVar 2) dNil)))))) (fe := dVar 1) (ρ := [some (netD m R [], false), some (rowD m h, false), some (tabD m m T, true), some (farD m (fireF T h m k), true), some (natsD l, true), some (.int (1 + (k : Int)), true), j6, j7])
          (toD := fun (p : Nat) => .int (p : Int)) (keep := fun p => decide (amongF T p l ≤ h p)) (out := fun (p : Nat) => .int (p : Int)) l (ev_iVal (r := ⟨natsD l, true, [4]⟩) rfl rfl) rfl fun p hp => ⟨[none, some (.int p, true), some (natsD l, false), some (rowD m h, false), some (tabD m m T, false)], rfl, ?_, fun _ => ⟨_, rfl, rfl, rfl⟩⟩
        have hpm := hl p hp
        refine ev_tru (ev_op (d := .bl (decide (amongF T p l ≤ h p))) (ev_idxR' (m := m) (f := h) (i := p) (ra := ⟨rowD m h, false, []⟩) rfl rfl rfl rfl hpm) (ev_call (ev_cons (ev_idxT (m := m) (n := m) (f := T) (i := p) (ra := ⟨tabD m m T, false, []⟩) rfl rfl rfl rfl (by omega) (by omega)) (rs := ⟨[.int p, natsD l], false, []⟩) rfl) (ha m (T (p : Int).toNat) p l fun o ho => hl o ho) rfl) ?_) rfl
        show some (D.bl (decide (((l.filter fun o => decide (o ≠ p)).map (T (p : Int).toNat)).sum ≤ h p))) = _
        rw [Int.toNat_natCast]
        rfl
      rw [asg_nil]
      refine run_then (P := fun ρ => ∃ j6 b7, ρ = [some (netD m R [], false), some (rowD m h, false), some (tabD m m T, true), some (farD m (fireF T h m (k + 1)), true), some (natsD l, true), some (.int (1 + (k : Int)), true), j6, some (natsD (readyL T h l), b7)]) ?_ ?_
      · refine run_for (toD := fun (p : Nat) => .int (p : Int)) (readyL T h l) (fun i ρ => ∃ F j6, (∀ p, F p = if p ∈ (readyL T h l).take i then some ((k : Int) + 1) else fireF T h m k p) ∧ ρ = [some (netD m R [], false), some (rowD m h, false), some (tabD m m T, true), some (farD m F, true), some (natsD l, true), some (.int (1 + (k : Int)), true), j6, some (natsD (readyL T h l), false)]) (ev_iVal (r := ⟨natsD (readyL T h l), true, [7]⟩) rfl rfl) rfl ⟨fireF T h m k, j6, fun p => by simp, rfl⟩ ?_ ?_
        · rintro i p ρ hi ⟨F, j6, hF, rfl⟩
          have hpm := hl p (mem_ready.mp (List.mem_of_getElem? hi)).1
          refine ⟨_, rfl, run_seq (run_setF (m := m) (F := F) (i := p) (v := 1 + (k : Int)) rfl rfl rfl rfl rfl (by omega) (by omega) (run_nil ⟨_, _, fun q => ?_, rfl⟩))⟩
          have etake : (readyL T h l).take (i + 1) = (readyL T h l).take i ++ [p] := by
            rw [List.take_succ, hi]; rfl
          rw [etake]
          unfold upO
          rw [Int.toNat_natCast]
          by_cases hq : q = p
          · subst hq
            rw [if_pos rfl, if_pos (by simp)]
            congr 1; omega
          · rw [if_neg hq, hF q]
            by_cases h2 : q ∈ (readyL T h l).take i
            · rw [if_pos h2, if_pos (List.mem_append_left _ h2)]
            · rw [if_neg h2, if_neg (fun z => by
                rcases List.mem_append.mp z with z | z
                · exact h2 z
                · exact hq (List.mem_singleton.mp z))]
        · rintro ρ ⟨F, j6, hF, rfl⟩
          rw [List.take_length] at hF
          refine ⟨j6, false, ?_⟩
          rw [far_ext (F := F) (G := fireF T h m (k + 1)) fun p _ => by rw [hF p, efire p]]
      rintro ρ ⟨j6, b7, rfl⟩
      refine run_seq (run_asg (r := ⟨natsD (nextL T h l), true, []⟩) ?_ (run_nil ?_))
      · refine ev_comp (fi := iVal (dVar 4)) (t := .nm 1) (cap := [none, none, some 7]) (ft := dTru (dOp (gIn true) (dVar 1) (dVar 2))) (fe := dVar 1)
          (toD := fun (p : Nat) => .int (p : Int)) (keep := fun p => !(readyL T h l).contains p) (out := fun (p : Nat) => .int (p : Int)) l (ev_iVal (r := ⟨natsD l, true, [4]⟩) rfl rfl) rfl fun p hp => ⟨[none, some (.int p, true), some (natsD (readyL T h l), false)], by cases b7 <;> rfl, ev_tru (ev_inN (neg := true) (o := p) (l := readyL T h l) rfl rfl (rb := ⟨natsD (readyL T h l), false, []⟩) rfl rfl) rfl, fun _ => ⟨_, rfl, rfl, rfl⟩⟩
      rw [asg_nil]
      exact ⟨_, _, _, rfl⟩
    · rintro ρ ⟨j5, j6, j7, rfl⟩
      rw [List.length_range]
      exact ⟨_, _, _, _, rfl⟩
  rintro ρ ⟨j4, j5, j6, j7, rfl⟩
  exact run_retL (r := ⟨farD m (fireF T h m m), true, [3]⟩) rfl ⟨rfl, rfl⟩
end HS
namespace HS
open PySem L2
noncomputable def G__law_net_f (d__law_cell_at : Den) : DS := (sSeq (sAsg 1 (dAdd (dC (.int 1)) (dOp gMod (dCall 2 d__law_cell_at [] (dCons (dVar 0) (dCons (dC (.int 0)) dNil))) (dC (.int 8))))) (sSeq (sAsg 2 (dOp gMod (dCall 2 d__law_cell_at [] (dCons (dVar 0) (dCons (dC (.int 1)) dNil))) (dC (.int 1000003)))) (sSeq (sAsg 3 (dLst dNil)) (sSeq (sFor (iRange1 (dVar 1)) (.nm 4) (sSeq (sAsg 5 (dOp gMod (dMul (dMul (dAdd (dVar 2) (dC (.int 17))) (dAdd (dAdd (dMul (dVar 4) (dVar 4)) (dMul (dC (.int 7)) (dVar 4))) (dC (.int 11)))) (dC (.int 69621))) (dC (.int 2147483647)))) (sSeq (sAsg 6 (dShare (dVar 1))) (sSeq (sIf (dTru (dOp gLt (dOp gMod (dVar 5) (dAdd (dVar 4) (dC (.int 1)))) (dVar 4))) (sSeq (sAsg 6 (dOp gMod (dAdd (dOp gMod (dVar 5) (dAdd (dVar 4) (dC (.int 1)))) (dVar 2)) (dVar 1))) sNil) sNil) (sSeq (sApp 3 pNil (dTup (dCons (dOp gMod (dAdd (dVar 4) (dVar 2)) (dVar 1)) (dCons (dVar 6) dNil)))) sNil))))) (sSeq (sFor (iVal (dSlc (dVar 0) (oSome (dC (.int 2))) (oSome (dC (.int 26))))) (.nm 7) (sSeq (sAsg 5 (dOp gMod (dMul (dVar 7) (dC (.int 48271))) (dC (.int 2147483647)))) (sSeq (sAsg 8 (dOp gMod (dVar 5) (dAdd (dVar 1) (dC (.int 1))))) (sSeq (sApp 3 pNil (dTup (dCons (dVar 8) (dCons (dOp gMod (dAdd (dAdd (dVar 8) (dC (.int 1))) (dOp gMod (dOp gDiv (dVar 5) (dC (.int 9))) (dVar 1))) (dAdd (dVar 1) (dC (.int 1)))) dNil)))) sNil)))) (sSeq (sIf (dTru (dOp gEq (dOp gMod (dVar 2) (dC (.int 2))) (dC (.int 1)))) (sSeq (sAsg 3 (dRev (dVar 3) (dNeg (dC (.int 1))))) sNil) sNil) (sSeq (sRet (dTup (dCons (dVar 1) (dCons (dComp (iVal (dVar 3)) (.nm 1) [none, none] tYesD (dTup (dCons (dBf gMin1 (dCons (dVar 1) dNil)) (dCons (dBf gMax1 (dCons (dVar 1) dNil)) dNil)))) (dCons (dLst dNil) dNil))))) sNil)))))))
noncomputable def NetFOk (d : Den) : Prop := ∀ ns : List Int, ns.length ≤ 63 → ∃ (m : Nat) (R : List (Int × Int)), d [.lst (ns.map .int)] = some (netD m R [], true) ∧ 0 < m ∧ m ≤ 8 ∧ NetW m R []
noncomputable def prs (W : List (Int × Int × Bool)) : List (Int × Int) := W.map laneOf
theorem ev_min1T {fa : DE} {ρ : En} {r : R} {s : Int × Int} (h : fa ρ = some r) (e : r.d = pairD s) : dBf gMin1 (dCons fa dNil) ρ = some ⟨.int (if s.2 < s.1 then s.2 else s.1), true, []⟩ := by
  unfold dBf
  rw [ev_cons h (ev_nil _), Option.bind_some]
  simp only [e, pairD, gMin1]
  rfl
theorem ev_max1T {fa : DE} {ρ : En} {r : R} {s : Int × Int} (h : fa ρ = some r) (e : r.d = pairD s) : dBf gMax1 (dCons fa dNil) ρ = some ⟨.int (if s.1 < s.2 then s.2 else s.1), true, []⟩ := by
  unfold dBf
  rw [ev_cons h (ev_nil _), Option.bind_some]
  simp only [e, pairD, gMax1]
  rfl
theorem rev_pairs {x : Nat} {A : List (Int × Int)} {ρ : En} {b : Bool} (h : ρ[x]? = some (some (pairsD A, b))) : dRev (dVar x) (dNeg (dC (.int 1))) ρ = some ⟨pairsD A.reverse, true, []⟩ := by
  unfold dRev
  rw [ev_var h, Option.bind_some]
  have e : (if (pairsD A).flat = true then HS.R.mk (pairsD A) true [] else if b = true then HS.R.mk (pairsD A) true [x] else HS.R.mk (pairsD A) false []).d = pairsD A := by cases b <;> rfl
  rw [e]
  show some (newL (A.map pairD).reverse _) = _
  rw [← List.map_reverse]
  unfold newL
  rw [if_pos (flats_map (fun _ => rfl) _)]; rfl
theorem netf_ok {dc : Den} (hc : CellOk dc) : NetFOk (denOf 9 (G__law_net_f dc)) := fun ns hl => by
  have b1 := Int.emod_nonneg (ns.getD 0 0) (by decide : (8 : Int) ≠ 0)
  have b2 := Int.emod_lt_of_pos (ns.getD 0 0) (by decide : (0 : Int) < 8)
  obtain ⟨m, em⟩ : ∃ m : Nat, (m : Int) = 1 + ns.getD 0 0 % 8 := ⟨(1 + ns.getD 0 0 % 8).toNat, by omega⟩
  have m0 : 0 < m := by omega
  have m8 : m ≤ 8 := by omega
  have t1 := Int.emod_nonneg (ns.getD 1 0) (by decide : (1000003 : Int) ≠ 0)
  have t2 := Int.emod_lt_of_pos (ns.getD 1 0) (by decide : (0 : Int) < 1000003)
  generalize et : ns.getD 1 0 % 1000003 = t at t1 t2
  have key : Run (G__law_net_f dc) (startEn 9 [.lst (ns.map .int)]) (Rt fun d fr => ∃ R, d = netD m R [] ∧ fr = true ∧ NetW m R []) := by
    have cell : ∀ (ρ : En) (k : Nat), ρ[0]? = some (some (.lst (ns.map .int), false)) → dCall 2 dc [] (dCons (dVar 0) (dCons (dC (.int k)) dNil)) ρ = some ⟨.int (ns.getD k 0), true, []⟩ := fun ρ k h0 => by
      refine ev_call (ev_cons (ev_var h0) (ev_cons (ev_c _ _) (ev_nil _))) ?_ rfl
      exact hc ns k
    refine run_seq (run_asg (ev_add (a := 1) rfl rfl (ev_mod (b := 8) (cell _ 0 rfl) rfl rfl rfl (by decide)) rfl) ?_)
    rw [asg_nil, ← em]
    refine run_seq (run_asg (ev_mod (b := 1000003) (cell _ 1 rfl) rfl rfl rfl (by decide)) ?_)
    rw [asg_nil, et]
    refine run_seq (run_asg (r := ⟨pairsD [], true, []⟩) rfl ?_)
    rw [asg_nil]
    refine run_then (P := fun ρ => ∃ j4 j5 j6, ρ = [some (.lst (ns.map .int), false), some (.int m, true), some (.int t, true), some (pairsD (prs (baseW m t 0)), true), j4, j5, j6, none, none]) ?_ ?_
    · refine run_for (toD := fun (k : Nat) => .int (k : Int)) (List.range m) (fun i ρ => ∃ j4 j5 j6, ρ = [some (.lst (ns.map .int), false), some (.int m, true), some (.int t, true), some (pairsD (prs ((List.range i).map fun (k : Nat) => bWay m t 0 k)), true), j4, j5, j6, none, none]) (ev_range (n := m) (r := ⟨.int m, true, []⟩) rfl rfl (by omega)) rfl ⟨none, none, none, rfl⟩ ?_ ?_
      · rintro i k ρ hi ⟨j4, j5, j6, rfl⟩
        have hk : i < m ∧ i = k := by
          obtain ⟨h1, h2⟩ := List.getElem?_eq_some_iff.mp hi
          simp at h1 h2; exact ⟨h1, h2⟩
        obtain ⟨hk, rfl⟩ := hk
        refine ⟨_, rfl, ?_⟩
        have n1 : (t + 17).natAbs < 2 ^ 64 := by omega
        have n2 : (69621 : Int).natAbs < 2 ^ 64 := by decide
        refine run_seq (run_asg (r := ⟨.int (bNum t i), true, []⟩) ?_ ?_)
        · exact ev_mod (ev_mul (ev_mul (ev_add (a := t) (b := 17) rfl rfl rfl rfl) rfl (ev_add (ev_add (ev_mul (a := (i : Int)) (b := i) rfl rfl rfl rfl (mulOk_l (by omega))) rfl (ev_mul (a := 7) (b := (i : Int)) rfl rfl rfl rfl (mulOk_l (by decide))) rfl) rfl (ev_c (.int 11) _) rfl) rfl (mulOk_l n1)) rfl (ev_c (.int 69621) _) rfl (mulOk_r n2)) rfl (ev_c (.int 2147483647) _) rfl (by decide)
        · rw [asg_nil]
          refine run_seq (run_asg (r := ⟨.int m, false, []⟩) rfl ?_)
          rw [asg_flat rfl]
          refine run_then (P := fun ρ => ρ = [some (.lst (ns.map .int), false), some (.int m, true), some (.int t, true), some (pairsD (prs ((List.range i).map fun (k : Nat) => bWay m t 0 k)), true), some (.int i, true), some (.int (bNum t i), true), some (.int (bEnd m t i), true), none, none]) ?_ ?_
          · have e1 : ∀ (ρ : En), ρ = [some (.lst (ns.map .int), false), some (.int m, true), some (.int t, true), some (pairsD (prs ((List.range i).map fun (k : Nat) => bWay m t 0 k)), true), some (.int i, true), some (.int (bNum t i), true), some (.int m, true), none, none] → dOp gMod (dVar 5) (dAdd (dVar 4) (dC (.int 1))) ρ = some ⟨.int (bNum t i % (i + 1)), true, []⟩ := by
              rintro ρ rfl
              exact ev_mod (a := bNum t i) (b := (i : Int) + 1) rfl rfl (ev_add (a := (i : Int)) (b := 1) rfl rfl rfl rfl) rfl (by omega)
            refine run_if (b := decide (bNum t i % (i + 1) < i)) (ev_tru (ev_op (e1 _ rfl) rfl rfl) rfl) (fun h => ?_) (fun h => ?_)
            · have h := of_decide_eq_true h
              refine run_seq (run_asg (ev_mod (a := bNum t i % (i + 1) + t) (b := m) (ev_add (a := bNum t i % (i + 1)) (b := t) (e1 _ rfl) rfl rfl rfl) rfl rfl rfl (by omega)) (run_nil ?_))
              rw [asg_nil]
              unfold bEnd
              rw [if_pos h]; rfl
            · have h := of_decide_eq_false h
              refine run_nil ?_
              unfold bEnd
              rw [if_neg h]; rfl
          rintro ρ rfl
          refine run_seq (run_appP (A := prs ((List.range i).map fun (k : Nat) => bWay m t 0 k)) (p := laneOf (bWay m t 0 i)) (r := ⟨pairD (laneOf (bWay m t 0 i)), true, []⟩) rfl ?_ rfl (by simp [prs]; omega) (run_nil ⟨some (.int i, true), some (.int (bNum t i), true), some (.int (bEnd m t i), true), ?_⟩))
          · have e2 : dOp gMod (dAdd (dVar 4) (dVar 2)) (dVar 1) [some (.lst (ns.map .int), false), some (.int m, true), some (.int t, true), some (pairsD (prs ((List.range i).map fun (k : Nat) => bWay m t 0 k)), true), some (.int i, true), some (.int (bNum t i), true), some (.int (bEnd m t i), true), none, none] = some ⟨.int ((i + t) % m), true, []⟩ :=
              ev_mod (a := (i : Int) + t) (b := m) (ev_add (a := (i : Int)) (b := t) rfl rfl rfl rfl) rfl rfl rfl (by omega)
            unfold dTup
            refine (congrArg (fun z => Option.bind z _) (ev_cons e2 (ev_cons (r := ⟨.int (bEnd m t i), true, []⟩) rfl (ev_nil _)))).trans ?_
            rfl
          · show _ = [some (.lst (ns.map .int), false), some (.int m, true), some (.int t, true), some (pairsD (prs ((List.range (i + 1)).map fun (k : Nat) => bWay m t 0 k)), true), some (.int i, true), some (.int (bNum t i), true), some (.int (bEnd m t i), true), none, none]
            unfold prs
            rw [List.range_succ, List.map_append, List.map_append]
            rfl
      · rintro ρ ⟨j4, j5, j6, rfl⟩
        rw [List.length_range]
        exact ⟨_, _, _, rfl⟩
    rintro ρ ⟨j4, j5, j6, rfl⟩
    obtain ⟨cs, hcs, esl⟩ := slc_ints (a := 2) (b := 26) (fa := dVar 0) (ns := ns) (ρ := [some (.lst (ns.map .int), false), some (.int m, true), some (.int t, true), some (pairsD (prs (baseW m t 0)), true), j4, j5, j6, none, none]) rfl rfl
    refine run_then (P := fun ρ => ∃ j5 j6 j7 j8 j4, ρ = [some (.lst (ns.map .int), false), some (.int m, true), some (.int t, true), some (pairsD (prs (baseW m t 0 ++ cs.map (mWay m 0))), true), j4, j5, j6, j7, j8]) ?_ ?_
    · refine run_for (toD := D.int) cs (fun i ρ => ∃ j5 j7 j8, ρ = [some (.lst (ns.map .int), false), some (.int m, true), some (.int t, true), some (pairsD (prs (baseW m t 0 ++ (cs.take i).map (mWay m 0))), true), j4, j5, j6, j7, j8]) (ev_iVal esl rfl) rfl ⟨j5, none, none, ?_⟩ ?_ ?_
      · rw [List.take_zero, List.map_nil, List.append_nil]; rfl
      · rintro i c ρ hi ⟨j5, j7, j8, rfl⟩
        have hil : i < cs.length := (List.getElem?_eq_some_iff.mp hi).1
        refine ⟨_, rfl, ?_⟩
        refine run_seq (run_asg (ev_mod (b := 2147483647) (ev_mul (a := c) (b := 48271) rfl rfl rfl rfl (mulOk_r (by decide))) rfl rfl rfl (by decide)) ?_)
        rw [asg_nil]
        refine run_seq (run_asg (ev_mod (a := mNum c) (b := (m : Int) + 1) rfl rfl (ev_add (a := (m : Int)) (b := 1) rfl rfl rfl rfl) rfl (by omega)) ?_)
        rw [asg_nil]
        refine run_seq (run_appP (A := prs (baseW m t 0 ++ (cs.take i).map (mWay m 0))) (p := laneOf (mWay m 0 c)) (r := ⟨pairD (laneOf (mWay m 0 c)), true, []⟩) rfl ?_ rfl (by simp [prs, base_len]; omega) (run_nil ⟨some (.int (mNum c), true), some (.int c, true), some (.int (mStart m c), true), ?_⟩))
        · unfold dTup
          refine (congrArg (fun z => Option.bind z _) (ev_cons (r := ⟨.int (mStart m c), true, []⟩) rfl (ev_cons (ev_mod (a := mStart m c + 1 + mNum c / 9 % m) (b := (m : Int) + 1) (ev_add (ev_add (a := mStart m c) (b := 1) rfl rfl rfl rfl) rfl (ev_mod (a := mNum c / 9) (b := m) (ev_div (a := mNum c) (b := 9) rfl rfl rfl rfl (by decide) (by decide)) rfl rfl rfl (by omega)) rfl) rfl (ev_add (a := (m : Int)) (b := 1) rfl rfl rfl rfl) rfl (by omega)) (ev_nil _)))).trans ?_
          rfl
        · have et : cs.take (i + 1) = cs.take i ++ [c] := by rw [List.take_succ, hi]; rfl
          rw [et]
          have ep : prs (baseW m t 0 ++ (cs.take i ++ [c]).map (mWay m 0)) = prs (baseW m t 0 ++ (cs.take i).map (mWay m 0)) ++ [laneOf (mWay m 0 c)] := by
            unfold prs
            simp only [List.map_append, List.append_assoc, List.map_cons, List.map_nil]
          rw [ep]
          rfl
      · rintro ρ ⟨j5, j7, j8, rfl⟩
        rw [List.take_length]
        exact ⟨_, _, _, _, _, rfl⟩
    rintro ρ ⟨j5, j6, j7, j8, j4, rfl⟩
    have hbase : ∀ w ∈ baseW m t 0 ++ cs.map (mWay m 0), GoodW m w := fun w hw => by
      rcases List.mem_append.mp hw with h | h
      · exact goodBase w h
      · obtain ⟨c, _, rfl⟩ := List.mem_map.mp h
        exact good_mWay m0 0 c
    have hlen : (baseW m t 0 ++ cs.map (mWay m 0)).length ≤ 200 := by rw [List.length_append, base_len, List.length_map]; omega
    refine run_then (P := fun ρ => ∃ W b, (∀ w ∈ baseW m t 0, w ∈ W) ∧ (∀ w ∈ W, GoodW m w) ∧ W.length ≤ 200 ∧ ρ = [some (.lst (ns.map .int), false), some (.int m, true), some (.int t, true), some (pairsD (prs W), b), j4, j5, j6, j7, j8]) ?_ ?_
    · refine run_if (ev_tru (ev_eqI (b := 1) (ev_mod (a := t) (b := 2) rfl rfl rfl rfl (by decide)) rfl rfl rfl) rfl) (fun _ => ?_) (fun _ => ?_)
      · refine run_seq (run_asg (rev_pairs (x := 3) (A := prs (baseW m t 0 ++ cs.map (mWay m 0))) rfl) (run_nil ?_))
        rw [asg_nil]
        refine ⟨(baseW m t 0 ++ cs.map (mWay m 0)).reverse, true, fun w hw => List.mem_reverse.mpr (List.mem_append_left _ hw), fun w hw => hbase w (List.mem_reverse.mp hw), by rw [List.length_reverse]; exact hlen, ?_⟩
        unfold prs
        rw [List.map_reverse]; rfl
      · exact run_nil ⟨_, true, fun w hw => List.mem_append_left _ hw, hbase, hlen, rfl⟩
    rintro ρ ⟨W, b, w1, w2, w3, rfl⟩
    have er := ev_compA (fi := iVal (dVar 3)) (t := .nm 1) (cap := [none, none]) (fe := dTup (dCons (dBf gMin1 (dCons (dVar 1) dNil)) (dCons (dBf gMax1 (dCons (dVar 1) dNil)) dNil))) (ρ := [some (.lst (ns.map .int), false), some (.int m, true), some (.int t, true), some (pairsD (prs W), b), j4, j5, j6, j7, j8])
      (toD := fun w => pairD (laneOf w)) (out := fun w => pairD (roadOf w)) W (ev_iVal (ev_var rfl) (by cases b <;> rfl)) (by show List.map pairD (W.map laneOf) = _; rw [List.map_map]; rfl) fun w _ => ⟨[none, some (pairD (laneOf w), true)], rfl, ⟨pairD (roadOf w), true, []⟩, by
        unfold dTup
        refine (congrArg (fun z => Option.bind z _) (ev_cons (ev_min1T (s := laneOf w) (r := ⟨pairD (laneOf w), true, []⟩) rfl rfl) (ev_cons (ev_max1T (s := laneOf w) (r := ⟨pairD (laneOf w), true, []⟩) rfl rfl) (ev_nil _)))).trans ?_
        rfl, rfl, rfl⟩
    refine run_retL (r := ⟨netD m (W.map roadOf) [], true, []⟩) ?_ ⟨W.map roadOf, rfl, rfl, plain_net (esc_base.mono w1) w2 w3⟩
    unfold dTup
    refine (congrArg (fun z => Option.bind z _) (ev_cons (r := ⟨.int m, true, []⟩) rfl (ev_cons er (ev_cons (r := ⟨.lst [], true, []⟩) rfl (ev_nil _))))).trans ?_
    show some _ = some _
    congr 2
    unfold netD pairsD
    rw [List.map_map]
    rfl
  obtain ⟨o, h1, h2⟩ := key
  cases o with
  | rt d fr =>
    obtain ⟨R, rfl, rfl, h3⟩ := h2
    exact ⟨m, R, by unfold denOf; rw [h1]; rfl, m0, m8, h3⟩
  | _ => exact h2.elim
end HS
namespace HS
open PySem L2
end HS
namespace HS
open PySem L2
/-! ### what fire tells, from the other side -/
theorem hit_filter {m : Nat} {s : Int × Int} (g : Good m s) {p : Nat} {l : List Nat} : roadHit p (l.filter fun o => decide (o ≠ p)) s = roadHit p l s := by
  obtain ⟨g1, g2, g3, g4, g5⟩ := g
  unfold roadHit
  have e1 : (s.1 = p ∧ s.2.toNat ∈ l.filter fun o => decide (o ≠ p)) ↔ (s.1 = p ∧ s.2.toNat ∈ l) := by
    rw [List.mem_filter]
    constructor
    · rintro ⟨a, b, _⟩; exact ⟨a, b⟩
    · rintro ⟨a, b⟩; exact ⟨a, b, decide_eq_true (by omega)⟩
  have e2 : (s.2 = p ∧ s.1.toNat ∈ l.filter fun o => decide (o ≠ p)) ↔ (s.2 = p ∧ s.1.toNat ∈ l) := by
    rw [List.mem_filter]
    constructor
    · rintro ⟨a, b, _⟩; exact ⟨a, b⟩
    · rintro ⟨a, b⟩; exact ⟨a, b, decide_eq_true (by omega)⟩
  simp only [e1, e2]
theorem among_roads {m : Nat} {R : List (Int × Int)} (hR : ∀ s ∈ R, Good m s) {p : Nat} (hp : p < m) {l : List Nat} (nd : l.Nodup) (hl : ∀ o ∈ l, o < m) : amongF (tollF m (stepsL R [])) p l = (R.map (roadHit p l)).sum := by
  unfold amongF
  rw [roads_sum hR hp (nd.filter _) (fun o ho => hl o (List.mem_filter.mp ho).1) (fun z => by have := (List.mem_filter.mp z).2; simp at this)]
  rw [List.map_congr_left fun s hs => hit_filter (hR s hs)]
/-! ### all, and None in -/
theorem dBls_of : ∀ bs : List Bool, dBls (bs.map D.bl) = some bs
  | [] => rfl
  | b :: bs => by
    show Option.bind (some b) (fun i => (dBls (bs.map D.bl)).map fun r => i :: r) = _
    rw [dBls_of bs]; rfl
theorem ev_allR {fa : DE} {ρ : En} {r : R} {m : Nat} {g : Nat → Bool} (h : fa ρ = some r) (e : r.d = .lst ((List.range m).map fun i => .bl (g i))) : dBf gAll1 (dCons fa dNil) ρ = some ⟨.bl ((List.range m).all g), true, []⟩ := by
  unfold dBf
  rw [ev_cons h (ev_nil _), Option.bind_some]
  have : ((List.range m).map fun i => D.bl (g i)) = (((List.range m).map g).map D.bl) := by rw [List.map_map]; rfl
  simp only [e, gAll1, this, dBls_of, Option.map_some]
  rw [List.all_map]; rfl
theorem sim_far (n m : Nat) (F : Nat → Option Int) : (farD m F).sim (n + 1) = true := by
  unfold farD
  simp only [D.sim, List.all_map, List.all_eq_true]
  intro p _
  show (optD (F p)).sim n = true
  cases F p <;> cases n <;> rfl
theorem any_far {m : Nat} {F : Nat → Option Int} : ((List.range m).map fun i => optD (F i)).any (fun y => deq y .non) = (List.range m).any fun i => (F i).isNone := by
  rw [List.any_map]
  congr 1
  funext i
  show deq (optD (F i)) .non = (F i).isNone
  cases F i <;> rfl
theorem ev_noneIn {neg : Bool} {fb : DE} {ρ : En} {rb : R} {m : Nat} {F : Nat → Option Int} (hb : fb ρ = some rb) (eb : rb.d = farD m F) : dOp (gIn neg) (dC .non) fb ρ = some ⟨.bl (if neg then !((List.range m).any fun i => (F i).isNone) else (List.range m).any fun i => (F i).isNone), true, []⟩ := by
  refine ev_op (ra := ⟨.non, true, []⟩) rfl hb ?_
  rw [eb]
  show (if D.non.sim 8 && (farD m F).sim 8 then some (D.bl (if neg then !(((List.range m).map fun i => optD (F i)).any fun y => deq y .non) else ((List.range m).map fun i => optD (F i)).any fun y => deq y .non)) else none) = _
  rw [sim_far 7 m F, any_far]
  rfl
noncomputable def G_comes_again (d_fire : Den) (d_span_list : Den) : DS := (sSeq (sAsg 2 (dCall 2 d_fire [] (dCons (dVar 0) (dCons (dVar 1) dNil)))) (sSeq (sAsg 3 (dBf gAll1 (dCons (dComp (iZipD (dVar 1) (dCall 1 d_span_list [] (dCons (dVar 0) dNil))) (.tp [1, 2]) [none, none, none] tYesD (dOp gLt (dVar 1) (dVar 2))) dNil))) (sSeq (sRet (dAnd (dVar 3) (dOp (gIn true) (dC .non) (dVar 2)))) sNil)))
/-- still, and all burn -/
noncomputable def comesB (R : List (Int × Int)) (m : Nat) (h : Nat → Int) (F : Nat → Option Int) : Bool := (List.range m).all (fun j => decide (h j < spanF R [] j)) && !((List.range m).any fun i => (F i).isNone)
noncomputable def ComesOk (d : Den) : Prop := ∀ (m : Nat) (R : List (Int × Int)) (h : Nat → Int), 0 < m → m ≤ 1000 → R.length ≤ 1000 → (∀ s ∈ R, Good m s) → (∀ j, j < m → 0 ≤ h j) → d [netD m R [], rowD m h] = some (.bl (comesB R m h (fireF (tollF m (stepsL R [])) h m m)), true)
theorem comes_ok {df ds : Den} (hf : FireOk df) (hs : SpanOk ds) : ComesOk (denOf 4 (G_comes_again df ds)) := fun m R h m0 hm hRl hR hpos => by
  have ef := hf m R h m0 hm hRl hR hpos
  have es := hs m R [] hm (by simp; omega) hR (fun s hs => absurd hs (by simp))
  generalize fireF (tollF m (stepsL R [])) h m m = F at *
  refine den_of ?_
  refine run_seq (run_asg (ev_call (r := ⟨[netD m R [], rowD m h], false, []⟩) rfl ef rfl) ?_)
  rw [asg_nil]
  have ec := ev_compA (fi := iZipD (dVar 1) (dCall 1 ds [] (dCons (dVar 0) dNil))) (t := .tp [1, 2]) (cap := [none, none, none]) (fe := dOp gLt (dVar 1) (dVar 2)) (ρ := [some (netD m R [], false), some (rowD m h, false), some (farD m F, true), none])
    (toD := fun (i : Nat) => .tup [.int (h i), .int (spanF R [] i)]) (out := fun (i : Nat) => .bl (decide (h i < spanF R [] i))) (List.range m) (ev_zipR (ra := ⟨rowD m h, false, []⟩) rfl rfl (ev_call (r := ⟨[netD m R []], false, []⟩) rfl es rfl) rfl) rfl fun i _ => ⟨[none, some (.int (h i), true), some (.int (spanF R [] i), true)], rfl, ⟨.bl (decide (h i < spanF R [] i)), true, []⟩, rfl, rfl, rfl⟩
  refine run_seq (run_asg (ev_allR (m := m) (g := fun i => decide (h i < spanF R [] i)) ec rfl) ?_)
  rw [asg_nil]
  exact run_retL (ev_and (a := (List.range m).all fun j => decide (h j < spanF R [] j)) (b := !((List.range m).any fun i => (F i).isNone)) rfl (ev_noneIn (neg := true) (m := m) (F := F) (rb := ⟨farD m F, true, [2]⟩) rfl rfl)) ⟨rfl, rfl⟩
end HS
namespace HS
open PySem L2
noncomputable def lateB (F : Nat → Option Int) (t : Int) (o : Nat) : Bool := match F o with
  | none => true
  | some u => decide (t ≤ u)
noncomputable def lateL (m : Nat) (F : Nat → Option Int) (t : Int) : List Nat := (List.range m).filter (lateB F t)
noncomputable def latV (R : List (Int × Int)) (m : Nat) (F : Nat → Option Int) (p : Nat) (t : Int) : Int := (R.map (roadHit p (lateL m F t))).sum
end HS
namespace HS
open PySem L2
structure GoodF (R : List (Int × Int)) (m : Nat) (h : Nat → Int) (F : Nat → Option Int) : Prop where
  rg : ∀ p t, p < m → F p = some t → 1 ≤ t ∧ t ≤ m
  no : ∀ p, p < m → F p = none → h p < latV R m F p ((m : Int) + 1)
  en : ∀ p t, p < m → F p = some t → latV R m F p t ≤ h p
  la : ∀ p t, p < m → F p = some t → 1 < t → h p < latV R m F p (t - 1)
theorem comes_true {R : List (Int × Int)} {m : Nat} {h : Nat → Int} {F : Nat → Option Int} (h1 : ∀ i, i < m → F i ≠ none ∧ h i < spanF R [] i) : comesB R m h F = true := by
  unfold comesB
  rw [Bool.and_eq_true, List.all_eq_true, Bool.not_eq_true', List.any_eq_false]
  refine ⟨fun i hi => decide_eq_true (h1 i (List.mem_range.mp hi)).2, fun i hi => ?_⟩
  have := (h1 i (List.mem_range.mp hi)).1
  cases e : F i with
  | none => exact absurd e this
  | some t => simp
theorem ev_handedP {fa : DE} {ρ : En} {r : R} {m : Int} {R : List (Int × Int)} (h : fa ρ = some r) (e : r.d = netD m R []) : dTup (dCons (dIdx fa (dC (.int 0))) (dCons (dList (dCons (dIdx fa (dC (.int 1))) dNil)) (dCons (dLst dNil) dNil))) ρ = some ⟨netD m R [], true, []⟩ := by
  obtain ⟨h1, h2, _⟩ := ev_item (m := m) (R := R) (L := []) h e
  unfold dTup
  refine (congrArg (fun z => Option.bind z _) (ev_cons h1 (ev_cons (ev_listP (ev_cons h2 (ev_nil _)) rfl rfl) (ev_cons (r := ⟨.lst [], true, []⟩) rfl (ev_nil _))))).trans ?_
  rfl
end HS
namespace HS
open PySem L2
/-! ### an order of the places -/
theorem ev_idxN {fa fb : DE} {ρ : En} {ra rb : R} {l : List Nat} {i : Int} {v : Nat} (ha : fa ρ = some ra) (ea : ra.d = natsD l) (hb : fb ρ = some rb) (eb : rb.d = .int i) (h0 : 0 ≤ i) (h : l[i.toNat]? = some v) : dIdx fa fb ρ = some ⟨.int v, true, []⟩ := by
  refine ev_idxI (ns := l.map fun (p : Nat) => (p : Int)) ha (by rw [ea, nats_ints]) hb eb h0 ?_
  rw [List.getElem?_map, h]; rfl
theorem ev_lenN {fa : DE} {ρ : En} {r : R} {l : List Nat} (h : fa ρ = some r) (e : r.d = natsD l) : dBf gLen (dCons fa dNil) ρ = some ⟨.int l.length, true, []⟩ := by
  rw [ev_len h e, List.length_map]
theorem run_appN {x : Nat} {fa : DE} {ρ : En} {r : R} {l : List Nat} {v : Nat} {Q : Out → Prop} (hx : ρ[x]? = some (some (natsD l, true))) (ha : fa ρ = some r) (e : r.d = .int v) (hl : l.length < 16777216) (q : Q (.nx (ρ.set x (some (natsD (l ++ [v]), true))))) : Run (sApp x pNil fa) ρ Q := by
  refine run_app (xs := l.map fun (p : Nat) => D.int (p : Int)) hx ha (by rw [e]; rfl) (by simpa using hl) ?_
  have : D.lst ((l.map fun (p : Nat) => D.int (p : Int)) ++ [r.d]) = natsD (l ++ [v]) := by unfold natsD; rw [e, List.map_append]; rfl
  rw [this]; exact q
theorem esc_plain {m : Nat} {R : List (Int × Int)} (hw : NetW m R []) : EscS m (stepsL R []) := by
  obtain ⟨W, h1, h2, h3, h4, h5⟩ := hw.ex
  have := esc_steps h1
  rw [← h4, ← h5] at this
  exact this
/-- a way out of a set of places: a road -/
theorem way_out {m : Nat} {R : List (Int × Int)} (hw : NetW m R []) (A : Nat → Prop) (hA : ∃ p, p < m ∧ A p) : ∃ p, p < m ∧ A p ∧ ∃ s ∈ R, (s.1 = p ∧ (s.2 = m ∨ ¬ A s.2.toNat)) ∨ (s.2 = p ∧ (s.1 = m ∨ ¬ A s.1.toNat)) := by
  obtain ⟨s, h1, h2, h3, h4⟩ := esc_plain hw A hA
  unfold stepsL at h1
  rw [List.append_nil] at h1
  have hg := hw.good.1
  rcases List.mem_append.mp h1 with h | h
  · obtain ⟨g1, _⟩ := hg s h
    exact ⟨s.1.toNat, by omega, h3, s, h, .inl ⟨by omega, h4⟩⟩
  · obtain ⟨r, hr, rfl⟩ := List.mem_map.mp h
    obtain ⟨g1, g2, _⟩ := hg r hr
    simp only [Prod.fst_swap, Prod.snd_swap] at h2 h3 h4
    exact ⟨r.2.toNat, by omega, h3, r, hr, .inr ⟨by omega, h4⟩⟩
end HS
namespace HS
open PySem L2
end HS
namespace HS
open PySem L2
/-! ### trees of a net: depths, choices, heaps -/
noncomputable def rd (R : List (Int × Int)) (k : Nat) : Int × Int := R.getD k (0, 0)
theorem rd_get {R : List (Int × Int)} {k : Nat} (h : k < R.length) : R[k]? = some (rd R k) := by
  unfold rd
  rw [List.getD_eq_getElem?_getD, List.getElem?_eq_getElem h]; rfl
theorem rd_mem {R : List (Int × Int)} {k : Nat} (h : k < R.length) : rd R k ∈ R := List.mem_of_getElem? (rd_get h)
theorem map_rd {β : Type} (R : List (Int × Int)) (f : Int × Int → β) : R.map f = (List.range R.length).map fun k => f (rd R k) := by
  refine List.ext_getElem? fun k => ?_
  rw [List.getElem?_map, List.getElem?_map]
  by_cases h : k < R.length
  · rw [rd_get h, List.getElem?_range h]; rfl
  · rw [List.getElem?_eq_none (by omega), List.getElem?_eq_none (by simp; omega)]; rfl
theorem pairs_rd (R : List (Int × Int)) : pairsD R = .lst ((List.range R.length).map fun k => pairD (rd R k)) := by
  unfold pairsD; rw [map_rd R pairD]
noncomputable def incB (p : Nat) (s : Int × Int) : Bool := decide (s.1 = (p : Int)) || decide (s.2 = (p : Int))
/-- the other end -/
noncomputable def oe (p : Nat) (s : Int × Int) : Nat := (s.1 + s.2 - p).toNat
theorem oe_spec {m : Nat} {s : Int × Int} (g : Good m s) {p : Nat} (hi : incB p s = true) : ((s.1 + s.2 - p : Int) = oe p s) ∧ oe p s ≤ m ∧ oe p s ≠ p ∧ ((s.1 = p ∧ s.2 = oe p s) ∨ (s.2 = p ∧ s.1 = oe p s)) := by
  obtain ⟨g1, g2, g3, g4, g5⟩ := g
  unfold incB at hi
  unfold oe
  simp only [Bool.or_eq_true, decide_eq_true_eq] at hi
  rcases hi with h | h
  · refine ⟨by omega, by omega, by omega, .inl ⟨h, by omega⟩⟩
  · refine ⟨by omega, by omega, by omega, .inr ⟨h, by omega⟩⟩
noncomputable def incL (R : List (Int × Int)) (p : Nat) : List Nat := (List.range R.length).filter fun k => incB p (rd R k)
theorem mem_inc {R : List (Int × Int)} {p k : Nat} : k ∈ incL R p ↔ k < R.length ∧ incB p (rd R k) = true := by
  unfold incL; rw [List.mem_filter, List.mem_range]
noncomputable def nearL (R : List (Int × Int)) (dep : Nat → Int) (p : Nat) : List Nat := (incL R p).filter fun k => decide (dep (oe p (rd R k)) = dep p - 1)
noncomputable def earlyL (R : List (Int × Int)) (dep : Nat → Int) (p : Nat) : List Nat := (incL R p).filter fun k => decide (dep (oe p (rd R k)) < dep p - 1)
/-- at which the first of them stands that is in t -/
noncomputable def firstI (t : List Nat) : List Nat → Nat
  | [] => 0
  | k :: r => if k ∈ t then 0 else firstI t r + 1
theorem first_lt {t : List Nat} : ∀ {l : List Nat}, (∃ k ∈ l, k ∈ t) → firstI t l < l.length
  | [], ⟨_, h, _⟩ => by simp at h
  | a :: r, ⟨k, h1, h2⟩ => by
    unfold firstI
    by_cases e : a ∈ t
    · rw [if_pos e]; simp
    · rw [if_neg e]
      have : k ∈ r := by
        rcases List.mem_cons.mp h1 with z | z
        · rw [z] at h2; exact absurd h2 e
        · exact z
      have := first_lt ⟨k, this, h2⟩
      simp; omega
/-- the heap of a tree -/
noncomputable def treeH (R : List (Int × Int)) (dep : Nat → Int) (t : List Nat) (p : Nat) : Int := (incL R p).length - 1 - (earlyL R dep p).length - firstI t (nearL R dep p)
structure DepP (R : List (Int × Int)) (m : Nat) (t : List Nat) (dep : Nat → Int) : Prop where
  tl : ∀ k ∈ t, k < R.length
  pit : dep m = 0
  val : ∀ v, v < m → 1 ≤ dep v ∧ dep v ≤ m
  pred : ∀ v, v < m → ∃ k ∈ t, incB v (rd R k) = true ∧ dep (oe v (rd R k)) = dep v - 1
  low : ∀ v, v < m → ∀ k ∈ t, incB v (rd R k) = true → dep v - 1 ≤ dep (oe v (rd R k))
theorem len_sub {α : Type} [DecidableEq α] : ∀ {l K : List α}, l.Nodup → (∀ x ∈ l, x ∈ K) → l.length ≤ K.length
  | [], _, _, _ => Nat.zero_le _
  | a :: l, K, nd, h => by
    have h1 := List.nodup_cons.mp nd
    have ha := h a (by simp)
    have := len_sub (K := K.erase a) h1.2 fun x hx => (List.mem_erase_of_ne (fun e : x = a => h1.1 (by rw [← e]; exact hx))).mpr (h x (by simp [hx]))
    rw [List.length_erase_of_mem ha] at this
    have : 0 < K.length := List.length_pos_of_mem ha
    simp; omega
theorem inc_span {m : Nat} {R : List (Int × Int)} (hR : ∀ s ∈ R, Good m s) (p : Nat) : ((incL R p).length : Int) = spanF R [] p := by
  rw [← ends_span hR p]
  congr 1
  have : R.filter (fun s => decide (s.1 = (p : Int)) || decide (s.2 = (p : Int))) = (incL R p).map (rd R) := by
    have e := map_rd R id
    rw [List.map_id] at e
    conv => lhs; rw [e]
    rw [List.filter_map]
    rfl
  rw [this, List.length_map]
theorem near_first {R : List (Int × Int)} {m : Nat} {t : List Nat} {dep : Nat → Int} (D : DepP R m t dep) {p : Nat} (hp : p < m) : firstI t (nearL R dep p) < (nearL R dep p).length := by
  obtain ⟨k, h1, h2, h3⟩ := D.pred p hp
  exact first_lt ⟨k, List.mem_filter.mpr ⟨mem_inc.mpr ⟨D.tl k h1, h2⟩, decide_eq_true h3⟩, h1⟩
/-- those to what is as far or farther -/
noncomputable def lateN (R : List (Int × Int)) (dep : Nat → Int) (p : Nat) : List Nat := (incL R p).filter fun k => decide (dep p ≤ dep (oe p (rd R k)))
theorem three_len {R : List (Int × Int)} {dep : Nat → Int} {p : Nat} : (incL R p).length = (nearL R dep p).length + (earlyL R dep p).length + (lateN R dep p).length := by
  unfold nearL earlyL lateN
  induction incL R p with
  | nil => rfl
  | cons k r ih =>
    simp only [List.filter_cons, List.length_cons]
    by_cases a : dep (oe p (rd R k)) = dep p - 1
    · have b : ¬ dep (oe p (rd R k)) < dep p - 1 := by omega
      have c : ¬ dep p ≤ dep (oe p (rd R k)) := by omega
      simp only [decide_eq_true a, decide_eq_false b, decide_eq_false c, if_true, if_false, List.length_cons, Bool.false_eq_true]
      omega
    · by_cases b : dep (oe p (rd R k)) < dep p - 1
      · have c : ¬ dep p ≤ dep (oe p (rd R k)) := by omega
        simp only [decide_eq_false a, decide_eq_true b, decide_eq_false c, if_true, if_false, List.length_cons, Bool.false_eq_true]
        omega
      · have c : dep p ≤ dep (oe p (rd R k)) := by omega
        simp only [decide_eq_false a, decide_eq_false b, decide_eq_true c, if_true, if_false, List.length_cons, Bool.false_eq_true]
        omega
theorem treeH_bounds {R : List (Int × Int)} {m : Nat} {t : List Nat} {dep : Nat → Int} (hR : ∀ s ∈ R, Good m s) (D : DepP R m t dep) {p : Nat} (hp : p < m) : ((lateN R dep p).length : Int) ≤ treeH R dep t p ∧ treeH R dep t p < spanF R [] p := by
  have h1 := near_first D hp
  have h2 := three_len (R := R) (dep := dep) (p := p)
  have h3 := inc_span hR p
  unfold treeH
  omega
/-- roads to places of a set, by their numbers -/
theorem hit_count {m : Nat} {R : List (Int × Int)} (hR : ∀ s ∈ R, Good m s) {p : Nat} {l : List Nat} {K : List Nat} (hK : ∀ k, k < R.length → incB p (rd R k) = true → oe p (rd R k) ∈ l → k ∈ K) : (R.map (roadHit p l)).sum ≤ K.length := by
  rw [map_rd R (roadHit p l)]
  have e : (List.range R.length).map (fun k => roadHit p l (rd R k)) = (List.range R.length).map fun k => if incB p (rd R k) = true ∧ oe p (rd R k) ∈ l then (1 : Int) else 0 := List.map_congr_left fun k hk => by
    have hk := List.mem_range.mp hk
    obtain ⟨g1, g2, g3, g4, g5⟩ := hR _ (rd_mem hk)
    unfold roadHit
    by_cases hi : incB p (rd R k) = true
    · obtain ⟨o1, o2, o3, o4⟩ := oe_spec (hR _ (rd_mem hk)) hi
      rcases o4 with ⟨a, b⟩ | ⟨a, b⟩
      · have c : ¬ (rd R k).2 = p := by omega
        have d : (rd R k).2.toNat = oe p (rd R k) := by omega
        simp only [a, c, d, hi, true_and, false_and, or_false]
      · have c : ¬ (rd R k).1 = p := by omega
        have d : (rd R k).1.toNat = oe p (rd R k) := by omega
        simp only [a, c, d, hi, true_and, false_and, false_or]
    · rw [if_neg (c := incB p (rd R k) = true ∧ oe p (rd R k) ∈ l) (fun z => hi z.1), if_neg]
      unfold incB at hi
      simp only [Bool.or_eq_true, decide_eq_true_eq, not_or] at hi
      intro z
      rcases z with z | z
      · exact hi.1 z.1
      · exact hi.2 z.1
  rw [e]
  have cnt : ∀ L : List Nat, L.Nodup → (∀ k ∈ L, k < R.length) → (L.map fun k => if incB p (rd R k) = true ∧ oe p (rd R k) ∈ l then (1 : Int) else 0).sum = ((L.filter fun k => decide (incB p (rd R k) = true ∧ oe p (rd R k) ∈ l)).length : Int) := by
    intro L
    induction L with
    | nil => intros; rfl
    | cons k r ih =>
      intro nd hl
      rw [List.map_cons, List.sum_cons, ih (List.nodup_cons.mp nd).2 fun k hk => hl k (by simp [hk]), List.filter_cons]
      by_cases c : incB p (rd R k) = true ∧ oe p (rd R k) ∈ l
      · rw [if_pos c, if_pos (decide_eq_true c), List.length_cons]; omega
      · rw [if_neg c, if_neg (by rw [decide_eq_false c]; simp)]; omega
  rw [cnt _ List.nodup_range fun k hk => List.mem_range.mp hk]
  have sub : ∀ k ∈ (List.range R.length).filter (fun k => decide (incB p (rd R k) = true ∧ oe p (rd R k) ∈ l)), k ∈ K := fun k hk => by
    obtain ⟨h1, h2⟩ := List.mem_filter.mp hk
    have h2 := of_decide_eq_true h2
    exact hK k (List.mem_range.mp h1) h2.1 h2.2
  have nd : ((List.range R.length).filter (fun k => decide (incB p (rd R k) = true ∧ oe p (rd R k) ∈ l))).Nodup := List.nodup_range.filter _
  exact Int.ofNat_le.mpr (len_sub nd sub)
/-- all burn -/
theorem tree_burns {m : Nat} {R : List (Int × Int)} {t : List Nat} {dep : Nat → Int} (hR : ∀ s ∈ R, Good m s) (D : DepP R m t dep) {h : Nat → Int} (hh : ∀ p, p < m → h p = treeH R dep t p) : ∀ (d : Nat) (p : Nat), p < m → dep p = d → p ∉ coldL (tollF m (stepsL R [])) h m d := by
  intro d
  induction d using Nat.strongRecOn with
  | _ d ih =>
    intro p hp hd z
    cases d with
    | zero => have := (D.val p hp).1; omega
    | succ d =>
      obtain ⟨z1, z2⟩ := mem_next.mp z
      apply z2
      refine mem_ready.mpr ⟨z1, ?_⟩
      rw [among_roads hR hp (cold_nodup _) (fun o ho => cold_lt ho), hh p hp]
      refine Int.le_trans (hit_count hR (K := lateN R dep p) fun k hk hi ho => ?_) (treeH_bounds hR D hp).1
      refine List.mem_filter.mpr ⟨mem_inc.mpr ⟨hk, hi⟩, decide_eq_true ?_⟩
      have hom := cold_lt ho
      refine Classical.byContradiction fun q => ?_
      have hv := D.val _ hom
      obtain ⟨e, he⟩ : ∃ e : Nat, dep (oe p (rd R k)) = e := ⟨(dep (oe p (rd R k))).toNat, by omega⟩
      exact ih e (by omega) _ hom he (cold_sub (by omega) ho)
theorem tree_comes {m : Nat} {R : List (Int × Int)} {t : List Nat} {dep : Nat → Int} (hR : ∀ s ∈ R, Good m s) (D : DepP R m t dep) : comesB R m (treeH R dep t) (fireF (tollF m (stepsL R [])) (treeH R dep t) m m) = true := comes_true fun i hi => by
  refine ⟨fun z => ?_, (treeH_bounds hR D hi).2⟩
  have hv := D.val i hi
  obtain ⟨e, he⟩ : ∃ e : Nat, dep i = e := ⟨(dep i).toNat, by omega⟩
  exact tree_burns hR D (fun _ _ => rfl) e i hi he (cold_sub (by omega) ((fire_none m i hi).mp z))
/-! ### depths, twice told -/
noncomputable def treeR (R : List (Int × Int)) (t : List Nat) : List (Int × Int) := t.map (rd R)
theorem dep_of {m : Nat} {R : List (Int × Int)} {t : List Nat} (hR : ∀ s ∈ R, Good m s) (ht : ∀ k ∈ t, k < R.length) (hF : ∀ v, v < m → leadF (stepsL (treeR R t) []) (far0 m) m v ≠ none) : ∃ dep, DepP R m t dep ∧ ∀ v, v < m → leadF (stepsL (treeR R t) []) (far0 m) m v = some (dep v) := by
  have hT : ∀ s ∈ treeR R t, Good m s := fun s hs => by
    obtain ⟨k, hk, rfl⟩ := List.mem_map.mp hs
    exact hR _ (rd_mem (ht k hk))
  have gS := good_steps (L := []) hT (fun s hs => absurd hs (by simp))
  have I := linv gS m
  generalize leadF (stepsL (treeR R t) []) (far0 m) m = F at *
  have sm : ∀ s, s ∈ stepsL (treeR R t) [] ↔ s ∈ treeR R t ∨ s.swap ∈ treeR R t := fun s => by
    unfold stepsL
    rw [List.append_nil, List.mem_append, List.mem_map]
    constructor
    · rintro (h | ⟨r, h, rfl⟩)
      · exact .inl h
      · exact .inr (by simpa using h)
    · rintro (h | h)
      · exact .inl h
      · exact .inr ⟨s.swap, h, by simp⟩
  have hv : ∀ v, v < m → F v = some ((F v).getD 0) := fun v hv => by
    cases e : F v with
    | none => exact absurd e (hF v hv)
    | some d => rfl
  have hm : F m = some ((F m).getD 0) := by rw [I.pit]; rfl
  have hle : ∀ v, v ≤ m → F v = some ((F v).getD 0) := fun v h => by
    by_cases e : v = m
    · rw [e]; exact hm
    · exact hv v (by omega)
  refine ⟨fun v => (F v).getD 0, ⟨ht, by simp [I.pit], fun v h => ?_, fun v h => ?_, fun v h k hk hi => ?_⟩, hv⟩
  · have := I.val v _ (hv v h)
    exact ⟨this.2.2.2 (by omega), this.2.1⟩
  · obtain ⟨s, h1, h2, h3⟩ := I.pred v _ (by omega) (hv v h)
    have e1 : ∃ k ∈ t, incB v (rd R k) = true ∧ oe v (rd R k) = s.2.toNat := by
      have gs := gS s h1
      obtain ⟨g1, g2, g3, g4, g5⟩ := gs
      rcases (sm s).mp h1 with h | h
      · obtain ⟨k, hk, rfl⟩ := List.mem_map.mp h
        refine ⟨k, hk, ?_, ?_⟩
        · unfold incB; simp; omega
        · unfold oe; omega
      · obtain ⟨k, hk, e⟩ := List.mem_map.mp h
        have e1 : (rd R k).1 = s.2 := by rw [e]; rfl
        have e2 : (rd R k).2 = s.1 := by rw [e]; rfl
        refine ⟨k, hk, ?_, ?_⟩
        · unfold incB; simp; omega
        · unfold oe; omega
    obtain ⟨k, hk, i1, i2⟩ := e1
    refine ⟨k, hk, i1, ?_⟩
    rw [i2, h3]; rfl
  · have hg := hR _ (rd_mem (ht k hk))
    obtain ⟨o1, o2, o3, o4⟩ := oe_spec hg hi
    obtain ⟨g1, g2, g3, g4, g5⟩ := hg
    have mem : rd R k ∈ treeR R t := List.mem_map.mpr ⟨k, hk, rfl⟩
    rcases o4 with ⟨a, b⟩ | ⟨a, b⟩
    · refine I.low v _ (by omega) (hv v h) (rd R k) ((sm _).mpr (.inl mem)) (by omega) _ ?_
      rw [show (rd R k).2.toNat = oe v (rd R k) by omega]
      exact hle _ o2
    · refine I.low v _ (by omega) (hv v h) (rd R k).swap ((sm _).mpr (.inr (by simpa using mem))) (by simp; omega) _ ?_
      rw [show (rd R k).swap.2.toNat = oe v (rd R k) by simp; omega]
      exact hle _ o2
/-- one road's turn -/
noncomputable def relax (R : List (Int × Int)) (g : Nat → Int) (k : Nat) : Nat → Int :=
  let a := (rd R k).1.toNat
  let b := (rd R k).2.toNat
  let g1 := up g a (if g b + 1 < g a then g b + 1 else g a)
  up g1 b (if g1 a + 1 < g1 b then g1 a + 1 else g1 b)
theorem relax_le {m : Nat} {R : List (Int × Int)} (g : Nat → Int) {k : Nat} (hg : Good m (rd R k)) (v : Nat) : relax R g k v ≤ g v := by
  obtain ⟨g1, g2, g3, g4, g5⟩ := hg
  have n : ¬ (rd R k).2.toNat = (rd R k).1.toNat := by omega
  have n' : ¬ (rd R k).1.toNat = (rd R k).2.toNat := by omega
  unfold relax
  simp only [up_row]
  by_cases a : v = (rd R k).2.toNat
  · subst a
    simp only [if_true, n, n', if_false]
    repeat' split
    all_goals omega
  · by_cases b : v = (rd R k).1.toNat
    · subst b
      simp only [if_true, n, n', if_false]
      split <;> omega
    · simp only [a, b, if_false]
      exact Int.le_refl _
theorem relax_lb {m : Nat} {R : List (Int × Int)} {dep g : Nat → Int} {k : Nat} (hg : Good m (rd R k)) (h1 : dep (rd R k).1.toNat ≤ dep (rd R k).2.toNat + 1) (h2 : dep (rd R k).2.toNat ≤ dep (rd R k).1.toNat + 1) (hb : ∀ v, v ≤ m → dep v ≤ g v) (v : Nat) (hv : v ≤ m) : dep v ≤ relax R g k v := by
  obtain ⟨g1, g2, g3, g4, g5⟩ := hg
  have n : ¬ (rd R k).2.toNat = (rd R k).1.toNat := by omega
  have n' : ¬ (rd R k).1.toNat = (rd R k).2.toNat := by omega
  have b1 := hb (rd R k).1.toNat (by omega)
  have b2 := hb (rd R k).2.toNat (by omega)
  have b3 := hb v hv
  unfold relax
  simp only [up_row]
  by_cases a : v = (rd R k).2.toNat
  · subst a
    simp only [if_true, n, n', if_false]
    repeat' split
    all_goals omega
  · by_cases b : v = (rd R k).1.toNat
    · subst b
      simp only [if_true, n, n', if_false]
      split <;> omega
    · simp only [a, b, if_false]
      exact b3
theorem relax_hit {m : Nat} {R : List (Int × Int)} (g : Nat → Int) {k : Nat} (hg : Good m (rd R k)) {v : Nat} (hi : incB v (rd R k) = true) : relax R g k v ≤ g (oe v (rd R k)) + 1 := by
  obtain ⟨o1, o2, o3, o4⟩ := oe_spec hg hi
  obtain ⟨g1, g2, g3, g4, g5⟩ := hg
  have n : ¬ (rd R k).2.toNat = (rd R k).1.toNat := by omega
  have n' : ¬ (rd R k).1.toNat = (rd R k).2.toNat := by omega
  unfold relax
  simp only [up_row]
  rcases o4 with ⟨a, b⟩ | ⟨a, b⟩
  · have e1 : v = (rd R k).1.toNat := by omega
    have e2 : oe v (rd R k) = (rd R k).2.toNat := by omega
    rw [e2, e1]
    simp only [if_true, n, n', if_false]
    split <;> omega
  · have e1 : v = (rd R k).2.toNat := by omega
    have e2 : oe v (rd R k) = (rd R k).1.toNat := by omega
    rw [e2, e1]
    simp only [if_true, n, n', if_false]
    repeat' split
    all_goals omega
noncomputable def roundF (R : List (Int × Int)) (t : List Nat) (g : Nat → Int) : Nat → Int := t.foldl (relax R) g
noncomputable def farF (R : List (Int × Int)) (m : Nat) (t : List Nat) : Nat → Nat → Int
  | 0 => fun v => if v < m then (m : Int) + 1 else 0
  | k + 1 => roundF R t (farF R m t k)
theorem round_facts {m : Nat} {R : List (Int × Int)} {dep : Nat → Int} (hR : ∀ s ∈ R, Good m s) (he : ∀ k, k < R.length → True) : ∀ (t : List Nat) (g : Nat → Int), (∀ k ∈ t, k < R.length ∧ dep (rd R k).1.toNat ≤ dep (rd R k).2.toNat + 1 ∧ dep (rd R k).2.toNat ≤ dep (rd R k).1.toNat + 1) → (∀ v, v ≤ m → dep v ≤ g v) →
    (∀ v, v ≤ m → dep v ≤ roundF R t g v) ∧ (∀ v, roundF R t g v ≤ g v) ∧ ∀ k ∈ t, ∀ v, incB v (rd R k) = true → roundF R t g v ≤ g (oe v (rd R k)) + 1
  | [], g, _, hb => ⟨hb, fun v => Int.le_refl _, fun k hk => absurd hk (by simp)⟩
  | k :: t, g, ht, hb => by
    obtain ⟨k1, k2, k3⟩ := ht k (by simp)
    have hg := hR _ (rd_mem k1)
    obtain ⟨i1, i2, i3⟩ := round_facts hR he t (relax R g k) (fun k hk => ht k (by simp [hk])) (relax_lb hg k2 k3 hb)
    refine ⟨i1, fun v => Int.le_trans (i2 v) (relax_le g hg v), fun k' hk' v hi => ?_⟩
    rcases List.mem_cons.mp hk' with e | e
    · subst e
      exact Int.le_trans (i2 v) (relax_hit g hg hi)
    · refine Int.le_trans (i3 k' e v hi) ?_
      have := relax_le g hg (oe v (rd R k'))
      omega
theorem far_dep {m : Nat} {R : List (Int × Int)} {t : List Nat} {dep : Nat → Int} (hR : ∀ s ∈ R, Good m s) (D : DepP R m t dep) : ∀ v, v ≤ m → farF R m t m v = dep v := by
  have near1 : ∀ v, v ≤ m → ∀ k ∈ t, incB v (rd R k) = true → dep v ≤ dep (oe v (rd R k)) + 1 := fun v hv k hk hi => by
    by_cases e : v = m
    · have ho := (oe_spec (hR _ (rd_mem (D.tl k hk))) hi)
      have := D.val (oe v (rd R k)) (by omega)
      rw [e, D.pit]; rw [e] at this; omega
    · have := D.low v (by omega) k hk hi
      omega
  have cond : ∀ k ∈ t, k < R.length ∧ dep (rd R k).1.toNat ≤ dep (rd R k).2.toNat + 1 ∧ dep (rd R k).2.toNat ≤ dep (rd R k).1.toNat + 1 := fun k hk => by
    have hg := hR _ (rd_mem (D.tl k hk))
    obtain ⟨g1, g2, g3, g4, g5⟩ := hg
    refine ⟨D.tl k hk, ?_, ?_⟩
    · have := near1 (rd R k).1.toNat (by omega) k hk (by unfold incB; simp; omega)
      rw [show oe (rd R k).1.toNat (rd R k) = (rd R k).2.toNat by unfold oe; omega] at this
      exact this
    · have := near1 (rd R k).2.toNat (by omega) k hk (by unfold incB; simp; omega)
      rw [show oe (rd R k).2.toNat (rd R k) = (rd R k).1.toNat by unfold oe; omega] at this
      exact this
  have main : ∀ i : Nat, (∀ v, v ≤ m → dep v ≤ farF R m t i v) ∧ ∀ v, v ≤ m → dep v ≤ i → farF R m t i v ≤ dep v := by
    intro i
    induction i with
    | zero =>
      refine ⟨fun v hv => ?_, fun v hv h => ?_⟩
      · show dep v ≤ if v < m then (m : Int) + 1 else 0
        by_cases e : v < m
        · rw [if_pos e]; have := (D.val v e).2; omega
        · rw [if_neg e, show v = m by omega, D.pit]; exact Int.le_refl _
      · show (if v < m then (m : Int) + 1 else 0) ≤ dep v
        by_cases e : v < m
        · have := (D.val v e).1; omega
        · rw [if_neg e, show v = m by omega, D.pit]; exact Int.le_refl _
    | succ i ih =>
      obtain ⟨f1, f2, f3⟩ := round_facts hR (fun _ _ => trivial) t (farF R m t i) cond ih.1
      refine ⟨f1, fun v hv h => ?_⟩
      by_cases e : dep v ≤ i
      · exact Int.le_trans (f2 v) (ih.2 v hv e)
      · have hvm : v < m := by
          by_cases q : v = m
          · rw [q, D.pit] at e; omega
          · omega
        obtain ⟨k, k1, k2, k3⟩ := D.pred v hvm
        have ho := oe_spec (hR _ (rd_mem (D.tl k k1))) k2
        have := f3 k k1 v k2
        have := ih.2 _ ho.2.1 (by omega)
        show roundF R t (farF R m t i) v ≤ dep v
        omega
  intro v hv
  have h1 := (main m).1 v hv
  have h2 : dep v ≤ m := by
    by_cases e : v = m
    · rw [e, D.pit]; omega
    · exact (D.val v (by omega)).2
  have := (main m).2 v hv h2
  omega
end HS
namespace HS
open PySem L2
theorem ev_idxQ {fa fb : DE} {ρ : En} {ra rb : R} {A : List (Int × Int)} {i : Int} {s : Int × Int} (ha : fa ρ = some ra) (ea : ra.d = pairsD A) (hb : fb ρ = some rb) (eb : rb.d = .int i) (h0 : 0 ≤ i) (h : A[i.toNat]? = some s) : dIdx fa fb ρ = some ⟨pairD s, true, []⟩ := by
  have hl : i < A.length := by have := (List.getElem?_eq_some_iff.mp h).1; omega
  unfold dIdx
  rw [ha, Option.bind_some, hb, Option.bind_some, ea, eb]
  simp only [pairsD, D.items, Option.bind_some]
  rw [atI_int h0 (by simpa using hl), List.getElem?_map, h]
  rfl
theorem ev_idxRd {fa fb : DE} {ρ : En} {ra rb : R} {R : List (Int × Int)} {k : Nat} (ha : fa ρ = some ra) (ea : ra.d = pairsD R) (hb : fb ρ = some rb) (eb : rb.d = .int k) (h : k < R.length) : dIdx fa fb ρ = some ⟨pairD (rd R k), true, []⟩ := ev_idxQ ha ea hb eb (by omega) (by rw [Int.toNat_natCast]; exact rd_get h)
structure TreeP (R : List (Int × Int)) (m : Nat) (t : List Nat) : Prop where
  len : t.length = m
  inc : t.Pairwise (· < ·)
  lt : ∀ k ∈ t, k < R.length
  con : ∀ v, v < m → leadF (stepsL (treeR R t) []) (far0 m) m v ≠ none
noncomputable def G_tree_depths (d_leads : Den) : DS := (sSeq (sRet (dCall 3 d_leads [] (dCons (dIdx (dVar 0) (dC (.int 0))) (dCons (dComp (iVal (dVar 1)) (.nm 1) [none, none, some 0] tYesD (dIdx (dIdx (dVar 2) (dC (.int 1))) (dVar 1))) (dCons (dLst dNil) dNil))))) sNil)
noncomputable def TDepOk (d : Den) : Prop := ∀ (m : Nat) (R : List (Int × Int)) (t : List Nat), 0 < m → m ≤ 8 → t.length ≤ 64 → (∀ s ∈ R, Good m s) → (∀ k ∈ t, k < R.length) → d [netD m R [], natsD t] = some (farD m (leadF (stepsL (treeR R t) []) (far0 m) m), true)
theorem tdep_ok {dl : Den} (hl : LeadsOk dl) : TDepOk (denOf 2 (G_tree_depths dl)) := fun m R t m0 m8 ht hR hlt => by
  have hT : ∀ s ∈ treeR R t, Good m s := fun s hs => by
    obtain ⟨k, hk, rfl⟩ := List.mem_map.mp hs
    exact hR _ (rd_mem (hlt k hk))
  have el := hl m (treeR R t) [] m0 (by omega) (by simp [treeR]; omega) hT (fun s hs => absurd hs (by simp))
  have ec := ev_compA (fi := iVal (dVar 1)) (t := .nm 1) (cap := [none, none, some 0]) (fe := dIdx (dIdx (dVar 2) (dC (.int 1))) (dVar 1)) (ρ := [some (netD m R [], false), some (natsD t, false)])
    (toD := fun (k : Nat) => .int (k : Int)) (out := fun (k : Nat) => pairD (rd R k)) t (ev_iVal (r := ⟨natsD t, false, []⟩) rfl rfl) rfl fun k hk => ⟨[none, some (.int k, true), some (netD m R [], false)], rfl, ⟨pairD (rd R k), true, []⟩, ev_idxRd (R := R) (k := k) (ev_item (m := m) (R := R) (L := []) (ev_var (d := netD m R []) (b := false) rfl) rfl).2.1 rfl (rb := ⟨.int k, true, []⟩) rfl rfl (hlt k hk), rfl, rfl⟩
  have e : D.lst (t.map fun k => pairD (rd R k)) = pairsD (treeR R t) := by unfold pairsD treeR; rw [List.map_map]; rfl
  rw [e] at ec
  refine den_of (run_retL (ev_call (ev_cons (r := ⟨.int m, true, []⟩) rfl (ev_cons ec (ev_cons (r := ⟨pairsD [], true, []⟩) rfl (ev_nil _)))) el rfl) ⟨rfl, rfl⟩)
noncomputable def G_need_tree (d_tree_depths : Den) : DS := (sSeq (sIf (dTru (dOp gNe (dBf gLen (dCons (dVar 1) dNil)) (dIdx (dVar 0) (dC (.int 0))))) (sSeq sNever sNil) sNil) (sSeq (sIf (dTru (dBf gAny1 (dCons (dComp (iZipD (dVar 1) (dSlc (dVar 1) (oSome (dC (.int 1))) oNone)) (.tp [1, 2]) [none, none, none] tYesD (dOp gGe (dVar 1) (dVar 2))) dNil))) (sSeq sNever sNil) sNil) (sSeq (sIf (bOr (dTru (dOp gLt (dIdx (dVar 1) (dC (.int 0))) (dC (.int 0)))) (dTru (dOp gGe (dIdx (dVar 1) (dNeg (dC (.int 1)))) (dBf gLen (dCons (dIdx (dVar 0) (dC (.int 1))) dNil))))) (sSeq sNever sNil) sNil) (sSeq (sIf (dTru (dOp (gIn false) (dC .non) (dCall 2 d_tree_depths [] (dCons (dVar 0) (dCons (dVar 1) dNil))))) (sSeq sNever sNil) sNil) sNil))))
theorem inc_get {t : List Nat} (h : t.Pairwise (· < ·)) {i j a b : Nat} (hi : t[i]? = some a) (hj : t[j]? = some b) (hij : i < j) : a < b := by
  obtain ⟨i1, i2⟩ := List.getElem?_eq_some_iff.mp hi
  obtain ⟨j1, j2⟩ := List.getElem?_eq_some_iff.mp hj
  rw [← i2, ← j2]
  exact List.pairwise_iff_getElem.mp h i j i1 j1 hij
theorem ev_anyR {fa : DE} {ρ : En} {r : R} {bs : List Bool} (h : fa ρ = some r) (e : r.d = .lst (bs.map .bl)) : dBf gAny1 (dCons fa dNil) ρ = some ⟨.bl (bs.any id), true, []⟩ := by
  unfold dBf
  rw [ev_cons h (ev_nil _), Option.bind_some]
  simp only [e, gAny1, dBls_of, Option.map_some]
theorem zip_nats (t : List Nat) : zipD (t.map fun (p : Nat) => D.int (p : Int)) ((t.drop 1).map fun (p : Nat) => D.int (p : Int)) = (t.zip (t.drop 1)).map fun q => .tup [.int (q.1 : Int), .int (q.2 : Int)] := by
  unfold zipD
  rw [List.zip_map, List.map_map]
  rfl
theorem atI_m1 {α : Type} {xs : List α} (h : 0 < xs.length) : atI xs (-1) = xs[xs.length - 1]? := by
  unfold atI ixN
  rw [if_neg (by decide), if_pos (by omega)]
  show xs[((-1 : Int) + xs.length).toNat]? = _
  congr 1
  omega
noncomputable def NeedTOk (d : Den) : Prop := ∀ (m : Nat) (R : List (Int × Int)) (t : List Nat), 0 < m → m ≤ 8 → (∀ s ∈ R, Good m s) → TreeP R m t → d [netD m R [], natsD t] = some (.non, true)
theorem needt_ok {dd : Den} (hd : TDepOk dd) : NeedTOk (denOf 2 (G_need_tree dd)) := fun m R t m0 m8 hR T => by
  have ed := hd m R t m0 m8 (by rw [T.len]; omega) hR T.lt
  have hne : 0 < t.length := by rw [T.len]; exact m0
  obtain ⟨a0, ha0⟩ : ∃ a, t[0]? = some a := ⟨_, List.getElem?_eq_getElem hne⟩
  obtain ⟨az, haz⟩ : ∃ a, t[t.length - 1]? = some a := ⟨_, List.getElem?_eq_getElem (by omega)⟩
  have hz := T.lt az (List.mem_of_getElem? haz)
  have key : Run (G_need_tree dd) (startEn 2 [netD m R [], natsD t]) (Nx fun _ => True) := by
    refine run_seq (run_if (b := false) (ev_tru (b := false) (r := ⟨.bl false, true, []⟩) ((ev_neI (a := m) (b := m) ((ev_lenN (l := t) (r := ⟨natsD t, false, []⟩) rfl rfl).trans (by rw [T.len])) rfl (rb := ⟨.int m, true, []⟩) rfl rfl).trans (by simp)) rfl) (fun h => by cases h) (fun _ => run_nil ?_))
    have ec := ev_compA (fi := iZipD (dVar 1) (dSlc (dVar 1) (oSome (dC (.int 1))) oNone)) (t := .tp [1, 2]) (cap := [none, none, none]) (fe := dOp gGe (dVar 1) (dVar 2)) (ρ := [some (netD m R [], false), some (natsD t, false)])
      (toD := fun (q : Nat × Nat) => .tup [.int (q.1 : Int), .int (q.2 : Int)]) (out := fun (q : Nat × Nat) => .bl (decide ((q.2 : Int) ≤ q.1))) (t.zip (t.drop 1)) (ir := ⟨zipD (t.map fun (p : Nat) => D.int (p : Int)) ((t.drop 1).map fun (p : Nat) => D.int (p : Int)), []⟩) (by
        unfold iZipD
        rw [ev_slcN (l := t) (n := 1) (ra := ⟨natsD t, false, []⟩) (rb := ⟨.int 1, true, []⟩) rfl rfl rfl rfl]
        rfl) (zip_nats t) fun q _ => ⟨[none, some (.int q.1, true), some (.int q.2, true)], rfl, ⟨.bl (decide ((q.2 : Int) ≤ q.1)), true, []⟩, rfl, rfl, rfl⟩
    have ea := ev_anyR (bs := (t.zip (t.drop 1)).map fun q => decide ((q.2 : Int) ≤ q.1)) ec (by rw [List.map_map]; rfl)
    have hany : ((t.zip (t.drop 1)).map fun q => decide ((q.2 : Int) ≤ q.1)).any id = false := by
      rw [List.any_eq_false]
      intro b hb
      obtain ⟨q, hq, rfl⟩ := List.mem_map.mp hb
      obtain ⟨i, hi⟩ := List.getElem?_of_mem hq
      rw [List.getElem?_zip_eq_some, List.getElem?_drop] at hi
      have := inc_get T.inc hi.1 hi.2 (by omega)
      simp; omega
    rw [hany] at ea
    refine run_seq (run_if (b := false) (ev_tru (b := false) ea rfl) (fun h => by cases h) (fun _ => run_nil ?_))
    refine run_seq (run_if (b := false) ((ev_bor (a := false) (b := false) (ev_tru (b := false) (ev_op (d := .bl false) (rb := ⟨.int 0, true, []⟩) (ev_idxN (l := t) (i := 0) (v := a0) (ra := ⟨natsD t, false, []⟩) (rb := ⟨.int 0, true, []⟩) rfl rfl rfl rfl (by decide) ha0) rfl ?_) rfl) (ev_tru (b := false) (ev_op (d := .bl false) (ra := ⟨.int az, true, []⟩) (rb := ⟨.int R.length, true, []⟩) ?_ ?_ ?_) rfl)).trans rfl) (fun h => by cases h) (fun _ => run_nil ?_))
    · show some (D.bl (decide ((a0 : Int) < 0))) = _
      rw [decide_eq_false (by omega)]
    · unfold dIdx
      show ((D.items (natsD t)).bind fun xs => (atI xs (-1)).map fun d => (HS.R.mk d false []).norm) = _
      unfold natsD
      simp only [D.items, Option.bind_some]
      rw [atI_m1 (by rw [List.length_map]; exact hne), List.length_map, List.getElem?_map, haz]
      rfl
    · rw [ev_len (xs := R.map pairD) (ev_item (m := m) (R := R) (L := []) (ev_var (d := netD m R []) (b := false) rfl) rfl).2.1 rfl, List.length_map]
    · show some (D.bl (decide ((R.length : Int) ≤ (az : Int)))) = _
      rw [decide_eq_false (by omega)]
    refine run_seq (run_if (b := false) (ev_tru (b := false) (r := ⟨.bl false, true, []⟩) ((ev_noneIn (neg := false) (m := m) (F := leadF (stepsL (treeR R t) []) (far0 m) m) (ev_call (r := ⟨[netD m R [], natsD t], false, []⟩) rfl ed rfl) rfl).trans ?_) rfl) (fun h => by cases h) (fun _ => run_nil (run_nil trivial)))
    have : ((List.range m).any fun i => (leadF (stepsL (treeR R t) []) (far0 m) m i).isNone) = false := by
      rw [List.any_eq_false]
      intro i hi
      have := T.con i (List.mem_range.mp hi)
      cases e : leadF (stepsL (treeR R t) []) (far0 m) m i with
      | none => exact absurd e this
      | some d => simp
    rw [this]; rfl
  obtain ⟨o, h1, h2⟩ := key
  unfold denOf
  rw [h1]
  cases o with
  | nx ρ => rfl
  | _ => exact h2.elim
noncomputable def G_road_ends : DS := (sSeq (sRet (dComp (iEnumD (dIdx (dVar 0) (dC (.int 1)))) (.tp [1, 2]) [none, none, none, some 1] (dTru (dOp (gIn false) (dVar 3) (dVar 2))) (dTup (dCons (dVar 1) (dCons (dOp gSub (dBf gSum1 (dCons (dVar 2) dNil)) (dVar 3)) dNil))))) sNil)
noncomputable def endsD (R : List (Int × Int)) (p : Nat) : D := .lst ((incL R p).map fun (k : Nat) => .tup [.int (k : Int), .int (oe p (rd R k) : Int)])
noncomputable def REndsOk (d : Den) : Prop := ∀ (m : Nat) (R : List (Int × Int)) (p : Nat), (∀ s ∈ R, Good m s) → d [netD m R [], .int p] = some (endsD R p, true)
theorem ev_sum2 {fa : DE} {ρ : En} {r : R} {s : Int × Int} (h : fa ρ = some r) (e : r.d = pairD s) : dBf gSum1 (dCons fa dNil) ρ = some ⟨.int (s.1 + s.2), true, []⟩ := by
  unfold dBf
  rw [ev_cons h (ev_nil _), Option.bind_some]
  have : dInts [D.int s.1, D.int s.2] = some [s.1, s.2] := rfl
  simp only [e, pairD, gSum1, this, Option.map_some]
  simp
theorem rends_ok : REndsOk (denOf 2 G_road_ends) := fun m R p hR => by
  have ec := ev_comp (fi := iEnumD (dIdx (dVar 0) (dC (.int 1)))) (t := .tp [1, 2]) (cap := [none, none, none, some 1]) (ft := dTru (dOp (gIn false) (dVar 3) (dVar 2))) (fe := dTup (dCons (dVar 1) (dCons (dOp gSub (dBf gSum1 (dCons (dVar 2) dNil)) (dVar 3)) dNil))) (ρ := [some (netD m R [], false), some (.int p, true)])
    (toD := fun (k : Nat) => .tup [.int (k : Int), pairD (rd R k)]) (keep := fun k => incB p (rd R k)) (out := fun (k : Nat) => .tup [.int (k : Int), .int (oe p (rd R k) : Int)]) (List.range R.length) (ir := ⟨enumD ((List.range R.length).map fun k => pairD (rd R k)), []⟩) (by
      unfold iEnumD
      rw [(ev_item (m := m) (R := R) (L := []) (ev_var (d := netD m R []) (b := false) rfl) rfl).2.1, Option.bind_some, pairs_rd R]; rfl) (enum_range (α := Nat) _ _) fun k hk => ⟨[none, some (.int k, true), some (pairD (rd R k), true), some (.int p, true)], rfl, ev_tru (ev_inP (x := p) (s := rd R k) (ra := ⟨.int p, true, []⟩) (rb := ⟨pairD (rd R k), true, []⟩) rfl rfl rfl rfl) rfl, fun hi => ⟨⟨.tup [.int (k : Int), .int (oe p (rd R k) : Int)], true, []⟩, ?_, rfl, rfl⟩⟩
  · exact den_of (run_retL ec ⟨rfl, rfl⟩)
  · have ho := (oe_spec (hR _ (rd_mem (List.mem_range.mp hk))) hi).1
    unfold dTup
    refine (congrArg (fun z => Option.bind z _) (ev_cons (r := ⟨.int k, true, []⟩) rfl (ev_cons (ev_op (d := .int (oe p (rd R k) : Int)) (rb := ⟨.int p, true, []⟩) (ev_sum2 (s := rd R k) (r := ⟨pairD (rd R k), true, []⟩) rfl rfl) rfl ?_) (ev_nil _)))).trans ?_
    · show some (D.int ((rd R k).1 + (rd R k).2 - (p : Int))) = _
      rw [ho]
    · rfl
noncomputable def G_own_choices (d_road_ends : Den) : DS := (sSeq (sAsg 3 (dCall 2 d_road_ends [] (dCons (dVar 0) (dCons (dVar 1) dNil)))) (sSeq (sAsg 4 (dOp gSub (dIdx (dVar 2) (dVar 1)) (dC (.int 1)))) (sSeq (sAsg 5 (dComp (iVal (dVar 3)) (.tp [1, 2]) [none, none, none, some 4, some 2] (dTru (dOp gEq (dIdx (dVar 4) (dVar 2)) (dVar 3))) (dVar 1))) (sSeq (sAsg 6 (dComp (iVal (dVar 3)) (.tp [1, 2]) [none, none, none, some 4, some 2] (dTru (dOp gLt (dIdx (dVar 4) (dVar 2)) (dVar 3))) (dVar 1))) (sSeq (sRet (dTup (dCons (dVar 5) (dCons (dOp gSub (dOp gSub (dBf gLen (dCons (dVar 3) dNil)) (dC (.int 1))) (dBf gLen (dCons (dVar 6) dNil))) dNil)))) sNil)))))
noncomputable def OwnOk (d : Den) : Prop := ∀ (m : Nat) (R : List (Int × Int)) (p : Nat) (dep : Nat → Int), p < m → (∀ s ∈ R, Good m s) → d [netD m R [], .int p, rowD (m + 1) dep] = some (.tup [natsD (nearL R dep p), .int ((incL R p).length - 1 - (earlyL R dep p).length)], true)
theorem own_ok {de : Den} (he : REndsOk de) : OwnOk (denOf 7 (G_own_choices de)) := fun m R p dep hp hR => by
  have ee := he m R p hR
  refine den_of ?_
  refine run_seq (run_asg (ev_call (r := ⟨[netD m R [], .int p], false, []⟩) rfl ee rfl) ?_)
  rw [asg_nil]
  refine run_seq (run_asg (ev_op (d := .int (dep p - 1)) (rb := ⟨.int 1, true, []⟩) (ev_idxR' (m := m + 1) (f := dep) (i := p) (ra := ⟨rowD (m + 1) dep, false, []⟩) (rb := ⟨.int p, true, []⟩) rfl rfl rfl rfl (by omega)) rfl rfl) ?_)
  rw [asg_nil]
  have sel : ∀ (g : D → D → Option D) (C : Int → Int → Bool) (x5 : Option (D × Bool)), (∀ a b : Int, g (.int a) (.int b) = some (.bl (C a b))) → dComp (iVal (dVar 3)) (.tp [1, 2]) [none, none, none, some 4, some 2] (dTru (dOp g (dIdx (dVar 4) (dVar 2)) (dVar 3))) (dVar 1) [some (netD m R [], false), some (.int p, true), some (rowD (m + 1) dep, false), some (endsD R p, true), some (.int (dep p - 1), true), x5, none] = some ⟨natsD ((incL R p).filter fun k => C (dep (oe p (rd R k))) (dep p - 1)), true, []⟩ := fun g C x5 hg =>
    ev_comp (toD := fun (k : Nat) => .tup [.int (k : Int), .int (oe p (rd R k) : Int)]) (keep := fun k => C (dep (oe p (rd R k))) (dep p - 1)) (out := fun (k : Nat) => .int (k : Int)) (incL R p) (ev_iVal (r := ⟨endsD R p, true, [3]⟩) rfl rfl) rfl fun k hk => by
      obtain ⟨k1, k2⟩ := mem_inc.mp hk
      have ho := (oe_spec (hR _ (rd_mem k1)) k2).2.1
      refine ⟨[none, some (.int k, true), some (.int (oe p (rd R k) : Int), true), some (.int (dep p - 1), true), some (rowD (m + 1) dep, false)], rfl, ev_tru (ev_op (d := .bl (C (dep (oe p (rd R k))) (dep p - 1))) (rb := ⟨.int (dep p - 1), true, []⟩) (ev_idxR' (m := m + 1) (f := dep) (i := oe p (rd R k)) (ra := ⟨rowD (m + 1) dep, false, []⟩) (rb := ⟨.int (oe p (rd R k) : Int), true, []⟩) rfl rfl rfl rfl (by omega)) rfl (hg _ _)) rfl, fun _ => ⟨⟨.int k, true, []⟩, rfl, rfl, rfl⟩⟩
  refine run_seq (run_asg (sel gEq (fun a b => decide (a = b)) none fun a b => by
    show (if (D.int a).sim 8 && (D.int b).sim 8 then some (D.bl (deq (.int a) (.int b))) else none) = _
    rw [deq_int]; rfl) ?_)
  rw [asg_nil]
  refine run_seq (run_asg (sel gLt (fun a b => decide (a < b)) _ fun a b => rfl) ?_)
  rw [asg_nil]
  refine run_retL (r := ⟨.tup [natsD (nearL R dep p), .int ((incL R p).length - 1 - (earlyL R dep p).length)], true, [5]⟩) ?_ ⟨rfl, rfl⟩
  unfold dTup
  have el : ∀ ρ : En, ρ[3]? = some (some (endsD R p, true)) → dBf gLen (dCons (dVar 3) dNil) ρ = some ⟨.int (incL R p).length, true, []⟩ := fun ρ h => by
    rw [ev_len (xs := (incL R p).map fun (k : Nat) => .tup [.int (k : Int), .int (oe p (rd R k) : Int)]) (ev_var h) rfl, List.length_map]
  refine (congrArg (fun z => Option.bind z _) (ev_cons (r := ⟨natsD (nearL R dep p), true, [5]⟩) rfl (ev_cons (ev_op (d := .int ((incL R p).length - 1 - (earlyL R dep p).length)) (ev_op (d := .int ((incL R p).length - 1)) (rb := ⟨.int 1, true, []⟩) (el _ rfl) rfl rfl) (ev_lenN (l := earlyL R dep p) (r := ⟨natsD (earlyL R dep p), true, [6]⟩) rfl rfl) rfl) (ev_nil _)))).trans ?_
  rfl
noncomputable def G_heap_of (d_need_plain : Den) (d_need_tree : Den) (d_tree_depths : Den) (d_own_choices : Den) : DS := (sSeq (sDrop (dCall 1 d_need_plain [] (dCons (dVar 0) dNil))) (sSeq (sDrop (dCall 2 d_need_tree [] (dCons (dVar 0) (dCons (dVar 1) dNil)))) (sSeq (sAsg 2 (dAdd (dCall 2 d_tree_depths [] (dCons (dVar 0) (dCons (dVar 1) dNil))) (dLst (dCons (dC (.int 0)) dNil)))) (sSeq (sAsg 3 (dLst dNil)) (sSeq (sFor (iRange1 (dIdx (dVar 0) (dC (.int 0)))) (.nm 4) (sSeq (sAsg 5 (dCall 3 d_own_choices [] (dCons (dVar 0) (dCons (dVar 4) (dCons (dVar 2) dNil))))) (sSeq (sAsg 6 (dComp (iEnumD (dIdx (dVar 5) (dC (.int 0)))) (.tp [1, 2]) [none, none, none, some 1] (dTru (dOp (gIn false) (dVar 2) (dVar 3))) (dVar 1))) (sSeq (sApp 3 pNil (dOp gSub (dIdx (dVar 5) (dC (.int 1))) (dIdx (dVar 6) (dC (.int 0))))) sNil)))) (sSeq (sRet (dVar 3)) sNil))))))
theorem first_enum {t : List Nat} : ∀ (l : List Nat) (b : Nat), (∃ k ∈ l, k ∈ t) → ∃ r, ((l.zipIdx b).filter fun q => t.contains q.1).map (·.2) = (b + firstI t l) :: r
  | [], _, ⟨_, h, _⟩ => by simp at h
  | a :: l, b, ⟨k, h1, h2⟩ => by
    rw [List.zipIdx_cons, List.filter_cons]
    by_cases e : a ∈ t
    · rw [if_pos (by simpa using e), List.map_cons]
      unfold firstI
      rw [if_pos e]
      exact ⟨_, rfl⟩
    · rw [if_neg (by simpa using e)]
      have hk : k ∈ l := by
        rcases List.mem_cons.mp h1 with z | z
        · rw [z] at h2; exact absurd h2 e
        · exact z
      obtain ⟨r, hr⟩ := first_enum l (b + 1) ⟨k, hk, h2⟩
      unfold firstI
      rw [if_neg e]
      exact ⟨r, by rw [hr]; congr 1; omega⟩
noncomputable def HeapOfOk (d : Den) : Prop := ∀ (m : Nat) (R : List (Int × Int)) (t : List Nat) (dep : Nat → Int), 0 < m → m ≤ 8 → R.length ≤ 200 → (∀ s ∈ R, Good m s) → TreeP R m t → DepP R m t dep → (∀ v, v < m → leadF (stepsL (treeR R t) []) (far0 m) m v = some (dep v)) → d [netD m R [], natsD t] = some (rowD m (treeH R dep t), true)
theorem heapof_ok {dp dn dd dw : Den} (hp : NeedPOk dp) (hn : NeedTOk dn) (hd : TDepOk dd) (hw : OwnOk dw) : HeapOfOk (denOf 7 (G_heap_of dp dn dd dw)) := fun m R t dep m0 m8 hRl hR T Dp hF => by
  have ed := hd m R t m0 m8 (by rw [T.len]; omega) hR T.lt
  have efar : farD m (leadF (stepsL (treeR R t) []) (far0 m) m) = rowD m dep := by
    unfold farD rowD
    congr 1
    exact List.map_congr_left fun v hv => by rw [hF v (List.mem_range.mp hv)]; rfl
  rw [efar] at ed
  refine den_of ?_
  refine run_seq (run_drop (ev_call (r := ⟨[netD m R []], false, []⟩) rfl (hp m R) rfl) ?_)
  refine run_seq (run_drop (ev_call (r := ⟨[netD m R [], natsD t], false, []⟩) rfl (hn m R t m0 m8 hR T) rfl) ?_)
  refine run_seq (run_asg (ev_addRow (m := m) (f := dep) (ev_call (r := ⟨[netD m R [], natsD t], false, []⟩) rfl ed rfl) rfl (by omega)) ?_)
  rw [asg_nil]
  have edep : rowD (m + 1) (ext0 m dep) = rowD (m + 1) dep := row_ext fun j hj => by
    unfold ext0
    by_cases e : j < m
    · rw [if_pos e]
    · rw [if_neg e, show j = m by omega, Dp.pit]
  rw [edep]
  refine run_seq (run_asg (r := ⟨rowD 0 (treeH R dep t), true, []⟩) rfl ?_)
  rw [asg_nil]
  refine run_then (P := fun ρ => ∃ j4 j5 j6, ρ = [some (netD m R [], false), some (natsD t, false), some (rowD (m + 1) dep, true), some (rowD m (treeH R dep t), true), j4, j5, j6]) ?_ ?_
  · refine run_for (toD := fun (k : Nat) => .int (k : Int)) (List.range m) (fun i ρ => ∃ j4 j5 j6, ρ = [some (netD m R [], false), some (natsD t, false), some (rowD (m + 1) dep, true), some (rowD i (treeH R dep t), true), j4, j5, j6]) (ev_range (n := m) (r := ⟨.int m, true, []⟩) rfl rfl (by omega)) rfl ⟨none, none, none, rfl⟩ ?_ ?_
    · rintro i i' ρ hi ⟨j4, j5, j6, rfl⟩
      have hi' : i < m ∧ i = i' := by
        obtain ⟨h1, h2⟩ := List.getElem?_eq_some_iff.mp hi
        simp at h1 h2; exact ⟨h1, h2⟩
      obtain ⟨him, rfl⟩ := hi'
      refine ⟨[some (netD m R [], false), some (natsD t, false), some (rowD (m + 1) dep, true), some (rowD i (treeH R dep t), true), some (.int i, true), j5, j6], rfl, ?_⟩
      refine run_seq (run_asg (ev_call (r := ⟨[netD m R [], .int i, rowD (m + 1) dep], false, [2]⟩) rfl (hw m R i dep him hR) rfl) ?_)
      rw [asg_nil]
      obtain ⟨k0, hk1, hk2, hk3⟩ := Dp.pred i him
      obtain ⟨r, hr⟩ := first_enum (t := t) (nearL R dep i) 0 ⟨k0, List.mem_filter.mpr ⟨mem_inc.mpr ⟨Dp.tl k0 hk1, hk2⟩, decide_eq_true hk3⟩, hk1⟩
      have ec := ev_comp (fi := iEnumD (dIdx (dVar 5) (dC (.int 0)))) (t := .tp [1, 2]) (cap := [none, none, none, some 1]) (ft := dTru (dOp (gIn false) (dVar 2) (dVar 3))) (fe := dVar 1) (ρ := [some (netD m R [], false), some (natsD t, false), some (rowD (m + 1) dep, true), some (rowD i (treeH R dep t), true), some (.int i, true), some (.tup [natsD (nearL R dep i), .int ((incL R i).length - 1 - (earlyL R dep i).length)], true), j6])
        (toD := fun (q : Nat × Nat) => .tup [.int (q.2 : Int), .int (q.1 : Int)]) (keep := fun q => t.contains q.1) (out := fun (q : Nat × Nat) => .int (q.2 : Int)) ((nearL R dep i).zipIdx 0) (ir := ⟨enumD ((nearL R dep i).map fun (p : Nat) => D.int (p : Int)), [5]⟩) rfl (by
          unfold enumD
          rw [List.zipIdx_map, List.map_map]
          rfl) fun q _ => ⟨[none, some (.int q.2, true), some (.int q.1, true), some (natsD t, false)], rfl, ev_tru (ev_inN (neg := false) (o := q.1) (l := t) (ra := ⟨.int q.1, true, []⟩) (rb := ⟨natsD t, false, []⟩) rfl rfl rfl rfl) rfl, fun _ => ⟨⟨.int q.2, true, []⟩, rfl, rfl, rfl⟩⟩
      have eo : D.lst ((((nearL R dep i).zipIdx 0).filter fun q => t.contains q.1).map fun q => .int (q.2 : Int)) = natsD (firstI t (nearL R dep i) :: r) := by
        have : (((nearL R dep i).zipIdx 0).filter fun q => t.contains q.1).map (fun q => D.int (q.2 : Int)) = ((((nearL R dep i).zipIdx 0).filter fun q => t.contains q.1).map (·.2)).map fun (p : Nat) => D.int (p : Int) := by rw [List.map_map]; rfl
        rw [this, hr, Nat.zero_add]; rfl
      rw [eo] at ec
      refine run_seq (run_asg ec ?_)
      rw [asg_nil]
      refine run_seq (run_appR (i := i) (g := treeH R dep t) (v := treeH R dep t i) rfl (ev_op (d := .int (treeH R dep t i)) (ra := ⟨.int ((incL R i).length - 1 - (earlyL R dep i).length), true, []⟩) rfl (ev_idxN (l := firstI t (nearL R dep i) :: r) (i := 0) (v := firstI t (nearL R dep i)) (ra := ⟨natsD (firstI t (nearL R dep i) :: r), true, [6]⟩) (rb := ⟨.int 0, true, []⟩) rfl rfl rfl rfl (by decide) rfl) rfl) rfl (by omega) (run_nil ⟨some (.int i, true), some (.tup [natsD (nearL R dep i), .int ((incL R i).length - 1 - (earlyL R dep i).length)], true), some (natsD (firstI t (nearL R dep i) :: r), true), ?_⟩))
      have : rowD (i + 1) (up (treeH R dep t) i (treeH R dep t i)) = rowD (i + 1) (treeH R dep t) := row_ext fun j _ => by
        rw [up_row]; split
        · rename_i e; rw [e]
        · rfl
      rw [this]; rfl
    · rintro ρ ⟨j4, j5, j6, rfl⟩
      rw [List.length_range]
      exact ⟨_, _, _, rfl⟩
  rintro ρ ⟨j4, j5, j6, rfl⟩
  exact run_retL (r := ⟨rowD m (treeH R dep t), true, [3]⟩) rfl ⟨rfl, rfl⟩
end HS
namespace HS
open PySem L2
noncomputable def G__law_numbers_u (d__law_whole : Den) : DS := (sSeq (sIf (bOr (bNot (dTru (dIsi "list" (dVar 0)))) (dTru (dOp gNe (dBf gLen (dCons (dVar 0) dNil)) (dVar 1)))) (sSeq (sRet (dC (.bl false))) sNil) sNil) (sSeq (sFor (iVal (dVar 0)) (.nm 2) (sSeq (sIf (bNot (dTru (dCall 1 d__law_whole [] (dCons (dVar 2) dNil)))) (sSeq (sRet (dC (.bl false))) sNil) sNil) sNil)) (sSeq (sRet (dC (.bl true))) sNil)))
noncomputable def NumUOk (d : Den) : Prop := ∀ (n : Nat) (a : Nat → Int), d [rowD n a, .int n] = some (.bl true, true)
theorem numu_ok {dw : Den} (hw : WholeOk dw) : NumUOk (denOf 3 (G__law_numbers_u dw)) := fun n a => by
  refine den_of ?_
  refine run_seqX (run_if (b := false) (ev_bor (a := false) (b := false) (ev_not (b := true) (ev_tru (b := true) rfl rfl)) (ev_tru (b := false) (r := ⟨.bl false, true, []⟩) ((ev_neI (a := n) (b := n) (ev_lenR (m := n) (f := a) (r := ⟨rowD n a, false, []⟩) rfl rfl) rfl (rb := ⟨.int n, true, []⟩) rfl rfl).trans (by simp)) rfl)) (fun h => by cases h) (fun _ => run_nil ?_))
  refine run_seqX (run_for (toD := fun (i : Nat) => .int (a i)) (List.range n) (fun _ ρ => ∃ j2, ρ = [some (rowD n a, false), some (.int n, true), j2]) (ir := ⟨(List.range n).map fun i => .int (a i), []⟩) rfl rfl ⟨none, rfl⟩ ?_ ?_)
  · rintro i i' ρ hi ⟨j2, rfl⟩
    refine ⟨[some (rowD n a, false), some (.int n, true), some (.int (a i'), true)], rfl, ?_⟩
    exact run_seqX (run_if (b := false) (ev_not (b := true) (ev_tru (b := true) (ev_call (r := ⟨[.int (a i')], true, []⟩) rfl (hw (a i')) rfl) rfl)) (fun h => by cases h) (fun _ => run_nil (run_nil ⟨_, rfl⟩)))
  · rintro ρ ⟨j2, rfl⟩
    exact run_retL (r := ⟨.bl true, true, []⟩) rfl ⟨rfl, rfl⟩
noncomputable def G__law_depths : DS := (sSeq (sAsg 2 (dAdd (dMul (dLst (dCons (dAdd (dIdx (dVar 0) (dC (.int 0))) (dC (.int 1))) dNil)) (dIdx (dVar 0) (dC (.int 0)))) (dLst (dCons (dC (.int 0)) dNil)))) (sSeq (sFor (iRange1 (dIdx (dVar 0) (dC (.int 0)))) (.nm 3) (sSeq (sFor (iVal (dVar 1)) (.nm 4) (sSeq (sAsgT (.tp [5, 6]) (dIdx (dIdx (dVar 0) (dC (.int 1))) (dVar 4))) (sSeq (sSet 2 pNil (dVar 5) (dBf gMin2 (dCons (dIdx (dVar 2) (dVar 5)) (dCons (dAdd (dIdx (dVar 2) (dVar 6)) (dC (.int 1))) dNil)))) (sSeq (sSet 2 pNil (dVar 6) (dBf gMin2 (dCons (dIdx (dVar 2) (dVar 6)) (dCons (dAdd (dIdx (dVar 2) (dVar 5)) (dC (.int 1))) dNil)))) sNil)))) sNil)) (sSeq (sRet (dVar 2)) sNil)))
noncomputable def LDepOk (d : Den) : Prop := ∀ (m : Nat) (R : List (Int × Int)) (t : List Nat), m ≤ 8 → (∀ s ∈ R, Good m s) → (∀ k ∈ t, k < R.length) → d [netD m R [], natsD t] = some (rowD (m + 1) (farF R m t m), true)
theorem ev_min2V {fa fb : DE} {ρ : En} {ra rb : R} {a b : Int} (ha : fa ρ = some ra) (ea : ra.d = .int a) (hb : fb ρ = some rb) (eb : rb.d = .int b) : dBf gMin2 (dCons fa (dCons fb dNil)) ρ = some ⟨.int (if b < a then b else a), true, []⟩ := ev_min2 ha ea hb eb
theorem ldep_ok : LDepOk (denOf 7 G__law_depths) := fun m R t m8 hR ht => by
  have it : ∀ {ρ : En}, ρ[0]? = some (some (netD m R [], false)) → dVar 0 ρ = some ⟨netD m R [], false, []⟩ := fun h => ev_var h
  refine den_of ?_
  refine run_seq (run_asg (r := ⟨rowD (m + 1) (farF R m t 0), true, []⟩) ?_ ?_)
  · refine (ev_addRow (m := m) (f := fun _ => (m : Int) + 1) (ra := ⟨rowD m (fun _ => (m : Int) + 1), true, []⟩) ?_ rfl (by omega)).trans ?_
    · unfold dMul
      rw [(ev_lst (rs := ⟨[.int ((m : Int) + 1)], true, []⟩) (ev_cons (ev_add (a := m) (b := 1) (ev_item (it rfl) rfl).1 rfl rfl rfl) (ev_nil _)) (by simp)), Option.bind_some, (ev_item (it rfl) rfl).1, Option.bind_some]
      show _ = _
      have hr := ev_rep (n := m) (z := (m : Int) + 1) (fb := dC (.int m)) (ρ := startEn 7 [netD m R [], natsD t]) (r := ⟨.int m, true, []⟩) rfl rfl (by omega)
      unfold dMul at hr
      exact hr
    · congr 2
  rw [asg_nil]
  refine run_then (P := fun ρ => ∃ j3 j4 j5 j6, ρ = [some (netD m R [], false), some (natsD t, false), some (rowD (m + 1) (farF R m t m), true), j3, j4, j5, j6]) ?_ ?_
  · refine run_for (toD := fun (k : Nat) => .int (k : Int)) (List.range m) (fun i ρ => ∃ j3 j4 j5 j6, ρ = [some (netD m R [], false), some (natsD t, false), some (rowD (m + 1) (farF R m t i), true), j3, j4, j5, j6]) (ev_range (n := m) (r := ⟨.int m, true, []⟩) rfl rfl (by omega)) rfl ⟨none, none, none, none, rfl⟩ ?_ ?_
    · rintro i i' ρ hi ⟨j3, j4, j5, j6, rfl⟩
      have hi' : i < m ∧ i = i' := by
        obtain ⟨h1, h2⟩ := List.getElem?_eq_some_iff.mp hi
        simp at h1 h2; exact ⟨h1, h2⟩
      obtain ⟨him, rfl⟩ := hi'
      refine ⟨[some (netD m R [], false), some (natsD t, false), some (rowD (m + 1) (farF R m t i), true), some (.int i, true), j4, j5, j6], rfl, ?_⟩
      refine run_then (P := fun ρ => ∃ j4 j5 j6, ρ = [some (netD m R [], false), some (natsD t, false), some (rowD (m + 1) (farF R m t (i + 1)), true), some (.int i, true), j4, j5, j6]) ?_ ?_
      · refine run_for (toD := fun (k : Nat) => .int (k : Int)) t (fun a ρ => ∃ j4 j5 j6, ρ = [some (netD m R [], false), some (natsD t, false), some (rowD (m + 1) ((t.take a).foldl (relax R) (farF R m t i)), true), some (.int i, true), j4, j5, j6]) (ev_iVal (r := ⟨natsD t, false, []⟩) rfl rfl) rfl ⟨j4, j5, j6, rfl⟩ ?_ ?_
        · rintro a k ρ hk ⟨j4, j5, j6, rfl⟩
          have hkR := ht k (List.mem_of_getElem? hk)
          obtain ⟨g1, g2, g3, g4, g5⟩ := hR _ (rd_mem hkR)
          have etake : (t.take (a + 1)).foldl (relax R) (farF R m t i) = relax R ((t.take a).foldl (relax R) (farF R m t i)) k := by
            rw [List.take_succ, hk]
            simp
          generalize (t.take a).foldl (relax R) (farF R m t i) = g at *
          refine ⟨[some (netD m R [], false), some (natsD t, false), some (rowD (m + 1) g, true), some (.int i, true), some (.int k, true), j5, j6], rfl, ?_⟩
          refine run_seq (Q := _) ⟨Out.nx [some (netD m R [], false), some (natsD t, false), some (rowD (m + 1) g, true), some (.int i, true), some (.int k, true), some (.int (rd R k).1, true), some (.int (rd R k).2, true)], ?_, ?_⟩
          · unfold sAsgT
            rw [ev_idxRd (R := R) (k := k) (ev_item (m := m) (R := R) (L := []) (it rfl) rfl).2.1 rfl (rb := ⟨.int k, true, []⟩) rfl rfl hkR]
            rfl
          obtain ⟨a1, ea⟩ : ∃ a1 : Nat, (rd R k).1 = a1 := ⟨(rd R k).1.toNat, by omega⟩
          obtain ⟨b1, eb⟩ : ∃ b1 : Nat, (rd R k).2 = b1 := ⟨(rd R k).2.toNat, by omega⟩
          have e2 : relax R g k = up (up g a1 (if g b1 + 1 < g a1 then g b1 + 1 else g a1)) b1 (if up g a1 (if g b1 + 1 < g a1 then g b1 + 1 else g a1) a1 + 1 < up g a1 (if g b1 + 1 < g a1 then g b1 + 1 else g a1) b1 then up g a1 (if g b1 + 1 < g a1 then g b1 + 1 else g a1) a1 + 1 else up g a1 (if g b1 + 1 < g a1 then g b1 + 1 else g a1) b1) := by
            unfold relax
            rw [ea, eb]; rfl
          rw [etake, e2, ea, eb]
          refine run_seq (run_setR (m := m + 1) (f := g) (i := a1) (v := if g b1 + 1 < g a1 then g b1 + 1 else g a1) (ri := ⟨.int a1, true, []⟩) rfl rfl rfl (ev_min2V (a := g a1) (b := g b1 + 1) (ev_idxR' (m := m + 1) (f := g) (i := a1) (ra := ⟨rowD (m + 1) g, true, [2]⟩) (rb := ⟨.int a1, true, []⟩) rfl rfl rfl rfl (by omega)) rfl (ev_add (a := g b1) (b := 1) (ev_idxR' (m := m + 1) (f := g) (i := b1) (ra := ⟨rowD (m + 1) g, true, [2]⟩) (rb := ⟨.int b1, true, []⟩) rfl rfl rfl rfl (by omega)) rfl rfl rfl) rfl) rfl (by omega) (by omega) ?_)
          rw [Int.toNat_natCast]
          generalize up g a1 (if g b1 + 1 < g a1 then g b1 + 1 else g a1) = q
          refine run_seq (run_setR (m := m + 1) (f := q) (i := b1) (v := if q a1 + 1 < q b1 then q a1 + 1 else q b1) (ri := ⟨.int b1, true, []⟩) rfl rfl rfl (ev_min2V (a := q b1) (b := q a1 + 1) (ev_idxR' (m := m + 1) (f := q) (i := b1) (ra := ⟨rowD (m + 1) q, true, [2]⟩) (rb := ⟨.int b1, true, []⟩) rfl rfl rfl rfl (by omega)) rfl (ev_add (a := q a1) (b := 1) (ev_idxR' (m := m + 1) (f := q) (i := a1) (ra := ⟨rowD (m + 1) q, true, [2]⟩) (rb := ⟨.int a1, true, []⟩) rfl rfl rfl rfl (by omega)) rfl rfl rfl) rfl) rfl (by omega) (by omega) (run_nil ⟨some (.int k, true), some (.int a1, true), some (.int b1, true), ?_⟩))
          rw [Int.toNat_natCast]; rfl
        · rintro ρ ⟨j4, j5, j6, rfl⟩
          rw [List.take_length]
          exact ⟨_, _, _, rfl⟩
      rintro ρ ⟨j4, j5, j6, rfl⟩
      exact run_nil ⟨_, _, _, _, rfl⟩
    · rintro ρ ⟨j3, j4, j5, j6, rfl⟩
      rw [List.length_range]
      exact ⟨_, _, _, _, rfl⟩
  rintro ρ ⟨j3, j4, j5, j6, rfl⟩
  exact run_retL (r := ⟨rowD (m + 1) (farF R m t m), true, [2]⟩) rfl ⟨rfl, rfl⟩
noncomputable def G__law_due_t (d__law_depths : Den) : DS := (sSeq (sAsg 2 (dCall 2 d__law_depths [] (dCons (dVar 0) (dCons (dVar 1) dNil)))) (sSeq (sAsg 3 (dLst dNil)) (sSeq (sFor (iRange1 (dIdx (dVar 0) (dC (.int 0)))) (.nm 4) (sSeq (sAsg 5 (dNeg (dC (.int 1)))) (sSeq (sAsg 6 (dC (.bl false))) (sSeq (sFor (iRange1 (dBf gLen (dCons (dIdx (dVar 0) (dC (.int 1))) dNil))) (.nm 7) (sSeq (sIf (dTru (dOp (gIn false) (dVar 4) (dIdx (dIdx (dVar 0) (dC (.int 1))) (dVar 7)))) (sSeq (sAsg 8 (dOp gSub (dBf gSum1 (dCons (dIdx (dIdx (dVar 0) (dC (.int 1))) (dVar 7)) dNil)) (dVar 4))) (sSeq (sIf (dTru (dOp gEq (dIdx (dVar 2) (dVar 8)) (dOp gSub (dIdx (dVar 2) (dVar 4)) (dC (.int 1))))) (sSeq (sAsg 6 (dOr (dVar 6) (dOp (gIn false) (dVar 7) (dVar 1)))) (sSeq (sAsg 5 (dAdd (dVar 5) (dBf gInt (dCons (dVar 6) dNil)))) sNil)) (sSeq (sIf (dTru (dOp gGe (dIdx (dVar 2) (dVar 8)) (dIdx (dVar 2) (dVar 4)))) (sSeq (sAsg 5 (dAdd (dVar 5) (dC (.int 1)))) sNil) sNil) sNil)) sNil)) sNil) sNil)) (sSeq (sApp 3 pNil (dVar 5)) sNil))))) (sSeq (sRet (dVar 3)) sNil))))
/-- one road of a place, as the due heap is counted -/
noncomputable def dueS (R : List (Int × Int)) (dep : Nat → Int) (t : List Nat) (p : Nat) (st : Bool × Int) (k : Nat) : Bool × Int :=
  if incB p (rd R k) = true then
    (if dep (oe p (rd R k)) = dep p - 1 then (st.1 || t.contains k, st.2 + if (st.1 || t.contains k) = true then 1 else 0)
     else if dep p ≤ dep (oe p (rd R k)) then (st.1, st.2 + 1) else st)
  else st
noncomputable def nearO (R : List (Int × Int)) (dep : Nat → Int) (p : Nat) (L : List Nat) : List Nat := (L.filter fun k => incB p (rd R k)).filter fun k => decide (dep (oe p (rd R k)) = dep p - 1)
noncomputable def lateO (R : List (Int × Int)) (dep : Nat → Int) (p : Nat) (L : List Nat) : List Nat := (L.filter fun k => incB p (rd R k)).filter fun k => decide (dep p ≤ dep (oe p (rd R k)))
theorem first_snoc {t : List Nat} : ∀ (l : List Nat) (k : Nat), firstI t (l ++ [k]) = if l.any (fun x => t.contains x) then firstI t l else if k ∈ t then l.length else l.length + 1
  | [], k => by
    show firstI t [k] = _
    unfold firstI firstI
    by_cases e : k ∈ t <;> simp [e]
  | a :: l, k => by
    rw [List.cons_append]
    unfold firstI
    by_cases e : a ∈ t
    · rw [if_pos e, if_pos e, if_pos (by simp [e])]
    · rw [if_neg e, if_neg e, first_snoc l k]
      have : (a :: l).any (fun x => t.contains x) = l.any (fun x => t.contains x) := by simp [e]
      rw [this]
      by_cases h : l.any (fun x => t.contains x) = true
      · rw [if_pos h, if_pos h]
      · rw [if_neg h, if_neg h]
        split <;> simp
theorem first_none {t : List Nat} : ∀ (l : List Nat), l.any (fun x => t.contains x) = false → firstI t l = l.length
  | [], _ => rfl
  | a :: l, h => by
    have h' : ¬ a ∈ t ∧ l.any (fun x => t.contains x) = false := by simpa using h
    unfold firstI
    rw [if_neg h'.1, first_none l h'.2]; simp
theorem due_fold {R : List (Int × Int)} {dep : Nat → Int} {t : List Nat} {p : Nat} : ∀ n : Nat, (List.range n).foldl (dueS R dep t p) (false, -1) = ((nearO R dep p (List.range n)).any (fun x => t.contains x), -1 + ((lateO R dep p (List.range n)).length : Int) + (((nearO R dep p (List.range n)).length : Int) - firstI t (nearO R dep p (List.range n)))) := by
  intro n
  induction n with
  | zero => rfl
  | succ n ih =>
    rw [List.range_succ, List.foldl_append, ih]
    unfold nearO lateO
    simp only [List.filter_append, List.foldl_cons, List.foldl_nil]
    unfold dueS
    by_cases hi : incB p (rd R n) = true
    · rw [if_pos hi]
      simp only [List.filter_cons, List.filter_nil, hi, if_true]
      by_cases a : dep (oe p (rd R n)) = dep p - 1
      · have b : ¬ dep p ≤ dep (oe p (rd R n)) := by omega
        simp only [if_pos a, decide_eq_true a, decide_eq_false b, if_true, Bool.false_eq_true, if_false, List.append_nil, first_snoc, List.any_append, List.any_cons, List.any_nil, Bool.or_false]
        generalize ((List.range n).filter fun k => incB p (rd R k)).filter (fun k => decide (dep (oe p (rd R k)) = dep p - 1)) = l
        refine Prod.ext rfl ?_
        dsimp only
        by_cases h : l.any (fun x => t.contains x) = true
        · simp only [h, Bool.true_or, if_true, List.length_append, List.length_cons, List.length_nil]
          omega
        · have h' : l.any (fun x => t.contains x) = false := by simpa using h
          have hf := first_none l h'
          simp only [h', Bool.false_or, Bool.false_eq_true, if_false, List.length_append, List.length_cons, List.length_nil]
          by_cases e : n ∈ t
          · simp only [List.contains_eq_mem, e, decide_true, if_true]; omega
          · simp only [List.contains_eq_mem, e, decide_false, if_false, Bool.false_eq_true]; omega
      · by_cases b : dep p ≤ dep (oe p (rd R n))
        · simp only [if_neg a, if_pos b, decide_eq_false a, decide_eq_true b, if_true, Bool.false_eq_true, if_false, List.append_nil, List.length_append, List.length_cons, List.length_nil]
          refine Prod.ext rfl ?_
          dsimp only
          omega
        · simp only [if_neg a, if_neg b, decide_eq_false a, decide_eq_false b, Bool.false_eq_true, if_false, List.append_nil]
    · rw [if_neg hi]
      simp only [List.filter_cons, List.filter_nil, hi, if_false, Bool.false_eq_true, List.append_nil]
theorem due_tree {R : List (Int × Int)} {dep : Nat → Int} {t : List Nat} {p : Nat} : ((List.range R.length).foldl (dueS R dep t p) (false, -1)).2 = treeH R dep t p := by
  rw [due_fold]
  have h := three_len (R := R) (dep := dep) (p := p)
  show -1 + ((lateN R dep p).length : Int) + ((nearL R dep p).length - firstI t (nearL R dep p)) = treeH R dep t p
  unfold treeH
  omega
noncomputable def LDueOk (d : Den) : Prop := ∀ (m : Nat) (R : List (Int × Int)) (t : List Nat) (dep : Nat → Int), m ≤ 8 → R.length ≤ 200 → (∀ s ∈ R, Good m s) → DepP R m t dep → d [netD m R [], natsD t] = some (rowD m (treeH R dep t), true)
theorem ldue_ok {dd : Den} (hd : LDepOk dd) : LDueOk (denOf 9 (G__law_due_t dd)) := fun m R t dep m8 hRl hR Dp => by
  have ed := hd m R t m8 hR Dp.tl
  rw [row_ext (m := m + 1) fun v hv => far_dep hR Dp v (by omega)] at ed
  have it : ∀ {ρ : En}, ρ[0]? = some (some (netD m R [], false)) → dVar 0 ρ = some ⟨netD m R [], false, []⟩ := fun h => ev_var h
  refine den_of ?_
  refine run_seq (run_asg (ev_call (r := ⟨[netD m R [], natsD t], false, []⟩) rfl ed rfl) ?_)
  rw [asg_nil]
  refine run_seq (run_asg (r := ⟨rowD 0 (treeH R dep t), true, []⟩) rfl ?_)
  rw [asg_nil]
  refine run_then (P := fun ρ => ∃ j4 j5 j6 j7 j8, ρ = [some (netD m R [], false), some (natsD t, false), some (rowD (m + 1) dep, true), some (rowD m (treeH R dep t), true), j4, j5, j6, j7, j8]) ?_ ?_
  · refine run_for (toD := fun (k : Nat) => .int (k : Int)) (List.range m) (fun i ρ => ∃ j4 j5 j6 j7 j8, ρ = [some (netD m R [], false), some (natsD t, false), some (rowD (m + 1) dep, true), some (rowD i (treeH R dep t), true), j4, j5, j6, j7, j8]) (ev_range (n := m) (r := ⟨.int m, true, []⟩) rfl rfl (by omega)) rfl ⟨none, none, none, none, none, rfl⟩ ?_ ?_
    · rintro i i' ρ hi ⟨j4, j5, j6, j7, j8, rfl⟩
      have hi' : i < m ∧ i = i' := by
        obtain ⟨h1, h2⟩ := List.getElem?_eq_some_iff.mp hi
        simp at h1 h2; exact ⟨h1, h2⟩
      obtain ⟨him, rfl⟩ := hi'
      refine ⟨[some (netD m R [], false), some (natsD t, false), some (rowD (m + 1) dep, true), some (rowD i (treeH R dep t), true), some (.int i, true), j5, j6, j7, j8], rfl, ?_⟩
      refine run_seq (run_asg (r := ⟨.int (-1), true, []⟩) rfl ?_)
      rw [asg_nil]
      refine run_seq (run_asg (r := ⟨.bl false, true, []⟩) rfl ?_)
      rw [asg_nil]
      refine run_then (P := fun ρ => ∃ j6 j7 j8, ρ = [some (netD m R [], false), some (natsD t, false), some (rowD (m + 1) dep, true), some (rowD i (treeH R dep t), true), some (.int i, true), some (.int (treeH R dep t i), true), j6, j7, j8]) ?_ ?_
      · refine run_for (toD := fun (k : Nat) => .int (k : Int)) (List.range R.length) (fun n ρ => ∃ j7 j8, ρ = [some (netD m R [], false), some (natsD t, false), some (rowD (m + 1) dep, true), some (rowD i (treeH R dep t), true), some (.int i, true), some (.int ((List.range n).foldl (dueS R dep t i) (false, -1)).2, true), some (.bl ((List.range n).foldl (dueS R dep t i) (false, -1)).1, true), j7, j8]) (ev_range (n := R.length) (by rw [ev_len (xs := R.map pairD) (ev_item (m := m) (R := R) (L := []) (it rfl) rfl).2.1 rfl, List.length_map]) rfl (by omega)) rfl ⟨j7, j8, rfl⟩ ?_ ?_
        · rintro k k' ρ hk ⟨j7, j8, rfl⟩
          have hk' : k < R.length ∧ k = k' := by
            obtain ⟨h1, h2⟩ := List.getElem?_eq_some_iff.mp hk
            simp at h1 h2; exact ⟨h1, h2⟩
          obtain ⟨hkR, rfl⟩ := hk'
          have estep : (List.range (k + 1)).foldl (dueS R dep t i) (false, -1) = dueS R dep t i ((List.range k).foldl (dueS R dep t i) (false, -1)) k := by rw [List.range_succ, List.foldl_append]; rfl
          rw [estep]
          generalize (List.range k).foldl (dueS R dep t i) (false, -1) = st
          obtain ⟨mt, gr⟩ := st
          have er : ∀ {ρ : En}, ρ[0]? = some (some (netD m R [], false)) → ρ[7]? = some (some (.int k, true)) → dIdx (dIdx (dVar 0) (dC (.int 1))) (dVar 7) ρ = some ⟨pairD (rd R k), true, []⟩ := fun {ρ} h1 h2 => ev_idxRd (R := R) (k := k) (ev_item (m := m) (R := R) (L := []) (it h1) rfl).2.1 rfl (ev_var h2) rfl hkR
          refine ⟨[some (netD m R [], false), some (natsD t, false), some (rowD (m + 1) dep, true), some (rowD i (treeH R dep t), true), some (.int i, true), some (.int gr, true), some (.bl mt, true), some (.int k, true), j8], rfl, ?_⟩
          refine run_seq (run_if (b := incB i (rd R k)) (ev_tru (ev_inP (x := i) (s := rd R k) (ra := ⟨.int i, true, []⟩) rfl rfl (er rfl rfl) rfl) rfl) (fun hinc => ?_) (fun hinc => ?_))
          · obtain ⟨o1, o2, o3, o4⟩ := oe_spec (hR _ (rd_mem hkR)) hinc
            refine run_seq (run_asg (ev_op (d := .int (oe i (rd R k) : Int)) (rb := ⟨.int i, true, []⟩) (ev_sum2 (s := rd R k) (er rfl rfl) rfl) rfl (by
              show some (D.int ((rd R k).1 + (rd R k).2 - (i : Int))) = _
              rw [o1])) ?_)
            rw [asg_nil]
            unfold dueS
            simp only [hinc, if_true]
            have e8 : ∀ {ρ : En}, ρ[2]? = some (some (rowD (m + 1) dep, true)) → ρ[8]? = some (some (.int (oe i (rd R k) : Int), true)) → dIdx (dVar 2) (dVar 8) ρ = some ⟨.int (dep (oe i (rd R k))), true, []⟩ := fun {ρ} h1 h2 => ev_idxR' (m := m + 1) (f := dep) (i := oe i (rd R k)) (ev_var h1) rfl (ev_var h2) rfl (by omega)
            have e4 : ∀ {ρ : En}, ρ[2]? = some (some (rowD (m + 1) dep, true)) → ρ[4]? = some (some (.int (i : Int), true)) → dIdx (dVar 2) (dVar 4) ρ = some ⟨.int (dep i), true, []⟩ := fun {ρ} h1 h2 => ev_idxR' (m := m + 1) (f := dep) (i := i) (ev_var h1) rfl (ev_var h2) rfl (by omega)
            refine run_seq (run_if (b := decide (dep (oe i (rd R k)) = dep i - 1)) (ev_tru (ev_eqI (a := dep (oe i (rd R k))) (b := dep i - 1) (e8 rfl rfl) rfl (ev_op (d := .int (dep i - 1)) (rb := ⟨.int 1, true, []⟩) (e4 rfl rfl) rfl rfl) rfl) rfl) (fun ha => ?_) (fun ha => ?_))
            · have ha := of_decide_eq_true ha
              rw [if_pos ha]
              refine run_seq (run_asg (ev_or (a := mt) (b := t.contains k) rfl (ev_inN (neg := false) (o := k) (l := t) (ra := ⟨.int k, true, []⟩) (rb := ⟨natsD t, false, []⟩) rfl rfl rfl rfl)) ?_)
              rw [asg_nil]
              refine run_seq (run_asg (ev_add (a := gr) (b := if (mt || t.contains k) = true then 1 else 0) rfl rfl (rb := ⟨.int (if (mt || t.contains k) = true then 1 else 0), true, []⟩) rfl rfl) (run_nil (run_nil (run_nil ?_))))
              rw [asg_nil]
              exact ⟨_, _, rfl⟩
            · have ha := of_decide_eq_false ha
              rw [if_neg ha]
              refine run_seq (run_if (b := decide (dep i ≤ dep (oe i (rd R k)))) (ev_tru (ev_op (d := .bl (decide (dep i ≤ dep (oe i (rd R k))))) (e8 rfl rfl) (e4 rfl rfl) rfl) rfl) (fun hb => ?_) (fun hb => ?_))
              · have hb := of_decide_eq_true hb
                rw [if_pos hb]
                refine run_seq (run_asg (ev_add (a := gr) (b := 1) rfl rfl rfl rfl) (run_nil (run_nil (run_nil (run_nil ?_)))))
                rw [asg_nil]
                exact ⟨_, _, rfl⟩
              · have hb := of_decide_eq_false hb
                rw [if_neg hb]
                exact run_nil (run_nil (run_nil (run_nil ⟨_, _, rfl⟩)))
          · unfold dueS
            rw [if_neg (by rw [hinc]; simp)]
            exact run_nil (run_nil ⟨_, _, rfl⟩)
        · rintro ρ ⟨j7, j8, rfl⟩
          rw [List.length_range, due_tree]
          exact ⟨_, _, _, rfl⟩
      rintro ρ ⟨j6, j7, j8, rfl⟩
      refine run_seq (run_appR (i := i) (g := treeH R dep t) (v := treeH R dep t i) (r := ⟨.int (treeH R dep t i), true, []⟩) rfl rfl rfl (by omega) (run_nil ⟨some (.int i, true), some (.int (treeH R dep t i), true), j6, j7, j8, ?_⟩))
      have : rowD (i + 1) (up (treeH R dep t) i (treeH R dep t i)) = rowD (i + 1) (treeH R dep t) := row_ext fun j _ => by
        rw [up_row]; split
        · rename_i e; rw [e]
        · rfl
      rw [this]; rfl
    · rintro ρ ⟨j4, j5, j6, j7, j8, rfl⟩
      rw [List.length_range]
      exact ⟨_, _, _, _, _, rfl⟩
  rintro ρ ⟨j4, j5, j6, j7, j8, rfl⟩
  exact run_retL (r := ⟨rowD m (treeH R dep t), true, [3]⟩) rfl ⟨rfl, rfl⟩
end HS
namespace HS
open PySem L2
noncomputable def G__law_tree (d__law_cell_at : Den) : DS := (sSeq (sAsg 3 (dLst (dCons (dIdx (dVar 2) (dC (.int 0))) dNil))) (sSeq (sAsg 4 (dLst dNil)) (sSeq (sFor (iRange1 (dIdx (dVar 2) (dC (.int 0)))) (.nm 5) (sSeq (sAsg 6 (dLst dNil)) (sSeq (sFor (iRange1 (dBf gLen (dCons (dIdx (dVar 2) (dC (.int 1))) dNil))) (.nm 7) (sSeq (sIf (dTru (dOp gNe (dOp (gIn false) (dIdx (dIdx (dIdx (dVar 2) (dC (.int 1))) (dVar 7)) (dC (.int 0))) (dVar 3)) (dOp (gIn false) (dIdx (dIdx (dIdx (dVar 2) (dC (.int 1))) (dVar 7)) (dC (.int 1))) (dVar 3)))) (sSeq (sApp 6 pNil (dVar 7)) sNil) sNil) sNil)) (sSeq (sAsg 8 (dAdd (dAdd (dMul (dCall 2 d__law_cell_at [] (dCons (dVar 0) (dCons (dAdd (dVar 1) (dVar 5)) dNil))) (dC (.int 69621))) (dMul (dCall 2 d__law_cell_at [] (dCons (dVar 0) (dCons (dAdd (dC (.int 2)) (dVar 5)) dNil))) (dAdd (dMul (dVar 5) (dVar 5)) (dC (.int 5))))) (dVar 5))) (sSeq (sApp 4 pNil (dIdx (dVar 6) (dOp gMod (dOp gMod (dVar 8) (dC (.int 2147483629))) (dBf gLen (dCons (dVar 6) dNil))))) (sSeq (sFor (iVal (dIdx (dIdx (dVar 2) (dC (.int 1))) (dIdx (dVar 4) (dVar 5)))) (.nm 9) (sSeq (sIf (dTru (dOp (gIn true) (dVar 9) (dVar 3))) (sSeq (sApp 3 pNil (dVar 9)) sNil) sNil) sNil)) sNil)))))) (sSeq (sRet (dSort (dCons (dVar 4) dNil))) sNil))))
noncomputable def TreeLOk (d : Den) : Prop := ∀ (ns : List Int) (a m : Nat) (R : List (Int × Int)), 0 < m → m ≤ 8 → NetW m R [] → ∃ t, d [.lst (ns.map .int), .int a, netD m R []] = some (natsD t, true) ∧ TreeP R m t
/-- what is reached, in the order in which it was -/
structure Grown (R : List (Int × Int)) (m : Nat) (dn tr : List Nat) : Prop where
  nd : dn.Nodup
  le : ∀ x ∈ dn, x ≤ m
  hd : dn[0]? = some m
  tnd : tr.Nodup
  tin : ∀ k ∈ tr, k < R.length ∧ (rd R k).1.toNat ∈ dn ∧ (rd R k).2.toNat ∈ dn
  way : ∀ i q, 0 < i → dn[i]? = some q → ∃ k ∈ tr, incB q (rd R k) = true ∧ ∃ j, j < i ∧ dn[j]? = some (oe q (rd R k))
theorem Grown.mem {R : List (Int × Int)} {m : Nat} {dn tr : List Nat} (G : Grown R m dn tr) : m ∈ dn := List.mem_of_getElem? G.hd
/-- a road from what is reached to what is not -/
theorem grow_ex {m : Nat} {R : List (Int × Int)} (hw : NetW m R []) {dn tr : List Nat} (G : Grown R m dn tr) (hl : dn.length ≤ m) : ∃ k, k < R.length ∧ (((rd R k).1.toNat ∈ dn ∧ (rd R k).2.toNat ∉ dn) ∨ ((rd R k).1.toNat ∉ dn ∧ (rd R k).2.toNat ∈ dn)) := by
  obtain ⟨p, hp1, hp2⟩ : ∃ p, p < m ∧ p ∉ dn := by
    refine Classical.byContradiction fun q => ?_
    have all : ∀ p ∈ List.range (m + 1), p ∈ dn := fun p hp => by
      have := List.mem_range.mp hp
      by_cases e : p = m
      · rw [e]; exact G.mem
      · exact Classical.byContradiction fun z => q ⟨p, by omega, z⟩
    have := len_sub List.nodup_range all
    rw [List.length_range] at this
    omega
  obtain ⟨v, h1, h2, s, h3, h4⟩ := way_out hw (· ∉ dn) ⟨p, hp1, hp2⟩
  obtain ⟨g1, g2, g3, g4, g5⟩ := hw.good.1 s h3
  obtain ⟨k, hk⟩ := List.getElem?_of_mem h3
  have hkl : k < R.length := (List.getElem?_eq_some_iff.mp hk).1
  have es : rd R k = s := by have := rd_get hkl; rw [hk] at this; exact (Option.some.inj this).symm
  refine ⟨k, hkl, ?_⟩
  rw [es]
  have inn : ∀ x : Int, 0 ≤ x → (x = m ∨ ¬ x.toNat ∉ dn) → x.toNat ∈ dn := fun x x0 h => by
    rcases h with h | h
    · rw [h, Int.toNat_natCast]; exact G.mem
    · exact Classical.byContradiction h
  rcases h4 with ⟨a, b⟩ | ⟨a, b⟩
  · exact .inr ⟨by rw [a, Int.toNat_natCast]; exact h2, inn _ g2 b⟩
  · exact .inl ⟨inn _ g1 b, by rw [a, Int.toNat_natCast]; exact h2⟩
theorem Grown.step {m : Nat} {R : List (Int × Int)} (hR : ∀ s ∈ R, Good m s) {dn tr : List Nat} (G : Grown R m dn tr) {k q : Nat} (hk : k < R.length) (hq : q ∉ dn) (hi : incB q (rd R k) = true) (ho : oe q (rd R k) ∈ dn) : Grown R m (dn ++ [q]) (tr ++ [k]) := by
  obtain ⟨o1, o2, o3, o4⟩ := oe_spec (hR _ (rd_mem hk)) hi
  obtain ⟨g1, g2, g3, g4, g5⟩ := hR _ (rd_mem hk)
  have ends : (rd R k).1.toNat ∈ dn ++ [q] ∧ (rd R k).2.toNat ∈ dn ++ [q] := by
    rcases o4 with ⟨a, b⟩ | ⟨a, b⟩
    · exact ⟨List.mem_append_right _ (by simp; omega), List.mem_append_left _ (by rw [show (rd R k).2.toNat = oe q (rd R k) by omega]; exact ho)⟩
    · exact ⟨List.mem_append_left _ (by rw [show (rd R k).1.toNat = oe q (rd R k) by omega]; exact ho), List.mem_append_right _ (by simp; omega)⟩
  have knew : k ∉ tr := fun z => by
    obtain ⟨_, t1, t2⟩ := G.tin k z
    rcases o4 with ⟨a, b⟩ | ⟨a, b⟩
    · exact hq (by rw [show q = (rd R k).1.toNat by omega]; exact t1)
    · exact hq (by rw [show q = (rd R k).2.toNat by omega]; exact t2)
  refine ⟨List.nodup_append.mpr ⟨G.nd, by simp, fun x hx y hy e => ?_⟩, fun x hx => ?_, ?_, List.nodup_append.mpr ⟨G.tnd, by simp, fun x hx y hy e => ?_⟩, fun x hx => ?_, fun i v h0 hv => ?_⟩
  · simp at hy; subst hy; subst e; exact hq hx
  · rcases List.mem_append.mp hx with h | h
    · exact G.le x h
    · simp at h; subst h
      rcases o4 with ⟨a, b⟩ | ⟨a, b⟩ <;> omega
  · have := (List.getElem?_eq_some_iff.mp G.hd).1
    rw [List.getElem?_append_left this]; exact G.hd
  · simp at hy; subst hy; subst e; exact knew hx
  · rcases List.mem_append.mp hx with h | h
    · obtain ⟨t0, t1, t2⟩ := G.tin x h
      exact ⟨t0, List.mem_append_left _ t1, List.mem_append_left _ t2⟩
    · simp at h; subst h
      exact ⟨hk, ends.1, ends.2⟩
  · by_cases hl : i < dn.length
    · rw [List.getElem?_append_left hl] at hv
      obtain ⟨k', h1, h2, j, h3, h4⟩ := G.way i v h0 hv
      exact ⟨k', List.mem_append_left _ h1, h2, j, h3, by rw [List.getElem?_append_left (by omega)]; exact h4⟩
    · rw [List.getElem?_append_right (by omega)] at hv
      have hi0 : i - dn.length = 0 := by
        have := (List.getElem?_eq_some_iff.mp hv).1
        simpa using this
      rw [hi0] at hv
      simp at hv
      subst hv
      obtain ⟨j, hj⟩ := List.getElem?_of_mem ho
      have hjl := (List.getElem?_eq_some_iff.mp hj).1
      exact ⟨k, by simp, hi, j, by omega, by rw [List.getElem?_append_left hjl]; exact hj⟩
theorem Grown.tree {m : Nat} {R : List (Int × Int)} (m0 : 0 < m) (hR : ∀ s ∈ R, Good m s) {dn tr : List Nat} (G : Grown R m dn tr) (hl : dn.length = m + 1) (htl : tr.length = m) {t : List Nat} (hp : t.Perm tr) (hs : t.Pairwise (· < ·)) : TreeP R m t := by
  have htlt : ∀ k ∈ t, k < R.length := fun k hk => (G.tin k (hp.mem_iff.mp hk)).1
  refine ⟨by rw [hp.length_eq, htl], hs, htlt, fun v hv hn => ?_⟩
  have hT : ∀ s ∈ treeR R t, Good m s := fun s hs => by
    obtain ⟨k, hk, rfl⟩ := List.mem_map.mp hs
    exact hR _ (rd_mem (htlt k hk))
  have gS := good_steps (L := []) hT (fun s hs => absurd hs (by simp))
  have I := linv gS m
  have lend := fun {v : Nat} hv hn => lead_end (v := v) m0 gS hv hn
  generalize leadF (stepsL (treeR R t) []) (far0 m) m = F at *
  have hall : ∀ v, v < m → v ∈ dn := fun v hv => Classical.byContradiction fun z => by
    have := len_sub (K := (List.range (m + 1)).erase v) G.nd fun x hx => (List.mem_erase_of_ne (fun e : x = v => z (by rw [← e]; exact hx))).mpr (List.mem_range.mpr (by have := G.le x hx; omega))
    rw [List.length_erase_of_mem (List.mem_range.mpr (by omega)), List.length_range] at this
    omega
  have key : ∀ (i q : Nat), dn[i]? = some q → F q ≠ none := by
    intro i
    induction i using Nat.strongRecOn with
    | _ i ih =>
      intro q hq z
      by_cases i0 : i = 0
      · subst i0
        rw [G.hd] at hq
        cases hq
        rw [I.pit] at z; cases z
      · obtain ⟨k, h1, h2, j, h3, h4⟩ := G.way i q (by omega) hq
        have hkt : k ∈ t := hp.mem_iff.mpr h1
        have hg := hR _ (rd_mem (htlt k hkt))
        obtain ⟨o1, o2, o3, o4⟩ := oe_spec hg h2
        obtain ⟨g1, g2, g3, g4, g5⟩ := hg
        have hqm : q < m := by
          have := G.le q (List.mem_of_getElem? hq)
          by_cases e : q = m
          · rw [e, I.pit] at z; cases z
          · omega
        have mem : rd R k ∈ treeR R t := List.mem_map.mpr ⟨k, hkt, rfl⟩
        have sm : ∀ s, s ∈ treeR R t ∨ s.swap ∈ treeR R t → s ∈ stepsL (treeR R t) [] := fun s h => by
          unfold stepsL
          rw [List.append_nil, List.mem_append, List.mem_map]
          rcases h with h | h
          · exact .inl h
          · exact .inr ⟨s.swap, h, by simp⟩
        rcases o4 with ⟨a, b⟩ | ⟨a, b⟩
        · have := lend hqm z (rd R k) (sm _ (.inl mem)) (by omega)
          rw [show (rd R k).2.toNat = oe q (rd R k) by omega] at this
          exact ih j h3 _ h4 this
        · have := lend hqm z (rd R k).swap (sm _ (.inr (by simpa using mem))) (by simp; omega)
          rw [show (rd R k).swap.2.toNat = oe q (rd R k) by simp; omega] at this
          exact ih j h3 _ h4 this
  obtain ⟨i, hi⟩ := List.getElem?_of_mem (hall v hv)
  exact key i v hi hn
theorem sort_nats (tr : List Nat) : ∃ t : List Nat, t.Perm tr ∧ (srtI (tr.map fun (p : Nat) => (p : Int))).map D.int = t.map (fun (p : Nat) => D.int (p : Int)) ∧ (tr.Nodup → t.Pairwise (· < ·)) := by
  have hp := srtI_perm (tr.map fun (p : Nat) => (p : Int))
  have hs := srtI_sorted (tr.map fun (p : Nat) => (p : Int))
  generalize srtI (tr.map fun (p : Nat) => (p : Int)) = S at hp hs
  have h0 : ∀ x ∈ S, 0 ≤ x := fun x hx => by
    obtain ⟨n, _, rfl⟩ := List.mem_map.mp (hp.mem_iff.mp hx)
    omega
  have ht : (S.map Int.toNat).Perm tr := by
    have := hp.map Int.toNat
    rw [List.map_map] at this
    have e : (Int.toNat ∘ fun (p : Nat) => (p : Int)) = id := by funext p; simp
    rw [e, List.map_id] at this
    exact this
  refine ⟨S.map Int.toNat, ht, ?_, fun nd => ?_⟩
  · rw [List.map_map]
    exact List.map_congr_left fun x hx => by
      have := h0 x hx
      show D.int x = D.int (x.toNat : Int)
      rw [Int.toNat_of_nonneg this]
  · have nd' : (S.map Int.toNat).Nodup := ht.nodup_iff.mpr nd
    have hle : (S.map Int.toNat).Pairwise (· ≤ ·) := by
      rw [List.pairwise_map]
      exact hs.imp fun h => by omega
    have hne : (S.map Int.toNat).Pairwise (· ≠ ·) := nd'
    exact (hle.and hne).imp fun ⟨a, b⟩ => by omega
theorem ev_xor {fa fb : DE} {ρ : En} {a b : Bool} (ha : fa ρ = some ⟨.bl a, true, []⟩) (hb : fb ρ = some ⟨.bl b, true, []⟩) : dOp gNe fa fb ρ = some ⟨.bl (a != b), true, []⟩ := by
  refine ev_op ha hb ?_
  cases a <;> cases b <;> rfl
noncomputable def crossB (R : List (Int × Int)) (dn : List Nat) (k : Nat) : Bool := dn.contains (rd R k).1.toNat != dn.contains (rd R k).2.toNat
theorem treel_ok {dc : Den} (hc : CellOk dc) : TreeLOk (denOf 10 (G__law_tree dc)) := fun ns a m R m0 m8 hw => by
  have hR := hw.good.1
  have hRl : R.length ≤ 200 := hw.good.2.2.1
  have key : Run (G__law_tree dc) (startEn 10 [.lst (ns.map .int), .int a, netD m R []]) (Rt fun d fr => ∃ t, d = natsD t ∧ fr = true ∧ TreeP R m t) := by
    have cell : ∀ (ρ : En) (fk : DE) (k : Nat), ρ[0]? = some (some (.lst (ns.map .int), false)) → fk ρ = some ⟨.int k, true, []⟩ → dCall 2 dc [] (dCons (dVar 0) (dCons fk dNil)) ρ = some ⟨.int (ns.getD k 0), true, []⟩ := fun ρ fk k h0 hk => by
      refine ev_call (ev_cons (ev_var h0) (ev_cons hk (ev_nil _))) ?_ rfl
      exact hc ns k
    have it : ∀ {ρ : En}, ρ[2]? = some (some (netD m R [], false)) → dVar 2 ρ = some ⟨netD m R [], false, []⟩ := fun h => ev_var h
    refine run_seq (run_asg (r := ⟨natsD [m], true, []⟩) rfl ?_)
    rw [asg_nil]
    refine run_seq (run_asg (r := ⟨natsD [], true, []⟩) rfl ?_)
    rw [asg_nil]
    refine run_then (P := fun ρ => ∃ dn tr j5 j6 j7 j8 j9, dn.length = m + 1 ∧ tr.length = m ∧ Grown R m dn tr ∧ ρ = [some (.lst (ns.map .int), false), some (.int a, true), some (netD m R [], false), some (natsD dn, true), some (natsD tr, true), j5, j6, j7, j8, j9]) ?_ ?_
    · refine run_for (toD := fun (k : Nat) => .int (k : Int)) (List.range m) (fun i ρ => ∃ dn tr j5 j6 j7 j8 j9, dn.length = i + 1 ∧ tr.length = i ∧ Grown R m dn tr ∧ ρ = [some (.lst (ns.map .int), false), some (.int a, true), some (netD m R [], false), some (natsD dn, true), some (natsD tr, true), j5, j6, j7, j8, j9]) (ev_range (n := m) (r := ⟨.int m, true, []⟩) rfl rfl (by omega)) rfl ⟨[m], [], none, none, none, none, none, rfl, rfl, ⟨by simp, by simp, rfl, by simp, by simp, fun i q h0 h => by
          have := (List.getElem?_eq_some_iff.mp h).1
          simp at this; omega⟩, rfl⟩ ?_ ?_
      · rintro i i' ρ hi ⟨dn, tr, j5, j6, j7, j8, j9, hdl, htl, G, rfl⟩
        have hi' : i < m ∧ i = i' := by
          obtain ⟨h1, h2⟩ := List.getElem?_eq_some_iff.mp hi
          simp at h1 h2; exact ⟨h1, h2⟩
        obtain ⟨him, rfl⟩ := hi'
        refine ⟨[some (.lst (ns.map .int), false), some (.int a, true), some (netD m R [], false), some (natsD dn, true), some (natsD tr, true), some (.int i, true), j6, j7, j8, j9], rfl, ?_⟩
        refine run_seq (run_asg (r := ⟨natsD [], true, []⟩) rfl ?_)
        rw [asg_nil]
        refine run_then (P := fun ρ => ∃ j7, ρ = [some (.lst (ns.map .int), false), some (.int a, true), some (netD m R [], false), some (natsD dn, true), some (natsD tr, true), some (.int i, true), some (natsD ((List.range R.length).filter (crossB R dn)), true), j7, j8, j9]) ?_ ?_
        · refine run_for (toD := fun (k : Nat) => .int (k : Int)) (List.range R.length) (fun n ρ => ∃ j7, ρ = [some (.lst (ns.map .int), false), some (.int a, true), some (netD m R [], false), some (natsD dn, true), some (natsD tr, true), some (.int i, true), some (natsD ((List.range n).filter (crossB R dn)), true), j7, j8, j9]) (ev_range (n := R.length) (by rw [ev_len (xs := R.map pairD) (ev_item (m := m) (R := R) (L := []) (it rfl) rfl).2.1 rfl, List.length_map]) rfl (by omega)) rfl ⟨j7, rfl⟩ ?_ ?_
          · rintro k k' ρ hk ⟨j7, rfl⟩
            have hk' : k < R.length ∧ k = k' := by
              obtain ⟨h1, h2⟩ := List.getElem?_eq_some_iff.mp hk
              simp at h1 h2; exact ⟨h1, h2⟩
            obtain ⟨hkR, rfl⟩ := hk'
            obtain ⟨g1, g2, g3, g4, g5⟩ := hR _ (rd_mem hkR)
            have hlen : ((List.range k).filter (crossB R dn)).length ≤ k := by
              have := List.length_filter_le (crossB R dn) (List.range k)
              rw [List.length_range] at this; exact this
            have er : ∀ {ρ : En}, ρ[2]? = some (some (netD m R [], false)) → ρ[7]? = some (some (.int k, true)) → dIdx (dIdx (dVar 2) (dC (.int 1))) (dVar 7) ρ = some ⟨pairD (rd R k), true, []⟩ := fun {ρ} h1 h2 => ev_idxRd (R := R) (k := k) (ev_item (m := m) (R := R) (L := []) (it h1) rfl).2.1 rfl (ev_var h2) rfl hkR
            have e0 : ∀ {ρ : En}, ρ[2]? = some (some (netD m R [], false)) → ρ[7]? = some (some (.int k, true)) → dIdx (dIdx (dIdx (dVar 2) (dC (.int 1))) (dVar 7)) (dC (.int 0)) ρ = some ⟨.int ((rd R k).1.toNat : Int), true, []⟩ := fun {ρ} h1 h2 => by
              rw [Int.toNat_of_nonneg g1]
              unfold dIdx at *
              rw [er h1 h2]; rfl
            have e1 : ∀ {ρ : En}, ρ[2]? = some (some (netD m R [], false)) → ρ[7]? = some (some (.int k, true)) → dIdx (dIdx (dIdx (dVar 2) (dC (.int 1))) (dVar 7)) (dC (.int 1)) ρ = some ⟨.int ((rd R k).2.toNat : Int), true, []⟩ := fun {ρ} h1 h2 => by
              rw [Int.toNat_of_nonneg g2]
              unfold dIdx at *
              rw [er h1 h2]; rfl
            refine ⟨[some (.lst (ns.map .int), false), some (.int a, true), some (netD m R [], false), some (natsD dn, true), some (natsD tr, true), some (.int i, true), some (natsD ((List.range k).filter (crossB R dn)), true), some (.int k, true), j8, j9], rfl, ?_⟩
            refine run_seq (run_if (b := crossB R dn k) (ev_tru (ev_xor (a := dn.contains (rd R k).1.toNat) (b := dn.contains (rd R k).2.toNat) (ev_inN (neg := false) (o := (rd R k).1.toNat) (l := dn) (e0 rfl rfl) rfl (rb := ⟨natsD dn, true, [3]⟩) rfl rfl) (ev_inN (neg := false) (o := (rd R k).2.toNat) (l := dn) (e1 rfl rfl) rfl (rb := ⟨natsD dn, true, [3]⟩) rfl rfl)) rfl) (fun hx => ?_) (fun hx => ?_))
            · refine run_seq (run_appN (l := (List.range k).filter (crossB R dn)) (v := k) (r := ⟨.int k, true, []⟩) rfl rfl rfl (by omega) (run_nil (run_nil ⟨some (.int k, true), ?_⟩)))
              rw [List.range_succ, List.filter_append, List.filter_cons, if_pos hx]; rfl
            · refine run_nil (run_nil ⟨some (.int k, true), ?_⟩)
              rw [List.range_succ, List.filter_append, List.filter_cons, if_neg (by rw [hx]; simp), List.filter_nil, List.append_nil]
          · rintro ρ ⟨j7, rfl⟩
            rw [List.length_range]
            exact ⟨_, rfl⟩
        rintro ρ ⟨j7, rfl⟩
        obtain ⟨k0, hk0, hcr⟩ := grow_ex hw G (by omega)
        have hNp : 0 < ((List.range R.length).filter (crossB R dn)).length := List.length_pos_of_mem (List.mem_filter.mpr ⟨List.mem_range.mpr hk0, by
          unfold crossB
          rcases hcr with ⟨x, y⟩ | ⟨x, y⟩ <;> simp [x, y]⟩)
        have hNin : ∀ k ∈ (List.range R.length).filter (crossB R dn), k < R.length ∧ crossB R dn k = true := fun k hk => ⟨List.mem_range.mp (List.mem_filter.mp hk).1, (List.mem_filter.mp hk).2⟩
        generalize (List.range R.length).filter (crossB R dn) = N at *
        refine run_seq (run_asg (ev_add (a := ns.getD (a + i) 0 * 69621 + ns.getD (2 + i) 0 * ((i : Int) * i + 5)) (b := i) (ev_add (a := ns.getD (a + i) 0 * 69621) (b := ns.getD (2 + i) 0 * ((i : Int) * i + 5)) (ev_mul (a := ns.getD (a + i) 0) (b := 69621) (cell _ _ (a + i) rfl (ev_add (a := a) (b := i) rfl rfl rfl rfl)) rfl rfl rfl (mulOk_r (by decide))) rfl (ev_mul (a := ns.getD (2 + i) 0) (b := (i : Int) * i + 5) (cell _ _ (2 + i) rfl (ev_add (a := 2) (b := i) rfl rfl rfl rfl)) rfl (ev_add (a := (i : Int) * i) (b := 5) (ev_mul (a := i) (b := i) rfl rfl rfl rfl (mulOk_l (by omega))) rfl rfl rfl) rfl (mulOk_r (by
          have h1 : (i : Int) * i ≤ 8 * 8 := Int.mul_le_mul (by omega) (by omega) (by omega) (by omega)
          have h2 : 0 ≤ (i : Int) * i := Int.mul_nonneg (by omega) (by omega)
          omega))) rfl) rfl rfl rfl) ?_)
        rw [asg_nil]
        generalize ns.getD (a + i) 0 * 69621 + ns.getD (2 + i) 0 * ((i : Int) * i + 5) + (i : Int) = n
        have x0 := Int.emod_nonneg (n % 2147483629) (by omega : (N.length : Int) ≠ 0)
        have x1 := Int.emod_lt_of_pos (n % 2147483629) (by omega : (0 : Int) < N.length)
        obtain ⟨k, hkN⟩ : ∃ k, N[(n % 2147483629 % (N.length : Int)).toNat]? = some k := ⟨_, List.getElem?_eq_getElem (by omega)⟩
        obtain ⟨hkR, hkc⟩ := hNin k (List.mem_of_getElem? hkN)
        obtain ⟨g1, g2, g3, g4, g5⟩ := hR _ (rd_mem hkR)
        refine run_seq (run_appN (l := tr) (v := k) rfl (ev_idxN (l := N) (i := n % 2147483629 % (N.length : Int)) (v := k) (ra := ⟨natsD N, true, [6]⟩) rfl rfl (ev_mod (a := n % 2147483629) (b := N.length) (ev_mod (a := n) (b := 2147483629) rfl rfl rfl rfl (by decide)) rfl (ev_lenN (l := N) (r := ⟨natsD N, true, [6]⟩) rfl rfl) rfl (by omega)) rfl x0 hkN) rfl (by omega) ?_)
        obtain ⟨a1, ea⟩ : ∃ a1 : Nat, (rd R k).1 = a1 := ⟨(rd R k).1.toNat, by omega⟩
        obtain ⟨b1, eb⟩ : ∃ b1 : Nat, (rd R k).2 = b1 := ⟨(rd R k).2.toNat, by omega⟩
        have hx : (a1 ∈ dn ∧ b1 ∉ dn) ∨ (a1 ∉ dn ∧ b1 ∈ dn) := by
          unfold crossB at hkc
          rw [ea, eb, Int.toNat_natCast, Int.toNat_natCast] at hkc
          by_cases p1 : a1 ∈ dn <;> by_cases p2 : b1 ∈ dn <;> simp [p1, p2] at hkc ⊢
        have hab : a1 ≠ b1 := by omega
        have enext : ∃ q, q ∉ dn ∧ incB q (rd R k) = true ∧ oe q (rd R k) ∈ dn ∧ ((if b1 ∈ (if a1 ∈ dn then dn else dn ++ [a1]) then (if a1 ∈ dn then dn else dn ++ [a1]) else (if a1 ∈ dn then dn else dn ++ [a1]) ++ [b1]) = dn ++ [q]) := by
          rcases hx with ⟨x, y⟩ | ⟨x, y⟩
          · refine ⟨b1, y, by unfold incB; rw [eb]; simp, by rw [show oe b1 (rd R k) = a1 by unfold oe; omega]; exact x, ?_⟩
            rw [if_pos x, if_neg y]
          · refine ⟨a1, x, by unfold incB; rw [ea]; simp, by rw [show oe a1 (rd R k) = b1 by unfold oe; omega]; exact y, ?_⟩
            rw [if_neg x, if_pos (List.mem_append_left _ y)]
        obtain ⟨q, hq1, hq2, hq3, hq4⟩ := enext
        have eit : dIdx (dIdx (dVar 2) (dC (.int 1))) (dIdx (dVar 4) (dVar 5)) [some (.lst (ns.map .int), false), some (.int a, true), some (netD m R [], false), some (natsD dn, true), some (natsD (tr ++ [k]), true), some (.int i, true), some (natsD N, true), j7, some (.int n, true), j9] = some ⟨pairD (rd R k), true, []⟩ :=
          ev_idxRd (R := R) (k := k) (ev_item (m := m) (R := R) (L := []) (it rfl) rfl).2.1 rfl (ev_idxN (l := tr ++ [k]) (i := i) (v := k) (ra := ⟨natsD (tr ++ [k]), true, [4]⟩) (rb := ⟨.int i, true, []⟩) rfl rfl rfl rfl (by omega) (by rw [Int.toNat_natCast, ← htl]; simp)) rfl hkR
        have pd : pairD (rd R k) = .tup [.int (a1 : Int), .int (b1 : Int)] := by unfold pairD; rw [ea, eb]
        refine run_then (P := fun ρ => ∃ j9, ρ = [some (.lst (ns.map .int), false), some (.int a, true), some (netD m R [], false), some (natsD (dn ++ [q]), true), some (natsD (tr ++ [k]), true), some (.int i, true), some (natsD N, true), j7, some (.int n, true), j9]) ?_ ?_
        · refine run_for (toD := fun (x : Nat) => .int (x : Int)) [a1, b1] (fun s ρ => ∃ j9, ρ = [some (.lst (ns.map .int), false), some (.int a, true), some (netD m R [], false), some (natsD ([a1, b1].take s |>.foldl (fun l x => if x ∈ l then l else l ++ [x]) dn), true), some (natsD (tr ++ [k]), true), some (.int i, true), some (natsD N, true), j7, some (.int n, true), j9]) (ir := ⟨[.int (a1 : Int), .int (b1 : Int)], []⟩) (by
              unfold iVal
              show (dIdx (dIdx (dVar 2) (dC (.int 1))) (dIdx (dVar 4) (dVar 5)) [some (.lst (ns.map .int), false), some (.int a, true), some (netD m R [], false), some (natsD dn, true), some (natsD (tr ++ [k]), true), some (.int i, true), some (natsD N, true), j7, some (.int n, true), j9]).bind _ = _
              rw [eit, Option.bind_some, pd]; rfl) rfl ⟨j9, rfl⟩ ?_ ?_
          · rintro s x ρ hs ⟨j9, rfl⟩
            have hfold : ([a1, b1].take (s + 1)).foldl (fun l x => if x ∈ l then l else l ++ [x]) dn = (if x ∈ ([a1, b1].take s).foldl (fun l x => if x ∈ l then l else l ++ [x]) dn then ([a1, b1].take s).foldl (fun l x => if x ∈ l then l else l ++ [x]) dn else ([a1, b1].take s).foldl (fun l x => if x ∈ l then l else l ++ [x]) dn ++ [x]) := by
              rw [List.take_succ, hs, List.foldl_append]; rfl
            have hlen : (([a1, b1].take s).foldl (fun l x => if x ∈ l then l else l ++ [x]) dn).length ≤ dn.length + 2 := by
              have hs2 : s < 2 := by simpa using (List.getElem?_eq_some_iff.mp hs).1
              have hs3 : s = 0 ∨ s = 1 := by omega
              rcases hs3 with rfl | rfl
              · simp
              · simp; split <;> simp <;> omega
            rw [hfold]
            generalize ([a1, b1].take s).foldl (fun l x => if x ∈ l then l else l ++ [x]) dn = l at *
            refine ⟨[some (.lst (ns.map .int), false), some (.int a, true), some (netD m R [], false), some (natsD l, true), some (natsD (tr ++ [k]), true), some (.int i, true), some (natsD N, true), j7, some (.int n, true), some (.int x, true)], rfl, ?_⟩
            refine run_seq (run_if (b := !l.contains x) (ev_tru (ev_inN (neg := true) (o := x) (l := l) (ra := ⟨.int x, true, []⟩) (rb := ⟨natsD l, true, [3]⟩) rfl rfl rfl rfl) rfl) (fun h => ?_) (fun h => ?_))
            · have h : x ∉ l := by simpa using h
              refine run_seq (run_appN (l := l) (v := x) (r := ⟨.int x, true, []⟩) rfl rfl rfl (by omega) (run_nil (run_nil ⟨some (.int x, true), ?_⟩)))
              rw [if_neg h]; rfl
            · have h : x ∈ l := by simpa using h
              refine run_nil (run_nil ⟨some (.int x, true), ?_⟩)
              rw [if_pos h]
          · rintro ρ ⟨j9, rfl⟩
            refine ⟨j9, ?_⟩
            have : ([a1, b1].take [a1, b1].length).foldl (fun l x => if x ∈ l then l else l ++ [x]) dn = dn ++ [q] := by
              rw [← hq4]; rfl
            rw [this]
        rintro ρ ⟨j9, rfl⟩
        exact run_nil ⟨dn ++ [q], tr ++ [k], _, _, _, _, _, by simp [hdl], by simp [htl], G.step hR hkR hq1 hq2 hq3, rfl⟩
      · rintro ρ ⟨dn, tr, j5, j6, j7, j8, j9, hdl, htl, G, rfl⟩
        rw [List.length_range] at hdl htl
        exact ⟨dn, tr, _, _, _, _, _, hdl, htl, G, rfl⟩
    rintro ρ ⟨dn, tr, j5, j6, j7, j8, j9, hdl, htl, G, rfl⟩
    obtain ⟨t, t1, t2, t3⟩ := sort_nats tr
    refine run_retL (r := ⟨natsD t, true, []⟩) ?_ ⟨t, rfl, rfl, G.tree m0 hR hdl htl t1 (t3 G.tnd)⟩
    unfold dSort
    show (dInts (tr.map fun (p : Nat) => D.int (p : Int))).bind _ = _
    have := dInts_of (tr.map fun (p : Nat) => (p : Int))
    rw [List.map_map] at this
    rw [show (tr.map fun (p : Nat) => D.int (p : Int)) = tr.map (D.int ∘ fun (p : Nat) => (p : Int)) from rfl, this, Option.bind_some, if_pos (by rw [List.length_map]; omega), t2]
    rfl
  obtain ⟨o, h1, h2⟩ := key
  cases o with
  | rt d fr =>
    obtain ⟨t, rfl, rfl, h3⟩ := h2
    exact ⟨t, by unfold denOf; rw [h1]; rfl, h3⟩
  | _ => exact h2.elim
end HS
namespace HS
open PySem L2
noncomputable def G_law_k52 (d__law_net : Den) (d__law_tree : Den) (d_heap_of : Den) (d__law_numbers : Den) (d__law_due : Den) (d_comes_again : Den) : DS := (sSeq (sAsg 1 (dCall 1 d__law_net [] (dCons (dVar 0) dNil))) (sSeq (sAsg 2 (dCall 3 d__law_tree [] (dCons (dVar 0) (dCons (dC (.int 26)) (dCons (dVar 1) dNil))))) (sSeq (sAsg 3 (dLst (dCons (dList (dCons (dVar 2) dNil)) (dCons (dTup (dCons (dIdx (dVar 1) (dC (.int 0))) (dCons (dList (dCons (dIdx (dVar 1) (dC (.int 1))) dNil)) (dCons (dLst dNil) dNil)))) dNil)))) (sSeq (sAsg 4 (dCall 2 d_heap_of [] (dCons (dIdx (dVar 3) (dC (.int 1))) (dCons (dIdx (dVar 3) (dC (.int 0))) dNil)))) (sSeq (sIf (bOr (bNot (dTru (dCall 2 d__law_numbers [] (dCons (dVar 4) (dCons (dIdx (dVar 1) (dC (.int 0))) dNil))))) (bOr (dTru (dOp gNe (dVar 4) (dCall 2 d__law_due [] (dCons (dVar 1) (dCons (dVar 2) dNil))))) (dTru (dOp gNe (dVar 3) (dLst (dCons (dVar 2) (dCons (dVar 1) dNil))))))) (sSeq (sRet (dC (.bl false))) sNil) sNil) (sSeq (sIf (dTru (dOp (gIsX true) (dCall 2 d_comes_again [] (dCons (dVar 1) (dCons (dVar 4) dNil))) (dC (.bl true)))) (sSeq (sRet (dC (.bl false))) sNil) sNil) (sSeq (sAsg 5 (dList (dCons (dVar 4) dNil))) (sSeq (sApp 4 pNil (dNeg (dC (.int 1)))) (sSeq (sAsg 6 (dCall 3 d__law_tree [] (dCons (dVar 0) (dCons (dC (.int 34)) (dCons (dVar 1) dNil))))) (sSeq (sClr 3 (pSnoc pNil (dC (.int 0)))) (sSeq (sAsg 7 (dCall 2 d_heap_of [] (dCons (dVar 1) (dCons (dVar 6) dNil)))) (sSeq (sIf (bOr (bNot (dTru (dCall 2 d__law_numbers [] (dCons (dVar 7) (dCons (dIdx (dVar 1) (dC (.int 0))) dNil))))) (dTru (dOp gNe (dVar 7) (dCall 2 d__law_due [] (dCons (dVar 1) (dCons (dVar 6) dNil)))))) (sSeq (sRet (dC (.bl false))) sNil) sNil) (sSeq (sRet (dAnd (dOp gEq (dCall 2 d_heap_of [] (dCons (dVar 1) (dCons (dVar 2) dNil))) (dVar 5)) (dOp gEq (dVar 4) (dAdd (dVar 5) (dLst (dCons (dNeg (dC (.int 1))) dNil)))))) sNil)))))))))))))
theorem ev_addM1 {fa : DE} {ρ : En} {ra : R} {m : Nat} {f : Nat → Int} (ha : fa ρ = some ra) (ea : ra.d = rowD m f) (hm : m ≤ 1000) : dAdd fa (dLst (dCons (dNeg (dC (.int 1))) dNil)) ρ = some ⟨rowD (m + 1) (up f m (-1)), true, []⟩ := by
  have hb : dLst (dCons (dNeg (dC (.int 1))) dNil) ρ = some ⟨.lst [.int (-1)], true, []⟩ := rfl
  unfold dAdd
  rw [ha, Option.bind_some, hb, Option.bind_some, ea]
  simp only [rowD, List.length_map, List.length_range, line0]
  rw [if_pos (by simp; omega)]
  unfold newL
  rw [if_pos (by rw [flats_append, Bool.and_eq_true]; exact ⟨flats_map (fun _ => rfl) _, rfl⟩)]
  congr 3
  rw [List.range_succ, List.map_append]
  congr 1
  · refine List.map_congr_left fun i hi => ?_
    rw [up_row, if_neg (by have := List.mem_range.mp hi; omega)]
  · show _ = [D.int (up f m (-1) m)]
    rw [up_row, if_pos rfl]
theorem ev_listN {ρ : En} {l : List Nat} {fs : DA} {rs : RA} (h : fs ρ = some rs) (e : rs.ds = [natsD l]) : dList fs ρ = some ⟨natsD l, true, []⟩ := by
  unfold dList
  rw [h, Option.bind_some, e]
  unfold natsD newL
  simp only []
  rw [if_pos (flats_map (fun _ => rfl) _)]
theorem run_clr0 {x : Nat} {a : D} {xs : List D} {ρ : En} {Q : Out → Prop} (hx : ρ[x]? = some (some (.lst [.lst xs, a], true))) (q : Q (.nx (ρ.set x (some (.lst [.lst [], a], true))))) : Run (sClr x (pSnoc pNil (dC (.int 0)))) ρ Q := by
  refine ⟨_, ?_, q⟩
  unfold sClr
  rw [hx]
  rfl
set_option maxHeartbeats 0 in
theorem k52_ok {dn dt dh du dd da : Den} (hn : NetFOk dn) (ht : TreeLOk dt) (hh : HeapOfOk dh) (hu : NumUOk du) (hd : LDueOk dd) (ha : ComesOk da) (ns : List Int) (hl : ns.length ≤ 63) : denOf 8 (G_law_k52 dn dt dh du dd da) [.lst (ns.map .int)] = some (.bl true, true) := by
  obtain ⟨m, R, en, m0, m8, hw⟩ := hn ns hl
  have hR := hw.good.1
  have hRl : R.length ≤ 200 := hw.good.2.2.1
  obtain ⟨t, et, T⟩ := ht ns 26 m R m0 m8 hw
  obtain ⟨t2, et2, T2⟩ := ht ns 34 m R m0 m8 hw
  obtain ⟨dep, D1, F1⟩ := dep_of hR T.lt T.con
  obtain ⟨dep2, D2, F2⟩ := dep_of hR T2.lt T2.con
  have eh := hh m R t dep m0 m8 hRl hR T D1 F1
  have eh2 := hh m R t2 dep2 m0 m8 hRl hR T2 D2 F2
  have ed := hd m R t dep m8 hRl hR D1
  have ed2 := hd m R t2 dep2 m8 hRl hR D2
  have h0 : ∀ j, j < m → 0 ≤ treeH R dep t j := fun j hj => by
    have := (treeH_bounds hR D1 hj).1
    omega
  have ec := ha m R (treeH R dep t) m0 (by omega) (by omega) hR h0
  rw [tree_comes hR D1] at ec
  generalize treeH R dep t = h at *
  generalize treeH R dep2 t2 = h2 at *
  clear D1 D2 F1 F2 T T2
  have it : ∀ {ρ : En} {b : Bool}, ρ[1]? = some (some (netD m R [], b)) → dIdx (dVar 1) (dC (.int 0)) ρ = some ⟨.int m, true, []⟩ := fun {ρ b} h => (ev_item (m := m) (R := R) (L := []) (ev_var h) (by cases b <;> rfl)).1
  have sH : (D.lst [natsD t, netD m R []]).sim 8 = true := by
    simp only [D.sim, List.all_cons, List.all_nil, Bool.and_true, Bool.and_eq_true]
    refine ⟨sim_nats 6 _, ?_⟩
    unfold netD
    simp only [D.sim, List.all_cons, List.all_nil, Bool.and_true, Bool.true_and, Bool.and_eq_true]
    exact ⟨sim_pairs 4 R, sim_pairs 4 []⟩
  refine den_of ?_
  refine run_seq (run_asg (ev_call (r := ⟨[.lst (ns.map .int)], false, []⟩) rfl en rfl) ?_)
  rw [asg_nil]
  refine run_seq (run_asg (ev_call (r := ⟨[.lst (ns.map .int), .int ((26 : Nat) : Int), netD m R []], false, [1]⟩) rfl et rfl) ?_)
  rw [asg_nil]
  refine run_seq (run_asg (r := ⟨.lst [natsD t, netD m R []], true, []⟩) ?_ ?_)
  · refine (ev_lst (rs := ⟨[natsD t, netD m R []], true, []⟩) ?_ (by simp)).trans rfl
    exact ev_cons (ev_listN (l := t) (rs := ⟨[natsD t], true, [2]⟩) rfl rfl) (ev_cons (ev_handedP (r := ⟨netD m R [], true, [1]⟩) rfl rfl) (ev_nil _))
  rw [asg_nil]
  refine run_seq (run_asg (ev_call (r := ⟨[netD m R [], natsD t], true, [3, 3]⟩) rfl eh rfl) ?_)
  rw [asg_nil]
  refine run_seqX (run_if (b := false) ((ev_bor (a := false) (b := false) (ev_not (b := true) (ev_tru (b := true) (ev_call (ev_cons (r := ⟨rowD m h, true, [4]⟩) rfl (ev_cons (it rfl) (ev_nil _))) (hu m h) rfl) rfl)) ((ev_bor (a := false) (b := false) (ev_tru (b := false) (ev_neS (d := rowD m h) (ra := ⟨rowD m h, true, [4]⟩) rfl rfl (ev_call (r := ⟨[netD m R [], natsD t], true, [1, 2]⟩) rfl ed rfl) rfl (sim_row 7 _ _)) rfl) (ev_tru (b := false) (ev_neS (d := .lst [natsD t, netD m R []]) (ra := ⟨.lst [natsD t, netD m R []], true, [3]⟩) (rb := ⟨.lst [natsD t, netD m R []], true, [2, 1]⟩) rfl rfl rfl rfl sH) rfl)).trans rfl)).trans rfl) (fun h => by cases h) (fun _ => run_nil ?_))
  refine run_seqX (run_if (b := false) (ev_tru (b := false) (ev_op (d := .bl false) (rb := ⟨.bl true, true, []⟩) (ev_call (r := ⟨[netD m R [], rowD m h], true, [1, 4]⟩) rfl ec rfl) rfl rfl) rfl) (fun h => by cases h) (fun _ => run_nil ?_))
  refine run_seq (run_asg (ev_listR (m := m) (f := h) (rs := ⟨[rowD m h], true, [4]⟩) rfl rfl) ?_)
  rw [asg_nil]
  refine run_seq (run_appR (i := m) (g := h) (v := -1) (r := ⟨.int (-1), true, []⟩) rfl rfl rfl (by omega) ?_)
  refine run_seq (run_asg (ev_call (r := ⟨[.lst (ns.map .int), .int ((34 : Nat) : Int), netD m R []], false, [1]⟩) rfl et2 rfl) ?_)
  rw [asg_nil]
  refine run_seq (run_clr0 (a := netD m R []) (xs := t.map fun (p : Nat) => .int (p : Int)) rfl ?_)
  refine run_seq (run_asg (ev_call (r := ⟨[netD m R [], natsD t2], true, [1, 6]⟩) rfl eh2 rfl) ?_)
  rw [asg_nil]
  refine run_seqX (run_if (b := false) ((ev_bor (a := false) (b := false) (ev_not (b := true) (ev_tru (b := true) (ev_call (ev_cons (r := ⟨rowD m h2, true, [7]⟩) rfl (ev_cons (it rfl) (ev_nil _))) (hu m h2) rfl) rfl)) (ev_tru (b := false) (ev_neS (d := rowD m h2) (ra := ⟨rowD m h2, true, [7]⟩) rfl rfl (ev_call (r := ⟨[netD m R [], natsD t2], true, [1, 6]⟩) rfl ed2 rfl) rfl (sim_row 7 _ _)) rfl)).trans rfl) (fun h => by cases h) (fun _ => run_nil ?_))
  refine run_retL (r := ⟨.bl true, true, []⟩) ((ev_and (a := true) (b := true) (ev_eqS' (d := rowD m h) (ev_call (r := ⟨[netD m R [], natsD t], true, [1, 2]⟩) rfl eh rfl) rfl (rb := ⟨rowD m h, true, [5]⟩) rfl rfl (sim_row 7 _ _)) (ev_eqS' (d := rowD (m + 1) (up h m (-1))) (ra := ⟨rowD (m + 1) (up h m (-1)), true, [4]⟩) rfl rfl (ev_addM1 (m := m) (f := h) (ra := ⟨rowD m h, true, [5]⟩) rfl rfl (by omega)) rfl (sim_row 7 _ _))).trans rfl) ⟨rfl, rfl⟩
end HS
theorem HS.some_of {α : Type} {x : Option α} {d : α} (h : x.isSome = true) : x = some (x.getD d) := by cases x with | none => cases h | some a => rfl
namespace Law
open PySem L2 HS
noncomputable def top (i : Nat) : Stmt := PySem.Challenge.pw_heapstill_k52_heap_of_a_tree.main.body.getD i (.Pass ⟨0, 0, 0, 0⟩)
noncomputable abbrev cst : List (Str × Int) := []
noncomputable abbrev s_need_rows : Stmt := top 7
theorem sc_need_rows : FnScope (namesOf (defScope s_need_rows)) ["net", "rows"] (defScope s_need_rows) := ⟨rfl, rfl, rfl, by decide +kernel, by decide +kernel, by decide +kernel, by decide +kernel⟩
theorem b_need_rows : BindsAll "need_rows" s_need_rows ["net", "rows"] := fun _ _ _ _ _ _ us hl => match us, hl with | [_, _], _ => rfl
noncomputable def g_need_rows : DS := (compSs 60 (thOf s_need_rows ([] : List (Str × FnR)) cst) (defBody s_need_rows)).getD sNever
theorem c_need_rows : compSs 60 (thOf s_need_rows ([] : List (Str × FnR)) cst) (defBody s_need_rows) = some g_need_rows := some_of (by decide +kernel)
noncomputable abbrev d_need_rows : Den := denOf (namesOf (defScope s_need_rows)).length g_need_rows
noncomputable abbrev Γ_need_rows : List (Str × FnR) := ("need_rows", ⟨2, [], d_need_rows⟩) :: ([] : List (Str × FnR))
noncomputable abbrev s_need_heaps : Stmt := top 8
theorem sc_need_heaps : FnScope (namesOf (defScope s_need_heaps)) ["net", "heaps"] (defScope s_need_heaps) := ⟨rfl, rfl, rfl, by decide +kernel, by decide +kernel, by decide +kernel, by decide +kernel⟩
theorem b_need_heaps : BindsAll "need_heaps" s_need_heaps ["net", "heaps"] := fun _ _ _ _ _ _ us hl => match us, hl with | [_, _], _ => rfl
noncomputable def g_need_heaps : DS := (compSs 60 (thOf s_need_heaps Γ_need_rows cst) (defBody s_need_heaps)).getD sNever
theorem c_need_heaps : compSs 60 (thOf s_need_heaps Γ_need_rows cst) (defBody s_need_heaps) = some g_need_heaps := some_of (by decide +kernel)
noncomputable abbrev d_need_heaps : Den := denOf (namesOf (defScope s_need_heaps)).length g_need_heaps
noncomputable abbrev Γ_need_heaps : List (Str × FnR) := ("need_heaps", ⟨2, [], d_need_heaps⟩) :: Γ_need_rows
noncomputable abbrev s_steps : Stmt := top 10
theorem sc_steps : FnScope (namesOf (defScope s_steps)) ["roads", "lanes"] (defScope s_steps) := ⟨rfl, rfl, rfl, by decide +kernel, by decide +kernel, by decide +kernel, by decide +kernel⟩
theorem b_steps : BindsAll "steps" s_steps ["roads", "lanes"] := fun _ _ _ _ _ _ us hl => match us, hl with | [_, _], _ => rfl
noncomputable def g_steps : DS := (compSs 60 (thOf s_steps Γ_need_heaps cst) (defBody s_steps)).getD sNever
theorem c_steps : compSs 60 (thOf s_steps Γ_need_heaps cst) (defBody s_steps) = some g_steps := some_of (by decide +kernel)
noncomputable abbrev d_steps : Den := denOf (namesOf (defScope s_steps)).length g_steps
noncomputable abbrev Γ_steps : List (Str × FnR) := ("steps", ⟨2, [], d_steps⟩) :: Γ_need_heaps
noncomputable abbrev s_toll_table : Stmt := top 11
theorem sc_toll_table : FnScope (namesOf (defScope s_toll_table)) ["net"] (defScope s_toll_table) := ⟨rfl, rfl, rfl, by decide +kernel, by decide +kernel, by decide +kernel, by decide +kernel⟩
theorem b_toll_table : BindsAll "toll_table" s_toll_table ["net"] := fun _ _ _ _ _ _ us hl => match us, hl with | [_], _ => rfl
noncomputable def g_toll_table : DS := (compSs 60 (thOf s_toll_table Γ_steps cst) (defBody s_toll_table)).getD sNever
theorem c_toll_table : compSs 60 (thOf s_toll_table Γ_steps cst) (defBody s_toll_table) = some g_toll_table := some_of (by decide +kernel)
noncomputable abbrev d_toll_table : Den := denOf (namesOf (defScope s_toll_table)).length g_toll_table
noncomputable abbrev Γ_toll_table : List (Str × FnR) := ("toll_table", ⟨1, [], d_toll_table⟩) :: Γ_steps
noncomputable abbrev s_span_list : Stmt := top 12
theorem sc_span_list : FnScope (namesOf (defScope s_span_list)) ["net"] (defScope s_span_list) := ⟨rfl, rfl, rfl, by decide +kernel, by decide +kernel, by decide +kernel, by decide +kernel⟩
theorem b_span_list : BindsAll "span_list" s_span_list ["net"] := fun _ _ _ _ _ _ us hl => match us, hl with | [_], _ => rfl
noncomputable def g_span_list : DS := (compSs 60 (thOf s_span_list Γ_toll_table cst) (defBody s_span_list)).getD sNever
theorem c_span_list : compSs 60 (thOf s_span_list Γ_toll_table cst) (defBody s_span_list) = some g_span_list := some_of (by decide +kernel)
noncomputable abbrev d_span_list : Den := denOf (namesOf (defScope s_span_list)).length g_span_list
noncomputable abbrev Γ_span_list : List (Str × FnR) := ("span_list", ⟨1, [], d_span_list⟩) :: Γ_toll_table
noncomputable abbrev s_leads : Stmt := top 14
theorem sc_leads : FnScope (namesOf (defScope s_leads)) ["many", "roads", "lanes"] (defScope s_leads) := ⟨rfl, rfl, rfl, by decide +kernel, by decide +kernel, by decide +kernel, by decide +kernel⟩
theorem b_leads : BindsAll "leads" s_leads ["many", "roads", "lanes"] := fun _ _ _ _ _ _ us hl => match us, hl with | [_, _, _], _ => rfl
noncomputable def g_leads : DS := (compSs 60 (thOf s_leads Γ_span_list cst) (defBody s_leads)).getD sNever
theorem c_leads : compSs 60 (thOf s_leads Γ_span_list cst) (defBody s_leads) = some g_leads := some_of (by decide +kernel)
noncomputable abbrev d_leads : Den := denOf (namesOf (defScope s_leads)).length g_leads
noncomputable abbrev Γ_leads : List (Str × FnR) := ("leads", ⟨3, [], d_leads⟩) :: Γ_span_list
noncomputable abbrev s_is_plain : Stmt := top 15
theorem sc_is_plain : FnScope (namesOf (defScope s_is_plain)) ["net"] (defScope s_is_plain) := ⟨rfl, rfl, rfl, by decide +kernel, by decide +kernel, by decide +kernel, by decide +kernel⟩
theorem b_is_plain : BindsAll "is_plain" s_is_plain ["net"] := fun _ _ _ _ _ _ us hl => match us, hl with | [_], _ => rfl
noncomputable def g_is_plain : DS := (compSs 60 (thOf s_is_plain Γ_leads cst) (defBody s_is_plain)).getD sNever
theorem c_is_plain : compSs 60 (thOf s_is_plain Γ_leads cst) (defBody s_is_plain) = some g_is_plain := some_of (by decide +kernel)
noncomputable abbrev d_is_plain : Den := denOf (namesOf (defScope s_is_plain)).length g_is_plain
noncomputable abbrev Γ_is_plain : List (Str × FnR) := ("is_plain", ⟨1, [], d_is_plain⟩) :: Γ_leads
noncomputable abbrev s_need_plain : Stmt := top 16
theorem sc_need_plain : FnScope (namesOf (defScope s_need_plain)) ["net"] (defScope s_need_plain) := ⟨rfl, rfl, rfl, by decide +kernel, by decide +kernel, by decide +kernel, by decide +kernel⟩
theorem b_need_plain : BindsAll "need_plain" s_need_plain ["net"] := fun _ _ _ _ _ _ us hl => match us, hl with | [_], _ => rfl
noncomputable def g_need_plain : DS := (compSs 60 (thOf s_need_plain Γ_is_plain cst) (defBody s_need_plain)).getD sNever
theorem c_need_plain : compSs 60 (thOf s_need_plain Γ_is_plain cst) (defBody s_need_plain) = some g_need_plain := some_of (by decide +kernel)
noncomputable abbrev d_need_plain : Den := denOf (namesOf (defScope s_need_plain)).length g_need_plain
noncomputable abbrev Γ_need_plain : List (Str × FnR) := ("need_plain", ⟨1, [], d_need_plain⟩) :: Γ_is_plain
noncomputable abbrev s_roads_among : Stmt := top 18
theorem sc_roads_among : FnScope (namesOf (defScope s_roads_among)) ["toll", "place", "places"] (defScope s_roads_among) := ⟨rfl, rfl, rfl, by decide +kernel, by decide +kernel, by decide +kernel, by decide +kernel⟩
theorem b_roads_among : BindsAll "roads_among" s_roads_among ["toll", "place", "places"] := fun _ _ _ _ _ _ us hl => match us, hl with | [_, _, _], _ => rfl
noncomputable def g_roads_among : DS := (compSs 60 (thOf s_roads_among Γ_need_plain cst) (defBody s_roads_among)).getD sNever
theorem c_roads_among : compSs 60 (thOf s_roads_among Γ_need_plain cst) (defBody s_roads_among) = some g_roads_among := some_of (by decide +kernel)
noncomputable abbrev d_roads_among : Den := denOf (namesOf (defScope s_roads_among)).length g_roads_among
noncomputable abbrev Γ_roads_among : List (Str × FnR) := ("roads_among", ⟨3, [], d_roads_among⟩) :: Γ_need_plain
noncomputable abbrev s_fire : Stmt := top 20
theorem sc_fire : FnScope (namesOf (defScope s_fire)) ["net", "heap"] (defScope s_fire) := ⟨rfl, rfl, rfl, by decide +kernel, by decide +kernel, by decide +kernel, by decide +kernel⟩
theorem b_fire : BindsAll "fire" s_fire ["net", "heap"] := fun _ _ _ _ _ _ us hl => match us, hl with | [_, _], _ => rfl
noncomputable def g_fire : DS := (compSs 60 (thOf s_fire Γ_roads_among cst) (defBody s_fire)).getD sNever
theorem c_fire : compSs 60 (thOf s_fire Γ_roads_among cst) (defBody s_fire) = some g_fire := some_of (by decide +kernel)
noncomputable abbrev d_fire : Den := denOf (namesOf (defScope s_fire)).length g_fire
noncomputable abbrev Γ_fire : List (Str × FnR) := ("fire", ⟨2, [], d_fire⟩) :: Γ_roads_among
noncomputable abbrev s_comes_again : Stmt := top 21
theorem sc_comes_again : FnScope (namesOf (defScope s_comes_again)) ["net", "heap"] (defScope s_comes_again) := ⟨rfl, rfl, rfl, by decide +kernel, by decide +kernel, by decide +kernel, by decide +kernel⟩
theorem b_comes_again : BindsAll "comes_again" s_comes_again ["net", "heap"] := fun _ _ _ _ _ _ us hl => match us, hl with | [_, _], _ => rfl
noncomputable def g_comes_again : DS := (compSs 60 (thOf s_comes_again Γ_fire cst) (defBody s_comes_again)).getD sNever
theorem c_comes_again : compSs 60 (thOf s_comes_again Γ_fire cst) (defBody s_comes_again) = some g_comes_again := some_of (by decide +kernel)
noncomputable abbrev d_comes_again : Den := denOf (namesOf (defScope s_comes_again)).length g_comes_again
noncomputable abbrev Γ_comes_again : List (Str × FnR) := ("comes_again", ⟨2, [], d_comes_again⟩) :: Γ_fire
noncomputable abbrev s_tree_depths : Stmt := top 26
theorem sc_tree_depths : FnScope (namesOf (defScope s_tree_depths)) ["net", "tree"] (defScope s_tree_depths) := ⟨rfl, rfl, rfl, by decide +kernel, by decide +kernel, by decide +kernel, by decide +kernel⟩
theorem b_tree_depths : BindsAll "tree_depths" s_tree_depths ["net", "tree"] := fun _ _ _ _ _ _ us hl => match us, hl with | [_, _], _ => rfl
noncomputable def g_tree_depths : DS := (compSs 60 (thOf s_tree_depths Γ_comes_again cst) (defBody s_tree_depths)).getD sNever
theorem c_tree_depths : compSs 60 (thOf s_tree_depths Γ_comes_again cst) (defBody s_tree_depths) = some g_tree_depths := some_of (by decide +kernel)
noncomputable abbrev d_tree_depths : Den := denOf (namesOf (defScope s_tree_depths)).length g_tree_depths
noncomputable abbrev Γ_tree_depths : List (Str × FnR) := ("tree_depths", ⟨2, [], d_tree_depths⟩) :: Γ_comes_again
noncomputable abbrev s_need_tree : Stmt := top 27
theorem sc_need_tree : FnScope (namesOf (defScope s_need_tree)) ["net", "tree"] (defScope s_need_tree) := ⟨rfl, rfl, rfl, by decide +kernel, by decide +kernel, by decide +kernel, by decide +kernel⟩
theorem b_need_tree : BindsAll "need_tree" s_need_tree ["net", "tree"] := fun _ _ _ _ _ _ us hl => match us, hl with | [_, _], _ => rfl
noncomputable def g_need_tree : DS := (compSs 60 (thOf s_need_tree Γ_tree_depths cst) (defBody s_need_tree)).getD sNever
theorem c_need_tree : compSs 60 (thOf s_need_tree Γ_tree_depths cst) (defBody s_need_tree) = some g_need_tree := some_of (by decide +kernel)
noncomputable abbrev d_need_tree : Den := denOf (namesOf (defScope s_need_tree)).length g_need_tree
noncomputable abbrev Γ_need_tree : List (Str × FnR) := ("need_tree", ⟨2, [], d_need_tree⟩) :: Γ_tree_depths
noncomputable abbrev s_road_ends : Stmt := top 25
theorem sc_road_ends : FnScope (namesOf (defScope s_road_ends)) ["net", "place"] (defScope s_road_ends) := ⟨rfl, rfl, rfl, by decide +kernel, by decide +kernel, by decide +kernel, by decide +kernel⟩
theorem b_road_ends : BindsAll "road_ends" s_road_ends ["net", "place"] := fun _ _ _ _ _ _ us hl => match us, hl with | [_, _], _ => rfl
noncomputable def g_road_ends : DS := (compSs 60 (thOf s_road_ends Γ_need_tree cst) (defBody s_road_ends)).getD sNever
theorem c_road_ends : compSs 60 (thOf s_road_ends Γ_need_tree cst) (defBody s_road_ends) = some g_road_ends := some_of (by decide +kernel)
noncomputable abbrev d_road_ends : Den := denOf (namesOf (defScope s_road_ends)).length g_road_ends
noncomputable abbrev Γ_road_ends : List (Str × FnR) := ("road_ends", ⟨2, [], d_road_ends⟩) :: Γ_need_tree
noncomputable abbrev s_own_choices : Stmt := top 24
theorem sc_own_choices : FnScope (namesOf (defScope s_own_choices)) ["net", "place", "marks"] (defScope s_own_choices) := ⟨rfl, rfl, rfl, by decide +kernel, by decide +kernel, by decide +kernel, by decide +kernel⟩
theorem b_own_choices : BindsAll "own_choices" s_own_choices ["net", "place", "marks"] := fun _ _ _ _ _ _ us hl => match us, hl with | [_, _, _], _ => rfl
noncomputable def g_own_choices : DS := (compSs 60 (thOf s_own_choices Γ_road_ends cst) (defBody s_own_choices)).getD sNever
theorem c_own_choices : compSs 60 (thOf s_own_choices Γ_road_ends cst) (defBody s_own_choices) = some g_own_choices := some_of (by decide +kernel)
noncomputable abbrev d_own_choices : Den := denOf (namesOf (defScope s_own_choices)).length g_own_choices
noncomputable abbrev Γ_own_choices : List (Str × FnR) := ("own_choices", ⟨3, [], d_own_choices⟩) :: Γ_road_ends
noncomputable abbrev s_heap_of : Stmt := top 23
theorem sc_heap_of : FnScope (namesOf (defScope s_heap_of)) ["net", "tree"] (defScope s_heap_of) := ⟨rfl, rfl, rfl, by decide +kernel, by decide +kernel, by decide +kernel, by decide +kernel⟩
theorem b_heap_of : BindsAll "heap_of" s_heap_of ["net", "tree"] := fun _ _ _ _ _ _ us hl => match us, hl with | [_, _], _ => rfl
noncomputable def g_heap_of : DS := (compSs 60 (thOf s_heap_of Γ_own_choices cst) (defBody s_heap_of)).getD sNever
theorem c_heap_of : compSs 60 (thOf s_heap_of Γ_own_choices cst) (defBody s_heap_of) = some g_heap_of := some_of (by decide +kernel)
noncomputable abbrev d_heap_of : Den := denOf (namesOf (defScope s_heap_of)).length g_heap_of
noncomputable abbrev Γ_heap_of : List (Str × FnR) := ("heap_of", ⟨2, [], d_heap_of⟩) :: Γ_own_choices
noncomputable abbrev s__law_cell_at : Stmt := top 29
theorem sc__law_cell_at : FnScope (namesOf (defScope s__law_cell_at)) ["_law_script", "_law_k"] (defScope s__law_cell_at) := ⟨rfl, rfl, rfl, by decide +kernel, by decide +kernel, by decide +kernel, by decide +kernel⟩
theorem b__law_cell_at : BindsAll "_law_cell_at" s__law_cell_at ["_law_script", "_law_k"] := fun _ _ _ _ _ _ us hl => match us, hl with | [_, _], _ => rfl
noncomputable def g__law_cell_at : DS := (compSs 60 (thOf s__law_cell_at Γ_heap_of cst) (defBody s__law_cell_at)).getD sNever
theorem c__law_cell_at : compSs 60 (thOf s__law_cell_at Γ_heap_of cst) (defBody s__law_cell_at) = some g__law_cell_at := some_of (by decide +kernel)
noncomputable abbrev d__law_cell_at : Den := denOf (namesOf (defScope s__law_cell_at)).length g__law_cell_at
noncomputable abbrev Γ__law_cell_at : List (Str × FnR) := ("_law_cell_at", ⟨2, [], d__law_cell_at⟩) :: Γ_heap_of
noncomputable abbrev s__law_whole : Stmt := top 30
theorem sc__law_whole : FnScope (namesOf (defScope s__law_whole)) ["_law_found"] (defScope s__law_whole) := ⟨rfl, rfl, rfl, by decide +kernel, by decide +kernel, by decide +kernel, by decide +kernel⟩
theorem b__law_whole : BindsAll "_law_whole" s__law_whole ["_law_found"] := fun _ _ _ _ _ _ us hl => match us, hl with | [_], _ => rfl
noncomputable def g__law_whole : DS := (compSs 60 (thOf s__law_whole Γ__law_cell_at cst) (defBody s__law_whole)).getD sNever
theorem c__law_whole : compSs 60 (thOf s__law_whole Γ__law_cell_at cst) (defBody s__law_whole) = some g__law_whole := some_of (by decide +kernel)
noncomputable abbrev d__law_whole : Den := denOf (namesOf (defScope s__law_whole)).length g__law_whole
noncomputable abbrev Γ__law_whole : List (Str × FnR) := ("_law_whole", ⟨1, [], d__law_whole⟩) :: Γ__law_cell_at
noncomputable abbrev s__law_net : Stmt := top 31
theorem sc__law_net : FnScope (namesOf (defScope s__law_net)) ["_law_script"] (defScope s__law_net) := ⟨rfl, rfl, rfl, by decide +kernel, by decide +kernel, by decide +kernel, by decide +kernel⟩
theorem b__law_net : BindsAll "_law_net" s__law_net ["_law_script"] := fun _ _ _ _ _ _ us hl => match us, hl with | [_], _ => rfl
noncomputable def g__law_net : DS := (compSs 60 (thOf s__law_net Γ__law_whole cst) (defBody s__law_net)).getD sNever
theorem c__law_net : compSs 60 (thOf s__law_net Γ__law_whole cst) (defBody s__law_net) = some g__law_net := some_of (by decide +kernel)
noncomputable abbrev d__law_net : Den := denOf (namesOf (defScope s__law_net)).length g__law_net
noncomputable abbrev Γ__law_net : List (Str × FnR) := ("_law_net", ⟨1, [], d__law_net⟩) :: Γ__law_whole
noncomputable abbrev s__law_tree : Stmt := top 34
theorem sc__law_tree : FnScope (namesOf (defScope s__law_tree)) ["_law_script", "_law_at", "_law_net_here"] (defScope s__law_tree) := ⟨rfl, rfl, rfl, by decide +kernel, by decide +kernel, by decide +kernel, by decide +kernel⟩
theorem b__law_tree : BindsAll "_law_tree" s__law_tree ["_law_script", "_law_at", "_law_net_here"] := fun _ _ _ _ _ _ us hl => match us, hl with | [_, _, _], _ => rfl
noncomputable def g__law_tree : DS := (compSs 60 (thOf s__law_tree Γ__law_net cst) (defBody s__law_tree)).getD sNever
theorem c__law_tree : compSs 60 (thOf s__law_tree Γ__law_net cst) (defBody s__law_tree) = some g__law_tree := some_of (by decide +kernel)
noncomputable abbrev d__law_tree : Den := denOf (namesOf (defScope s__law_tree)).length g__law_tree
noncomputable abbrev Γ__law_tree : List (Str × FnR) := ("_law_tree", ⟨3, [], d__law_tree⟩) :: Γ__law_net
noncomputable abbrev s__law_numbers : Stmt := top 35
theorem sc__law_numbers : FnScope (namesOf (defScope s__law_numbers)) ["_law_found", "_law_many"] (defScope s__law_numbers) := ⟨rfl, rfl, rfl, by decide +kernel, by decide +kernel, by decide +kernel, by decide +kernel⟩
theorem b__law_numbers : BindsAll "_law_numbers" s__law_numbers ["_law_found", "_law_many"] := fun _ _ _ _ _ _ us hl => match us, hl with | [_, _], _ => rfl
noncomputable def g__law_numbers : DS := (compSs 60 (thOf s__law_numbers Γ__law_tree cst) (defBody s__law_numbers)).getD sNever
theorem c__law_numbers : compSs 60 (thOf s__law_numbers Γ__law_tree cst) (defBody s__law_numbers) = some g__law_numbers := some_of (by decide +kernel)
noncomputable abbrev d__law_numbers : Den := denOf (namesOf (defScope s__law_numbers)).length g__law_numbers
noncomputable abbrev Γ__law_numbers : List (Str × FnR) := ("_law_numbers", ⟨2, [], d__law_numbers⟩) :: Γ__law_tree
noncomputable abbrev s__law_depths : Stmt := top 36
theorem sc__law_depths : FnScope (namesOf (defScope s__law_depths)) ["_law_net_here", "_law_tree_here"] (defScope s__law_depths) := ⟨rfl, rfl, rfl, by decide +kernel, by decide +kernel, by decide +kernel, by decide +kernel⟩
theorem b__law_depths : BindsAll "_law_depths" s__law_depths ["_law_net_here", "_law_tree_here"] := fun _ _ _ _ _ _ us hl => match us, hl with | [_, _], _ => rfl
noncomputable def g__law_depths : DS := (compSs 60 (thOf s__law_depths Γ__law_numbers cst) (defBody s__law_depths)).getD sNever
theorem c__law_depths : compSs 60 (thOf s__law_depths Γ__law_numbers cst) (defBody s__law_depths) = some g__law_depths := some_of (by decide +kernel)
noncomputable abbrev d__law_depths : Den := denOf (namesOf (defScope s__law_depths)).length g__law_depths
noncomputable abbrev Γ__law_depths : List (Str × FnR) := ("_law_depths", ⟨2, [], d__law_depths⟩) :: Γ__law_numbers
noncomputable abbrev s__law_due : Stmt := top 38
theorem sc__law_due : FnScope (namesOf (defScope s__law_due)) ["_law_net_here", "_law_tree_here"] (defScope s__law_due) := ⟨rfl, rfl, rfl, by decide +kernel, by decide +kernel, by decide +kernel, by decide +kernel⟩
theorem b__law_due : BindsAll "_law_due" s__law_due ["_law_net_here", "_law_tree_here"] := fun _ _ _ _ _ _ us hl => match us, hl with | [_, _], _ => rfl
noncomputable def g__law_due : DS := (compSs 60 (thOf s__law_due Γ__law_depths cst) (defBody s__law_due)).getD sNever
theorem c__law_due : compSs 60 (thOf s__law_due Γ__law_depths cst) (defBody s__law_due) = some g__law_due := some_of (by decide +kernel)
noncomputable abbrev d__law_due : Den := denOf (namesOf (defScope s__law_due)).length g__law_due
noncomputable abbrev Γ__law_due : List (Str × FnR) := ("_law_due", ⟨2, [], d__law_due⟩) :: Γ__law_depths
noncomputable abbrev s_law : Stmt := top 39
theorem sc_law : FnScope (namesOf (defScope s_law)) ["_law_script"] (defScope s_law) := ⟨rfl, rfl, rfl, by decide +kernel, by decide +kernel, by decide +kernel, by decide +kernel⟩
theorem b_law : BindsAll "law" s_law ["_law_script"] := fun _ _ _ _ _ _ us hl => match us, hl with | [_], _ => rfl
noncomputable def g_law : DS := (compSs 60 (thOf s_law Γ__law_due cst) (defBody s_law)).getD sNever
theorem c_law : compSs 60 (thOf s_law Γ__law_due cst) (defBody s_law) = some g_law := some_of (by decide +kernel)
noncomputable abbrev d_law : Den := denOf (namesOf (defScope s_law)).length g_law
theorem q_need_rows : d_need_rows = denOf 3 (HS.G_need_rows) := by kernel_rfl
theorem q_need_heaps : d_need_heaps = denOf 3 (HS.G_need_heaps d_need_rows) := by kernel_rfl
theorem q_steps : d_steps = denOf 4 (HS.G_steps) := by kernel_rfl
theorem q_toll_table : d_toll_table = denOf 5 (HS.G_toll_table d_steps) := by kernel_rfl
theorem q_span_list : d_span_list = denOf 1 (HS.G_span_list d_toll_table) := by kernel_rfl
theorem q_leads : d_leads = denOf 8 (HS.G_leads d_steps) := by kernel_rfl
theorem q_is_plain : d_is_plain = denOf 1 (HS.G_is_plain) := by kernel_rfl
theorem q_need_plain : d_need_plain = denOf 1 (HS.G_need_plain d_is_plain) := by kernel_rfl
theorem q_roads_among : d_roads_among = denOf 3 (HS.G_roads_among) := by kernel_rfl
theorem q_fire : d_fire = denOf 8 (HS.G_fire d_need_plain d_need_heaps d_toll_table d_roads_among) := by kernel_rfl
theorem q_comes_again : d_comes_again = denOf 4 (HS.G_comes_again d_fire d_span_list) := by kernel_rfl
theorem q_tree_depths : d_tree_depths = denOf 2 (HS.G_tree_depths d_leads) := by kernel_rfl
theorem q_need_tree : d_need_tree = denOf 2 (HS.G_need_tree d_tree_depths) := by kernel_rfl
theorem q_road_ends : d_road_ends = denOf 2 (HS.G_road_ends) := by kernel_rfl
theorem q_own_choices : d_own_choices = denOf 7 (HS.G_own_choices d_road_ends) := by kernel_rfl
theorem q_heap_of : d_heap_of = denOf 7 (HS.G_heap_of d_need_plain d_need_tree d_tree_depths d_own_choices) := by kernel_rfl
theorem q__law_cell_at : d__law_cell_at = denOf 2 (HS.G__law_cell_at) := by kernel_rfl
theorem q__law_whole : d__law_whole = denOf 1 (HS.G__law_whole) := by kernel_rfl
theorem q__law_net : d__law_net = denOf 9 (HS.G__law_net_f d__law_cell_at) := by kernel_rfl
theorem q__law_tree : d__law_tree = denOf 10 (HS.G__law_tree d__law_cell_at) := by kernel_rfl
theorem q__law_numbers : d__law_numbers = denOf 3 (HS.G__law_numbers_u d__law_whole) := by kernel_rfl
theorem q__law_depths : d__law_depths = denOf 7 (HS.G__law_depths) := by kernel_rfl
theorem q__law_due : d__law_due = denOf 9 (HS.G__law_due_t d__law_depths) := by kernel_rfl
theorem q_law : d_law = denOf 8 (HS.G_law_k52 d__law_net d__law_tree d_heap_of d__law_numbers d__law_due d_comes_again) := by kernel_rfl
end Law
namespace HS
open PySem PySem.Spec L2
noncomputable def bnOk (mg : Str → Option Value) : List Str → Prop
  | [] => True
  | x :: r => mg x = none ∧ bnOk mg r
theorem bnOk_all {mg : Str → Option Value} : ∀ {l : List Str}, bnOk mg l → ∀ x ∈ l, mg x = none
  | [], _, x, h => by simp at h
  | y :: r, h, x, hx => by
    rcases List.mem_cons.mp hx with rfl | hx
    · exact h.1
    · exact bnOk_all h.2 x hx
noncomputable def csOk (mg : Str → Option Value) : List (Str × Int) → Prop
  | [] => True
  | (x, i) :: r => (∃ t, mg x = some (.int i t)) ∧ csOk mg r
theorem csOk_all {mg : Str → Option Value} : ∀ {l : List (Str × Int)}, csOk mg l → ∀ x i, look x l = some i → ∃ t, mg x = some (.int i t)
  | [], _, x, i, h => by cases h
  | (y, j) :: r, h, x, i, hx => by
    unfold look at hx
    split at hx
    · rename_i e; cases hx; subst e; exact h.1
    · exact csOk_all h.2 x i hx
theorem mod_mk {mg : Str → Option Value} {cs : List (Str × Int)} (b : bnOk mg bNames) (c : csOk mg cs) : ModOk mg cs := ⟨bnOk_all b, csOk_all c⟩
end HS
namespace Law
open HS
theorem hCell : CellOk d__law_cell_at := by rw [q__law_cell_at]; exact cell_ok
theorem hWhole : WholeOk d__law_whole := by rw [q__law_whole]; exact whole_ok
theorem hNet : NetFOk d__law_net := by rw [q__law_net]; exact netf_ok hCell
theorem hTree : TreeLOk d__law_tree := by rw [q__law_tree]; exact treel_ok hCell
theorem hNum : NumUOk d__law_numbers := by rw [q__law_numbers]; exact numu_ok hWhole
theorem hDep : LDepOk d__law_depths := by rw [q__law_depths]; exact ldep_ok
theorem hDue : LDueOk d__law_due := by rw [q__law_due]; exact ldue_ok hDep
theorem hToll : TollOk d_toll_table := by rw [q_toll_table, q_steps]; exact toll_ok
theorem hNeed : NeedOk d_need_rows := by rw [q_need_rows]; exact need_ok
theorem hNeedH : NeedHOk d_need_heaps := by rw [q_need_heaps]; exact needh_ok hNeed
theorem hPlain : PlainOk d_is_plain := by rw [q_is_plain]; exact plain_ok
theorem hNeedP : NeedPOk d_need_plain := by rw [q_need_plain]; exact needp_ok hPlain
theorem hAmong : AmongOk d_roads_among := by rw [q_roads_among]; exact among_ok
theorem hFire : FireOk d_fire := by rw [q_fire]; exact fire_ok hNeedP hNeedH hToll hAmong
theorem hSpanL : SpanOk d_span_list := by rw [q_span_list]; exact span_ok hToll
theorem hComes : ComesOk d_comes_again := by rw [q_comes_again]; exact comes_ok hFire hSpanL
theorem hLeads : LeadsOk d_leads := by rw [q_leads]; exact leads_ok fun R L h => by rw [q_steps]; exact den_steps (by omega)
theorem hTDep : TDepOk d_tree_depths := by rw [q_tree_depths]; exact tdep_ok hLeads
theorem hNeedT : NeedTOk d_need_tree := by rw [q_need_tree]; exact needt_ok hTDep
theorem hEnds : REndsOk d_road_ends := by rw [q_road_ends]; exact rends_ok
theorem hOwn : OwnOk d_own_choices := by rw [q_own_choices]; exact own_ok hEnds
theorem hHeapOf : HeapOfOk d_heap_of := by rw [q_heap_of]; exact heapof_ok hNeedP hNeedT hTDep hOwn
theorem den_ok (ns : List Int) (h : ns.length ≤ 63) : ∃ fr, d_law [.lst (ns.map .int)] = some (.bl true, fr) := by
  rw [q_law]
  exact ⟨true, k52_ok hNet hTree hHeapOf hNum hDue hComes ns h⟩
end Law
open PySem PySem.W PyProof.Rows HS
set_option maxRecDepth 100000 in
set_option maxHeartbeats 0 in
theorem PySem.Challenge.cw_heapstill_k52_heap_of_a_tree_holds : PySem.Challenge.rw_heapstill_k52_heap_of_a_tree.Holds := by
  w_on; o_law; k_head; (case hw => w_witness2)
  k_fill
  refine HS.law_walk (l := PySem.Challenge.rw_heapstill_k52_heap_of_a_tree) (k := 24) (x := "_law_script") (den := Law.d_law) rfl rfl ⟨rfl, by decide, by decide⟩ (fun w h Y => PySem.W.kIn_of Y) Law.den_ok ?F
  case F =>
    intro w mg fa h KX G hmg
    have f_need_rows : HS.Fact (L2.KOf KX) "need_rows" Law.s_need_rows := by
      dsimp only [L2.KOf]
      refine' HS.fact_mk ?a ?l ?c ?k
      (case a => k_is); (case l => k_is); (case c => k_is); (case k => k_is)
    have f_need_heaps : HS.Fact (L2.KOf KX) "need_heaps" Law.s_need_heaps := by
      dsimp only [L2.KOf]
      refine' HS.fact_mk ?a ?l ?c ?k
      (case a => k_is); (case l => k_is); (case c => k_is); (case k => k_is)
    have f_steps : HS.Fact (L2.KOf KX) "steps" Law.s_steps := by
      dsimp only [L2.KOf]
      refine' HS.fact_mk ?a ?l ?c ?k
      (case a => k_is); (case l => k_is); (case c => k_is); (case k => k_is)
    have f_toll_table : HS.Fact (L2.KOf KX) "toll_table" Law.s_toll_table := by
      dsimp only [L2.KOf]
      refine' HS.fact_mk ?a ?l ?c ?k
      (case a => k_is); (case l => k_is); (case c => k_is); (case k => k_is)
    have f_span_list : HS.Fact (L2.KOf KX) "span_list" Law.s_span_list := by
      dsimp only [L2.KOf]
      refine' HS.fact_mk ?a ?l ?c ?k
      (case a => k_is); (case l => k_is); (case c => k_is); (case k => k_is)
    have f_leads : HS.Fact (L2.KOf KX) "leads" Law.s_leads := by
      dsimp only [L2.KOf]
      refine' HS.fact_mk ?a ?l ?c ?k
      (case a => k_is); (case l => k_is); (case c => k_is); (case k => k_is)
    have f_is_plain : HS.Fact (L2.KOf KX) "is_plain" Law.s_is_plain := by
      dsimp only [L2.KOf]
      refine' HS.fact_mk ?a ?l ?c ?k
      (case a => k_is); (case l => k_is); (case c => k_is); (case k => k_is)
    have f_need_plain : HS.Fact (L2.KOf KX) "need_plain" Law.s_need_plain := by
      dsimp only [L2.KOf]
      refine' HS.fact_mk ?a ?l ?c ?k
      (case a => k_is); (case l => k_is); (case c => k_is); (case k => k_is)
    have f_roads_among : HS.Fact (L2.KOf KX) "roads_among" Law.s_roads_among := by
      dsimp only [L2.KOf]
      refine' HS.fact_mk ?a ?l ?c ?k
      (case a => k_is); (case l => k_is); (case c => k_is); (case k => k_is)
    have f_fire : HS.Fact (L2.KOf KX) "fire" Law.s_fire := by
      dsimp only [L2.KOf]
      refine' HS.fact_mk ?a ?l ?c ?k
      (case a => k_is); (case l => k_is); (case c => k_is); (case k => k_is)
    have f_comes_again : HS.Fact (L2.KOf KX) "comes_again" Law.s_comes_again := by
      dsimp only [L2.KOf]
      refine' HS.fact_mk ?a ?l ?c ?k
      (case a => k_is); (case l => k_is); (case c => k_is); (case k => k_is)
    have f_tree_depths : HS.Fact (L2.KOf KX) "tree_depths" Law.s_tree_depths := by
      dsimp only [L2.KOf]
      refine' HS.fact_mk ?a ?l ?c ?k
      (case a => k_is); (case l => k_is); (case c => k_is); (case k => k_is)
    have f_need_tree : HS.Fact (L2.KOf KX) "need_tree" Law.s_need_tree := by
      dsimp only [L2.KOf]
      refine' HS.fact_mk ?a ?l ?c ?k
      (case a => k_is); (case l => k_is); (case c => k_is); (case k => k_is)
    have f_road_ends : HS.Fact (L2.KOf KX) "road_ends" Law.s_road_ends := by
      dsimp only [L2.KOf]
      refine' HS.fact_mk ?a ?l ?c ?k
      (case a => k_is); (case l => k_is); (case c => k_is); (case k => k_is)
    have f_own_choices : HS.Fact (L2.KOf KX) "own_choices" Law.s_own_choices := by
      dsimp only [L2.KOf]
      refine' HS.fact_mk ?a ?l ?c ?k
      (case a => k_is); (case l => k_is); (case c => k_is); (case k => k_is)
    have f_heap_of : HS.Fact (L2.KOf KX) "heap_of" Law.s_heap_of := by
      dsimp only [L2.KOf]
      refine' HS.fact_mk ?a ?l ?c ?k
      (case a => k_is); (case l => k_is); (case c => k_is); (case k => k_is)
    have f__law_cell_at : HS.Fact (L2.KOf KX) "_law_cell_at" Law.s__law_cell_at := by
      dsimp only [L2.KOf]
      refine' HS.fact_mk ?a ?l ?c ?k
      (case a => k_is); (case l => k_is); (case c => k_is); (case k => k_is)
    have f__law_whole : HS.Fact (L2.KOf KX) "_law_whole" Law.s__law_whole := by
      dsimp only [L2.KOf]
      refine' HS.fact_mk ?a ?l ?c ?k
      (case a => k_is); (case l => k_is); (case c => k_is); (case k => k_is)
    have f__law_net : HS.Fact (L2.KOf KX) "_law_net" Law.s__law_net := by
      dsimp only [L2.KOf]
      refine' HS.fact_mk ?a ?l ?c ?k
      (case a => k_is); (case l => k_is); (case c => k_is); (case k => k_is)
    have f__law_tree : HS.Fact (L2.KOf KX) "_law_tree" Law.s__law_tree := by
      dsimp only [L2.KOf]
      refine' HS.fact_mk ?a ?l ?c ?k
      (case a => k_is); (case l => k_is); (case c => k_is); (case k => k_is)
    have f__law_numbers : HS.Fact (L2.KOf KX) "_law_numbers" Law.s__law_numbers := by
      dsimp only [L2.KOf]
      refine' HS.fact_mk ?a ?l ?c ?k
      (case a => k_is); (case l => k_is); (case c => k_is); (case k => k_is)
    have f__law_depths : HS.Fact (L2.KOf KX) "_law_depths" Law.s__law_depths := by
      dsimp only [L2.KOf]
      refine' HS.fact_mk ?a ?l ?c ?k
      (case a => k_is); (case l => k_is); (case c => k_is); (case k => k_is)
    have f__law_due : HS.Fact (L2.KOf KX) "_law_due" Law.s__law_due := by
      dsimp only [L2.KOf]
      refine' HS.fact_mk ?a ?l ?c ?k
      (case a => k_is); (case l => k_is); (case c => k_is); (case k => k_is)
    have f_law : HS.Fact (L2.KOf KX) "law" Law.s_law := by
      dsimp only [L2.KOf]
      refine' HS.fact_mk ?a ?l ?c ?k
      (case a => k_is); (case l => k_is); (case c => k_is); (case k => k_is)
    have M : HS.ModOk mg Law.cst := by
      have n_range : PySem.W.nsIn (L2.KOf KX) mainGlobals "range" = some none := by dsimp only [L2.KOf]; k_is
      have n_enumerate : PySem.W.nsIn (L2.KOf KX) mainGlobals "enumerate" = some none := by dsimp only [L2.KOf]; k_is
      have n_zip : PySem.W.nsIn (L2.KOf KX) mainGlobals "zip" = some none := by dsimp only [L2.KOf]; k_is
      have n_len : PySem.W.nsIn (L2.KOf KX) mainGlobals "len" = some none := by dsimp only [L2.KOf]; k_is
      have n_list : PySem.W.nsIn (L2.KOf KX) mainGlobals "list" = some none := by dsimp only [L2.KOf]; k_is
      have n_min : PySem.W.nsIn (L2.KOf KX) mainGlobals "min" = some none := by dsimp only [L2.KOf]; k_is
      have n_max : PySem.W.nsIn (L2.KOf KX) mainGlobals "max" = some none := by dsimp only [L2.KOf]; k_is
      have n_sum : PySem.W.nsIn (L2.KOf KX) mainGlobals "sum" = some none := by dsimp only [L2.KOf]; k_is
      have n_abs : PySem.W.nsIn (L2.KOf KX) mainGlobals "abs" = some none := by dsimp only [L2.KOf]; k_is
      have n_isinstance : PySem.W.nsIn (L2.KOf KX) mainGlobals "isinstance" = some none := by dsimp only [L2.KOf]; k_is
      have n_int : PySem.W.nsIn (L2.KOf KX) mainGlobals "int" = some none := by dsimp only [L2.KOf]; k_is
      have n_bool : PySem.W.nsIn (L2.KOf KX) mainGlobals "bool" = some none := by dsimp only [L2.KOf]; k_is
      have n_tuple : PySem.W.nsIn (L2.KOf KX) mainGlobals "tuple" = some none := by dsimp only [L2.KOf]; k_is
      have n_str : PySem.W.nsIn (L2.KOf KX) mainGlobals "str" = some none := by dsimp only [L2.KOf]; k_is
      have n_divmod : PySem.W.nsIn (L2.KOf KX) mainGlobals "divmod" = some none := by dsimp only [L2.KOf]; k_is
      have n_sorted : PySem.W.nsIn (L2.KOf KX) mainGlobals "sorted" = some none := by dsimp only [L2.KOf]; k_is
      have n_any : PySem.W.nsIn (L2.KOf KX) mainGlobals "any" = some none := by dsimp only [L2.KOf]; k_is
      have n_all : PySem.W.nsIn (L2.KOf KX) mainGlobals "all" = some none := by dsimp only [L2.KOf]; k_is
      exact HS.mod_mk ⟨PySem.W.mg_none_of KX G n_range, PySem.W.mg_none_of KX G n_enumerate, PySem.W.mg_none_of KX G n_zip, PySem.W.mg_none_of KX G n_len, PySem.W.mg_none_of KX G n_list, PySem.W.mg_none_of KX G n_min, PySem.W.mg_none_of KX G n_max, PySem.W.mg_none_of KX G n_sum, PySem.W.mg_none_of KX G n_abs, PySem.W.mg_none_of KX G n_isinstance, PySem.W.mg_none_of KX G n_int, PySem.W.mg_none_of KX G n_bool, PySem.W.mg_none_of KX G n_tuple, PySem.W.mg_none_of KX G n_str, PySem.W.mg_none_of KX G n_divmod, PySem.W.mg_none_of KX G n_sorted, PySem.W.mg_none_of KX G n_any, PySem.W.mg_none_of KX G n_all, True.intro⟩ True.intro
    have t_need_rows : ∀ base : Heap, HS.TabOk (PySem.Challenge.rw_heapstill_k52_heap_of_a_tree).prog w (L2.KOf KX) mg base 1 Law.Γ_need_rows := fun base => (HS.TabOk.nil).cons (HS.known_ok KX G f_need_rows Law.sc_need_rows Law.b_need_rows M (HS.TabOk.nil) Law.c_need_rows)
    have t_need_heaps : ∀ base : Heap, HS.TabOk (PySem.Challenge.rw_heapstill_k52_heap_of_a_tree).prog w (L2.KOf KX) mg base 2 Law.Γ_need_heaps := fun base => (t_need_rows base).cons (HS.known_ok KX G f_need_heaps Law.sc_need_heaps Law.b_need_heaps M (t_need_rows base) Law.c_need_heaps)
    have t_steps : ∀ base : Heap, HS.TabOk (PySem.Challenge.rw_heapstill_k52_heap_of_a_tree).prog w (L2.KOf KX) mg base 3 Law.Γ_steps := fun base => (t_need_heaps base).cons (HS.known_ok KX G f_steps Law.sc_steps Law.b_steps M (t_need_heaps base) Law.c_steps)
    have t_toll_table : ∀ base : Heap, HS.TabOk (PySem.Challenge.rw_heapstill_k52_heap_of_a_tree).prog w (L2.KOf KX) mg base 4 Law.Γ_toll_table := fun base => (t_steps base).cons (HS.known_ok KX G f_toll_table Law.sc_toll_table Law.b_toll_table M (t_steps base) Law.c_toll_table)
    have t_span_list : ∀ base : Heap, HS.TabOk (PySem.Challenge.rw_heapstill_k52_heap_of_a_tree).prog w (L2.KOf KX) mg base 5 Law.Γ_span_list := fun base => (t_toll_table base).cons (HS.known_ok KX G f_span_list Law.sc_span_list Law.b_span_list M (t_toll_table base) Law.c_span_list)
    have t_leads : ∀ base : Heap, HS.TabOk (PySem.Challenge.rw_heapstill_k52_heap_of_a_tree).prog w (L2.KOf KX) mg base 6 Law.Γ_leads := fun base => (t_span_list base).cons (HS.known_ok KX G f_leads Law.sc_leads Law.b_leads M (t_span_list base) Law.c_leads)
    have t_is_plain : ∀ base : Heap, HS.TabOk (PySem.Challenge.rw_heapstill_k52_heap_of_a_tree).prog w (L2.KOf KX) mg base 7 Law.Γ_is_plain := fun base => (t_leads base).cons (HS.known_ok KX G f_is_plain Law.sc_is_plain Law.b_is_plain M (t_leads base) Law.c_is_plain)
    have t_need_plain : ∀ base : Heap, HS.TabOk (PySem.Challenge.rw_heapstill_k52_heap_of_a_tree).prog w (L2.KOf KX) mg base 8 Law.Γ_need_plain := fun base => (t_is_plain base).cons (HS.known_ok KX G f_need_plain Law.sc_need_plain Law.b_need_plain M (t_is_plain base) Law.c_need_plain)
    have t_roads_among : ∀ base : Heap, HS.TabOk (PySem.Challenge.rw_heapstill_k52_heap_of_a_tree).prog w (L2.KOf KX) mg base 9 Law.Γ_roads_among := fun base => (t_need_plain base).cons (HS.known_ok KX G f_roads_among Law.sc_roads_among Law.b_roads_among M (t_need_plain base) Law.c_roads_among)
    have t_fire : ∀ base : Heap, HS.TabOk (PySem.Challenge.rw_heapstill_k52_heap_of_a_tree).prog w (L2.KOf KX) mg base 10 Law.Γ_fire := fun base => (t_roads_among base).cons (HS.known_ok KX G f_fire Law.sc_fire Law.b_fire M (t_roads_among base) Law.c_fire)
    have t_comes_again : ∀ base : Heap, HS.TabOk (PySem.Challenge.rw_heapstill_k52_heap_of_a_tree).prog w (L2.KOf KX) mg base 11 Law.Γ_comes_again := fun base => (t_fire base).cons (HS.known_ok KX G f_comes_again Law.sc_comes_again Law.b_comes_again M (t_fire base) Law.c_comes_again)
    have t_tree_depths : ∀ base : Heap, HS.TabOk (PySem.Challenge.rw_heapstill_k52_heap_of_a_tree).prog w (L2.KOf KX) mg base 12 Law.Γ_tree_depths := fun base => (t_comes_again base).cons (HS.known_ok KX G f_tree_depths Law.sc_tree_depths Law.b_tree_depths M (t_comes_again base) Law.c_tree_depths)
    have t_need_tree : ∀ base : Heap, HS.TabOk (PySem.Challenge.rw_heapstill_k52_heap_of_a_tree).prog w (L2.KOf KX) mg base 13 Law.Γ_need_tree := fun base => (t_tree_depths base).cons (HS.known_ok KX G f_need_tree Law.sc_need_tree Law.b_need_tree M (t_tree_depths base) Law.c_need_tree)
    have t_road_ends : ∀ base : Heap, HS.TabOk (PySem.Challenge.rw_heapstill_k52_heap_of_a_tree).prog w (L2.KOf KX) mg base 14 Law.Γ_road_ends := fun base => (t_need_tree base).cons (HS.known_ok KX G f_road_ends Law.sc_road_ends Law.b_road_ends M (t_need_tree base) Law.c_road_ends)
    have t_own_choices : ∀ base : Heap, HS.TabOk (PySem.Challenge.rw_heapstill_k52_heap_of_a_tree).prog w (L2.KOf KX) mg base 15 Law.Γ_own_choices := fun base => (t_road_ends base).cons (HS.known_ok KX G f_own_choices Law.sc_own_choices Law.b_own_choices M (t_road_ends base) Law.c_own_choices)
    have t_heap_of : ∀ base : Heap, HS.TabOk (PySem.Challenge.rw_heapstill_k52_heap_of_a_tree).prog w (L2.KOf KX) mg base 16 Law.Γ_heap_of := fun base => (t_own_choices base).cons (HS.known_ok KX G f_heap_of Law.sc_heap_of Law.b_heap_of M (t_own_choices base) Law.c_heap_of)
    have t__law_cell_at : ∀ base : Heap, HS.TabOk (PySem.Challenge.rw_heapstill_k52_heap_of_a_tree).prog w (L2.KOf KX) mg base 17 Law.Γ__law_cell_at := fun base => (t_heap_of base).cons (HS.known_ok KX G f__law_cell_at Law.sc__law_cell_at Law.b__law_cell_at M (t_heap_of base) Law.c__law_cell_at)
    have t__law_whole : ∀ base : Heap, HS.TabOk (PySem.Challenge.rw_heapstill_k52_heap_of_a_tree).prog w (L2.KOf KX) mg base 18 Law.Γ__law_whole := fun base => (t__law_cell_at base).cons (HS.known_ok KX G f__law_whole Law.sc__law_whole Law.b__law_whole M (t__law_cell_at base) Law.c__law_whole)
    have t__law_net : ∀ base : Heap, HS.TabOk (PySem.Challenge.rw_heapstill_k52_heap_of_a_tree).prog w (L2.KOf KX) mg base 19 Law.Γ__law_net := fun base => (t__law_whole base).cons (HS.known_ok KX G f__law_net Law.sc__law_net Law.b__law_net M (t__law_whole base) Law.c__law_net)
    have t__law_tree : ∀ base : Heap, HS.TabOk (PySem.Challenge.rw_heapstill_k52_heap_of_a_tree).prog w (L2.KOf KX) mg base 20 Law.Γ__law_tree := fun base => (t__law_net base).cons (HS.known_ok KX G f__law_tree Law.sc__law_tree Law.b__law_tree M (t__law_net base) Law.c__law_tree)
    have t__law_numbers : ∀ base : Heap, HS.TabOk (PySem.Challenge.rw_heapstill_k52_heap_of_a_tree).prog w (L2.KOf KX) mg base 21 Law.Γ__law_numbers := fun base => (t__law_tree base).cons (HS.known_ok KX G f__law_numbers Law.sc__law_numbers Law.b__law_numbers M (t__law_tree base) Law.c__law_numbers)
    have t__law_depths : ∀ base : Heap, HS.TabOk (PySem.Challenge.rw_heapstill_k52_heap_of_a_tree).prog w (L2.KOf KX) mg base 22 Law.Γ__law_depths := fun base => (t__law_numbers base).cons (HS.known_ok KX G f__law_depths Law.sc__law_depths Law.b__law_depths M (t__law_numbers base) Law.c__law_depths)
    have t__law_due : ∀ base : Heap, HS.TabOk (PySem.Challenge.rw_heapstill_k52_heap_of_a_tree).prog w (L2.KOf KX) mg base 23 Law.Γ__law_due := fun base => (t__law_depths base).cons (HS.known_ok KX G f__law_due Law.sc__law_due Law.b__law_due M (t__law_depths base) Law.c__law_due)
    exact HS.law_F KX G hmg f_law Law.sc_law Law.b_law M (fun base => t__law_due base) Law.c_law
