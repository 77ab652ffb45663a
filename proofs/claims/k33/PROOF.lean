import PyProof.Rows.All
import Wide.All
import OpenK.AllK
import Wide.FinOn
import Lean
import PyProof.EqAt
import PyProof.EqKinds
import PyProof.TupleCall
import PyProof.ZipIter
import PyProof.EnumMake
import PyProof.Rows.FactsT2
import PyProof.Rows.EnumRows
import PyProof.P3In
import PyProof.NeData
import PyProof.Rows.SumAny
import PyProof.Rows.MinMaxN
import PyProof.Rows.ListRangeD
import PyProof.Rows.Range3
import PyProof.Rows.RuleM_int
import PyProof.Rows.SortShell
import PySem.Challenge.RW_heapstill_k33_whole_measures_multiply
set_option Elab.async false
set_option linter.all false
set_option maxRecDepth 100000
def Za := @Option.bind_some
def Zb := @List.mem_append_right
def Zc := @Option.map_eq_some_iff
def Zd := @List.mem_cons_of_mem
def Ze := @List.getElem?_set_ne
def Zf := @List.mem_append_left
def Zg := @Bool.and_eq_true
def Zh := @List.getElem?_eq_some_iff
def Zi := @List.mem_cons_self
def Zj := @Nat.le_refl
def Zk := @List.getElem?_set_self
def Zl := @List.lookup_cons
def Zm := @PySem.Heap.get?_push_of_some
def Zn := @Nat.lt_of_lt_of_le
def Zo := @List.size_toArray
def Zp := @PySem.Heap.lt_size
def Zq := @List.getElem?_map
def Zr := @Nat.le_trans
def Zs := @List.length_append
def Zt := @List.mem_cons
def Zu := @List.getElem?_eq_none
def Zv := @List.map_cons
def Zw := @List.mem_singleton
def Zx := @List.mem_append
def Zy := @PySem.Heap.get?_push_size
def Zz := @List.length_cons
def ZA := @List.length_map
def ZC := @List.count_eq_zero
def ZD := @Int.toNat_natCast
def ZE := @Int.emod_lt_of_pos
def ZF := @List.mem_range
def ZG := @Nat.lt_irrefl
def ZH := @Nat.ne_of_lt
def ZI := @Nat.zero_le
def ZJ := @PySem.mem_of_lookup
def ZK := @List.replicate_succ
def ZL := @List.getElem?_range
def ZM := @Int.one_mul
def ZN := @PyProof.Rows.callWith_type1
def ZO := @List.length_range
def ZP := @Int.zero_mul
def ZQ := @List.getD_eq_getElem?_getD
def ZR := @Int.emod_nonneg
def ZS := @List.flatten_cons
def ZT := @List.count_append
def ZU := @List.getElem?_eq_getElem
def ZV := @Option.map_some
def ZW := @Int.mul_zero
def ZX := @Nat.lt_of_le_of_lt
def ZY := @Int.add_mul
def ZZ := @List.getElem?_append_left
def Zaa := @List.drop_eq_getElem_cons
def Zab := @List.count_pos_iff
def Zac := @List.sum_cons
def Zad := @List.nodup_iff_count
def Zae := @List.length_set
def Zaf := @List.map_congr_left
def Zag := @List.mem_map
def Zah := @List.all_eq_true
def Zai := @Bool.false_ne_true
def Zaj := @List.set_eq_take_append_cons_drop
def Zak := @List.mem_filter
def Zal := @List.nodup_cons
def Zam := @List.map_append
def Zan := @List.count_cons
def Zao := @List.mem_of_getElem?
def Zap := @Bool.not_eq_true'
def Zaq := @Nat.pow_le_pow_right
def Zar := @Int.mul_comm
def Zas := @Int.mul_assoc
def Zat := @Int.neg_mul
def Zau := @PySem.W.kia_one
def Zav := @PySem.Heap.size_push
def Zaw := @List.nodup_nil
def Zax := @List.map_map
def Zay := @List.mem_filterMap
def Zaz := @List.append_assoc
def ZaA := @Nat.lt_succ_of_lt
def ZaB := @PyProof.Rows.boot_list
def ZaC := @List.nodup_append
def ZaD := @List.take_of_length_le
def ZaE := @Nat.mul_le_mul
def ZaF := @List.length_singleton
def ZaG := @List.take_append_drop
def ZaH := @List.contains_iff_mem
def ZaI := @List.mem_flatten
def ZaJ := @Nat.min_le_right
def ZaK := @Int.mul_le_mul_of_nonneg_right
def ZaL := @Nat.add_le_add_right
def ZaM := @Int.neg_neg
def ZaN := @Int.natCast_add
def ZaO := @List.filterMap_cons
def ZaP := @List.sum_append_int
def ZaQ := @List.getElem?_append_right
def ZaR := @Int.mul_nonneg
def ZaS := @Nat.add_sub_cancel
def ZaT := @List.getElem?_eq_none_iff
def ZaU := @Classical.byContradiction
def ZaV := @Int.mul_one
def ZaW := @Nat.le_succ
def ZaX := @Int.mul_add
def ZaY := @Int.mul_left_comm
def ZaZ := @List.ext_getElem?
def Zba := @PyProof.noPylong_of_log2
def Zbb := @Nat.lt_succ_self
def Zbc := @List.length_take
def Zbd := @List.getElem?_replicate
def Zbe := @List.cons_append
def Zbf := @List.foldlM_cons
def Zbg := @PySem.F.plainAttrs_list
def Zbh := @PySem.W.cellsFrom_some
def Zbi := @Nat.succ_mul
def Zbj := @List.range_succ_eq_map
def Zbk := @Int.add_zero
def Zbl := @List.append_nil
def Zbm := @List.of_mem_zip
def Zbn := @Nat.min_eq_left
def Zbo := @Nat.log2_lt
def Zbp := @Int.le_refl
def Zbq := @Int.natAbs_mul
namespace L2
open PySem PySem.Spec PyProof.Rows
noncomputable abbrev Key := Sum Int Str
noncomputable def QlY : Key -> Value -> Bool
 | .inl k, v => Value.isInt k v
 | .inr x, v => Value.isStrOf x v
noncomputable def Qqd (w : World) : Key -> Int
 | .inl k => hashInt k
 | .inr x => hashStr w x
theorem Q7 : ∀ {k : Key} {v : Value}, QlY k v = true -> (∃ i t, k = Sum.inl i /\ v = Value.int i t) ∨ (∃ x t, k = Sum.inr x /\ v = Value.str x t)
 | .inl i, v, h => by
  obtain ⟨t, e⟩ := Value.isInt_shape (k := i) (v := v) h
  exact .inl ⟨i, t, rfl, e⟩
 | .inr x, v, h => by
  obtain ⟨t, e⟩ := Value.isStrOf_shape (x := x) (v := v) h
  exact .inr ⟨x, t, rfl, e⟩
theorem QoJ (a b : Int) : decide ((Sum.inl a : Key) = Sum.inl b) = (a == b) := by
 by_cases e : a = b
 ·subst e; simp
 ·have h : ¬ (Sum.inl a : Key) = Sum.inl b := λ q => e (Sum.inl.inj q)
  rw [decide_eq_false h]
  exact (beq_eq_false_iff_ne.mpr e).symm
theorem Qnp (a b : Str) : decide ((Sum.inr a : Key) = Sum.inr b) = decide (a = b) := by
 by_cases e : a = b
 ·subst e; simp
 ·have h : ¬ (Sum.inr a : Key) = Sum.inr b := λ q => e (Sum.inr.inj q)
  rw [decide_eq_false h, decide_eq_false e]
theorem QoC (a : Int) (b : Str) : decide ((Sum.inl a : Key) = Sum.inr b) = false := decide_eq_false (λ q => nomatch q)
theorem QnQ (a : Str) (b : Int) : decide ((Sum.inr a : Key) = Sum.inl b) = false := decide_eq_false (λ q => nomatch q)
noncomputable def Qf3 (prog : Program) (w : World) : PySem.KeyKind prog w Key where
 is := QlY
 hash := Qqd w
 inj := λ v a b ha hb => by
  rcases Q7 ha with ⟨i, t, rfl, rfl⟩ | ⟨x, t, rfl, rfl⟩
  ·rcases Q7 hb with ⟨j, u, rfl, e⟩ | ⟨y, u, rfl, e⟩
   ·injection e with e1 _; rw [e1]
   ·exact nomatch e
  ·rcases Q7 hb with ⟨j, u, rfl, e⟩ | ⟨y, u, rfl, e⟩
   ·exact nomatch e
   ·injection e with e1 _; rw [e1]
 byValue := λ k v h => by
  rcases Q7 h with ⟨i, t, rfl, rfl⟩ | ⟨x, t, rfl, rfl⟩ <;> rfl
 pyHash := λ hv h => by
  rcases Q7 hv with ⟨i, t, rfl, rfl⟩ | ⟨x, t, rfl, rfl⟩
  ·exact wpAny_pyHash_int h
  ·exact wpAny_pyHash_str h
 eqBool := λ hu hv h => by
  rcases Q7 hu with ⟨i, t, rfl, rfl⟩ | ⟨x, t, rfl, rfl⟩
  ·rcases Q7 hv with ⟨j, u, rfl, rfl⟩ | ⟨y, u, rfl, rfl⟩
   ·rw [QoJ] at h; exact wpAny_eqBool_int h
   ·rw [QoC] at h; exact SeqAt.EqAt.int_str i t y u _ _ _ _ h
  ·rcases Q7 hv with ⟨j, u, rfl, rfl⟩ | ⟨y, u, rfl, rfl⟩
   ·rw [QnQ] at h; exact SeqAt.EqAt.str_int x t j u _ _ _ _ h
   ·rw [Qnp] at h; exact wpAny_eqBool_str h
 «strs» := λ k x t v h => by
  rcases Q7 h with ⟨i, u, rfl, e⟩ | ⟨y, u, rfl, e⟩
  ·exact nomatch e
  ·injection e with e1 _
   subst e1
   cases v <;> rfl
end L2
namespace L2
open PySem PySem.Spec PyProof.Rows
inductive V where
 | non | bl (b : Bool) | int (i : Int) | str (x : Str) | byt (b : Array UInt8) | flt (b : UInt64) | ref (a : Addr) | ty (n : String)
 deriving DecidableEq
noncomputable def RelV : V -> Value -> Prop
 | .non, u => u = Value.none
 | .bl b, u => u = Value.bool b
 | .int i, u => ∃ t, u = Value.int i t
 | .str x, u => ∃ t, u = Value.str x t
 | .byt b, u => ∃ t, u = Value.bytes b t
 | .flt b, u => ∃ t, u = Value.float b t
 | .ref a, u => u = Value.ref a
 | .ty n, u => u = Value.type n
noncomputable abbrev Qj : List V -> List Value -> Prop := Paired RelV
theorem Qj.length {xs : List V} {us : List Value} (r : Qj xs us) : xs.length = us.length := Paired.length r
theorem Qj.get : ∀ {xs : List V} {us : List Value} {i : Nat} {x : V}, Qj xs us -> xs[i]? = some x -> ∃ u, us[i]? = some u /\ RelV x u
 | _, _, _, _, .nil, e => by simp at e
 | _, _, 0, _, .cons r _, e => by simp at e; subst e; exact ⟨_, rfl, r⟩
 | _, _, i + 1, x, .cons _ t, e => by
  obtain ⟨u, h1, h2⟩ := Qj.get (i := i) (x := x) t (by simpa using e)
  exact ⟨u, by simpa using h1, h2⟩
theorem Qj.set {x : V} {u : Value} (r : RelV x u) : ∀ {xs : List V} {us : List Value} (i : Nat), Qj xs us -> Qj (xs.set i x) (us.set i u)
 | _, _, _, .nil => .nil
 | _, _, 0, .cons _ t => .cons r t
 | _, _, i + 1, .cons q t => .cons q (Qj.set r i t)
theorem Qj.append : ∀ {xs ys : List V} {us ws : List Value}, Qj xs us -> Qj ys ws -> Qj (xs ++ ys) (us ++ ws)
 | _, _, _, _, .nil, s => s
 | _, _, _, _, .cons r t, s => .cons r (Qj.append t s)
theorem Qj.take : ∀ {xs : List V} {us : List Value} (n : Nat), Qj xs us -> Qj (xs.take n) (us.take n)
 | _, _, 0, _ => .nil
 | _, _, _ + 1, .nil => .nil
 | _, _, n + 1, .cons r t => .cons r (Qj.take n t)
theorem Qj.drop : ∀ {xs : List V} {us : List Value} (n : Nat), Qj xs us -> Qj (xs.drop n) (us.drop n)
 | _, _, 0, r => r
 | _, _, _ + 1, .nil => .nil
 | _, _, n + 1, .cons _ t => Qj.drop n t
theorem Qj.none_of : ∀ {xs : List V} {us : List Value} {i : Nat}, Qj xs us -> xs[i]? = none -> us[i]? = none := λ {xs us i} r e => by
 have h1 := r.length
 have h2 : xs.length <= i := ZaT.mp e
 exact ZaT.mpr (by omega)
noncomputable def Qf1 : Option V -> Option Value -> Prop
 | some v, some u => RelV v u
 | none, none => True
 | _, _ => False
noncomputable def KV {κ : Type} : List (κ × V) -> List (κ × Value) -> Prop := Paired λ (p : κ × V) (q : κ × Value) => p.1 = q.1 /\ RelV p.2 q.2
noncomputable def kV : Key -> V
 | .inl i => .int i
 | .inr x => .str x
inductive HO where
 | lst (xs : List V)
 | tup (xs : List V)
 | dK (kvs : List (Key × V)) | dT (kvs : List (List Key × V))
 | set (S : Int -> Bool) (n : Nat)
 | ins (C dx : Addr) (fs : List (Str × V))
 | own (x : Addr)
 | xd (fs : List (Str × V))
 | met (f x : Addr)
 | rng (lo hi : Int)
 | frz (o : Obj) (u : HO)
 | tbl (ps : Array Value)
 | ext (φ : Heap -> Prop)
noncomputable abbrev Hp := Addr -> Option HO
noncomputable def upd (H : Hp) (a : Addr) (o : HO) : Hp := λ b => if b = a then some o else H b
theorem QQ {H : Hp} {a : Addr} {o : HO} : upd H a o a = some o := by unfold upd; rw [if_pos rfl]
theorem Qt {H : Hp} {a b : Addr} {o : HO} (h : b ≠ a) : upd H a o b = H b := by unfold upd; rw [if_neg h]
theorem QgW {H : Hp} {a b : Addr} {o u : HO} (h : H a = some o) (h' : H b = some u) (d : o ≠ u) : a ≠ b := by
 intro e; subst e; rw [h] at h'; exact d (Option.some.inj h')
theorem Qat {H : Hp} {a b : Addr} {o : HO} (h : H a = some o) (h' : H b = none) : a ≠ b := by
 intro e; subst e; rw [h] at h'; cases h'
section
variable (P : Program) (w : World)
noncomputable def Qa1 (H : Hp) (h : Heap) (a : Addr) : HO -> Prop
 | .lst xs => xs.length <= sizeLine /\ ∃ (its : List Value) (n : Nat), Qj xs its /\ h.get? a = some { cls := .type "list", data := .seq its.toArray n }
 | .tup xs => xs.length <= sizeLine /\ ∃ its : List Value, Qj xs its /\ IsTup h a its.toArray
 | .dK kvs => kvs.length <= sizeLine /\ (a == sysModules) = false /\ ∃ vs, KV kvs vs /\ h.DictOf (Qf3 P w) a vs
 | .dT kvs => kvs.length <= sizeLine /\ (a == sysModules) = false /\ ∃ xs : List (List Key × Addr × Value),
   Paired (λ (p : List Key × V) (q : List Key × Addr × Value) => p.1 = q.1 /\ H q.2.1 = some (.tup (p.1.map kV)) /\ RelV p.2 q.2.2) kvs xs ∧
   ∃ o es ep, h.get? a = some o /\ o.ExactDict /\ o.data = .dict es ep /\ es.toList = xs.map (entryOfKey (tupleKind (Qf3 P w))) /\ (xs.map (·.1)).Nodup
 | .set S n => h.SetOf (intKind P w) a S n
 | .ins C dx fs => H dx = some (.own a) /\ fs.length <= 1000 /\ dx ≠ a /\ h.get? a = some (PySem.W.instObj C dx) ∧
   ∃ mA, h.Ns1 dx mA /\ (∀ f, Qf1 (fs.lookup f) (mA f)) /\ PySem.Within mA (fs.map (·.1))
 | .own _ => ∃ o, h.get? a = some o
 | .xd fs => ∃ mA, h.Ns1 a mA /\ ∀ f, Qf1 (fs.lookup f) (mA f)
 | .rng lo hi => ∃ t u v, h.get? a = some { cls := .type "range", data := .fields #[.int lo t, .int hi u, .int 1 v] }
 | .frz o u => h.get? a = some o /\ Qa1 H h a u
 | .tbl ps => h.get? a = some { cls := .none, data := .fields ps }
 | .met f x => h.get? a = some (PySem.W.methodObj (.ref f) (.ref x))
 | .ext φ => φ h /\ (∃ o, h.get? a = some o) /\ ∀ h1 h2 : Heap, φ h1 -> (∀ o, h1.get? a = some o -> h2.get? a = some o) -> φ h2
def HOk (H : Hp) (h : Heap) : Prop := ∀ a o, H a = some o -> Qa1 P w H h a o
end
section
variable {P : Program} {w : World} {H H' : Hp} {h h' : Heap} {a : Addr} {o : HO}
theorem Qa1.lt (x : Qa1 P w H h a o) : a < h.objs.size := by
 cases o with
 | lst xs => obtain ⟨_, _, _, _, e⟩ := x; exact Zp e
 | tup xs => obtain ⟨_, _, _, p⟩ := x; exact p.lt
 | dK kvs => obtain ⟨_, _, _, _, o, _, _, e, _⟩ := x; exact Zp e
 | dT kvs => obtain ⟨_, _, _, _, o, _, _, e, _⟩ := x; exact Zp e
 | set S n => obtain ⟨o, _, _, _, e, _⟩ := x; exact Zp e
 | ins C dx fs => obtain ⟨_, _, _, e, _⟩ := x; exact Zp e
 | own y => obtain ⟨_, e⟩ := x; exact Zp e
 | xd fs => obtain ⟨_, ⟨_, _, _, e, _⟩, _⟩ := x; exact Zp e
 | rng lo hi => obtain ⟨_, _, _, e⟩ := x; exact Zp e
 | frz ob u => obtain ⟨e, _⟩ := x; exact Zp e
 | tbl ps => exact Zp (show h.get? a = some _ from x)
 | met f y => exact Zp (show h.get? a = some _ from x)
 | ext φ => obtain ⟨_, ⟨_, e⟩, _⟩ := x; exact Zp e
theorem Paired.Qn1 {α β : Type} {F G : α -> β -> Prop} : ∀ {l₁ : List α} {l₂ : List β}, Paired F l₁ l₂ -> (∀ a b, F a b -> G a b) -> Paired G l₁ l₂
 | _, _, .nil, _ => .nil
 | _, _, .cons r t, f => .cons (f _ _ r) (Paired.Qn1 t f)
theorem Qa1.QeY (x : Qa1 P w H h a o) (k : ∀ b u, (b = a ∨ H b = some (.own a)) -> h.get? b = some u -> h'.get? b = some u)
  (ho : ∀ b, H b = some (.own a) -> H' b = some (.own a)) (ht : ∀ b xs, H b = some (.tup xs) -> H' b = some (.tup xs)) : Qa1 P w H' h' a o := by
 induction o with
 | lst xs => obtain ⟨z, its, n, r, e⟩ := x; exact ⟨z, its, n, r, k _ _ (.inl rfl) e⟩
 | tup xs => obtain ⟨z, its, r, ob, e, c⟩ := x; exact ⟨z, its, r, ob, k _ _ (.inl rfl) e, c⟩
 | dK kvs => obtain ⟨z, y, vs, r, ob, es, ep, e, c⟩ := x; exact ⟨z, y, vs, r, ob, es, ep, k _ _ (.inl rfl) e, c⟩
 | dT kvs =>
  obtain ⟨z, y, xs, r, ob, es, ep, e, c⟩ := x
  exact ⟨z, y, xs, Paired.Qn1 r λ p q z => ⟨z.1, ht _ _ z.2.1, z.2.2⟩, ob, es, ep, k _ _ (.inl rfl) e, c⟩
 | set S n => obtain ⟨ob, es, ep, t, e, c⟩ := x; exact ⟨ob, es, ep, t, k _ _ (.inl rfl) e, c⟩
 | ins C dx fs =>
  obtain ⟨d, z, ne, e, mA, ⟨od, es, ep, e2, c⟩, r⟩ := x
  exact ⟨ho _ d, z, ne, k _ _ (.inl rfl) e, mA, ⟨od, es, ep, k _ _ (.inr d) e2, c⟩, r⟩
 | own y => obtain ⟨ob, e⟩ := x; exact ⟨ob, k _ _ (.inl rfl) e⟩
 | xd fs => obtain ⟨mA, ⟨od, es, ep, e, c⟩, r⟩ := x; exact ⟨mA, ⟨od, es, ep, k _ _ (.inl rfl) e, c⟩, r⟩
 | rng lo hi => obtain ⟨t, u, v, e⟩ := x; exact ⟨t, u, v, k _ _ (.inl rfl) e⟩
 | frz ob u ih => obtain ⟨e, q⟩ := x; exact ⟨k _ _ (.inl rfl) e, ih q⟩
 | tbl ps =>
  have e : h.get? a = some { cls := .none, data := .fields ps } := x
  show h'.get? a = some { cls := .none, data := .fields ps }
  exact k a _ (.inl rfl) e
 | met f y =>
  have e : h.get? a = some (PySem.W.methodObj (.ref f) (.ref y)) := x
  show h'.get? a = some (PySem.W.methodObj (.ref f) (.ref y))
  exact k a _ (.inl rfl) e
 | ext φ => obtain ⟨p, ⟨o, e⟩, st⟩ := x; exact ⟨st _ _ p λ o q => k _ _ (.inl rfl) q, ⟨o, k _ _ (.inl rfl) e⟩, st⟩
theorem HOk.lt (x : HOk P w H h) (e : H a = some o) : a < h.objs.size := (x a o e).lt
theorem HOk.fresh (x : HOk P w H h) (e : h.objs.size <= a) : H a = none := by
 cases q : H a with
 | none => rfl
 | some u => exact absurd (Zn (x.lt q) e) (ZG _)
theorem HOk.kept (x : HOk P w H h) (k : ∀ b u, h.get? b = some u -> h'.get? b = some u) : HOk P w H h' := λ a o e =>
 (x a o e).QeY (λ b u _ q => k b u q) (λ _ q => q) λ _ _ q => q
theorem HOk.laid (x : HOk P w H h) (k : ∀ b u, h.get? b = some u -> h'.get? b = some u) (hp : h.objs.size <= a) (new : Qa1 P w (upd H a o) h' a o) : HOk P w (upd H a o) h' := λ b u e => by
 have hn := x.fresh hp
 by_cases hb : b = a
 ·subst hb; rw [QQ] at e; cases e; exact new
 ·rw [Qt hb] at e
  exact (x b u e).QeY (λ c v _ q => k c v q) (λ c q => by rw [Qt (Qat q hn)]; exact q) λ c xs q => by rw [Qt (Qat q hn)]; exact q
end
def Rd (H : Hp) (a : Addr) (u : HO) : Prop := H a = some u ∨ ∃ o, H a = some (.frz o u)
theorem Rd.of {H : Hp} {a : Addr} {u : HO} (h : H a = some u) : Rd H a u := .inl h
theorem Rd.ok {P : Program} {w : World} {H : Hp} {h : Heap} {a : Addr} {u : HO} (r : Rd H a u) (x : HOk P w H h) : Qa1 P w H h a u := by
 rcases r with r | ⟨o, r⟩
 ·exact x a u r
 ·obtain ⟨_, q⟩ := x a _ r
  exact q
noncomputable def Mut : Option HO -> Prop
 | some (.lst _) => True
 | some (.dK _) => True
 | some (.dT _) => True
 | some (.set _ _) => True
 | some (.ins _ _ _) => True
 | some (.ext _) => True
 | _ => False
section
variable {P : Program} {w : World} {H : Hp} {h h' : Heap} {x e : Addr} {o' : HO}
theorem HOk.write (ok : HOk P w H h) (mu : Mut (H x)) (he : e = x ∨ H e = some (.own x)) (k : ∀ b u, b ≠ e -> h.get? b = some u -> h'.get? b = some u) (heo : ∃ u, h'.get? e = some u)
  (new : Qa1 P w (upd H x o') h' x o') : HOk P w (upd H x o') h' := λ b u q => by
 have nown : ∀ c y, H c = some (.own y) -> c ≠ x := λ c y r z => by subst z; rw [r] at mu; exact mu
 have ntup : ∀ c xs, H c = some (.tup xs) -> c ≠ x := λ c xs r z => by subst z; rw [r] at mu; exact mu
 by_cases hb : b = x
 ·subst hb; rw [QQ] at q; cases q; exact new
 ·rw [Qt hb] at q
  by_cases hbe : b = e
  ·have q' : H b = some (.own x) := by
    rcases he with z | z
    ·exact absurd (hbe.trans z) hb
    ·rw [hbe]; exact z
   rw [q] at q'; cases q'
   obtain ⟨v, hv⟩ := heo
   exact ⟨v, by rw [hbe]; exact hv⟩
  ·refine (ok b u q).QeY (λ c v hc r => k c v ?_ r) (λ c r => by rw [Qt (nown c b r)]; exact r) λ c xs r => by rw [Qt (ntup c xs r)]; exact r
   rcases hc with rfl | hc
   ·exact hbe
   ·rintro rfl
    rcases he with z | z
    ·exact nown c b hc z
    ·rw [hc] at z; cases z; exact hb rfl
end
structure Un (fs ex : List Addr) (H H' : Hp) (h h' : Heap) : Prop where
 keep : ∀ b o, h.get? b = some o -> H b = none -> b ∉ fs -> b ∉ ex -> h'.get? b = some o
 slot : ∀ b o, h.get? b = some o -> H b = none -> b ∈ fs -> b ∉ ex -> ∃ sl, h'.get? b = some { o with slots := sl }
 free : ∀ b o, h.get? b = some o -> H b = none -> b ∉ ex -> H' b = none
 there : ∀ b o, h.get? b = some o -> b ∉ ex -> ∃ o', h'.get? b = some o'
 tups : ∀ b xs, H b = some (.tup xs) -> H' b = some (.tup xs)
 frzs : ∀ b o u, H b = some (.frz o u) -> H' b = some (.frz o u)
 tbls : ∀ b ps, H b = some (.tbl ps) -> ∃ more, H' b = some (.tbl (ps ++ more))
section
variable {fs fs' ex ex' : List Addr} {H H1 H2 : Hp} {h h1 h2 h' : Heap} {a x e : Addr} {o : HO}
theorem Un.any (u : Un fs ex H H1 h h1) {b : Addr} {ob : Obj} (q : h.get? b = some ob) (n : H b = none) (hx : b ∉ ex) : ∃ sl, h1.get? b = some { ob with slots := sl } := by
 by_cases hb : b ∈ fs
 ·exact u.slot b ob q n hb hx
 ·exact ⟨ob.slots, u.keep b ob q n hb hx⟩
theorem Un.trans (a : Un fs ex H H1 h h1) (b : Un fs ex H1 H2 h1 h2) : Un fs ex H H2 h h2 where
 keep := λ c ob q n hc hx => b.keep c ob (a.keep c ob q n hc hx) (a.free c ob q n hx) hc hx
 slot := λ c ob q n hc hx => by
  obtain ⟨sl, e1⟩ := a.slot c ob q n hc hx
  obtain ⟨sl', e2⟩ := b.slot c _ e1 (a.free c ob q n hx) hc hx
  exact ⟨sl', e2⟩
 free := λ c ob q n hx => by
  obtain ⟨o', e1⟩ := a.there c ob q hx
  exact b.free c o' e1 (a.free c ob q n hx) hx
 there := λ c ob q hx => by
  obtain ⟨o', e1⟩ := a.there c ob q hx
  exact b.there c o' e1 hx
 tups := λ c xs q => b.tups c xs (a.tups c xs q)
 frzs := λ c ob xs q => b.frzs c ob xs (a.frzs c ob xs q)
 tbls := λ c ps q => by
  obtain ⟨m1, e1⟩ := a.tbls c ps q
  obtain ⟨m2, e2⟩ := b.tbls c _ e1
  exact ⟨m1 ++ m2, by rw [e2, Array.append_assoc]⟩
theorem Un.kept (k : ∀ b u, h.get? b = some u -> h'.get? b = some u) : Un fs ex H H h h' :=
 ⟨λ b ob q _ _ _ => k b ob q, λ b ob q _ _ _ => ⟨ob.slots, k b ob q⟩, λ _ _ _ n _ => n, λ b ob q _ => ⟨ob, k b ob q⟩, λ _ _ q => q, λ _ _ _ q => q, λ _ ps q => ⟨#[], by rw [q]; simp⟩⟩
theorem Un.refl : Un fs ex H H h h := Un.kept λ _ _ q => q
theorem Un.laid (k : ∀ b u, h.get? b = some u -> h'.get? b = some u) (hp : h.objs.size <= a) (hn : H a = none) : Un fs ex H (upd H a o) h h' where
 keep := λ b u q _ _ _ => k b u q
 slot := λ b u q _ _ _ => ⟨u.slots, k b u q⟩
 free := λ b u q n _ => by rw [Qt (ZH (Zn (Zp q) hp))]; exact n
 there := λ b u q _ => ⟨u, k b u q⟩
 tups := λ b xs q => by rw [Qt (Qat q hn)]; exact q
 frzs := λ b u xs q => by rw [Qt (Qat q hn)]; exact q
 tbls := λ b ps q => ⟨#[], by rw [Qt (Qat q hn), q]; simp⟩
theorem Un.write (mu : Mut (H x)) (he : e = x ∨ H e = some (.own x)) (k : ∀ b u, b ≠ e -> h.get? b = some u -> h'.get? b = some u) (heo : ∃ u, h'.get? e = some u) : Un fs ex H (upd H x o) h h' := by
 have hx : ∀ b, H b = none -> b ≠ x := λ b n z => by subst z; rw [n] at mu; exact mu
 have hb : ∀ b, H b = none -> b ≠ e := λ b n z => by
  subst z
  rcases he with r | r
  ·exact hx b n r
  ·rw [n] at r; cases r
 have hm : ∀ b u, H b = some u -> ¬ Mut (some u) -> b ≠ x := λ b u q nm z => by subst z; rw [q] at mu; exact nm mu
 refine ⟨λ b u q n _ _ => k b u (hb b n) q, λ b u q n _ _ => ⟨u.slots, k b u (hb b n) q⟩, λ b u q n _ => by rw [Qt (hx b n)]; exact n, λ b u q _ => ?_,
  λ b xs q => by rw [Qt (hm b _ q λ z => z)]; exact q, λ b u xs q => by rw [Qt (hm b _ q λ z => z)]; exact q, λ b ps q => ⟨#[], by rw [Qt (hm b _ q λ z => z), q]; simp⟩⟩
 by_cases hbe : b = e
 ·subst hbe; exact heo
 ·exact ⟨u, k b u hbe q⟩
theorem Un.mono (u : Un fs ex H H1 h h1) (hs : ∀ b ∈ fs, b ∈ fs') (hx : ∀ b ∈ ex, b ∈ ex') : Un fs' ex' H H1 h h1 :=
 ⟨λ b ob q n hb he => u.keep b ob q n (λ z => hb (hs b z)) λ z => he (hx b z), λ _ _ q n _ he => u.any q n λ z => he (hx _ z), λ b ob q n he => u.free b ob q n λ z => he (hx b z), λ b ob q he => u.there b ob q λ z => he (hx b z), u.tups, u.frzs, u.tbls⟩
end
noncomputable def trk (h : Heap) (H : Hp) : List Addr := (List.range h.objs.size).filter λ a => (H a).isSome
noncomputable def Qdx (h : Heap) (H : Hp) : Heap := PySem.W.hideAll h (trk h H)
theorem Qj7 (h : Heap) (H : Hp) : (Qdx h H).objs.size = h.objs.size := PySem.W.hideAll_size _ _
theorem Qk4 {h : Heap} {H : Hp} {b : Addr} {o : Obj} (e : h.get? b = some o) (n : H b = none) : (Qdx h H).get? b = some o :=
 PySem.W.hideAll_get _ e λ hm => by
  have q : (H b).isSome = true := (Zak.mp hm).2
  rw [n] at q; simp at q
theorem Qmj {h : Heap} {H : Hp} {b : Addr} {o : Obj} (e : (Qdx h H).get? b = some o) : h.get? b = some o /\ H b = none := by
 have e' : h.get? b = some o := PySem.W.of_hideAll (trk h H) e
 refine ⟨e', ?_⟩
 cases q : H b with
 | none => rfl
 | some x =>
  have hm : b ∈ trk h H := Zak.mpr ⟨ZF.mpr (Zp e'), by simp [q]⟩
  have z : (Qdx h H).get? b = none := PySem.W.hideAll_none (trk h H) hm
  rw [z] at e; cases e
noncomputable def Qmt (g h : Heap) (L : Addr) : List (Addr × Obj) := (List.range h.objs.size).filterMap λ a => if a = L ∨ (g.get? a).isSome = true then none else (h.get? a).map λ o => (a, o)
noncomputable def rest (g h : Heap) (L d : Addr) : List (Addr × Obj) := (Qmt g h L).filter λ p => decide (p.1 ≠ d)
end L2
namespace L2
open PySem PySem.Spec PyProof.Rows
structure Mod (K : PySem.W.Frag) (mg : Str -> Option Value) (base : Heap) : Prop where
 kin : K.In base
 glob : base.Ns mainGlobals mg
 blt : ∃ mb, base.Ns builtinsNs mb /\ ∀ x : Str, x ≠ "__name__" -> mb x = bootBuiltins x
 nolimit : base.NoLimit
structure Cx where
 prog : Program
 w : World
 K : PySem.W.Frag
 mg : Str -> Option Value
 base : Heap
 A : Around
 N : List Str
 s₀ : Shared
 H₀ : Hp
 env : Env
 outer : List Env
 stack : List Env
 ex : List Addr
 fn : Str -> Bool
 calm : Bool
 pn : List (Addr × Obj)
 xe : Value -> Shared -> Prop
noncomputable def frs (l : List Env) : List Addr := l.filterMap (·.frame)
noncomputable abbrev Cx.fs (X : Cx) : List Addr := frs X.outer
def Vis (sc : Scope) (x : Str) : Prop := sc.names.lookup x = some .local ∨ sc.names.lookup x = some .cell ∨ sc.names.lookup x = some .free
def Loc (sc : Scope) (x : Str) : Prop := sc.names.lookup x = some .local ∨ sc.names.lookup x = some .cell
def Look (env : Env) (h : Heap) (m : Str -> Option Value) (x : Str) (u : Value) : Prop :=
 (env.kindOf x = some .local /\ m x = some u) ∨ ((env.kindOf x = some .cell ∨ env.kindOf x = some .free) /\ ∃ c, env.cells.lookup x = some c /\ h.IsCell c (some u))
structure Cx.Ok (X : Cx) : Prop where
 mod : Mod X.K X.mg X.base
 kind : X.env.scope.kind = .function
 glob : X.env.globals = mainGlobals
 blt : X.env.builtins = builtinsNs
 above : X.s₀.heap.objs.size <= X.env.locals
 inj : ∀ x y c, X.env.cells.lookup x = some c -> X.env.cells.lookup y = some c -> x = y
 has : ∀ x, (X.env.kindOf x = some .cell ∨ X.env.kindOf x = some .free) -> ∃ c, X.env.cells.lookup x = some c
 cab : ∀ x c, X.fn x = true -> X.env.cells.lookup x = some c -> X.s₀.heap.objs.size <= c
 hd : X.calm = true -> X.A.handled = none
 frames : X.A.frames = some X.stack
 stk : X.stack = X.outer ∨ (X.stack = X.env :: X.outer /\ X.env.frame = some X.env.locals)
 exf : ∀ b ∈ X.ex, b ≠ X.env.locals /\ ∀ x c, X.env.cells.lookup x = some c -> c ≠ b
 bs : ∀ b o, X.base.get? b = some o -> X.s₀.heap.get? b = some o /\ X.H₀ b = none
 bsz : X.base.objs.size <= X.s₀.heap.objs.size
 noex : ∀ b o, X.base.get? b = some o -> b ∉ X.ex
 exfs : ∀ b ∈ X.ex, b ∉ X.fs
 QbU : X.s₀.heap.FunFrames X.base X.outer
 frf : ∀ b ∈ X.fs, X.H₀ b = none
structure Inv (X : Cx) (pins : List (Addr × Obj)) (σ : List (Option V)) (H : Hp) (s : Shared) : Prop where
 ok : X.Ok
 os : s.os = X.s₀.os
 bare : AllBare s.gens
 base : Un X.fs X.ex X.H₀ H X.s₀.heap s.heap
 loc : ∃ m, s.heap.Ns X.env.locals m /\ ∀ (i : Nat) (x : Str) (v : V), X.N[i]? = some x -> σ[i]? = some (some v) -> Vis X.env.scope x -> ∃ u, RelV v u /\ Look X.env s.heap m x u
 cell : ∀ x c, X.env.cells.lookup x = some c -> ∃ v, s.heap.IsCell c v
 free : H X.env.locals = none
 freeC : ∀ x c, X.env.cells.lookup x = some c -> H c = none
 pin : ∀ p ∈ X.pn ++ pins, s.heap.get? p.1 = some p.2 /\ H p.1 = none /\ p.1 ≠ X.env.locals /\ p.1 ∉ X.fs /\ ∀ v, p.2.data ≠ .cell v
 hok : HOk X.prog X.w H s.heap
 len : σ.length = X.N.length
section
variable {X : Cx} {pins : List (Addr × Obj)} {σ : List (Option V)} {H H' : Hp} {s : Shared} {h' : Heap}
theorem Cx.Ok.QpR (ok : X.Ok) {b : Addr} {o : Obj} (e : X.base.get? b = some o) : b ∉ X.fs := λ hb => by
 have := (ok.QbU.mem hb).1
 rw [e] at this; cases this
theorem Inv.bs (I : Inv X pins σ H s) : ∀ b o, X.base.get? b = some o -> s.heap.get? b = some o /\ H b = none := λ b o e =>
 ⟨I.base.keep b o (I.ok.bs b o e).1 (I.ok.bs b o e).2 (I.ok.QpR e) (I.ok.noex b o e), I.base.free b o (I.ok.bs b o e).1 (I.ok.bs b o e).2 (I.ok.noex b o e)⟩
theorem Inv.bk (I : Inv X pins σ H s) : ∀ b o, X.base.get? b = some o -> s.heap.get? b = some o := λ b o e => (I.bs b o e).1
theorem Inv.mod (I : Inv X pins σ H s) : Mod X.K X.mg X.base := I.ok.mod
theorem Inv.kIn (I : Inv X pins σ H s) : X.K.In s.heap := I.ok.mod.kin.keeps I.bk
theorem Inv.nolimit (I : Inv X pins σ H s) : s.heap.NoLimit := I.ok.mod.nolimit.keeps I.bk
theorem Inv.fr (I : Inv X pins σ H s) : ∃ m, Fr X.base X.env.locals s.heap m :=
 let ⟨m, hn, _⟩ := I.loc
 ⟨m, hn, I.bk, Zr I.ok.bsz I.ok.above⟩
theorem Inv.lt (I : Inv X pins σ H s) : X.env.locals < s.heap.objs.size := let ⟨_, hn, _⟩ := I.loc; hn.lt
theorem Inv.sz (I : Inv X pins σ H s) : X.s₀.heap.objs.size <= s.heap.objs.size := Zr I.ok.above (Nat.le_of_lt I.lt)
theorem Inv.Qqu (I : Inv X pins σ H s) {a : Addr} (h : s.heap.objs.size <= a) : a ∉ X.fs := λ hb => by
 obtain ⟨_, o, ho, _⟩ := I.ok.QbU.mem hb
 exact absurd (Zn (Zp ho) (Zr I.sz h)) (ZG _)
theorem Inv.cne (I : Inv X pins σ H s) : ∀ x c, X.env.cells.lookup x = some c -> c ≠ X.env.locals := λ x c e z => by
 obtain ⟨v, o, ho, hd⟩ := I.cell x c e
 obtain ⟨m, ⟨o', es, ep, ho', hd', _⟩, _⟩ := I.loc
 rw [z, ho'] at ho; cases ho; rw [hd'] at hd; cases hd
theorem Inv.QbU (I : Inv X pins σ H s) : s.heap.FunFrames X.base X.outer := by
 have all : ∀ (l : List Env), (∀ b ∈ frs l, b ∈ X.fs) -> X.s₀.heap.FunFrames X.base l -> s.heap.FunFrames X.base l := by
  intro l
  induction l with
  | nil => intro _ _; trivial
  | cons env r ih =>
   intro hs hl
   obtain ⟨hk, ⟨L, o, hf, hn, ho, hd⟩, hr⟩ := hl
   have hL : L ∈ X.fs := hs L (by unfold frs; rw [ZaO, hf]; exact Zi)
   obtain ⟨sl, e⟩ := I.base.slot L o ho (I.ok.frf L hL) hL λ z => I.ok.exfs L z hL
   exact ⟨hk, ⟨L, _, hf, hn, e, hd⟩, ih (λ b hb => hs b (by unfold frs; rw [ZaO, hf]; exact Zd _ hb)) hr⟩
 exact all X.outer (λ _ hb => hb) I.ok.QbU
theorem Inv.stack (I : Inv X pins σ H s) : s.heap.FunFrames X.base X.stack := by
 rcases I.ok.stk with e | ⟨e, hf⟩
 ·rw [e]; exact I.QbU
 ·rw [e]
  obtain ⟨m, hn, _⟩ := I.loc
  refine .cons (by rw [I.ok.kind]; decide) hf hn ?_ I.QbU
  exact Heap.get?_none_of_le (Zr I.ok.bsz I.ok.above)
theorem Inv.Qfe (I : Inv X pins σ H s) : ∀ b ∈ frs X.stack, b ∈ X.env.locals :: X.fs := λ b hb => by
 rcases I.ok.stk with e | ⟨e, hf⟩
 ·rw [e] at hb; exact Zd _ hb
 ·rw [e] at hb
  unfold frs at hb
  rw [ZaO, hf] at hb
  exact hb
theorem Inv.Qis (I : Inv X pins σ H s) : ∀ b ∈ frs X.stack, H b = none := λ b hb => by
 rcases Zt.mp (I.Qfe b hb) with e | hb
 ·rw [e]; exact I.free
 ·obtain ⟨_, o, ho, _⟩ := I.ok.QbU.mem hb
  exact I.base.free b o ho (I.ok.frf b hb) λ z => I.ok.exfs b z hb
theorem Inv.step {g' : Array GenState} {t' : Nat} {d' : Drawn} {ch : List Addr} (I : Inv X pins σ H s)
  (hch : ∀ b ∈ ch, (b ∈ X.ex ∨ X.s₀.heap.objs.size <= b) /\ b ≠ X.env.locals /\ (∀ x c, X.env.cells.lookup x = some c -> c ≠ b) /\ ∀ p ∈ X.pn ++ pins, p.1 ≠ b)
  (keep : ∀ b o, b ≠ X.env.locals -> b ∉ X.fs -> b ∉ ch -> s.heap.get? b = some o -> H b = none -> h'.get? b = some o)
  (slot : ∀ b o, b ≠ X.env.locals -> b ∈ X.fs -> b ∉ ch -> s.heap.get? b = some o -> H b = none -> ∃ sl, h'.get? b = some { o with slots := sl }) (free : ∀ b o, b ∉ ch -> s.heap.get? b = some o -> H b = none -> H' b = none)
  (there : ∀ b o, b ∉ ch -> s.heap.get? b = some o -> ∃ o', h'.get? b = some o')
  (tups : ∀ b xs, H b = some (.tup xs) -> H' b = some (.tup xs)) (frzs : ∀ b o u, H b = some (.frz o u) -> H' b = some (.frz o u)) (tbls : ∀ b ps, H b = some (.tbl ps) -> ∃ more, H' b = some (.tbl (ps ++ more)))
  (ns : ∀ m, s.heap.Ns X.env.locals m -> h'.Ns X.env.locals m) (hok : HOk X.prog X.w H' h') (hg : AllBare g') :
  Inv X pins σ H' { s with heap := h', gens := g', drawn := d', toks := t' } := by
 have neL : ∀ b o, X.s₀.heap.get? b = some o -> b ≠ X.env.locals := λ b o e => ZH (Zn (Zp e) I.ok.above)
 have neC : ∀ b o, X.s₀.heap.get? b = some o -> b ∉ X.ex -> b ∉ ch := λ b o e hx hb => by
  rcases (hch b hb).1 with z | z
  ·exact hx z
  ·exact absurd (Zn (Zp e) z) (ZG _)
 have cellK : ∀ x c, X.env.cells.lookup x = some c -> ∀ v, s.heap.IsCell c v -> h'.IsCell c v := λ x c e v ⟨o, ho, hd⟩ => by
  have nch : c ∉ ch := λ z => (hch c z).2.2.1 x c e rfl
  by_cases hc : c ∈ X.fs
  ·obtain ⟨sl, q⟩ := slot c o (I.cne x c e) hc nch ho (I.freeC x c e)
   exact ⟨_, q, hd⟩
  ·exact ⟨o, keep c o (I.cne x c e) hc nch ho (I.freeC x c e), hd⟩
 refine ⟨I.ok, I.os, hg, ⟨λ b o e n hb hx => ?_, λ b o e n hb hx => ?_, λ b o e n hx => ?_, λ b o e hx => ?_, λ b xs e => tups b xs (I.base.tups b xs e), λ b o xs e => frzs b o xs (I.base.frzs b o xs e), λ b ps e => ?_⟩, ?_, λ x c e => ?_, ?_, λ x c e => ?_, λ p hp => ?_, hok, I.len⟩
 ·exact keep b o (neL b o e) hb (neC b o e hx) (I.base.keep b o e n hb hx) (I.base.free b o e n hx)
 ·obtain ⟨sl, e1⟩ := I.base.slot b o e n hb hx
  obtain ⟨sl', e2⟩ := slot b _ (neL b o e) hb (neC b o e hx) e1 (I.base.free b o e n hx)
  exact ⟨sl', e2⟩
 ·obtain ⟨o', e1⟩ := I.base.there b o e hx
  exact free b o' (neC b o e hx) e1 (I.base.free b o e n hx)
 ·obtain ⟨o', e1⟩ := I.base.there b o e hx
  exact there b o' (neC b o e hx) e1
 ·obtain ⟨m1, e1⟩ := I.base.tbls b ps e
  obtain ⟨m2, e2⟩ := tbls b _ e1
  exact ⟨m1 ++ m2, by rw [e2, Array.append_assoc]⟩
 ·obtain ⟨m, hn, hl⟩ := I.loc
  refine ⟨m, ns m hn, λ i x v e1 e2 e3 => ?_⟩
  obtain ⟨u, r, l⟩ := hl i x v e1 e2 e3
  refine ⟨u, r, ?_⟩
  rcases l with l | ⟨k, c, e, z⟩
  ·exact .inl l
  ·exact .inr ⟨k, c, e, cellK x c e _ z⟩
 ·obtain ⟨v, z⟩ := I.cell x c e
  exact ⟨v, cellK x c e v z⟩
 ·obtain ⟨m, ⟨o, _, _, ho, _⟩, _⟩ := I.loc
  exact free _ o (λ z => (hch _ z).2.1 rfl) ho I.free
 ·obtain ⟨v, o, ho, hd⟩ := I.cell x c e
  exact free c o (λ z => (hch c z).2.2.1 x c e rfl) ho (I.freeC x c e)
 ·obtain ⟨e, n, ne, nf, d⟩ := I.pin p hp
  have nch : p.1 ∉ ch := λ z => (hch p.1 z).2.2.2 p hp rfl
  exact ⟨keep p.1 p.2 ne nf nch e n, free p.1 p.2 nch e n, ne, nf, d⟩
theorem Inv.un {t' : Nat} (I : Inv X pins σ H s) (u : Un X.fs [] H H' s.heap h') (hok : HOk X.prog X.w H' h') : Inv X pins σ H' { s with heap := h', toks := t' } := by
 obtain ⟨m, ⟨o, es, ep, ho, r⟩, _⟩ := id I.loc
 obtain ⟨sl, hL⟩ := u.any ho I.free (by simp)
 exact I.step (g' := s.gens) (d' := s.drawn) (ch := []) (λ _ z => nomatch z) (λ b o _ hb _ e n => u.keep b o e n hb (by simp)) (λ b o _ hb _ e n => u.slot b o e n hb (by simp)) (λ b o _ e n => u.free b o e n (by simp)) (λ b o _ e => u.there b o e (by simp)) u.tups u.frzs u.tbls (λ m' hm => by
  obtain ⟨o', es', ep', ho', r'⟩ := hm
  rw [ho] at ho'; cases ho'
  exact ⟨_, es', ep', hL, r'⟩) hok I.bare
theorem Inv.call {g' : Array GenState} {t' : Nat} {d' : Drawn} {ch : List Addr} (I : Inv X pins σ H s) (u : Un (frs X.stack) ch H H' s.heap h') (hok : HOk X.prog X.w H' h') (hg : AllBare g')
  (hch : ∀ b ∈ ch, (b ∈ X.ex ∨ X.s₀.heap.objs.size <= b) /\ b ≠ X.env.locals /\ (∀ x c, X.env.cells.lookup x = some c -> c ≠ b) /\ ∀ p ∈ X.pn ++ pins, p.1 ≠ b) :
  Inv X pins σ H' { s with heap := h', gens := g', drawn := d', toks := t' } := by
 obtain ⟨m, ⟨o, es, ep, ho, r⟩, _⟩ := id I.loc
 obtain ⟨sl, hL⟩ := u.any ho I.free λ z => (hch _ z).2.1 rfl
 exact I.step (ch := ch) hch (λ b o hL hb hc e n => u.keep b o e n (λ z => (Zt.mp (I.Qfe b z)).elim hL hb) hc) (λ b o _ _ hc e n => u.any e n hc) (λ b o hc e n => u.free b o e n hc) (λ b o hc e => u.there b o e hc) u.tups u.frzs u.tbls (λ m' hm => by
  obtain ⟨o', es', ep', ho', r'⟩ := hm
  rw [ho] at ho'; cases ho'
  exact ⟨_, es', ep', hL, r'⟩) hok hg
theorem Inv.turned {t' : Nat} {it : Addr} (I : Inv X pins σ H s) (k : ∀ b o, b ≠ it -> s.heap.get? b = some o -> h'.get? b = some o) (hn : H it = none) (hL : it ≠ X.env.locals)
  (h1 : it ∈ X.ex ∨ X.s₀.heap.objs.size <= it) (h2 : ∀ x c, X.env.cells.lookup x = some c -> c ≠ it) (h3 : ∀ p ∈ X.pn ++ pins, p.1 ≠ it) : Inv X pins σ H { s with heap := h', toks := t' } := by
 have nit : ∀ b u, H b = some u -> b ≠ it := λ b u e z => by rw [z, hn] at e; cases e
 refine I.step (g' := s.gens) (d' := s.drawn) (ch := [it]) (λ b hb => ?_) (λ b o _ _ hc e _ => k b o (λ z => hc (by simp [z])) e) (λ b o _ _ hc e _ => ⟨o.slots, k b o (λ z => hc (by simp [z])) e⟩) (λ _ _ _ _ n => n)
  (λ b o hc e => ⟨o, k b o (λ z => hc (by simp [z])) e⟩) (λ _ _ e => e) (λ _ _ _ e => e) (λ b ps e => ⟨#[], by rw [e]; simp⟩) (λ m hm => ?_) (λ b u e => ?_) I.bare
 ·have e : b = it := by simpa using hb
  subst e
  exact ⟨h1, hL, h2, h3⟩
 ·obtain ⟨o, es, ep, ho, r⟩ := hm
  exact ⟨o, es, ep, k _ o (Ne.symm hL) ho, r⟩
 ·refine (I.hok b u e).QeY (λ c v hc q => k c v ?_ q) (λ _ q => q) λ _ _ q => q
  rcases hc with z | z
  ·rw [z]; exact nit b u e
  ·exact nit c _ z
theorem Inv.tok (I : Inv X pins σ H s) (t : Nat) : Inv X pins σ H { s with toks := t } := I.un (h' := s.heap) (t' := t) Un.refl I.hok
theorem Inv.kept {t' : Nat} (I : Inv X pins σ H s) (k : ∀ b u, s.heap.get? b = some u -> h'.get? b = some u) : Inv X pins σ H { s with heap := h', toks := t' } := I.un (Un.kept k) (I.hok.kept k)
theorem Inv.laid {a : Addr} {o : HO} {t' : Nat} (I : Inv X pins σ H s) (k : ∀ b u, s.heap.get? b = some u -> h'.get? b = some u) (hp : s.heap.objs.size <= a) (new : Qa1 X.prog X.w (upd H a o) h' a o) :
  Inv X pins σ (upd H a o) { s with heap := h', toks := t' } := I.un (Un.laid k hp (I.hok.fresh hp)) (I.hok.laid k hp new)
theorem Inv.write {x e : Addr} {o : HO} {t' : Nat} (I : Inv X pins σ H s) (mu : Mut (H x)) (he : e = x ∨ H e = some (.own x)) (k : ∀ b u, b ≠ e -> s.heap.get? b = some u -> h'.get? b = some u) (heo : ∃ u, h'.get? e = some u)
  (new : Qa1 X.prog X.w (upd H x o) h' x o) : Inv X pins σ (upd H x o) { s with heap := h', toks := t' } := I.un (Un.write mu he k heo) (I.hok.write mu he k heo new)
theorem Inv.weak {σ' : List (Option V)} (I : Inv X pins σ H s) (hl : σ'.length = σ.length) (w : ∀ (i : Nat) v, σ'[i]? = some (some v) -> σ[i]? = some (some v)) : Inv X pins σ' H s :=
 ⟨I.ok, I.os, I.bare, I.base, let ⟨m, hn, hl'⟩ := I.loc; ⟨m, hn, λ i x v e1 e2 e3 => hl' i x v e1 (w i v e2) e3⟩, I.cell, I.free, I.freeC, I.pin, I.hok, hl.trans I.len⟩
theorem Inv.Qit {pins' : List (Addr × Obj)} (I : Inv X pins σ H s) (h : ∀ p ∈ pins', s.heap.get? p.1 = some p.2 /\ H p.1 = none /\ p.1 ≠ X.env.locals /\ p.1 ∉ X.fs /\ ∀ v, p.2.data ≠ .cell v) : Inv X pins' σ H s :=
 ⟨I.ok, I.os, I.bare, I.base, I.loc, I.cell, I.free, I.freeC, λ p hp => (Zx.mp hp).elim (λ z => I.pin p (Zf _ z)) (h p), I.hok, I.len⟩
theorem Qhd {N : List Str} (hN : N.Nodup) {i j : Nat} {x : Str} (a : N[i]? = some x) (b : N[j]? = some x) : i = j := by
 obtain ⟨h1, e1⟩ := Zh.mp a
 obtain ⟨h2, e2⟩ := Zh.mp b
 exact (List.getElem_inj hN).mp (e1.trans e2.symm)
theorem Qgu {M : Model} {A : Around} {E : Value -> Shared -> Prop} {i : Nat} {x : Str} {v : V} {u : Value} {Q : Unit -> Shared -> Prop} (I : Inv X pins σ H s) (hN : X.N.Nodup) (hi : X.N[i]? = some x) (hx : Loc X.env.scope x) (r : RelV v u)
  (h : ∀ s', Inv X pins (σ.set i (some v)) H s' -> (∃ a, Heap.SameBut a s.heap s'.heap /\ (a = X.env.locals ∨ X.env.cells.lookup x = some a)) -> Q () s') (hf : X.fn x = true ∨ X.env.scope.names.lookup x = some .local := by first | exact .inl rfl | exact .inr rfl | assumption) : wpAny M A (storeName X.env x u) Q E s := by
 obtain ⟨m, hn, hl⟩ := id I.loc
 have hcls : (X.env.scope.kind == .class || (X.env.scope.kind == .module && X.env.locals != X.env.globals)) = false := by rw [I.ok.kind]; rfl
 have hiσ : i < σ.length := by rw [I.len]; exact (Zh.mp hi).1
 have cne := I.cne
 have tracked : ∀ {a : Addr} {h' : Heap}, (∃ o, s.heap.get? a = some o /\ H a = none) -> Heap.SameBut a s.heap h' -> HOk X.prog X.w H h' := λ {a h'} ha hs b ob e => by
  obtain ⟨_, _, hfree⟩ := ha
  refine (I.hok b ob e).QeY (λ c w' hc q => (hs.2 c ?_).trans q) (λ _ q => q) λ _ _ q => q
  rintro rfl
  rcases hc with rfl | hc
  ·rw [hfree] at e; cases e
  ·rw [hfree] at hc; cases hc
 rcases hx with hk | hk
 ·refine wpAny_storeName_local hk hn (λ h' hn' hs => ?_) hcls
  obtain ⟨oL, _, _, hoL, _⟩ := id hn
  refine h _ ⟨I.ok, I.os, I.bare, ⟨λ b o e n hb hx => ?_, λ b o e n hb hx => ?_, I.base.free, λ b o e hx => ?_, I.base.tups, I.base.frzs, I.base.tbls⟩, ⟨_, hn', λ j y v' e1 e2 e3 => ?_⟩, λ y c e => ?_, I.free, I.freeC, λ p hp => ?_, tracked ⟨oL, hoL, I.free⟩ hs, by simpa using I.len⟩ ⟨_, hs, .inl rfl⟩
  ·exact (hs.2 b (ZH (Zn (Zp e) I.ok.above))).trans (I.base.keep b o e n hb hx)
  ·obtain ⟨sl, e1⟩ := I.base.slot b o e n hb hx
   exact ⟨sl, (hs.2 b (ZH (Zn (Zp e) I.ok.above))).trans e1⟩
  ·obtain ⟨o', e1⟩ := I.base.there b o e hx
   exact ⟨o', (hs.2 b (ZH (Zn (Zp e) I.ok.above))).trans e1⟩
  ·by_cases hj : j = i
   ·subst hj
    rw [hi] at e1; cases e1
    rw [Zk hiσ] at e2
    cases e2
    exact ⟨u, r, .inl ⟨hk, by simp⟩⟩
   ·rw [Ze (Ne.symm hj)] at e2
    obtain ⟨u', r', q⟩ := hl j y v' e1 e2 e3
    refine ⟨u', r', ?_⟩
    rcases q with ⟨k, e⟩ | ⟨k, c, e, z⟩
    ·refine .inl ⟨k, ?_⟩
     have : y ≠ x := λ e => hj (Qhd hN e1 (e ▸ hi))
     simp [this, e]
    ·exact .inr ⟨k, c, e, z.sameBut hs (cne y c e)⟩
  ·obtain ⟨w', z⟩ := I.cell y c e
   exact ⟨w', z.sameBut hs (cne y c e)⟩
  ·obtain ⟨e, n, ne, nf, d⟩ := I.pin p hp
   exact ⟨(hs.2 p.1 ne).trans e, n, ne, nf, d⟩
 ·have hfn : X.fn x = true := by
   rcases hf with z | z
   ·exact z
   ·rw [z] at hk; cases hk
  obtain ⟨c, hc⟩ := I.ok.has x (.inl hk)
  obtain ⟨w', z⟩ := I.cell x c hc
  refine wpAny_storeName_cell I.ok.kind hk hc z (λ h' hc' hs => ?_)
  obtain ⟨oc, hoc, hocd⟩ := id z
  refine h { s with heap := h' } ⟨I.ok, I.os, I.bare, ⟨λ b o e n hb hx => ?_, λ b o e n hb hx => ?_, I.base.free, λ b o e hx => ?_, I.base.tups, I.base.frzs, I.base.tbls⟩, ⟨m, hn.sameBut hs (Ne.symm (cne x c hc)), λ j y v' e1 e2 e3 => ?_⟩, λ y c' e => ?_, I.free, I.freeC, λ p hp => ?_, tracked ⟨oc, hoc, I.freeC x c hc⟩ hs, by simpa using I.len⟩ ⟨c, hs, .inr hc⟩
  ·exact (hs.2 b (ZH (Zn (Zp e) (I.ok.cab x c hfn hc)))).trans (I.base.keep b o e n hb hx)
  ·obtain ⟨sl, e1⟩ := I.base.slot b o e n hb hx
   exact ⟨sl, (hs.2 b (ZH (Zn (Zp e) (I.ok.cab x c hfn hc)))).trans e1⟩
  ·obtain ⟨o', e1⟩ := I.base.there b o e hx
   exact ⟨o', (hs.2 b (ZH (Zn (Zp e) (I.ok.cab x c hfn hc)))).trans e1⟩
  ·by_cases hj : j = i
   ·subst hj
    rw [hi] at e1; cases e1
    rw [Zk hiσ] at e2
    cases e2
    exact ⟨u, r, .inr ⟨.inl hk, c, hc, hc'⟩⟩
   ·rw [Ze (Ne.symm hj)] at e2
    obtain ⟨u', r', q⟩ := hl j y v' e1 e2 e3
    refine ⟨u', r', ?_⟩
    rcases q with q | ⟨k, c', e, z'⟩
    ·exact .inl q
    ·refine .inr ⟨k, c', e, z'.sameBut hs ?_⟩
     rintro rfl
     exact hj (Qhd hN e1 (I.ok.inj _ _ _ e hc ▸ hi))
  ·by_cases hcc : c' = c
   ·subst hcc; exact ⟨_, hc'⟩
   ·obtain ⟨w2, z2⟩ := I.cell y c' e
    exact ⟨w2, z2.sameBut hs hcc⟩
  ·obtain ⟨e, n, ne, nf, d⟩ := I.pin p hp
   refine ⟨(hs.2 p.1 ?_).trans e, n, ne, nf, d⟩
   intro q
   rw [q, hoc] at e
   have q' : oc = p.2 := Option.some.inj e
   exact d w' (by rw [← q']; exact hocd)
theorem QhL {M : Model} {A : Around} {E : Value -> Shared -> Prop} {i : Nat} {x : Str} {v : V} {u : Value} {Q : Unit -> Shared -> Prop} (I : Inv X pins σ H s) (hN : X.N.Nodup) (hi : X.N[i]? = some x) (hx : Loc X.env.scope x) (r : RelV v u)
  (h : ∀ s', Inv X pins (σ.set i (some v)) H s' -> Q () s') (hf : X.fn x = true ∨ X.env.scope.names.lookup x = some .local := by first | exact .inl rfl | exact .inr rfl | assumption) : wpAny M A (storeName X.env x u) Q E s :=
 Qgu I hN hi hx r (λ s' I' _ => h s' I') hf
theorem Inv.QoU {s' : Shared} {ch : List Addr} (I : Inv X pins σ H s) (ho : s'.os = s.os) (u : Un (frs X.stack) ch H H' s.heap s'.heap) (hok : HOk X.prog X.w H' s'.heap) (hg : AllBare s'.gens)
  (hch : ∀ b ∈ ch, (b ∈ X.ex ∨ X.s₀.heap.objs.size <= b) /\ b ≠ X.env.locals /\ (∀ x c, X.env.cells.lookup x = some c -> c ≠ b) /\ ∀ p ∈ X.pn ++ pins, p.1 ≠ b) : Inv X pins σ H' s' := by
 obtain ⟨h', g', d', t', o'⟩ := s'
 have e : o' = s.os := ho
 subst e
 exact I.call (g' := g') (t' := t') (d' := d') u hok hg hch
end
noncomputable abbrev XK := Value -> Option Addr -> Hp -> Prop
noncomputable abbrev St := List (Option V)
noncomputable abbrev VK := V -> Hp -> Prop
noncomputable abbrev TE := St -> Hp -> VK -> Prop
noncomputable abbrev TT := St -> Hp -> (Bool -> Hp -> Prop) -> Prop
noncomputable abbrev TA := St -> Hp -> (List V -> Hp -> Prop) -> Prop
structure Ends where
 nx : St -> Hp -> Prop
 rt : VK
 bk : St -> Hp -> Prop := λ _ _ => False
 ct : St -> Hp -> Prop := λ _ _ => False
noncomputable abbrev TS := Ends -> St -> Hp -> Prop
def EP (X : Cx) (pins : List (Addr × Obj)) (σ : St) (Q : VK) (u : Value) (s' : Shared) : Prop := ∃ v H', Inv X pins σ H' s' /\ RelV v u /\ Q v H'
def TP (X : Cx) (pins : List (Addr × Obj)) (σ : St) (Q : Bool -> Hp -> Prop) (b : Bool) (s' : Shared) : Prop := ∃ H', Inv X pins σ H' s' /\ Q b H'
def AP (X : Cx) (pins : List (Addr × Obj)) (σ : St) (Q : List V -> Hp -> Prop) (us : List Value) (s' : Shared) : Prop := ∃ vs H', Inv X pins σ H' s' /\ Qj vs us /\ Q vs H'
def SP (X : Cx) (pins : List (Addr × Obj)) (D : Ends) (f : Flow) (s' : Shared) : Prop :=
 match f with
 | .next => ∃ σ' H', Inv X pins σ' H' s' /\ D.nx σ' H'
 | .brk => ∃ σ' H', Inv X pins σ' H' s' /\ D.bk σ' H'
 | .cont => ∃ σ' H', Inv X pins σ' H' s' /\ D.ct σ' H'
 | .ret u => ∃ v σ' H', Inv X pins σ' H' s' /\ RelV v u /\ D.rt v H'
def PE (X : Cx) (e : Expr) (t : TE) : Prop :=
 ∀ (pins : List (Addr × Obj)) (s : Shared) (σ : St) (H : Hp) (Q : VK), Inv X pins σ H s -> t σ H Q -> wpAny (model X.prog X.w) X.A (eval e X.env) (EP X pins σ Q) X.xe s
def PT (X : Cx) (e : Expr) (t : TT) : Prop :=
 ∀ (pins : List (Addr × Obj)) (s : Shared) (σ : St) (H : Hp) (Q : Bool -> Hp -> Prop), Inv X pins σ H s -> t σ H Q -> wpAny (model X.prog X.w) X.A (isTrue e X.env (eval e X.env)) (TP X pins σ Q) X.xe s
def PW (X : Cx) (e : Expr) (t : TT) : Prop :=
 ∀ (whole : Sem Value) (pins : List (Addr × Obj)) (s : Shared) (σ : St) (H : Hp) (Q : Bool -> Hp -> Prop), Inv X pins σ H s -> t σ H Q -> wpAny (model X.prog X.w) X.A (isTrue e X.env whole) (TP X pins σ Q) X.xe s
theorem PW.pt {X : Cx} {e : Expr} {t : TT} (h : PW X e t) : PT X e t := h _
def PA (X : Cx) (es : List Expr) (t : TA) : Prop :=
 ∀ (pos : Pos) (pins : List (Addr × Obj)) (s : Shared) (σ : St) (H : Hp) (Q : List V -> Hp -> Prop), Inv X pins σ H s -> t σ H Q -> wpAny (model X.prog X.w) X.A (spliced (backTo pos (starEach es X.env))) (AP X pins σ Q) X.xe s
def PS (X : Cx) (st : Stmt) (t : TS) : Prop :=
 ∀ (pins : List (Addr × Obj)) (s : Shared) (σ : St) (H : Hp) (D : Ends), Inv X pins σ H s -> t D σ H -> wpAny (model X.prog X.w) X.A (exec st X.env) (SP X pins D) X.xe s
def PSs (X : Cx) (st : List Stmt) (t : TS) : Prop :=
 ∀ (pins : List (Addr × Obj)) (s : Shared) (σ : St) (H : Hp) (D : Ends), Inv X pins σ H s -> t D σ H -> wpAny (model X.prog X.w) X.A (execs st X.env) (SP X pins D) X.xe s
theorem thn {α : Type} {t : Sem α} {Q Q' : α -> Shared -> Prop} {M : Model} {A : Around} {E : Value -> Shared -> Prop} {s : Shared} (h : wpAny M A t Q E s) (hQ : ∀ a s, Q a s -> Q' a s) : wpAny M A t Q' E s := wpAny_mono h hQ λ _ _ x => x
end L2
namespace L2
open PySem PySem.Spec PyProof.Rows
section
variable {X : Cx}
noncomputable def QeO (i : Nat) : TE := λ σ H Q => ∃ v, σ[i]? = some (some v) /\ Q v H
noncomputable def tC (v : V) : TE := λ _ H Q => Q v H
theorem QkB {i : Nat} {x : Str} {pos : Pos} (hN : X.N[i]? = some x) (hv : Vis X.env.scope x) (hd : (x == ("__debug__" : Str)) = false := by decide) (hcd : (x == ("__classdict__" : Str)) = false := by decide) : PE X (.Name x pos) (QeO i) := by
 intro pins s σ H Q I h
 obtain ⟨v, e, h⟩ := h
 obtain ⟨m, hn, hl⟩ := I.loc
 obtain ⟨u, r, l⟩ := hl i x v hN e hv
 have fin : EP X pins σ Q u s := ⟨v, H, I, r, h⟩
 rcases l with ⟨hk, hm⟩ | ⟨hk, c, hc, hcell⟩
 ·exact wpAny_Name (wpAny_loadName_local I.ok.kind hk hn hm fin) hd
 ·rcases hk with hk | hk
  ·exact wpAny_Name (wpAny_loadName_cell I.ok.kind hk hc hcell fin) hd
  ·exact wpAny_Name (wpAny_loadName_free I.ok.kind hk hc hcell fin hcd) hd
theorem QnR {i j pos} : PE X (.Constant (.int i) j pos) (tC (.int i)) := λ _ _ _ H _ I h => wpAny_Constant_int ⟨.int i, H, I.tok _, ⟨_, rfl⟩, h⟩
theorem QpD {b j pos} : PE X (.Constant (.bool b) j pos) (tC (.bl b)) := λ _ _ _ H _ I h => Constant_bool ⟨.bl b, H, I, rfl, h⟩
theorem QoP {j pos} : PE X (.Constant .none j pos) (tC .non) := λ _ _ _ H _ I h => Constant_none ⟨.non, H, I, rfl, h⟩
theorem Qnz {x j pos} : PE X (.Constant (.str x) j pos) (tC (.str x)) := λ _ _ _ H _ I h => Calls.Constant_str ⟨.str x, H, I.tok _, ⟨_, rfl⟩, h⟩
def Gl (X : Cx) (x : Str) : Prop := X.env.kindOf x = some .globalImplicit
theorem Qf9 {E : Value -> Shared -> Prop} {pins : List (Addr × Obj)} {s : Shared} {σ : St} {H : Hp} {x : Str} {u : Value} {pos : Pos} {Q : Value -> Shared -> Prop} (I : Inv X pins σ H s) (hg : Gl X x) (hm : X.mg x = some u) (h : Q u s)
  (hd : (x == ("__debug__" : Str)) = false := by decide) : wpAny (model X.prog X.w) X.A (eval (.Name x pos) X.env) Q E s :=
 Calls.Name_function_global I.ok.kind hg (Calls.loadGlobal_global (by rw [I.ok.glob]; exact I.mod.glob.keeps I.bk) hm h) hd
theorem Qce {E : Value -> Shared -> Prop} {pins : List (Addr × Obj)} {s : Shared} {σ : St} {H : Hp} {x : Str} {u : Value} {pos : Pos} {Q : Value -> Shared -> Prop} (I : Inv X pins σ H s) (hg : Gl X x) (hm : X.mg x = none) (hv : bootBuiltins x = some u) (h : Q u s)
  (hn : x ≠ "__name__" := by decide) (hd : (x == ("__debug__" : Str)) = false := by decide) : wpAny (model X.prog X.w) X.A (eval (.Name x pos) X.env) Q E s := by
 obtain ⟨mb, h1, h2⟩ := I.mod.blt
 exact Calls.Name_function_global I.ok.kind hg (Calls.loadGlobal_builtin (by rw [I.ok.glob]; exact I.mod.glob.keeps I.bk) hm (by rw [I.ok.blt]; exact h1.keeps I.bk) ((h2 x hn).trans hv) h) hd
theorem Qm6 {x : Str} {v : V} {u : Value} {pos : Pos} (hg : Gl X x) (hm : X.mg x = some u) (r : RelV v u) (hd : (x == ("__debug__" : Str)) = false := by decide) : PE X (.Name x pos) (tC v) :=
 λ _ _ _ H _ I h => Qf9 I hg hm ⟨v, H, I, r, h⟩ hd
theorem Qda {x : Str} {v : V} {u : Value} {pos : Pos} (hg : Gl X x) (hm : X.mg x = none) (hv : bootBuiltins x = some u) (r : RelV v u) (hn : x ≠ "__name__" := by decide) (hd : (x == ("__debug__" : Str)) = false := by decide) : PE X (.Name x pos) (tC v) :=
 λ _ _ _ H _ I h => Qce I hg hm hv ⟨v, H, I, r, h⟩ hn hd
variable {a b : Expr} {ta tb : TE} {pos : Pos}
variable {tA tB' : TT} {rest : List Expr}
noncomputable def QpS (t u : TT) : TT := λ σ H Q => t σ H λ c H1 => if c = true then u σ H1 Q else Q false H1
noncomputable def tOr (t u : TT) : TT := λ σ H Q => t σ H λ c H1 => if c = true then Q true H1 else u σ H1 Q
noncomputable def Qqo (t : TT) : TT := λ σ H Q => t σ H λ c H1 => Q (!c) H1
theorem Ql9 (ha : PT X a tA) : PW X (.BoolOp .And [a] pos) tA := by
 intro wh pins s σ H Q I h
 refine isTrue_and (thn (ha pins s σ H Q I h) λ c s1 e => ?_)
 cases c with
 | true => exact isTrue_and_nil e
 | false => exact e
theorem QoD (ha : PT X a tA) : PW X (.BoolOp .Or [a] pos) tA := by
 intro wh pins s σ H Q I h
 refine isTrue_or (thn (ha pins s σ H Q I h) λ c s1 e => ?_)
 cases c with
 | false => exact isTrue_or_nil e
 | true => exact e
theorem Qnk (ha : PT X a tA) (hb : PW X (.BoolOp .And (b :: rest) pos) tB') : PW X (.BoolOp .And (a :: b :: rest) pos) (QpS tA tB') := by
 intro wh pins s σ H Q I h
 refine isTrue_and (thn (ha pins s σ H _ I h) λ c s1 ⟨H1, I1, q1⟩ => ?_)
 cases c with
 | true => exact hb wh pins s1 σ H1 Q I1 q1
 | false => exact ⟨H1, I1, q1⟩
theorem Qpn (ha : PT X a tA) (hb : PW X (.BoolOp .Or (b :: rest) pos) tB') : PW X (.BoolOp .Or (a :: b :: rest) pos) (tOr tA tB') := by
 intro wh pins s σ H Q I h
 refine isTrue_or (thn (ha pins s σ H _ I h) λ c s1 ⟨H1, I1, q1⟩ => ?_)
 cases c with
 | true => exact ⟨H1, I1, q1⟩
 | false => exact hb wh pins s1 σ H1 Q I1 q1
theorem QnU (ha : PT X a tA) : PT X (.UnaryOp .Not a pos) (Qqo tA) := by
 intro pins s σ H Q I h
 exact isTrue_not (ha pins s σ H (λ c H1 => Q (!c) H1) I h)
theorem Qoj {op} {t : TE} (h : PE X a t) : PE X (.BoolOp op [a] pos) t := λ pins s σ H Q I hw => BoolOp_one (h pins s σ H Q I hw)
end
end L2
namespace L2
open PySem PySem.Spec PyProof.Rows
def SqL (K : PySem.W.Frag) (H : Hp) (a : Addr) (xs : List V) : Prop :=
 Rd H a (.lst xs) ∨
  ∃ (o : Obj) (its : Array Value) (n : Nat), K.lookup a = some o /\ o.cls = .type "list" /\ o.dict = none /\ o.data = .seq its n /\ its.size <= sizeLine /\ Qj xs its.toList
def SqT (K : PySem.W.Frag) (H : Hp) (a : Addr) (xs : List V) : Prop :=
 Rd H a (.tup xs) ∨
  ∃ (o : Obj) (its : Array Value) (n : Nat), K.lookup a = some o /\ o.cls = .type "tuple" /\ o.data = .seq its n /\ its.size <= sizeLine /\ Qj xs its.toList
noncomputable def Qp8 : Value -> Option V
 | .none => some .non
 | .bool b => some (.bl b)
 | .int i _ => some (.int i)
 | .str x _ => some (.str x)
 | .bytes b _ => some (.byt b)
 | .float b _ => some (.flt b)
 | .ref a => some (.ref a)
 | .type n => some (.ty n)
 | _ => none
theorem RelV.abs {x : V} {u : Value} (r : RelV x u) : Qp8 u = some x := by
 cases x with
 | non => cases r; rfl
 | bl _ => cases r; rfl
 | int _ => obtain ⟨t, rfl⟩ := r; rfl
 | str _ => obtain ⟨t, rfl⟩ := r; rfl
 | byt _ => obtain ⟨t, rfl⟩ := r; rfl
 | flt _ => obtain ⟨t, rfl⟩ := r; rfl
 | ref _ => cases r; rfl
 | ty _ => cases r; rfl
theorem RelV.inj {x y : V} {u : Value} (r : RelV x u) (q : RelV y u) : x = y := Option.some.inj (r.abs.symm.trans q.abs)
theorem Qj.inj : ∀ {xs ys : List V} {us : List Value}, Qj xs us -> Qj ys us -> xs = ys
 | _, _, _, .nil, .nil => rfl
 | _, _, _, .cons r t, .cons r' t' => by rw [r.inj r', Qj.inj t t']
section
variable {X : Cx} {pins : List (Addr × Obj)} {σ : St} {H : Hp} {s : Shared} {a : Addr} {xs ys : List V}
theorem SqL.of {K : PySem.W.Frag} (h : H a = some (.lst xs)) : SqL K H a xs := .inl (.inl h)
theorem SqT.of {K : PySem.W.Frag} (h : H a = some (.tup xs)) : SqT K H a xs := .inl (.inl h)
theorem Inv.list (I : Inv X pins σ H s) (h : SqL X.K H a xs) : ∃ its : List Value, Qj xs its /\ PlainL s.heap a its.toArray /\ xs.length <= sizeLine := by
 rcases h with h | ⟨o, its, n, hk, hc, hd, hs, hz, r⟩
 ·obtain ⟨z, its, n, r, e⟩ := h.ok I.hok
  exact ⟨its, r, ⟨_, n, e, rfl, rfl, rfl⟩, z⟩
 ·refine ⟨its.toList, r, ⟨o, n, I.kIn a o hk, hc, hd, by simpa using hs⟩, ?_⟩
  have e := r.length
  simp only [Array.length_toList] at e
  omega
theorem Inv.tuple (I : Inv X pins σ H s) (h : SqT X.K H a xs) : ∃ its : List Value, Qj xs its /\ IsTup s.heap a its.toArray /\ xs.length <= sizeLine := by
 rcases h with h | ⟨o, its, n, hk, hc, hs, hz, r⟩
 ·obtain ⟨z, its, r, p⟩ := h.ok I.hok
  exact ⟨its, r, p, z⟩
 ·refine ⟨its.toList, r, ⟨o, I.kIn a o hk, hc, n, by simpa using hs⟩, ?_⟩
  have e := r.length
  simp only [Array.length_toList] at e
  omega
theorem Inv.QeK (I : Inv X pins σ H s) (h : SqL X.K H a xs) (h' : SqL X.K H a ys) : xs = ys := by
 obtain ⟨its, r, ⟨o, n, e, _, _, d⟩, _⟩ := I.list h
 obtain ⟨its', r', ⟨o', n', e', _, _, d'⟩, _⟩ := I.list h'
 rw [e] at e'; cases e'
 rw [d] at d'
 injection d' with d1 _
 have : its = its' := by simpa using congrArg Array.toList d1
 subst this
 exact r.inj r'
theorem Inv.Qj8 (I : Inv X pins σ H s) (h : SqT X.K H a xs) (h' : SqT X.K H a ys) : xs = ys := by
 obtain ⟨its, r, ⟨o, e, _, n, d⟩, _⟩ := I.tuple h
 obtain ⟨its', r', ⟨o', e', _, n', d'⟩, _⟩ := I.tuple h'
 rw [e] at e'; cases e'
 rw [d] at d'
 injection d' with d1 _
 have : its = its' := by simpa using congrArg Array.toList d1
 subst this
 exact r.inj r'
end
noncomputable abbrev Cx.QbX (X : Cx) (E : Value -> Shared -> Prop) : Cx := { X with xe := E }
noncomputable abbrev Cx.nox (X : Cx) : Cx := X.QbX λ _ _ => False
theorem Cx.Ok.QbX {X : Cx} (ok : X.Ok) (E : Value -> Shared -> Prop) : (X.QbX E).Ok :=
 ⟨ok.mod, ok.kind, ok.glob, ok.blt, ok.above, ok.inj, ok.has, ok.cab, ok.hd, ok.frames, ok.stk, ok.exf, ok.bs, ok.bsz, ok.noex, ok.exfs, ok.QbU, ok.frf⟩
theorem Cx.Ok.Qbg {X : Cx} {E : Value -> Shared -> Prop} (ok : (X.QbX E).Ok) : X.Ok :=
 ⟨ok.mod, ok.kind, ok.glob, ok.blt, ok.above, ok.inj, ok.has, ok.cab, ok.hd, ok.frames, ok.stk, ok.exf, ok.bs, ok.bsz, ok.noex, ok.exfs, ok.QbU, ok.frf⟩
section
variable {X : Cx} {pins : List (Addr × Obj)} {σ : St} {H : Hp} {s : Shared} {E : Value -> Shared -> Prop}
theorem Inv.QbX (I : Inv X pins σ H s) (E : Value -> Shared -> Prop) : Inv (X.QbX E) pins σ H s := ⟨I.ok.QbX E, I.os, I.bare, I.base, I.loc, I.cell, I.free, I.freeC, I.pin, I.hok, I.len⟩
theorem Inv.Qbg (I : Inv (X.QbX E) pins σ H s) : Inv X pins σ H s := ⟨I.ok.Qbg, I.os, I.bare, I.base, I.loc, I.cell, I.free, I.freeC, I.pin, I.hok, I.len⟩
theorem SP.Qbg {D : Ends} {f : Flow} {s' : Shared} (h : SP (X.QbX E) pins D f s') : SP X pins D f s' := by
 cases f with
 | next => obtain ⟨σ', H', I, q⟩ := h; exact ⟨σ', H', I.Qbg, q⟩
 | brk => obtain ⟨σ', H', I, q⟩ := h; exact ⟨σ', H', I.Qbg, q⟩
 | cont => obtain ⟨σ', H', I, q⟩ := h; exact ⟨σ', H', I.Qbg, q⟩
 | ret u => obtain ⟨v, σ', H', I, r, q⟩ := h; exact ⟨v, σ', H', I.Qbg, r, q⟩
theorem PE.nox {e : Expr} {t : TE} (h : PE X.nox e t) : PE X e t := λ pins s σ H Q I hw =>
 wpAny_mono (h pins s σ H Q (I.QbX _) hw) (λ _ _ ⟨v, H', I', r, q⟩ => ⟨v, H', I'.Qbg, r, q⟩) λ _ _ z => False.elim z
theorem PT.nox {e : Expr} {t : TT} (h : PT X.nox e t) : PT X e t := λ pins s σ H Q I hw =>
 wpAny_mono (h pins s σ H Q (I.QbX _) hw) (λ _ _ ⟨H', I', q⟩ => ⟨H', I'.Qbg, q⟩) λ _ _ z => False.elim z
theorem PSs.nox {st : List Stmt} {t : TS} (h : PSs X.nox st t) : PSs X st t := λ pins s σ H D I hw =>
 wpAny_mono (h pins s σ H D (I.QbX _) hw) (λ _ _ q => q.Qbg) λ _ _ z => False.elim z
end
section
variable {X : Cx} {st : Stmt} {rest : List Stmt} {t u : TS} {e : Expr} {te : TE} {pos : Pos}
noncomputable def QiW : TS := λ D σ H => D.nx σ H
noncomputable def QnA (t u : TS) : TS := λ D σ H => t { D with nx := u D } σ H
theorem QmC : PSs X [] QiW := λ _ _ σ H _ I h => wpAny_execs_nil ⟨σ, H, I, h⟩
theorem Qdw (h1 : PS X st t) (h2 : PSs X rest u) : PSs X (st :: rest) (QnA t u) := by
 intro pins s σ H D I h
 refine wpAny_execs_cons (thn (h1 pins s σ H { D with nx := u D } I h) λ f s1 q => ?_)
 cases f with
 | next =>
  obtain ⟨σ', H', I', q⟩ := q
  exact h2 pins s1 σ' H' D I' q
 | ret v => exact q
 | brk => exact q
 | cont => exact q
noncomputable def Qoa : TS := λ D σ H => D.bk σ H
noncomputable def Qpi : TS := λ D σ H => D.ct σ H
theorem Qmn : PS X (.Pass pos) QiW := λ _ _ σ H _ I h => wpAny_Pass ⟨σ, H, I, h⟩
theorem Qlq : PS X (.Break pos) Qoa := λ _ _ σ H _ I h => wpAny_Break ⟨σ, H, I, h⟩
theorem Qid : PS X (.Continue pos) Qpi := λ _ _ σ H _ I h => wpAny_Continue ⟨σ, H, I, h⟩
theorem Inv.quiet {pins : List (Addr × Obj)} {σ : St} {H : Hp} {s : Shared} (I : Inv X pins σ H s) : interactive X.env = false := by simp [interactive, I.ok.kind]
theorem Qno {x j pos pos'} : PS X (.Expr (.Constant (.str x) j pos) pos') QiW := λ _ s σ H _ I h => wpAny_Expr (Calls.Constant_str (show SP X _ _ .next { s with toks := s.toks + 1 } from ⟨σ, H, I.tok _, h⟩)) I.quiet
noncomputable def QgV (te : TE) : TS := λ D σ H => te σ H λ _ H1 => D.nx σ H1
theorem QfU (he : PE X e te) (hs : swapsWith e none pos.line X.env = pure false := by rfl) : PS X (.Expr e pos) (QgV te) := by
 intro pins s σ H D I h
 exact wpAny_Expr_any (thn (he pins s σ H _ I h) λ v s1 ⟨x, H1, I1, r1, q1⟩ => ⟨σ, H1, I1, q1⟩) I.quiet hs
noncomputable def Qqx (te : TE) : TS := λ D σ H => te σ H D.rt
theorem QnO (he : PE X e te) : PS X (.Return (some e) pos) (Qqx te) := by
 intro pins s σ H D I h
 exact wpAny_Return_some (thn (he pins s σ H _ I h) λ v s1 ⟨x, H1, I1, r1, q1⟩ => ⟨x, σ, H1, I1, r1, q1⟩)
noncomputable def Qpq : TS := λ D _ H => D.rt .non H
theorem Ql4 : PS X (.Return none pos) Qpq := λ _ _ σ H _ I h => wpAny_Return_none ⟨.non, σ, H, I, rfl, h⟩
noncomputable def Qqr (c : TT) (t u : TS) : TS := λ D σ H => c σ H λ b H1 => if b = true then t D σ H1 else u D σ H1
theorem QpA {c : Expr} {a b : List Stmt} {tc : TT} (hc : PT X c tc) (ha : PSs X a t) (hb : PSs X b u) : PS X (.If c a b pos) (Qqr tc t u) := by
 intro pins s σ H D I h
 refine wpAny_If (thn (hc pins s σ H _ I h) λ d s1 ⟨H1, I1, q1⟩ => ?_)
 cases d with
 | true => exact ha pins s1 σ H1 D I1 q1
 | false => exact hb pins s1 σ H1 D I1 q1
noncomputable def QoO : TS := λ _ _ _ => False
theorem QlI : PS X st QoO := λ _ _ _ _ _ _ h => h.elim
end
noncomputable abbrev TG := V -> St -> Hp -> (St -> Hp -> Prop) -> Prop
noncomputable abbrev TGs := List V -> St -> Hp -> (St -> Hp -> Prop) -> Prop
def PG (X : Cx) (target : Expr) (t : TG) : Prop :=
 ∀ (pins : List (Addr × Obj)) (s : Shared) (σ : St) (H : Hp) (v : V) (u : Value) (Q : St -> Hp -> Prop), Inv X pins σ H s -> RelV v u -> t v σ H Q →
  wpAny (model X.prog X.w) X.A (assign target X.env u) (λ _ s' => ∃ σ' H', Inv X pins σ' H' s' /\ Q σ' H') X.xe s
def PGs (X : Cx) (ts : List Expr) (t : TGs) : Prop :=
 ∀ (pins : List (Addr × Obj)) (s : Shared) (σ : St) (H : Hp) (vs : List V) (us : List Value) (Q : St -> Hp -> Prop), Inv X pins σ H s -> Qj vs us -> t vs σ H Q →
  wpAny (model X.prog X.w) X.A (assignInOrder ((assignEach ts X.env).map (·.2)) us) (λ _ s' => ∃ σ' H', Inv X pins σ' H' s' /\ Q σ' H') X.xe s
noncomputable abbrev Qlx := V -> V -> V -> Hp -> (Hp -> Prop) -> Prop
def QnF (X : Cx) (t : Qlx) : Prop :=
 ∀ (pins : List (Addr × Obj)) (s : Shared) (σ : St) (H : Hp) (o i v : V) (ov iv u : Value) (Q : Hp -> Prop), Inv X pins σ H s -> RelV o ov -> RelV i iv -> RelV v u -> t o i v H Q →
  wpAny (model X.prog X.w) X.A (setItem ov iv u) (λ _ s' => ∃ H', Inv X pins σ H' s' /\ Q H') X.xe s
section
variable {X : Cx} {pos : Pos}
noncomputable def Qdl (i : Nat) : TG := λ v σ H Q => Q (σ.set i (some v)) H
theorem Qio {i : Nat} {x : Str} (hN : X.N.Nodup) (hi : X.N[i]? = some x) (hx : Loc X.env.scope x) (hf : X.fn x = true ∨ X.env.scope.names.lookup x = some .local := by first | exact .inl rfl | exact .inr rfl | assumption) : PG X (.Name x pos) (Qdl i) := by
 intro pins s σ H v u Q I r h
 exact wpAny_assign_Name (QhL I hN hi hx r (λ s' I' => ⟨_, H, I', h⟩) hf)
noncomputable def QnE : TGs := λ vs σ H Q => vs = [] /\ Q σ H
noncomputable def Ql2 (t : TG) (u : TGs) : TGs := λ vs σ H Q => ∃ v r, vs = v :: r /\ t v σ H λ σ' H' => u r σ' H' Q
theorem Ql6 : PGs X [] QnE := by
 intro pins s σ H vs us Q I r h
 obtain ⟨e, h⟩ := h
 subst e
 cases r
 exact assignInOrder_nil ⟨σ, H, I, h⟩
theorem Qlo {e : Expr} {es : List Expr} {t : TG} {u : TGs} (h1 : PG X e t) (h2 : PGs X es u)
  (hs : (assignEach (e :: es) X.env).map (·.2) = assign e X.env :: (assignEach es X.env).map (·.2) := by rfl) : PGs X (e :: es) (Ql2 t u) := by
 intro pins s σ H vs us Q I r h
 obtain ⟨v, vr, e1, h⟩ := h
 subst e1
 cases r with
 | cons r rr =>
  rw [hs]
  refine assignInOrder_cons (thn (h1 pins s σ H _ _ _ I r h) λ _ s1 ⟨σ1, H1, I1, q1⟩ => ?_)
  exact h2 pins s1 σ1 H1 _ _ Q I1 rr q1
noncomputable def QpU (K : PySem.W.Frag) (n : Nat) (t : TGs) : TG := λ v σ H Q => ∃ a xs, v = .ref a /\ SqT K H a xs /\ xs.length = n /\ t xs σ H Q
theorem QoH {es : List Expr} {k : Nat} {t : TGs} {n : Nat} (hc : X.calm = true) (h : PGs X es t)
  (hn : (assignEach es X.env).length = n := by rfl) (hst : (assignEach es X.env).findIdx? (·.1) = none := by rfl) : PG X (.Tuple es k pos) (QpU X.K n t) := by
 intro pins s σ H v u Q I r hw
 obtain ⟨a, xs, e1, hq, hl, hw⟩ := hw
 subst e1
 cases r
 obtain ⟨its, rv, ht, hz⟩ := I.tuple hq
 refine assign_Tuple_tuple (I.ok.hd hc) ht (by simp [hn, ← hl, rv.length]) hst λ h' hx => ?_
 have I1 : Inv X pins σ H { s with heap := h' } := I.kept (t' := s.toks) λ b o e => hx b o (ZH (Zp e)) e
 exact h pins _ σ H xs _ Q I1 (by simpa using rv) hw
noncomputable def Qb9 (to ti : TE) (t : Qlx) : TG := λ v σ H Q => to σ H λ o H1 => ti σ H1 λ i H2 => t o i v H2 λ H3 => Q σ H3
theorem Qh1 {o i : Expr} {to ti : TE} {t : Qlx} (ho : PE X o to) (hi : PE X i ti) (hs : QnF X t)
  (ha : ∀ v, assign (.Subscript o i pos) X.env v = (do
   let ov ← holding [v] (eval o X.env)
   let iv ← holding [v, ov] (eval i X.env)
   standAt pos
   holding [v, ov, iv] (setItem ov iv v)
   release [v, ov, iv] []) := by intro _; rfl) : PG X (.Subscript o i pos) (Qb9 to ti t) := by
 intro pins s σ H v u Q I r h
 rw [ha]
 refine wpAny_bind (wpAny_holding (thn (ho pins s σ H _ I h) λ ov s1 ⟨x, H1, I1, r1, q1⟩ => ?_))
 refine wpAny_bind (wpAny_holding (thn (hi pins s1 σ H1 _ I1 q1) λ iv s2 ⟨y, H2, I2, r2, q2⟩ => ?_))
 refine wpAny_bind (wpAny_standAt (wpAny_bind (wpAny_holding (thn (hs pins s2 σ H2 x y v ov iv u _ I2 r1 r2 r q2) λ _ s3 ⟨H3, I3, q3⟩ => ?_))))
 exact wpAny_release ⟨σ, H3, I3, q3⟩
noncomputable def QdF (te : TE) (g : TG) : TS := λ D σ H => te σ H λ x H1 => g x σ H1 D.nx
theorem Qfr {tg e : Expr} {te : TE} {g : TG} (he : PE X e te) (hg : PG X tg g) (hs : swapsWithSole [tg] e pos.line X.env = pure false := by rfl) (hw : swappedStores [tg] e X.env = pure none := by rfl)
  (h1 : (assignEach [tg] X.env).map (·.2) = [assign tg X.env] := by rfl) : PS X (.Assign [tg] e pos) (QdF te g) := by
 intro pins s σ H D I h
 refine wpAny_Assign_stores (thn (he pins s σ H _ I h) λ v s1 ⟨x, H1, I1, r1, q1⟩ => ?_) hs hw
 rw [h1]
 exact thn (hg pins s1 σ H1 x v _ I1 r1 q1) λ _ s2 q => q
theorem QfG {i : Nat} {x : Str} {e : Expr} {te : TE} {pos' : Pos} (hN : X.N.Nodup) (hi : X.N[i]? = some x) (hx : Loc X.env.scope x) (he : PE X e te) (hs : swapsWith e (some (.Name x pos')) pos.line X.env = pure false := by rfl) (hf : X.fn x = true ∨ X.env.scope.names.lookup x = some .local := by first | exact .inl rfl | exact .inr rfl | assumption) :
  PS X (.Assign [.Name x pos'] e pos) (QdF te (Qdl i)) := by
 intro pins s σ H D I h
 refine wpAny_Assign_Name (thn (he pins s σ H _ I h) λ v s1 ⟨y, H1, I1, r1, q1⟩ => ?_) hs
 exact QhL I1 hN hi hx r1 (λ s2 I2 => ⟨_, H1, I2, q1⟩) hf
end
section
variable {X : Cx} {pos : Pos}
end
structure It where
 go : Nat -> Hp -> Prop
 yld : Nat -> Hp -> V -> Hp -> Prop
 stop : Nat -> Hp -> Prop
def QbV (X : Cx) (pins : List (Addr × Obj)) (H : Hp) (b : Addr) : Prop :=
 H b = none /\ b ≠ X.env.locals /\ b ∉ X.fs /\ (b ∈ X.ex ∨ X.s₀.heap.objs.size <= b) /\ (∀ x c, X.env.cells.lookup x = some c -> c ≠ b) /\ ∀ p ∈ X.pn ++ pins, p.1 ≠ b
theorem Inv.Qi4 {X : Cx} {pins : List (Addr × Obj)} {σ : St} {H H' : Hp} {s : Shared} {b : Addr} (I : Inv X pins σ H s) (hb : s.heap.objs.size <= b) (hn : H' b = none) : QbV X pins H' b := by
 refine ⟨hn, Nat.ne_of_gt (Zn I.lt hb), I.Qqu hb, .inr (Zr I.sz hb), λ x c e z => ?_, λ p hp z => ?_⟩
 ·obtain ⟨v, q⟩ := I.cell x c e
  exact absurd (Zn q.lt (by rw [z]; exact hb)) (ZG _)
 ·exact absurd (Zn (Zp (I.pin p hp).1) (by rw [z]; exact hb)) (ZG _)
structure Turn (P : Program) (w : World) (K : PySem.W.Frag) (tg : Expr) (J : It) (fp : List Addr) (it : Addr) (tn : Nat -> Heap -> Prop) : Prop where
 mem : it ∈ fp
 obj : ∀ i h, tn i h -> ∀ b ∈ fp, ∃ o, h.get? b = some o /\ ∀ v, o.data ≠ .cell v
 keep : ∀ i h h', tn i h -> (∀ b ∈ fp, ∀ o, h.get? b = some o -> h'.get? b = some o) -> tn i h'
 item : ∀ (X : Cx), X.prog = P -> X.w = w -> X.K = K -> X.calm = true -> ∀ (i : Nat) (pins : List (Addr × Obj)) (s : Shared) (σ : St) (H : Hp) (E : Value -> Shared -> Prop), Inv X pins σ H s -> (∀ b ∈ fp, QbV X pins H b) -> tn i s.heap -> J.go i H →
  wpAny (model P w) X.A (pyNext (.ref it)) (λ r s1 => ∃ u, r = some u ∧
   wpAny (model P w) X.A (letOwnedTupleGo tg (.ref it) u) (λ _ s2 => ∃ x H', Inv X pins σ H' s2 /\ RelV x u /\ J.yld i H x H' /\ tn (i + 1) s2.heap /\ ∀ b ∈ fp, H' b = none) E s1) E s
 done : ∀ (X : Cx), X.prog = P -> X.w = w -> X.K = K -> X.calm = true -> ∀ (i : Nat) (pins : List (Addr × Obj)) (s : Shared) (σ : St) (H : Hp) (E : Value -> Shared -> Prop), Inv X pins σ H s -> (∀ b ∈ fp, QbV X pins H b) -> tn i s.heap -> J.stop i H →
  wpAny (model P w) X.A (pyNext (.ref it)) (λ r s1 => r = none /\ Inv X pins σ H s1) E s
 self : ∀ (A : Around) (i : Nat) (s : Shared) (Q : Value -> Shared -> Prop) (E : Value -> Shared -> Prop), tn i s.heap -> Q (.ref it) s -> wpAny (model P w) A (pyIter (.ref it)) Q E s
noncomputable abbrev TI := St -> Hp -> (It -> Hp -> Prop) -> Prop
def PIE (X : Cx) (pins : List (Addr × Obj)) (σ : St) (tg : Expr) (R : It -> Hp -> Prop) (itv : Value) (s2 : Shared) : Prop :=
 ∃ (it : Addr) (fp : List Addr) (tn : Nat -> Heap -> Prop) (J : It) (H' : Hp), itv = .ref it /\ Inv X pins σ H' s2 /\ Turn X.prog X.w X.K tg J fp it tn /\ tn 0 s2.heap /\ (∀ b ∈ fp, QbV X pins H' b) /\ R J H'
def PI (X : Cx) (tg iter : Expr) (wi : TI) : Prop :=
 ∀ (pins : List (Addr × Obj)) (s : Shared) (σ : St) (H : Hp) (R : It -> Hp -> Prop), Inv X pins σ H s -> wi σ H R →
  wpAny (model X.prog X.w) X.A (eval iter X.env) (λ v s1 => wpAny (model X.prog X.w) X.A (pyIter v) (PIE X pins σ tg R) X.xe s1) X.xe s
theorem Qi5 {M : Model} {A : Around} {E : Value -> Shared -> Prop} {s : Shared} {tg : Expr} {it : Addr} {u : Value} {o : Obj} {n : String} {vs : Array Value} {Q : Unit -> Shared -> Prop} (ho : s.heap.get? it = some o) (hc : o.cls = .type n) (hd : o.data = .fields vs)
    (hn : ["enumerate", "zip", "dict_itemiterator", "dict_reverseitemiterator", "odict_iterator", "itertools.zip_longest", "itertools.pairwise"].contains n = false) (hQ : Q () s) : wpAny M A (letOwnedTupleGo tg (.ref it) u) Q E s := by
  unfold letOwnedTupleGo
  cases tg <;> first
    | exact wpAny_pure hQ
    | (cases u <;> first
        | exact wpAny_pure hQ
        | (refine wpAny_bind (wpAny_load ho ?_)
           rw [hc, hd]
           show wpAny M A (if (["enumerate", "zip", "dict_itemiterator", "dict_reverseitemiterator", "odict_iterator", "itertools.zip_longest", "itertools.pairwise"].contains n && vs[0]? == some (rawInt _)) = true then _ else _) Q E s
           rw [if_neg (by intro h; rw [hn, Bool.false_and] at h; cases h)]
           exact wpAny_pure hQ))
noncomputable def Itl (K : PySem.W.Frag) (a : Addr) : It :=
 ⟨λ i H => ∃ xs x, SqL K H a xs /\ xs[i]? = some x, λ i H x H' => H' = H /\ ∀ xs, SqL K H a xs -> xs[i]? = some x, λ i H => ∃ xs, SqL K H a xs /\ xs.length <= i⟩
noncomputable def Itt (K : PySem.W.Frag) (a : Addr) : It :=
 ⟨λ i H => ∃ xs x, SqT K H a xs /\ xs[i]? = some x, λ i H x H' => H' = H /\ ∀ xs, SqT K H a xs -> xs[i]? = some x, λ i H => ∃ xs, SqT K H a xs /\ xs.length <= i⟩
noncomputable def Itr (lo : Int) (n : Nat) : It := ⟨λ i _ => i < n, λ i H x H' => H' = H /\ x = .int (lo + i), λ i _ => n <= i⟩
theorem Qjx {P : Program} {w : World} {K : PySem.W.Frag} {tg : Expr} (a it : Addr) : Turn P w K tg (Itl K a) [it] it (λ i h => h.IsListIter it a i) where
 mem := by simp
 obj := λ i h st b hb => by
  have e : b = it := by simpa using hb
  subst e
  obtain ⟨o, e, c, d⟩ := st
  exact ⟨o, e, λ v z => by rw [d] at z; cases z⟩
 keep := λ i h h' st k => st.at λ o e => k it (by simp) o e
 item := by
  intro X hP hw hK hc i pins s σ H E I hf st hg
  subst hP hw hK
  obtain ⟨xs, x, hq, hx⟩ := hg
  obtain ⟨its, rv, p, hz⟩ := I.list hq
  obtain ⟨u, hu, ru⟩ := rv.get hx
  obtain ⟨f0, f1, f2, f3, f4, f5⟩ := hf it (by simp)
  refine wpAny_pyNext_list_item st p.isList (x := u) (by simpa using hu) λ h' st' sb => ?_
  have I1 : Inv X pins σ H { s with heap := h' } := I.turned (t' := s.toks) (λ b o hb e => (sb.2 b hb).trans e) f0 f1 f3 f4 f5
  obtain ⟨o, e, c, d⟩ := id st'
  exact ⟨u, rfl, Qi5 (s := { s with heap := h' }) e c d (by decide) ⟨x, H, I1, ru, ⟨rfl, λ ys hy => by rw [I.QeK hy hq]; exact hx⟩, st', λ b hb => (hf b hb).1⟩⟩
 done := by
  intro X hP hw hK hc i pins s σ H E I hf st hg
  subst hP hw hK
  obtain ⟨xs, hq, hx⟩ := hg
  obtain ⟨its, rv, p, hz⟩ := I.list hq
  obtain ⟨f0, f1, f2, f3, f4, f5⟩ := hf it (by simp)
  have hl := rv.length
  exact wpAny_pyNext_list_end (I.ok.hd hc) st p.isList (by simp; omega) λ h' eb => ⟨rfl, I.turned (t' := s.toks) (λ b o hb e => eb b o hb e) f0 f1 f3 f4 f5⟩
 self := λ _ _ _ _ _ st h => wpAny_pyIter_listiter st h
theorem Qjb {P : Program} {w : World} {K : PySem.W.Frag} {tg : Expr} (a it : Addr) : Turn P w K tg (Itt K a) [it] it (λ i h => h.IsTupleIter it a i) where
 mem := by simp
 obj := λ i h st b hb => by
  have e : b = it := by simpa using hb
  subst e
  obtain ⟨o, e, c, d⟩ := st
  exact ⟨o, e, λ v z => by rw [d] at z; cases z⟩
 keep := λ i h h' st k => st.at λ o e => k it (by simp) o e
 item := by
  intro X hP hw hK hc i pins s σ H E I hf st hg
  subst hP hw hK
  obtain ⟨xs, x, hq, hx⟩ := hg
  obtain ⟨its, rv, p, hz⟩ := I.tuple hq
  obtain ⟨u, hu, ru⟩ := rv.get hx
  obtain ⟨f0, f1, f2, f3, f4, f5⟩ := hf it (by simp)
  refine wpAny_pyNext_tuple_item st (show s.heap.IsTuple a its.toArray from p) (x := u) (by simpa using hu) λ h' st' sb => ?_
  have I1 : Inv X pins σ H { s with heap := h' } := I.turned (t' := s.toks) (λ b o hb e => (sb.2 b hb).trans e) f0 f1 f3 f4 f5
  obtain ⟨o, e, c, d⟩ := id st'
  exact ⟨u, rfl, Qi5 (s := { s with heap := h' }) e c d (by decide) ⟨x, H, I1, ru, ⟨rfl, λ ys hy => by rw [I.Qj8 hy hq]; exact hx⟩, st', λ b hb => (hf b hb).1⟩⟩
 done := by
  intro X hP hw hK hc i pins s σ H E I hf st hg
  subst hP hw hK
  obtain ⟨xs, hq, hx⟩ := hg
  obtain ⟨its, rv, p, hz⟩ := I.tuple hq
  obtain ⟨f0, f1, f2, f3, f4, f5⟩ := hf it (by simp)
  have hl := rv.length
  exact wpAny_pyNext_tuple_end (I.ok.hd hc) st (show s.heap.IsTuple a its.toArray from p) (by simp; omega) λ h' eb => ⟨rfl, I.turned (t' := s.toks) (λ b o hb e => eb b o hb e) f0 f1 f3 f4 f5⟩
 self := λ _ _ _ _ _ st h => wpAny_pyIter_tupleiter st h
theorem Qjq {P : Program} {w : World} {K : PySem.W.Frag} {tg : Expr} (it : Addr) (lo : Int) (n : Nat) : Turn P w K tg (Itr lo n) [it] it (λ i h => IsRangeIter h it (lo + (i : Nat) * 1) ((n : Int) - (i : Nat)) 1) where
 mem := by simp
 obj := λ i h st b hb => by
  have e : b = it := by simpa using hb
  subst e
  exact ⟨_, st, λ v z => by
   have z' : Data.fields _ = Data.cell v := z
   cases z'⟩
 keep := λ i h h' st k => k it (by simp) _ st
 item := by
  intro X hP hw hK hc i pins s σ H E I hf st hg
  subst hP hw hK
  obtain ⟨f0, f1, f2, f3, f4, f5⟩ := hf it (by simp)
  have W := Walks.range (prog := X.prog) (w := X.w) (I.ok.hd hc) it lo 1 n
  refine W.item i s _ _ hg st λ v h' tk hv st' kk => ?_
  obtain ⟨t, rfl⟩ := hv
  have I1 : Inv X pins σ H { s with heap := h', toks := tk } := I.turned (λ b o hb e => kk b o (by simpa using hb) e) f0 f1 f3 f4 f5
  refine ⟨_, rfl, Qi5 (s := { s with heap := h', toks := tk }) (n := "range_iterator") st' rfl rfl (by decide) ⟨.int (lo + i), H, I1, ⟨t, ?_⟩, ⟨rfl, rfl⟩, st', λ b hb => (hf b hb).1⟩⟩
  rw [ZaV]
 done := by
  intro X hP hw hK hc i pins s σ H E I hf st hg
  subst hP hw hK
  obtain ⟨f0, f1, f2, f3, f4, f5⟩ := hf it (by simp)
  exact wpAny_pyNext_range_end (I.ok.hd hc) st (by have : n <= i := hg; omega) λ h' eb => ⟨rfl, I.turned (t' := s.toks) (λ b o hb e => eb b o hb e) f0 f1 f3 f4 f5⟩
 self := λ _ _ _ _ _ st h => wpAny_pyIter_rangeiter st h
end L2
namespace L2
open PySem PySem.Spec PyProof.Rows
section
variable {X : Cx} {tg : Expr}
theorem QhA {pins : List (Addr × Obj)} {σ : St} {H : Hp} {s : Shared} {R : It -> Hp -> Prop} {E : Value -> Shared -> Prop} {lo hi : Int} {t u v : Tok} {tk : Nat} (I : Inv X pins σ H s) (h1 : -(2 ^ 62) <= lo) (h2 : lo < 2 ^ 62) (h3 : -(2 ^ 62) <= hi) (h4 : hi < 2 ^ 62)
  (q : R (Itr lo (hi - lo).toNat) H) : wpAny (model X.prog X.w) X.A (pyIter (.ref s.heap.objs.size)) (PIE X pins σ tg R) E { s with heap := s.heap.push { cls := .type "range", data := .fields #[.int lo t, .int hi u, .int 1 v] }, toks := tk } := by
 refine wpAny_pyIter_range (IsRange.new ..) (small_one h1 h2 h3 h4) ?_
 have I1 : Inv X pins σ H { s with heap := s.heap.push { cls := .type "range", data := .fields #[.int lo t, .int hi u, .int 1 v] }, toks := tk } := I.kept λ b o e => Zm _ e
 refine ⟨(s.heap.push { cls := .type "range", data := .fields #[.int lo t, .int hi u, .int 1 v] }).objs.size, [(s.heap.push { cls := .type "range", data := .fields #[.int lo t, .int hi u, .int 1 v] }).objs.size], _, _, H, rfl,
  I1.kept (t' := tk) λ b o e => Zm _ e, Qjq _ lo (hi - lo).toNat, ?_, λ b hb => ?_, q⟩
 ·have e1 : lo + ((0 : Nat) : Int) * 1 = lo := by simp
  have e2 : (((hi - lo).toNat : Nat) : Int) - ((0 : Nat) : Int) = Builtin.Range.rangeSize lo hi 1 := by rw [rangeSize_one]; split <;> omega
  show IsRangeIter _ _ (lo + ((0 : Nat) : Int) * 1) ((((hi - lo).toNat : Nat) : Int) - ((0 : Nat) : Int)) 1
  rw [e1, e2]
  exact Zy _ rfl
 ·have e : b = (s.heap.push { cls := .type "range", data := .fields #[.int lo t, .int hi u, .int 1 v] }).objs.size := by simpa using hb
  subst e
  exact I1.Qi4 (Zj _) (I1.hok.fresh (Zj _))
noncomputable def Qps (ta : TA) : TI := λ σ H R => ta σ H λ vs H1 => ∃ j : Int, vs = [.int j] /\ -(2 ^ 62) <= j /\ j < 2 ^ 62 /\ R (Itr 0 j.toNat) H1
noncomputable def Qpe (ta : TA) : TI := λ σ H R => ta σ H λ vs H1 => ∃ i j : Int, vs = [.int i, .int j] /\ (-(2 ^ 62) <= i /\ i < 2 ^ 62 /\ -(2 ^ 62) <= j /\ j < 2 ^ 62) /\ R (Itr i (j - i).toNat) H1
theorem Qkr {a : Expr} {ta : TA} {p pos : Pos} (hg : Gl X "range") (hm : X.mg "range" = none) (ha : PA X [a] ta) (hs : starEach [a] X.env = [(false, eval a X.env)] := by rfl) : PI X tg (.Call (.Name "range" p) [a] [] pos) (Qps ta) := by
 intro pins s σ H R I h
 refine Call_ (Qce I hg hm boot_range (ZN (thn (ha pos pins s σ H _ I h) λ us s1 ⟨vs, H1, I1, r1, q1⟩ => ?_) hs rfl))
 obtain ⟨j, e, q1, q2, q⟩ := q1
 subst e
 cases r1 with
 | cons r rr =>
  cases rr
  obtain ⟨t, rfl⟩ := r
  exact call_range_1 (QhA I1 (by omega) (by omega) q1 q2 (by simpa using q))
theorem Qko {a b : Expr} {ta : TA} {p pos : Pos} (hg : Gl X "range") (hm : X.mg "range" = none) (ha : PA X [a, b] ta) (hs : starEach [a, b] X.env = [(false, eval a X.env), (false, eval b X.env)] := by rfl) (hs2 : starEach [b] X.env = [(false, eval b X.env)] := by rfl) :
  PI X tg (.Call (.Name "range" p) [a, b] [] pos) (Qpe ta) := by
 intro pins s σ H R I h
 refine Call_ (Qce I hg hm boot_range (ZN (thn (ha pos pins s σ H _ I h) λ us s1 ⟨vs, H1, I1, r1, q1⟩ => ?_) (by rw [hs, hs2]) (by rw [hs2]; rfl)))
 obtain ⟨i, j, e, ⟨q1, q2, q3, q4⟩, q⟩ := q1
 subst e
 cases r1 with
 | cons r rr =>
  cases rr with
  | cons r' rr =>
   cases rr
   obtain ⟨t, rfl⟩ := r
   obtain ⟨t', rfl⟩ := r'
   exact call_range_2 (QhA I1 q1 q2 q3 q4 q)
noncomputable def QpP (wi : TI) (g : TG) (tb : TS) : TS := λ D σ H => wi σ H λ J H1 => ∃ W : Nat -> Nat -> St -> Hp -> Prop, (∃ m, W 0 m σ H1) /\ ∀ i m σ H, W i m σ H →
 (J.stop i H /\ D.nx σ H) ∨ (J.go i H /\ ∃ N : St -> Hp -> Prop, (∀ σ' H', N σ' H' -> ∃ m', m' < m /\ W (i + 1) m' σ' H') /\ ∀ x H', J.yld i H x H' -> g x σ H' λ σ2 H2 => tb { D with nx := N, ct := N, bk := D.nx } σ2 H2)
noncomputable def QdN (fp : List Addr) (h : Heap) : List (Addr × Obj) := fp.filterMap λ b => (h.get? b).map λ o => (b, o)
theorem Qdy {fp : List Addr} {h : Heap} {b : Addr} {o : Obj} (hb : b ∈ fp) (e : h.get? b = some o) : (b, o) ∈ QdN fp h := Zay.mpr ⟨b, hb, by rw [e]; rfl⟩
theorem QjX {fp : List Addr} {h : Heap} {p : Addr × Obj} (hp : p ∈ QdN fp h) : p.1 ∈ fp /\ h.get? p.1 = some p.2 := by
 obtain ⟨b, hb, e⟩ := Zay.mp hp
 cases q : h.get? b with
 | none => rw [q] at e; cases e
 | some o =>
  rw [q] at e
  have e' : (b, o) = p := Option.some.inj e
  subst e'
  exact ⟨hb, q⟩
theorem Inv.pinned {pins : List (Addr × Obj)} {σ : St} {H : Hp} {s : Shared} {fp : List Addr} (I : Inv X pins σ H s) (hf : ∀ b ∈ fp, QbV X pins H b) (ho : ∀ b ∈ fp, ∃ o, s.heap.get? b = some o /\ ∀ v, o.data ≠ .cell v) : Inv X (pins ++ QdN fp s.heap) σ H s :=
 I.Qit λ p hp => (Zx.mp hp).elim (λ z => I.pin p (Zb _ z)) λ z => by
  obtain ⟨hb, e⟩ := QjX z
  obtain ⟨f0, f1, f2, _⟩ := hf p.1 hb
  obtain ⟨o, e', d⟩ := ho p.1 hb
  rw [e] at e'; cases e'
  exact ⟨e, f0, f1, f2, d⟩
theorem Inv.Qdk {pins pl : List (Addr × Obj)} {σ : St} {H : Hp} {s : Shared} (I : Inv X (pins ++ pl) σ H s) : Inv X pins σ H s := I.Qit λ p hp => I.pin p (Zb _ (Zf _ hp))
theorem Qom {iter : Expr} {body : List Stmt} {wi : TI} {g : TG} {tb : TS} {pos : Pos} (hp : PassesOwn (model X.prog X.w) X.A X.env X.xe) (hc : X.calm = true) (hi : PI X tg iter wi) (hg : PG X tg g) (hb : PSs X body tb)
  (hs : ∀ x, foldedSetIterable iter X.env x = pure x := by intro _; rfl) : PS X (.For tg iter body [] pos) (QpP wi g tb) := by
 intro pins s σ H D I h
 refine wpAny_For (thn (hi pins s σ H _ I h) λ v s1 h1 => thn h1 λ itv s2 h2 => ?_) hs
 obtain ⟨it, fp, tn, J, H2, e, I2, T, st2, f2, W, ⟨m0, w0⟩, turn⟩ := h2
 subst e
 have stat : ∀ {H' : Hp}, (∀ b ∈ fp, H' b = none) -> ∀ b ∈ fp, QbV X pins H' b := λ hn b hb => ⟨hn b hb, (f2 b hb).2⟩
 refine codeAny_forLoop_any (λ n s' => ∃ i σ' H', Inv X pins σ' H' s' /\ tn i s'.heap /\ (∀ b ∈ fp, H' b = none) /\ W i n σ' H') ?_ m0 ⟨0, σ, H2, I2, st2, λ b hb => (f2 b hb).1, w0⟩
 rintro n s3 ⟨i, σ3, H3, I3, st3, fr3, w3⟩
 rcases turn i n σ3 H3 w3 with ⟨stop, qn⟩ | ⟨go, N, hN, step⟩
 ·refine wpAny_passesOwn hp (thn (T.done X rfl rfl rfl hc i pins s3 σ3 H3 X.xe I3 (stat fr3) st3 stop) λ r s4 ⟨hr, I4⟩ => ?_)
  subst hr
  exact wpAny_execs_nil ⟨σ3, H3, I4, qn⟩
 ·refine wpAny_passesOwn hp (thn (T.item X rfl rfl rfl hc i pins s3 σ3 H3 X.xe I3 (stat fr3) st3 go) λ r s4 ⟨u, hr, h4⟩ => ?_)
  subst hr
  refine wpAny_passesOwn hp (thn h4 λ _ s5 ⟨x, H5, I5, r5, y5, st5, fr5⟩ => ?_)
  have I5' := I5.pinned (stat fr5) (T.obj _ _ st5)
  refine wpAny_passesOwn hp (thn (hg _ s5 σ3 H5 x u _ I5' r5 (step x H5 y5)) λ _ s6 ⟨σ6, H6, I6, q6⟩ => ?_)
  refine wpAny_passesOwn hp (thn (hb _ s6 σ6 H6 _ I6 q6) λ f s7 q7 => ?_)
  have again : ∀ {σ7 : St} {H7 : Hp}, Inv X (pins ++ QdN fp s5.heap) σ7 H7 s7 -> N σ7 H7 -> ∃ m, m < n /\ ∃ i σ' H', Inv X pins σ' H' s7 /\ tn i s7.heap /\ (∀ b ∈ fp, H' b = none) /\ W i m σ' H' := λ {σ7 H7} I7 n7 => by
   obtain ⟨m', hm, w7⟩ := hN σ7 H7 n7
   refine ⟨m', hm, i + 1, σ7, H7, I7.Qdk, T.keep _ _ _ st5 λ b hb o e => (I7.pin (b, o) (Zb _ (Zb _ (Qdy hb e)))).1, λ b hb => ?_, w7⟩
   obtain ⟨o, e, d⟩ := T.obj _ _ st5 b hb
   exact (I7.pin (b, o) (Zb _ (Zb _ (Qdy hb e)))).2.1
  cases f with
  | next => obtain ⟨σ7, H7, I7, n7⟩ := q7; exact again I7 n7
  | cont => obtain ⟨σ7, H7, I7, n7⟩ := q7; exact again I7 n7
  | brk => obtain ⟨σ7, H7, I7, q7⟩ := q7; exact ⟨σ7, H7, I7.Qdk, q7⟩
  | ret v => obtain ⟨x7, σ7, H7, I7, r7, q7⟩ := q7; exact ⟨x7, σ7, H7, I7.Qdk, r7, q7⟩
end
end L2
namespace L2
open PySem PySem.Spec PyProof.Rows
noncomputable abbrev R2 := V -> V -> Hp -> VK -> Prop
def OpR (X : Cx) (f : Value -> Value -> Sem Value) (r : R2) : Prop :=
 ∀ (pins : List (Addr × Obj)) (s : Shared) (σ : St) (H : Hp) (x y : V) (v u : Value) (Q : VK), Inv X pins σ H s -> RelV x v -> RelV y u -> r x y H Q →
  wpAny (model X.prog X.w) X.A (f v u) (EP X pins σ Q) X.xe s
def UnR (X : Cx) (f : Value -> Sem Value) (r : V -> Hp -> VK -> Prop) : Prop :=
 ∀ (pins : List (Addr × Obj)) (s : Shared) (σ : St) (H : Hp) (x : V) (v : Value) (Q : VK), Inv X pins σ H s -> RelV x v -> r x H Q →
  wpAny (model X.prog X.w) X.A (f v) (EP X pins σ Q) X.xe s
def Qbn (X : Cx) (f : Value) (r : List V -> Hp -> VK -> Prop) : Prop :=
 ∀ (pins : List (Addr × Obj)) (s : Shared) (σ : St) (H : Hp) (xs : List V) (us : List Value) (Q : VK), Inv X pins σ H s -> Qj xs us -> r xs H Q →
  wpAny (model X.prog X.w) X.A (call f us) (EP X pins σ Q) X.xe s
def Qqw (X : Cx) (r : V -> Hp -> (Bool -> Hp -> Prop) -> Prop) : Prop :=
 ∀ (pins : List (Addr × Obj)) (s : Shared) (σ : St) (H : Hp) (x : V) (v : Value) (Q : Bool -> Hp -> Prop), Inv X pins σ H s -> RelV x v -> r x H Q →
  wpAny (model X.prog X.w) X.A (truthy v) (TP X pins σ Q) X.xe s
noncomputable def tOp (r : R2) (ta tb : TE) : TE := λ σ H Q => ta σ H λ x H1 => tb σ H1 λ y H2 => r x y H2 Q
noncomputable def tUn (r : V -> Hp -> VK -> Prop) (ta : TE) : TE := λ σ H Q => ta σ H λ x H1 => r x H1 Q
noncomputable def rI (C : Int -> Int -> Prop) (g : Int -> Int -> V) : R2 := λ x y H Q => ∃ i j, x = .int i /\ y = .int j /\ C i j /\ Q (g i j) H
noncomputable def rI0 (g : Int -> Int -> V) : R2 := λ x y H Q => ∃ i j, x = .int i /\ y = .int j /\ Q (g i j) H
noncomputable def rU (g : Int -> V) : V -> Hp -> VK -> Prop := λ x H Q => ∃ i, x = .int i /\ Q (g i) H
section
variable {X : Cx} {a b c : Expr} {ta tb tc : TE} {pos : Pos}
theorem QkE (ha : PE X a ta) (hb : PE X b tb) {pins : List (Addr × Obj)} {s : Shared} {σ : St} {H : Hp} {R : V -> V -> Hp -> Prop} (I : Inv X pins σ H s)
  (h : ta σ H λ x H1 => tb σ H1 λ y H2 => R x y H2) {Q : Value -> Shared -> Prop} {f : Value -> Value -> Sem Value}
  (hf : ∀ v u s2 x y H2, Inv X pins σ H2 s2 -> RelV x v -> RelV y u -> R x y H2 -> wpAny (model X.prog X.w) X.A (f v u) Q X.xe s2) :
  wpAny (model X.prog X.w) X.A (eval a X.env) (λ v s₁ => wpAny (model X.prog X.w) X.A (eval b X.env) (λ u s₂ => wpAny (model X.prog X.w) X.A (f v u) Q X.xe s₂) X.xe s₁) X.xe s := by
 refine thn (ha pins s σ H _ I h) λ v s1 ⟨x, H1, I1, r1, q1⟩ => ?_
 refine thn (hb pins s1 σ H1 _ I1 q1) λ u s2 ⟨y, H2, I2, r2, q2⟩ => ?_
 exact hf v u s2 x y H2 I2 r1 r2 q2
theorem Qja {op : Operator} {r : R2} (ho : OpR X (binaryOp op) r) (ha : PE X a ta) (hb : PE X b tb) : PE X (.BinOp a op b pos) (tOp r ta tb) := by
 intro pins s σ H Q I h
 exact wpAny_BinOp (QkE ha hb I h λ v u s2 x y H2 I2 rx ry q => ho pins s2 σ H2 x y v u Q I2 rx ry q)
theorem QpH {op : UnaryOp} {r : V -> Hp -> VK -> Prop} (ho : UnR X (unaryOp op) r) (ha : PE X a ta) : PE X (.UnaryOp op a pos) (tUn r ta) := by
 intro pins s σ H Q I h
 exact UnaryOp_ (thn (ha pins s σ H _ I h) λ v s1 ⟨x, H1, I1, r1, q1⟩ => ho pins s1 σ H1 x v Q I1 r1 q1)
theorem opI {f : Value -> Value -> Sem Value} {C : Int -> Int -> Prop} {g : Int -> Int -> Int}
  (rule : ∀ (i j : Int) (t u : Tok) (s : Shared) (Q : Value -> Shared -> Prop) (E : Value -> Shared -> Prop), C i j -> Q (.int (g i j) s.toks) { s with toks := s.toks + 1 } -> wpAny (model X.prog X.w) X.A (f (.int i t) (.int j u)) Q E s) :
  OpR X f (rI C λ i j => .int (g i j)) := by
 intro pins s σ H x y v u Q I rx ry h
 obtain ⟨i, j, rfl, rfl, hc, q⟩ := h
 obtain ⟨t, rfl⟩ := rx
 obtain ⟨t', rfl⟩ := ry
 exact rule i j t t' s _ _ hc ⟨.int (g i j), H, I.tok _, ⟨_, rfl⟩, q⟩
theorem Qoz {f : Value -> Value -> Sem Value} {g : Int -> Int -> Int}
  (rule : ∀ (i j : Int) (t u : Tok) (s : Shared) (Q : Value -> Shared -> Prop) (E : Value -> Shared -> Prop), Q (.int (g i j) s.toks) { s with toks := s.toks + 1 } -> wpAny (model X.prog X.w) X.A (f (.int i t) (.int j u)) Q E s) :
  OpR X f (rI0 λ i j => .int (g i j)) := by
 intro pins s σ H x y v u Q I rx ry h
 obtain ⟨i, j, rfl, rfl, q⟩ := h
 obtain ⟨t, rfl⟩ := rx
 obtain ⟨t', rfl⟩ := ry
 exact rule i j t t' s _ _ ⟨.int (g i j), H, I.tok _, ⟨_, rfl⟩, q⟩
theorem QiY {f : Value -> Value -> Sem Value} {g : Int -> Int -> Bool}
  (rule : ∀ (i j : Int) (t u : Tok) (s : Shared) (Q : Value -> Shared -> Prop) (E : Value -> Shared -> Prop), Q (.bool (g i j)) s -> wpAny (model X.prog X.w) X.A (f (.int i t) (.int j u)) Q E s) :
  OpR X f (rI0 λ i j => .bl (g i j)) := by
 intro pins s σ H x y v u Q I rx ry h
 obtain ⟨i, j, rfl, rfl, q⟩ := h
 obtain ⟨t, rfl⟩ := rx
 obtain ⟨t', rfl⟩ := ry
 exact rule i j t t' s _ _ ⟨.bl (g i j), H, I, rfl, q⟩
def Qne (i j : Int) : Prop := (-(2 ^ 64) < i /\ i < 2 ^ 64) ∨ (-(2 ^ 64) < j /\ j < 2 ^ 64)
theorem Qne.ok {i j : Int} (h : Qne i j) : IntMulOk i j := by
 rcases h with ⟨h1, h2⟩ | ⟨h1, h2⟩
 ·exact .of_left (intBits_le_64 h1 h2)
 ·exact .of_right (intBits_le_64 h1 h2)
theorem Qoe : OpR X (binaryOp .Add) (rI0 λ i j => .int (i + j)) := Qoz λ _ _ _ _ _ _ _ q => add_int q
theorem Qn0 : OpR X (binaryOp .Sub) (rI0 λ i j => .int (i - j)) := Qoz λ _ _ _ _ _ _ _ q => sub_int q
theorem unI {f : Value -> Sem Value} {g : Int -> Int}
  (rule : ∀ (i : Int) (t : Tok) (s : Shared) (Q : Value -> Shared -> Prop) (E : Value -> Shared -> Prop), Q (.int (g i) s.toks) { s with toks := s.toks + 1 } -> wpAny (model X.prog X.w) X.A (f (.int i t)) Q E s) :
  UnR X f (rU λ i => .int (g i)) := by
 intro pins s σ H x v Q I rx h
 obtain ⟨i, rfl, q⟩ := h
 obtain ⟨t, rfl⟩ := rx
 exact rule i t s _ _ ⟨.int (g i), H, I.tok _, ⟨_, rfl⟩, q⟩
theorem QnB : UnR X (unaryOp .USub) (rU λ i => .int (-i)) := unI λ _ _ _ _ _ q => neg_int q
end
section
variable {X : Cx} {a b c : Expr} {ta tb tc : TE} {pos : Pos}
theorem QoS : OpR X (compareOp .Lt) (rI0 λ i j => .bl (decide (i < j))) := QiY λ _ _ _ _ _ _ _ q => lt_int q
theorem QoZ : OpR X (compareOp .LtE) (rI0 λ i j => .bl (decide (i <= j))) := QiY λ _ _ _ _ _ _ _ q => le_int q
theorem Qpb : OpR X (compareOp .Gt) (rI0 λ i j => .bl (decide (j < i))) := QiY λ _ _ _ _ _ _ _ q => gt_int q
theorem Qpp : OpR X (compareOp .GtE) (rI0 λ i j => .bl (decide (j <= i))) := QiY λ _ _ _ _ _ _ _ q => ge_int q
theorem OpR.or {f : Value -> Value -> Sem Value} {r r' : R2} (h : OpR X f r) (h' : OpR X f r') : OpR X f (λ x y H Q => r x y H Q ∨ r' x y H Q) := by
 intro pins s σ H x y v u Q I rx ry q
 rcases q with q | q
 ·exact h pins s σ H x y v u Q I rx ry q
 ·exact h' pins s σ H x y v u Q I rx ry q
theorem QqB (b : Expr) {op : CmpOp} (h : op ≠ .In := by decide) (h2 : op ≠ .NotIn := by decide) : behindInMarks op b = false := by
 have e1 : (op == CmpOp.In) = false := by cases op <;> first | rfl | exact absurd rfl h
 have e2 : (op == CmpOp.NotIn) = false := by cases op <;> first | rfl | exact absurd rfl h2
 cases b <;> simp [behindInMarks, e1, e2]
theorem Qmh {op : CmpOp} {r : R2} (ho : OpR X (compareOp op) r) (ha : PE X a ta) (hb : PE X b tb) (hm : behindInMarks op b = false) : PE X (.Compare a [op] [b] pos) (tOp r ta tb) := by
 intro pins s σ H Q I h
 exact wpAny_Compare1 (QkE ha hb I h λ v u s2 x y H2 I2 rx ry q => ho pins s2 σ H2 x y v u Q I2 rx ry q) hm
noncomputable def Qo1 (t : TE) : TT := λ σ H Q => t σ H λ x H' => ∃ k, x = .bl k /\ Q k H'
theorem Qnc {op : CmpOp} {r : R2} (ho : OpR X (compareOp op) r) (ha : PE X a ta) (hb : PE X b tb) (hm : behindInMarks op b = false) : PT X (.Compare a [op] [b] pos) (Qo1 (tOp r ta tb)) := by
 intro pins s σ H Q I h
 refine wpAny_isTrue_Compare1 (thn (ha pins s σ H _ I h) λ v s1 ⟨x, H1, I1, r1, q1⟩ => thn (hb pins s1 σ H1 _ I1 q1) λ u s2 ⟨y, H2, I2, r2, q2⟩ =>
  thn (ho pins s2 σ H2 x y v u _ I2 r1 r2 q2) λ c s3 ⟨z, H3, I3, r3, k, e, q3⟩ => ?_) hm
 subst e
 cases r3
 exact wpAny_truthy_bool ⟨H3, I3, q3⟩
def Qls (K : PySem.W.Frag) (x : V) (H : Hp) (k : Bool) : Prop :=
 match x with
 | .non => k = false
 | .bl b => k = b
 | .int i => k = (i != 0)
 | .str y => y.length <= sizeLine /\ k = ((y.length : Int) != 0)
 | .byt y => y.size <= sizeLine /\ k = ((y.size : Int) != 0)
 | .ref p => (∃ xs, SqL K H p xs /\ k = !xs.isEmpty) ∨ (∃ xs, SqT K H p xs /\ k = !xs.isEmpty) ∨ ∃ kvs, H p = some (.dK kvs) /\ k = !kvs.isEmpty
 | _ => False
theorem QiK {κ : Type} {kvs : List (κ × V)} {vs : List (κ × Value)} (r : KV kvs vs) : (!vs.isEmpty) = !kvs.isEmpty := by
 cases r <;> rfl
theorem QfD {xs : List V} {its : List Value} (r : Qj xs its) : (!its.toArray.isEmpty) = !xs.isEmpty := by
 cases r <;> simp
theorem Qd0 : (sizeLine : Nat) < 2 ^ 63 := by rw [sizeLine_eq]; decide
theorem QfB : Qqw X (λ x H Q => ∃ k, Qls X.K x H k /\ Q k H) := by
 intro pins s σ H x v Q I rx h
 obtain ⟨k, e, q⟩ := h
 have hl := Qd0
 have hs : sizeLine = 16777216 := sizeLine_eq
 cases x with
 | non =>
  cases rx
  have e' : k = false := e
  subst e'
  exact truthy_none ⟨H, I, q⟩
 | bl b =>
  cases rx
  have e' : k = b := e
  subst e'
  exact wpAny_truthy_bool ⟨H, I, q⟩
 | int i =>
  obtain ⟨t, rfl⟩ := rx
  have e' : k = (i != 0) := e
  subst e'
  exact PySem.P.truthy_int ⟨H, I, q⟩
 | str y =>
  obtain ⟨t, rfl⟩ := rx
  obtain ⟨hy, e'⟩ : y.length <= sizeLine /\ k = ((y.length : Int) != 0) := e
  subst e'
  exact PySem.P.truthy_str (by omega) ⟨H, I.tok _, q⟩
 | byt y =>
  obtain ⟨t, rfl⟩ := rx
  obtain ⟨hy, e'⟩ : y.size <= sizeLine /\ k = ((y.size : Int) != 0) := e
  subst e'
  exact PySem.W.truthy_bytes (by omega) ⟨H, I.tok _, q⟩
 | ref p =>
  cases rx
  have e' : (∃ xs, SqL X.K H p xs /\ k = !xs.isEmpty) ∨ (∃ xs, SqT X.K H p xs /\ k = !xs.isEmpty) ∨ ∃ kvs, H p = some (.dK kvs) /\ k = !kvs.isEmpty := e
  rcases e' with ⟨xs, hx, e'⟩ | ⟨xs, hx, e'⟩ | ⟨kvs, hx, e'⟩
  ·subst e'
   obtain ⟨its, r, pl, hz⟩ := I.list hx
   have hlen := r.length
   exact wpAny_truthy_list pl.isList (by simp only [Zo]; omega) ⟨H, I.tok _, by rw [QfD r]; exact q⟩
  ·subst e'
   obtain ⟨its, r, pl, hz⟩ := I.tuple hx
   have hlen := r.length
   exact truthy_tuple pl (by simp only [Zo]; omega) ⟨H, I.tok _, by rw [QfD r]; exact q⟩
  ·subst e'
   obtain ⟨hz, hS, vs, r, m⟩ : kvs.length <= sizeLine /\ (p == sysModules) = false /\ ∃ vs, KV kvs vs /\ s.heap.DictOf (Qf3 X.prog X.w) p vs := I.hok p _ hx
   have hlen : kvs.length = vs.length := Paired.length r
   exact wpAny_truthy_dict hS m (by omega) ⟨H, I.tok _, by rw [QiK r]; exact q⟩
 | _ => exact (show False from e).elim
theorem QlG (ha : PE X a ta) (he : ∀ whole, isTrue a X.env whole = (do let v ← whole; standAt a.pos; holding [v] (truthy v))) :
  PT X a (λ σ H Q => ta σ H λ x H' => ∃ k, Qls X.K x H' k /\ Q k H') := by
 intro pins s σ H Q I h
 exact isTrue_plain (thn (ha pins s σ H _ I h) λ v s1 ⟨x, H1, I1, r1, q1⟩ => QfB pins s1 σ H1 x v Q I1 r1 q1) (he _)
theorem vals1 {x : V} {us : List Value} (r : Qj [x] us) : ∃ u, us = [u] /\ RelV x u := by
 cases r with
 | cons r1 r2 => cases r2; exact ⟨_, rfl, r1⟩
theorem vals2 {x y : V} {us : List Value} (r : Qj [x, y] us) : ∃ u w', us = [u, w'] /\ RelV x u /\ RelV y w' := by
 cases r with
 | cons r1 r2 =>
  cases r2 with
  | cons r3 r4 => cases r4; exact ⟨_, _, rfl, r1, r3⟩
end
end L2
namespace L2
open PySem PySem.Spec PyProof.Rows
structure QnY (h : Heap) (x dx C : Addr) (mA : Str -> Option Value) : Prop where
 obj : h.get? x = some (PySem.W.instObj C dx)
 ns : h.Ns1 dx mA
 ne : dx ≠ x
theorem QjK {h : Heap} {dx : Addr} {mA : Str -> Option Value} (n : h.Ns1 dx mA) : ∃ od, h.get? dx = some od /\ ∀ name, PySem.W.lookIn name od = some (mA name) := by
 obtain ⟨o, es, ep, ho, hd, hk, _, hm⟩ := n
 refine ⟨o, ho, λ name => ?_⟩
 have e := hm name
 unfold nsFind findBy at e
 rw [← Array.find?_toList] at e
 unfold PySem.W.lookIn
 rw [hd]
 dsimp only
 split
 ·rename_i y q
  rw [q] at e
  exact congrArg some e
 ·rename_i q
  rw [q] at e
  have a : es.toList.any (·.refKey) = false := by
   rw [List.any_eq_false]
   intro y hy
   obtain ⟨z, t, hkey⟩ := hk y (Array.mem_toList_iff.mp hy)
   simp [DictEntry.refKey, hkey]
  have a' : ¬ es.toList.any (·.refKey) = true := by rw [a]; exact Zai
  rw [if_neg a']
  exact congrArg some e
theorem QnY.look {h : Heap} {x dx C : Addr} {mA : Str -> Option Value} (I : QnY h x dx C mA) : ∃ od, PySem.W.InstAt h x (PySem.W.instObj C dx) C (some od) /\ ∀ name, PySem.W.lookIn name od = some (mA name) :=
 let ⟨od, ho, hl⟩ := QjK I.ns
 ⟨od, ⟨I.obj, rfl, rfl, ho⟩, hl⟩
section
variable {prog : Program} {w : World} {A : Around} {E : Value -> Shared -> Prop} {s : Shared} {K : PySem.W.Frag} {x dx C f : Addr} {mA : Str -> Option Value} {name : Str} {v : Value}
end
theorem Qf1.some_of {v : V} {o : Option Value} (r : Qf1 (some v) o) : ∃ u, o = some u /\ RelV v u := by
 cases o with
 | none => exact (show False from r).elim
 | some u => exact ⟨u, rfl, r⟩
theorem Qf1.none_of {o : Option Value} (r : Qf1 none o) : o = none := by
 cases o with
 | none => rfl
 | some u => exact (show False from r).elim
section
variable {P : Program} {w : World} {H H' : Hp} {h h' : Heap} {a C dx : Addr} {fs fs' : List (Str × V)}
end
structure Cls (K : PySem.W.Frag) (C : Addr) : Prop where
 pg : PySem.W.plainGet K C Str.empty = true
 hd : PySem.W.hasDictIn K C = true
 po : PySem.W.plainOver K C = true
 sa : PySem.W.findIn K (.ref C) "__setattr__" = some (some (.builtin "object.__setattr__"))
theorem Cls.get {K : PySem.W.Frag} {C : Addr} (c : Cls K C) (f : Str) : PySem.W.plainGet K C f = true := c.pg
structure Con (K : PySem.W.Frag) (C : Addr) (f : Str) (v : V) (u : Value) : Prop where
 at_ : PySem.W.findIn K (.ref C) f = some (some u)
 rel : RelV v u
 get : PySem.W.specialIn K u "__get__" = some none
 cp : PySem.W.copiedNames.contains f = false
structure QqF (K : PySem.W.Frag) (C : Addr) (m : Str) (f : Addr) : Prop where
 at_ : PySem.W.findIn K (.ref C) m = some (some (.ref f))
 fn : PySem.W.isFn K (.ref f) = true
 kp : PySem.W.keepIn K (.ref f) = true
section
variable {X : Cx} {pins : List (Addr × Obj)} {σ : St} {H : Hp} {s : Shared} {a C dx : Addr} {fs : List (Str × V)} {f : Str} {v : V} {A : Around} {E : Value -> Shared -> Prop}
theorem Inv.made (I : Inv X pins σ H s) : Inv X pins σ (upd (upd H s.heap.objs.size (.own (s.heap.objs.size + 1))) (s.heap.objs.size + 1) (.ins C s.heap.objs.size []))
  { s with heap := (s.heap.push PySem.W.emptyDict).push (PySem.W.instObj C s.heap.objs.size) } := by
 have e1 : (s.heap.push PySem.W.emptyDict).get? s.heap.objs.size = some PySem.W.emptyDict := Zy s.heap rfl
 have e2 : ((s.heap.push PySem.W.emptyDict).push (PySem.W.instObj C s.heap.objs.size)).get? (s.heap.objs.size + 1) = some (PySem.W.instObj C s.heap.objs.size) := by
  have := Zy (s.heap.push PySem.W.emptyDict) (o := PySem.W.instObj C s.heap.objs.size) rfl
  rwa [Zav] at this
 have e3 : (s.heap.push PySem.W.emptyDict).Ns s.heap.objs.size (λ _ => none) := ⟨PySem.W.emptyDict, #[], _, e1, rfl, (λ e he => absurd he (by simp)), λ _ => rfl⟩
 have I1 := I.laid (a := s.heap.objs.size) (o := .own (s.heap.objs.size + 1)) (h' := s.heap.push PySem.W.emptyDict) (t' := s.toks) (λ b u q => Zm _ q) (Zj _) ⟨_, e1⟩
 refine I1.laid (a := s.heap.objs.size + 1) (o := .ins C s.heap.objs.size []) (t' := s.toks) (λ b u q => Zm _ q) (Nat.le_of_eq (Zav _ _)) ?_
 have ne : s.heap.objs.size ≠ s.heap.objs.size + 1 := ZH (Zbb _)
 refine ⟨by rw [Qt ne, QQ], ZI _, ne, e2, λ _ => none, (Heap.Ns1.of_empty e3).at λ o q => Zm _ q, λ _ => True.intro, λ y hy => absurd rfl hy⟩
end
section
variable {X : Cx} {o e value : Expr} {f : Str} {pos pos' tpos : Pos} {ta tv : TE}
end
section
variable {X : Cx} {pins : List (Addr × Obj)} {σ : St} {H : Hp} {s : Shared} {A : Around} {E : Value -> Shared -> Prop} {Q : Value -> Shared -> Prop} {c : Value} {b : Bool}
inductive QcO (K : PySem.W.Frag) (H : Hp) : V -> Value -> Prop where
 | non : QcO K H .non (.type "NoneType")
 | bl (x : Bool) : QcO K H (.bl x) (.type "bool")
 | int (i : Int) : QcO K H (.int i) (.type "int")
 | str (x : Str) : QcO K H (.str x) (.type "str")
 | flt (x : UInt64) : QcO K H (.flt x) (.type "float")
 | lst {a : Addr} {xs : List V} (e : H a = some (.lst xs)) : QcO K H (.ref a) (.type "list")
 | frz {a : Addr} {o : Obj} {xs : List V} (e : H a = some (.frz o (.lst xs))) : QcO K H (.ref a) (.type "list")
 | tup {a : Addr} {xs : List V} (e : H a = some (.tup xs)) : QcO K H (.ref a) (.type "tuple")
 | dK {a : Addr} {kvs : List (Key × V)} (e : H a = some (.dK kvs)) : QcO K H (.ref a) (.type "dict")
 | dT {a : Addr} {kvs : List (List Key × V)} (e : H a = some (.dT kvs)) : QcO K H (.ref a) (.type "dict")
 | ins {a C dx : Addr} {fs : List (Str × V)} (e : H a = some (.ins C dx fs)) (cl : Cls K C) (ha : PySem.W.findIn K (.ref C) "__class__" = some (some (.builtin "object.__class__")))
   (hn : PySem.W.specialIn K (.builtin "object.__class__") "__get__" = some (some (.builtin "getset_descriptor.__get__"))) (htk : PySem.W.takesIn K (.builtin "object.__class__") = some true)
   (hm : PySem.W.mroIn K C (.type "object") = some true) : QcO K H (.ref a) (.ref C)
end
end L2
namespace L2
open PySem PySem.Spec PyProof.Rows
structure QX (k : Nat) (A : Around) : Prop where
 hd : A.handled = none
 dp : A.depth + 3 * k + 5 < recursionLimit
 un : A.units + 16 * k + 200 < cLine
theorem QX.mono {j k : Nat} {A : Around} (r : QX k A) (h : j <= k) : QX j A := ⟨r.hd, by have := r.dp; omega, by have := r.un; omega⟩
theorem QX.deeper {k : Nat} {A : Around} (r : QX (k + 1) A) (env : Env) : QX k (A.deeper env) :=
 ⟨r.hd, by have := r.dp; show A.depth + 1 + 3 * k + 5 < _; omega, by have := r.un; show A.units + 3 + 16 * k + 200 < _; omega⟩
theorem QX.in1 {k : Nat} {A : Around} (r : QX (k + 1) A) : QX k A.in1 :=
 ⟨r.hd, by have := r.dp; show A.depth + 3 * k + 5 < _; omega, by have := r.un; show A.units + 1 + 16 * k + 200 < _; omega⟩
theorem Qi7 {A : Around} {C : Addr} {us : List Value} {kw : List (Str × Value)} : (A.under (.builtin "type.__call__" ⟨.ref C :: us, kw⟩)).depth = A.depth + 1 := by
 first | rfl | simp [Around.under, Code.weight, Code.isCreation, Code.isGuard, Code.isCaller, Code.frames, Code.isFrame, guardIds]
theorem Qjn {A : Around} {C : Addr} {us : List Value} {kw : List (Str × Value)} : (A.under (.builtin "type.__call__" ⟨.ref C :: us, kw⟩)).units = A.units + 1 := by
 first | rfl | simp [Around.under, Code.cUnits, Code.frames, Code.isFrame]
theorem QX.make {k : Nat} {A : Around} (r : QX (k + 1) A) (C : Addr) (us : List Value) (kw : List (Str × Value)) : QX k (A.under (.builtin "type.__call__" ⟨.ref C :: us, kw⟩)) :=
 ⟨r.hd, by have := r.dp; rw [Qi7]; omega, by have := r.un; rw [Qjn]; omega⟩
theorem QX.depth {k : Nat} {A : Around} (r : QX k A) : A.depth < recursionLimit := by have := r.dp; omega
theorem QX.units {k : Nat} {A : Around} (r : QX k A) : A.units + 64 < cLine := by have := r.un; omega
noncomputable def Qjg : TA := λ _ H Q => Q [] H
noncomputable def QiS (ta : TE) (tr : TA) : TA := λ σ H Q => ta σ H λ x H1 => tr σ H1 λ xs H2 => Q (x :: xs) H2
section
variable {X : Cx} {e : Expr} {es : List Expr} {te : TE} {t : TA} {pos : Pos}
theorem QcL : PA X [] Qjg := λ _ _ _ _ H Q I h => Calls.spliced_nil ⟨[], H, I, .nil, h⟩
theorem QaR (ha : PE X e te) (hr : PA X es t) (hs : starEach (e :: es) X.env = (false, eval e X.env) :: starEach es X.env := by rfl) : PA X (e :: es) (QiS te t) := by
 intro pos pins s σ H Q I h
 rw [hs]
 show wpAny _ _ (spliced ((false, eval e X.env) :: backTo pos (starEach es X.env))) _ _ s
 refine Calls.spliced_cons (thn (ha pins s σ H _ I h) λ u s1 ⟨x, H1, I1, r1, q1⟩ => ?_)
 exact thn (hr pos pins s1 σ H1 _ I1 q1) λ us s2 ⟨xs, H2, I2, r2, q2⟩ => ⟨x :: xs, H2, I2, .cons r1 r2, q2⟩
noncomputable def Qp6 (t : TA) : TE := λ σ H Q => t σ H λ xs H1 => xs.length <= sizeLine /\ ∀ p, H1 p = none -> Q (.ref p) (upd H1 p (.tup xs))
noncomputable def Qp5 (t : TA) : TE := λ σ H Q => t σ H λ xs H1 => xs.length <= sizeLine /\ ∀ p, H1 p = none -> Q (.ref p) (upd H1 p (.lst xs))
theorem QoG {x1} (h : PA X es t) : PE X (.Tuple es x1 pos) (Qp6 t) := by
 intro pins s σ H Q I hq
 refine wpAny_Tuple_spliced (thn (h pos pins s σ H _ I hq) λ us s1 ⟨xs, H1, I1, r, z, q⟩ => ⟨by rw [← r.length]; exact z, ?_⟩)
 have hf : H1 s1.heap.objs.size = none := I1.hok.fresh (Zj _)
 refine ⟨.ref s1.heap.objs.size, upd H1 s1.heap.objs.size (.tup xs), I1.laid (t' := s1.toks) (λ b u e => Zm _ e) (Zj _) ?_, rfl, q _ hf⟩
 exact ⟨z, us, r, ⟨_, Zy _ rfl, rfl, _, rfl⟩⟩
theorem QoK (h : PA X es t) : PE X (.List es pos) (Qp5 t) := by
 intro pins s σ H Q I hq
 refine wpAny_List_spliced (thn (h pos pins s σ H _ I hq) λ us s1 ⟨xs, H1, I1, r, z, q⟩ => ⟨by rw [← r.length]; exact z, ?_⟩)
 have hf : H1 s1.heap.objs.size = none := I1.hok.fresh (Zj _)
 refine ⟨.ref s1.heap.objs.size, upd H1 s1.heap.objs.size (.lst xs), I1.laid (t' := s1.toks) (λ b u e => Zm _ e) (Zj _) ?_, rfl, q _ hf⟩
 exact ⟨z, us, 0, r, Zy _ rfl⟩
end
noncomputable abbrev Sp := List V -> Hp -> VK -> XK -> Prop
noncomputable abbrev CXT := List Env -> Hp -> Shared -> XK -> Value -> Shared -> Prop
structure Qc5 (P : Program) (w : World) (K : PySem.W.Frag) (mg : Str -> Option Value) (base : Heap) (A : Around) (outer : List Env) (s : Shared) (H : Hp) : Prop where
 frames : A.frames = some outer
 mod : Mod K mg base
 bs : ∀ b o, base.get? b = some o -> s.heap.get? b = some o /\ H b = none
 bsz : base.objs.size <= s.heap.objs.size
 QbU : s.heap.FunFrames base outer
 frf : ∀ b ∈ frs outer, H b = none
 hok : HOk P w H s.heap
 bare : AllBare s.gens
def CE (outer : List Env) (P : Program) (w : World) (H : Hp) (s : Shared) (Q : VK) (u : Value) (s' : Shared) : Prop :=
 ∃ v H', s'.os = s.os /\ AllBare s'.gens /\ Un (frs outer) [] H H' s.heap s'.heap /\ HOk P w H' s'.heap /\ RelV v u /\ Q v H'
def CR (CX : CXT) (outer : List Env) (P : Program) (w : World) (H : Hp) (s : Shared) (Q : VK) (E : XK) (r : Result) (s' : Shared) : Prop :=
 match r with
 | .ok (.ret u) => CE outer P w H s Q u s'
 | .ok _ => False
 | .error e => CX outer H s E e s'
structure Qa3 (P : Program) (w : World) (K : PySem.W.Frag) (mg : Str -> Option Value) (base : Heap) (CX : CXT) (k : Nat) (f : Addr) (fd : FuncData) (ps : List Str) (sp : Sp) : Prop where
 len : ∀ vs H Q E, sp vs H Q E -> vs.length = ps.length
 run : ∀ (A : Around) (outer : List Env) (s : Shared) (H : Hp) (args : Args) (us : List Value) (vs : List V) (Q : VK) (E : XK), QX k A -> Qc5 P w K mg base A outer s H -> BindsTo s fd args (ps.zip us) -> Qj vs us -> sp vs H Q E →
  codeAny (model P w) A (.call (.ref f) args) (CR CX outer P w H s Q E) s
theorem Qa3.mono {P : Program} {w : World} {K : PySem.W.Frag} {mg : Str -> Option Value} {base : Heap} {CX : CXT} {j k : Nat} {f : Addr} {fd : FuncData} {ps : List Str} {sp : Sp} (F : Qa3 P w K mg base CX j f fd ps sp) (h : j <= k) :
  Qa3 P w K mg base CX k f fd ps sp := ⟨F.len, λ A outer s H args us vs Q E hr => F.run A outer s H args us vs Q E (hr.mono h)⟩
theorem Qc5.make {P : Program} {w : World} {K : PySem.W.Frag} {mg : Str -> Option Value} {base : Heap} {A : Around} {outer : List Env} {s : Shared} {H : Hp} (e : Qc5 P w K mg base A outer s H) (C : Addr) (us : List Value) (kw : List (Str × Value)) :
  Qc5 P w K mg base (A.under (.builtin "type.__call__" ⟨.ref C :: us, kw⟩)) outer s H := ⟨by first | exact e.frames | (simpa [Around.under, Code.envs, Code.isFrame, pushEnvs] using e.frames), e.mod, e.bs, e.bsz, e.QbU, e.frf, e.hok, e.bare⟩
theorem Qc5.in1 {P : Program} {w : World} {K : PySem.W.Frag} {mg : Str -> Option Value} {base : Heap} {A : Around} {outer : List Env} {s : Shared} {H : Hp} (e : Qc5 P w K mg base A outer s H) :
  Qc5 P w K mg base A.in1 outer s H := ⟨e.frames, e.mod, e.bs, e.bsz, e.QbU, e.frf, e.hok, e.bare⟩
section
variable {X : Cx} {pins : List (Addr × Obj)} {σ : St} {H : Hp} {s s' : Shared}
theorem Inv.Qp1 (I : Inv X pins σ H s) : Qc5 X.prog X.w X.K X.mg X.base X.A X.stack s H :=
 ⟨I.ok.frames, I.ok.mod, I.bs, Zr I.ok.bsz I.sz, I.stack, I.Qis, I.hok, I.bare⟩
theorem Inv.after {Q : VK} {u : Value} (I : Inv X pins σ H s) (h : CE X.stack X.prog X.w H s Q u s') : EP X pins σ Q u s' := by
 obtain ⟨v, H', os, bare, un, hok, r, q⟩ := h
 obtain ⟨hh, g, d, t, os'⟩ := s'
 obtain rfl : os' = s.os := os
 exact ⟨v, H', I.call (h' := hh) (g' := g) (d' := d) (t' := t) (ch := []) un hok bare (λ b z => absurd z (by simp)), r, q⟩
end
noncomputable def Qjh (sp : Sp) (dvs : List V) (E : XK) (t : TA) : TE := λ σ H Q => t σ H λ vs H1 => sp (vs ++ dvs) H1 Q E
def Binds (K : PySem.W.Frag) (fd : FuncData) (ps : List Str) (ds : List Value) : Prop :=
 ∀ (s : Shared) (us : List Value), K.In s.heap -> (us ++ ds).length = ps.length -> BindsTo s fd ⟨us, []⟩ (ps.zip (us ++ ds))
theorem Binds.all {K : PySem.W.Frag} {fd : FuncData} {ps : List Str} (h : ∀ us : List Value, us.length = ps.length -> bindArgs fd ⟨us, []⟩ = pure (ps.zip us)) : Binds K fd ps [] := λ s us _ hl => by
 rw [Zbl] at hl ⊢
 exact .of_eq (h us hl)
def Qfb (CX : CXT) (X : Cx) (E : XK) : Prop := ∀ (pins : List (Addr × Obj)) (σ : St) (H : Hp) (s : Shared) (e : Value) (s' : Shared), Inv X pins σ H s -> CX X.stack H s E e s' -> X.xe e s'
section
variable {X : Cx} {CX : CXT} {k : Nat} {f C : Addr} {fd : FuncData} {ps : List Str} {sp : Sp} {dvs : List V} {ds : List Value} {E : XK} {x m : Str} {p pos apos : Pos} {e o : Expr} {es : List Expr} {ta : TE} {t : TA}
theorem Qke {pins : List (Addr × Obj)} {σ : St} {H : Hp} {s : Shared} {Q : VK} {us : List Value} {vs : List V} (F : Qa3 X.prog X.w X.K X.mg X.base CX k f fd ps sp) (hr : QX k X.A) (hb : Binds X.K fd ps ds) (hd : Qj dvs ds) (hx : Qfb CX X E)
  (I : Inv X pins σ H s) (r : Qj vs us) (h : sp (vs ++ dvs) H Q E) : wpAny (model X.prog X.w) X.A (call (.ref f) us) (EP X pins σ Q) X.xe s := by
 have r2 : Qj (vs ++ dvs) (us ++ ds) := r.append hd
 have hl : (us ++ ds).length = ps.length := by rw [← r2.length]; exact F.len _ _ _ _ h
 refine wpAny_call (codeAny_mono (F.run X.A X.stack s H ⟨us, []⟩ (us ++ ds) (vs ++ dvs) Q E hr I.Qp1 (hb s us I.kIn hl) r2 h) λ r s' hq => ?_)
 cases r with
 | error e => exact hx pins σ H s e s' I hq
 | ok fl =>
  cases fl with
  | ret u => exact I.after hq
  | next => exact False.elim hq
  | brk => exact False.elim hq
  | cont => exact False.elim hq
theorem QmL (F : Qa3 X.prog X.w X.K X.mg X.base CX k f fd ps sp) (hr : QX k X.A) (hg : Gl X x) (hm : X.mg x = some (.ref f)) (hk : PySem.W.keepIn X.K (.ref f) = true) (hb : Binds X.K fd ps ds) (hd : Qj dvs ds) (hx : Qfb CX X E)
  (ha : PA X (e :: es) t) (hdb : (x == ("__debug__" : Str)) = false := by decide) (he : starEach (e :: es) X.env = (false, eval e X.env) :: starEach es X.env := by rfl) (hpl : (backTo pos (starEach es X.env)).any (·.1) = false := by rfl) :
  PE X (.Call (.Name x p) (e :: es) [] pos) (Qjh sp dvs E t) := by
 intro pins s σ H Q I h
 refine wpAny_Call_Name_kw (Qf9 I hg hm ?_ hdb)
 refine PySem.W.callWith_K (h₀ := X.base) I.ok.mod.kin hk (thn (ha pos pins s σ H _ I h) λ us s1 ⟨vs, H1, I1, r, q⟩ => ⟨I1.kIn, ?_⟩) he hpl
 exact Qke F hr hb hd hx I1 r q
theorem QkS (F : Qa3 X.prog X.w X.K X.mg X.base CX k f fd ps sp) (hr : QX k X.A) (hg : Gl X x) (hm : X.mg x = some (.ref f)) (hk : PySem.W.keepIn X.K (.ref f) = true) (hb : Binds X.K fd ps ds) (hd : Qj dvs ds) (hx : Qfb CX X E)
  (hdb : (x == ("__debug__" : Str)) = false := by decide) : PE X (.Call (.Name x p) [] [] pos) (Qjh sp dvs E Qjg) := by
 intro pins s σ H Q I h
 refine wpAny_Call_Name_kw (Qf9 I hg hm ?_ hdb)
 exact PySem.W.callWith_K0 I.kIn hk (Qke (us := []) F hr hb hd hx I .nil h)
structure Mk (K : PySem.W.Frag) (C f : Addr) : Prop where
 makes : PySem.W.makesIn K C = true
 init : PySem.W.findIn K (.ref C) "__init__" = some (some (.ref f))
 fn : PySem.W.isFn K (.ref f) = true
 kp : PySem.W.keepIn K (.ref C) = true
end
section
variable {X : Cx} {CX : CXT} {k : Nat} {f C : Addr} {fd : FuncData} {ps ks : List Str} {sp : Sp} {E : XK} {x m : Str} {p pos apos kpos : Pos} {e o : Expr} {es : List Expr} {kws : List Keyword} {te ta : TE} {t tk : TA} {nm : Option Str}
structure QqC (K : PySem.W.Frag) (fd : FuncData) (ps ks : List Str) (g : List Value -> List Value -> List Value) (gV : List V -> List V -> List V) : Prop where
 to : ∀ (s : Shared) (us ws : List Value), K.In s.heap -> (g us ws).length = ps.length -> BindsTo s fd ⟨us, ks.zip ws⟩ (ps.zip (g us ws))
 rel : ∀ {vs : List V} {us : List Value} {zs : List V} {ws : List Value}, Qj vs us -> Qj zs ws -> Qj (gV vs zs) (g us ws)
variable {g : List Value -> List Value -> List Value} {gV : List V -> List V -> List V}
end
structure Qa9 (N P : List Str) (sc : Scope) : Prop where
 kind : sc.kind = .function
 co : sc.isCoroutine = false
 gen : sc.isGenerator = false
 nd : N.Nodup
 pre : N.take P.length = P
 par : ∀ x ∈ P, sc.names.lookup x = some .local ∨ sc.names.lookup x = some .cell
 nofree : ∀ y ∈ sc.names, y.2 ≠ .free
theorem Qgg {kindOf : Str -> Option NameKind} {x : Str} : ∀ {binds : List (Str × Value)} {m : Str -> Option Value}, (∀ v, (x, v) ∉ binds) -> bindL kindOf binds m x = m x
 | [], _, _ => rfl
 | (n, v) :: r, m, h => by
  unfold bindL
  rw [Qgg λ w hw => h w (Zd _ hw)]
  split
  ·have : x ≠ n := by rintro rfl; exact h v Zi
   simp [this]
  ·rfl
theorem Qgs {kindOf : Str -> Option NameKind} {x : Str} : ∀ {binds : List (Str × Value)} {m : Str -> Option Value}, (∀ v, (x, v) ∉ binds) -> bindC kindOf binds m x = m x
 | [], _, _ => rfl
 | (n, v) :: r, m, h => by
  unfold bindC
  rw [Qgs λ w hw => h w (Zd _ hw)]
  split
  ·rfl
  ·have : x ≠ n := by rintro rfl; exact h v Zi
   simp [this]
theorem QgA {kindOf : Str -> Option NameKind} {x : Str} {v : Value} : ∀ {P : List Str} {vs : List Value} {i : Nat} {m : Str -> Option Value}, P.Nodup -> P[i]? = some x -> vs[i]? = some v -> kindOf x = some .local →
  bindL kindOf (P.zip vs) m x = some v
 | [], _, _, _, _, h, _, _ => by simp at h
 | _ :: _, [], _, _, _, _, h, _ => by simp at h
 | p :: P, w :: vs, 0, m, nd, h1, h2, hk => by
  simp at h1 h2; subst h1; subst h2
  show bindL kindOf ((p, w) :: P.zip vs) m p = _
  unfold bindL
  rw [Qgg λ v hv => (Zal.mp nd).1 (Zbm hv).1, if_pos hk]
  simp
 | p :: P, w :: vs, i + 1, m, nd, h1, h2, hk => by
  show bindL kindOf ((p, w) :: P.zip vs) m x = _
  unfold bindL
  exact QgA (i := i) (Zal.mp nd).2 (by simpa using h1) (by simpa using h2) hk
theorem Qgk {kindOf : Str -> Option NameKind} {x : Str} {v : Value} : ∀ {P : List Str} {vs : List Value} {i : Nat} {m : Str -> Option Value}, P.Nodup -> P[i]? = some x -> vs[i]? = some v -> kindOf x ≠ some .local →
  bindC kindOf (P.zip vs) m x = some v
 | [], _, _, _, _, h, _, _ => by simp at h
 | _ :: _, [], _, _, _, _, h, _ => by simp at h
 | p :: P, w :: vs, 0, m, nd, h1, h2, hk => by
  simp at h1 h2; subst h1; subst h2
  show bindC kindOf ((p, w) :: P.zip vs) m p = _
  unfold bindC
  rw [Qgs λ v hv => (Zal.mp nd).1 (Zbm hv).1, if_neg hk]
  simp
 | p :: P, w :: vs, i + 1, m, nd, h1, h2, hk => by
  show bindC kindOf ((p, w) :: P.zip vs) m x = _
  unfold bindC
  exact Qgk (i := i) (Zal.mp nd).2 (by simpa using h1) (by simpa using h2) hk
noncomputable def start (N : List Str) (vs : List V) : St := vs.map some ++ List.replicate (N.length - vs.length) none
noncomputable def Qd1 (CX : CXT) (P : Program) (w : World) (K : PySem.W.Frag) (mg : Str -> Option Value) (base : Heap) (N : List Str) (qual : Str) (scope : Scope) (f : Addr) (cd : Value) (A : Around) (outer : List Env) (s : Shared) (H : Hp) (E : XK) : Cx where
 prog := P
 w := w
 K := K
 mg := mg
 base := base
 A := A.deeper (envOfC qual scope s.heap.objs.size f cd)
 N := N
 s₀ := s
 H₀ := H
 env := envOfC qual scope s.heap.objs.size f cd
 outer := outer
 stack := envOfC qual scope s.heap.objs.size f cd :: outer
 ex := []
 calm := decide (A.handled = none)
 fn := λ _ => true
 pn := []
 xe := λ e s' => wpAny (model P w) (A.deeper (envOfC qual scope s.heap.objs.size f cd)) (leaving (envOfC qual scope s.heap.objs.size f cd) e) (λ _ s'' => CX outer H s E e s'') (λ e' s'' => CX outer H s E e' s'') s'
theorem QhS {sc : Scope} {n : Nat} {x : Str} (h : sc.names.lookup x = some .cell) : ∃ c, (cellsFrom n sc.names []).lookup x = some c := by
 have q := Zbh sc.names n [] (.inl h)
 exact Option.isSome_iff_exists.mp q
theorem QjJ {CX : CXT} {P : Program} {w : World} {K : PySem.W.Frag} {mg : Str -> Option Value} {base : Heap} {N ps : List Str} {qual : Str} {scope : Scope} {f : Addr} {cd : Value} {A : Around} {outer : List Env} {s s1 : Shared} {H : Hp} {E : XK} {us : List Value} {vs : List V}
  (S : Qa9 N ps scope) (e0 : Qc5 P w K mg base A outer s H) (hl : vs.length = ps.length) (r : Qj vs us)
  (x : InCallC s s.heap.objs.size (bindL (envOfC qual scope s.heap.objs.size f cd).kindOf (ps.zip us) λ _ => none) (cellsFrom (s.heap.objs.size + 1) scope.names []) (bindC (envOfC qual scope s.heap.objs.size f cd).kindOf (ps.zip us) λ _ => none) s1) :
  Inv (Qd1 CX P w K mg base N qual scope f cd A outer s H E) [] (start N vs) H s1 := by
 have hpl : ps.length <= N.length := by have := congrArg List.length S.pre; rw [Zbc] at this; omega
 obtain ⟨h1, tk, rfl, hk⟩ := x.done
 have noA : ∀ b : Addr, b ∉ (Qd1 CX P w K mg base N qual scope f cd A outer s H E).ex := λ b z => absurd (show b ∈ ([] : List Addr) from z) (by simp)
 refine ⟨⟨e0.mod, S.kind, rfl, rfl, Zj _, λ y z c h1 h2 => ?_, λ y hy => ?_, λ y c _ h => ?_, λ h => of_decide_eq_true h, Around.frames_deeper e0.frames, .inr ⟨rfl, rfl⟩, λ b z => absurd z (noA b), e0.bs, e0.bsz, λ b _ _ => noA b, λ b z => absurd z (noA b), e0.QbU, e0.frf⟩,
  rfl, e0.bare, Un.kept hk, ⟨_, x.toInCall.ns, λ i y v h1 h2 h3 => ?_⟩, λ y c h => ⟨_, x.cell y c h⟩, e0.hok.fresh (Zj _), λ y c h => ?_, λ p hp => absurd (show p ∈ ([] : List (Addr × Obj)) from hp) (by simp), e0.hok.kept hk, ?_⟩
 ·exact name_of_addr x.apart (ZJ h1) (ZJ h2)
 ·have hy : scope.names.lookup y = some .cell ∨ scope.names.lookup y = some .free := hy
  rcases hy with hy | hy
  ·exact QhS hy
  ·exact absurd rfl (S.nofree _ (ZJ hy))
 ·exact Nat.le_of_lt (x.above y c (ZJ h))
 ·have hi : i < vs.length := by
   unfold start at h2
   by_cases hi : i < vs.length
   ·exact hi
   ·rw [ZaQ (by simpa using hi)] at h2
    rw [Zbd] at h2
    split at h2 <;> cases h2
  have ha : vs[i]? = some v := by
   unfold start at h2
   rw [ZZ (by simpa using hi), Zq] at h2
   cases e : vs[i]? with
   | none => rw [e] at h2; cases h2
   | some a => rw [e] at h2; cases h2; rfl
  obtain ⟨u, hu, rv⟩ := r.get ha
  have hp : ps[i]? = some y := by
   rw [← S.pre, List.getElem?_take_of_lt (by omega)]; exact h1
  have ndP : ps.Nodup := by rw [← S.pre]; exact S.nd.sublist (List.take_sublist _ _)
  refine ⟨u, rv, ?_⟩
  rcases S.par y (Zao hp) with k | k
  ·exact .inl ⟨k, QgA ndP hp hu k⟩
  ·obtain ⟨c, e⟩ := QhS (n := s.heap.objs.size + 1) k
   refine .inr ⟨.inl k, c, e, ?_⟩
   have q := x.cell y c e
   rw [Qgk ndP hp hu (by show scope.names.lookup y ≠ _; rw [k]; decide)] at q
   exact q
 ·exact e0.hok.fresh (Nat.le_of_lt (x.above y c (ZJ h)))
 ·unfold start
  show _ = N.length
  rw [Zs, ZA, List.length_replicate]
  omega
theorem Qpa {CX : CXT} {P : Program} {w : World} {K : PySem.W.Frag} {mg : Str -> Option Value} {base : Heap} {k : Nat} {f : Addr} {name qual : Str} {params : Arguments} {body : List Stmt} {scope : Scope} {dV kV doc pm cdv ct oc : Value} {an od : Option Addr}
  {osl : Array (Option Value)} {N ps : List Str} {sp : Sp} (lk : K.lookup f = some ⟨oc, od, .func (PySem.W.fnOf name qual params body scope dV kV doc pm an cdv ct), osl⟩) (hcd : PySem.W.codeIn K cdv qual = true) (S : Qa9 N ps scope)
  (len : ∀ vs H Q E, sp vs H Q E -> vs.length = ps.length)
  (hbody : ∀ (A : Around) (outer : List Env) (s : Shared) (H : Hp) (vs : List V) (Q : VK) (E : XK), QX k (A.deeper (envOfC qual scope s.heap.objs.size f cdv)) -> sp vs H Q E →
   ∃ t, PSs (Qd1 CX P w K mg base N qual scope f cdv A outer s H E) body t /\ t { nx := λ _ H' => Q .non H', rt := Q } (start N vs) H) :
  Qa3 P w K mg base CX (k + 1) f (PySem.W.fnOf name qual params body scope dV kV doc pm an cdv ct) ps sp := by
 refine ⟨len, λ A outer s H args us vs Q E hr e0 hb r hsp => ?_⟩
 have hl := len _ _ _ _ hsp
 have KX : K.In s.heap := e0.mod.kin.keeps λ b o e => (e0.bs b o e).1
 have lim : s.heap.NoLimit := e0.mod.nolimit.keeps λ b o e => (e0.bs b o e).1
 have hkind : ∀ y ∈ ps.zip us, scope.names.lookup y.1 = some .local ∨ (scope.names.lookup y.1 = some .cell /\ ((cellsFrom (s.heap.objs.size + 1) scope.names []).lookup y.1).isSome = true) := λ ⟨n, v⟩ hy => by
  rcases S.par n (Zbm hy).1 with q | q
  ·exact .inl q
  ·exact .inr ⟨q, Zbh _ _ _ (.inl q)⟩
 refine codeAny_call_function hr.depth (KX _ _ lk) rfl S.co S.gen rfl (PySem.W.codeRec_of KX hcd) (hb _ _ _ _ ?_)
 refine wpAny_newFunctionEnv_cells S.kind hkind λ env he s1 x => ?_
 subst he
 refine ⟨lim.keeps x.toInCall.keep, codeAny_func ?_⟩
 obtain ⟨t, ht, hq⟩ := hbody A outer s H vs Q E (hr.deeper _) hsp
 have I : Inv (Qd1 CX P w K mg base N qual scope f cdv A outer s H E) [] (start N vs) H s1 := QjJ S e0 hl r x
 refine wpAny_mono (ht [] s1 (start N vs) H _ I hq) (λ fl s' hs => ?_) λ e s' hs => hs
 have fin : ∀ {σ' : St} {H' : Hp} {v : V} {u : Value}, Inv (Qd1 CX P w K mg base N qual scope f cdv A outer s H E) [] σ' H' s' -> RelV v u -> Q v H' -> CE outer P w H s Q u s' :=
  λ {σ' H' v u} J rv q => ⟨v, H', J.os, J.bare, J.base, J.hok, rv, q⟩
 cases fl with
 | ret u =>
  obtain ⟨v, σ', H', J, rv, q⟩ := hs
  exact fin J rv q
 | next =>
  obtain ⟨σ', H', J, q⟩ := hs
  exact fin (v := V.non) (u := Value.none) J rfl q
 | brk =>
  obtain ⟨_, _, _, q⟩ := hs
  exact False.elim q
 | cont =>
  obtain ⟨_, _, _, q⟩ := hs
  exact False.elim q
end L2
namespace L2
open PySem PySem.Spec PyProof.Rows
section
variable {X : Cx} {x : Str} {p pos : Pos} {e : Expr} {es : List Expr} {t : TA} {id T : String} {r : List V -> Hp -> VK -> Prop}
noncomputable def tCB (r : List V -> Hp -> VK -> Prop) (t : TA) : TE := λ σ H Q => t σ H λ vs H1 => r vs H1 Q
theorem Qe4 (hc : Qbn X (.builtin id) r) (hg : Gl X x) (hm : X.mg x = none) (hv : bootBuiltins x = some (.builtin id)) (ha : PA X (e :: es) t) (hn : x ≠ "__name__" := by decide) (hdb : (x == ("__debug__" : Str)) = false := by decide)
  (he : starEach (e :: es) X.env = (false, eval e X.env) :: starEach es X.env := by rfl) (hpl : (backTo pos (starEach es X.env)).any (·.1) = false := by rfl) : PE X (.Call (.Name x p) (e :: es) [] pos) (tCB r t) := by
 intro pins s σ H Q I h
 refine wpAny_Call_Name_kw (Qce I hg hm hv ?_ hn hdb)
 exact PyProof.Rows.callWith_builtin1 (thn (ha pos pins s σ H _ I h) λ us s1 ⟨vs, H1, I1, r1, q1⟩ => hc pins s1 σ H1 vs us Q I1 r1 q1) he hpl
theorem Qgd (hc : Qbn X (.type T) r) (hg : Gl X x) (hm : X.mg x = none) (hv : bootBuiltins x = some (.type T)) (ha : PA X (e :: es) t) (hn : x ≠ "__name__" := by decide) (hdb : (x == ("__debug__" : Str)) = false := by decide)
  (he : starEach (e :: es) X.env = (false, eval e X.env) :: starEach es X.env := by rfl) (hpl : (backTo pos (starEach es X.env)).any (·.1) = false := by rfl) : PE X (.Call (.Name x p) (e :: es) [] pos) (tCB r t) := by
 intro pins s σ H Q I h
 refine wpAny_Call_Name_kw (Qce I hg hm hv ?_ hn hdb)
 exact ZN (thn (ha pos pins s σ H _ I h) λ us s1 ⟨vs, H1, I1, r1, q1⟩ => hc pins s1 σ H1 vs us Q I1 r1 q1) he hpl
end
end L2
namespace HT
open PySem PyProof.Rows
section
open PySem.SeqAt
open PySem.AutoSeq1 (wpAny_loadPart')
open PySem.MeetsSeq PySem.MeetsSeq2 PySem.MeetsSeq3
end
section
variable {prog : Program} {w : World} {A : Around} {E : Value -> Shared -> Prop} {s : Shared}
noncomputable def sIx (n d : Nat) : Option Int -> Nat
 | none => d
 | some v => if v < 0 then (v + (n : Int)).toNat else min v.toNat n
theorem Qg5 (n d : Nat) : sIx n d none = d := rfl
theorem Qik (n d k : Nat) : sIx n d (some (k : Int)) = min k n := by
 show (if (k : Int) < 0 then ((k : Int) + (n : Int)).toNat else min (k : Int).toNat n) = min k n
 rw [if_neg (by omega), ZD]
end
end HT
namespace L2
open PySem PySem.Spec PyProof.Rows
noncomputable abbrev TO := St -> Hp -> (Option Int -> Hp -> Prop) -> Prop
def PO (X : Cx) (e : Option Expr) (t : TO) : Prop :=
 ∀ (pins : List (Addr × Obj)) (s : Shared) (σ : St) (H : Hp) (Q : Option Int -> Hp -> Prop), Inv X pins σ H s -> t σ H Q →
  wpAny (model X.prog X.w) X.A (evalPart e X.env) (λ u s' => ∃ o H', Inv X pins σ H' s' /\ IsPart u o /\ Q o H') X.xe s
noncomputable def QmF : TO := λ _ H Q => Q none H
noncomputable def Qpm (t : TE) : TO := λ σ H Q => t σ H λ x H1 => ∃ i, x = .int i /\ Q (some i) H1
theorem intsAre_of {ns : List Int} : ∀ {us : List Value}, Qj (ns.map V.int) us -> IntsAre us ns := by
 induction ns with
 | nil => intro us r; rw [List.map_nil] at r; cases r; exact .nil
 | cons n ns ih =>
  intro us r
  rw [Zv] at r
  cases r with
  | cons r1 r2 =>
   obtain ⟨t, e⟩ := r1
   subst e
   exact .cons n t (ih r2)
section
variable {X : Cx} {e : Expr} {te : TE} {lo hi : Option Expr} {tl th : TO} {pos p2 : Pos}
theorem QmR : PO X none QmF := by
 intro pins s σ H Q I h
 rw [evalPart_none]
 exact wpAny_pure ⟨none, H, I, .none, h⟩
theorem Qm4 (h : PE X e te) : PO X (some e) (Qpm te) := by
 intro pins s σ H Q I hw
 rw [evalPart_some]
 refine thn (h pins s σ H _ I hw) λ u s1 ⟨x, H1, I1, r1, q1⟩ => ?_
 obtain ⟨i, rfl, q⟩ := q1
 obtain ⟨t, rfl⟩ := r1
 exact ⟨some i, H1, I1, .int i t, q⟩
def SlR (X : Cx) (r : V -> Option Int -> Option Int -> Hp -> VK -> Prop) : Prop :=
 ∀ (pins : List (Addr × Obj)) (s : Shared) (σ : St) (H : Hp) (x : V) (v vl vu : Value) (lo hi : Option Int) (sl : Addr) (Q : VK), Inv X pins σ H s -> RelV x v -> s.heap.IsSliceOf sl vl vu .none -> IsPart vl lo -> IsPart vu hi -> r x lo hi H Q →
  ∃ T id, typeLookup (.type T) "__getitem__" = pure (some (.builtin id)) /\ s.TypeIs v T /\ wpAny (model X.prog X.w) X.A (getItem v (.ref sl)) (EP X pins σ Q) X.xe s
theorem SlR.or {r r' : V -> Option Int -> Option Int -> Hp -> VK -> Prop} (h : SlR X r) (h' : SlR X r') : SlR X (λ x lo hi H Q => r x lo hi H Q ∨ r' x lo hi H Q) := by
 intro pins s σ H x v vl vu lo hi sl Q I rx hs pl pu q
 rcases q with q | q
 ·exact h pins s σ H x v vl vu lo hi sl Q I rx hs pl pu q
 ·exact h' pins s σ H x v vl vu lo hi sl Q I rx hs pl pu q
noncomputable def tSl (r : V -> Option Int -> Option Int -> Hp -> VK -> Prop) (te : TE) (tl th : TO) : TE := λ σ H Q => te σ H λ x H1 => tl σ H1 λ l H2 => th σ H2 λ u H3 => r x l u H3 Q
theorem Qk1 {r : V -> Option Int -> Option Int -> Hp -> VK -> Prop} (hr : SlR X r) (he : PE X e te) (hl : PO X lo tl) (hu : PO X hi th) : PE X (.Subscript e (.Slice lo hi none p2) pos) (tSl r te tl th) := by
 intro pins s σ H Q I h
 refine Subscript_ (thn (he pins s σ H _ I h) λ v s1 ⟨x, H1, I1, r1, q1⟩ => ?_)
 refine wpAny_Slice (thn (hl pins s1 σ H1 _ I1 q1) λ vl s2 ⟨l, H2, I2, pl, q2⟩ => thn (hu pins s2 σ H2 _ I2 q2) λ vu s3 ⟨u, H3, I3, pu, q3⟩ => ?_)
 rw [evalPart_none]
 refine wpAny_pure ?_
 have I4 : Inv X pins σ H3 { s3 with heap := s3.heap.push { cls := .type "slice", data := .fields #[vl, vu, .none] } } := I3.kept (t' := s3.toks) λ b ob q => Zm _ q
 obtain ⟨T, id, hT, ht, hg⟩ := hr pins { s3 with heap := s3.heap.push { cls := .type "slice", data := .fields #[vl, vu, .none] } } σ H3 x v vl vu l u s3.heap.objs.size Q I4 r1 (Heap.IsSliceOf.new ..) pl pu q3
 show wpAny (model X.prog X.w) X.A (subscriptTail e (.Slice lo hi none p2) v (.ref s3.heap.objs.size)) (EP X pins σ Q) X.xe { s3 with heap := s3.heap.push { cls := .type "slice", data := .fields #[vl, vu, .none] } }
 exact tail_any (ops := [.ref s3.heap.objs.size, v]) ht hT hg (by with_unfolding_all rfl)
noncomputable def Qf4 (xs : List V) (lo hi : Option Int) : List V := (xs.drop (HT.sIx xs.length 0 lo)).take (HT.sIx xs.length xs.length hi - HT.sIx xs.length 0 lo)
theorem Qie (xs : List V) (lo hi : Option Int) : (Qf4 xs lo hi).length <= xs.length := by
 unfold Qf4
 rw [Zbc, List.length_drop]
 omega
end
end L2
namespace L2
open PySem PySem.Spec PyProof.Rows
noncomputable def ixN (n : Nat) (i : Int) : Option Nat := if 0 <= i then (if i < n then some i.toNat else none) else if -(n : Int) <= i then some (i + n).toNat else none
noncomputable def atI {α : Type} (xs : List α) (i : Int) : Option α := (ixN xs.length i).bind λ j => xs[j]?
theorem Qcu {n : Nat} {i : Int} {j : Nat} (h : ixN n i = some j) : seqIndex? i n = some j /\ j < n /\ -(n : Int) <= i /\ i < n := by
 unfold ixN at h
 by_cases h0 : 0 <= i
 ·rw [if_pos h0] at h
  by_cases h1 : i < n
  ·rw [if_pos h1] at h
   have e : i.toNat = j := Option.some.inj h
   exact ⟨by rw [seqIndex_of h0 h1, e], by omega, by omega, h1⟩
  ·rw [if_neg h1] at h; cases h
 ·rw [if_neg h0] at h
  by_cases h1 : -(n : Int) <= i
  ·rw [if_pos h1] at h
   have e : (i + n).toNat = j := Option.some.inj h
   exact ⟨by rw [seqIndex_neg (by omega) h1, e], by omega, h1, by omega⟩
  ·rw [if_neg h1] at h; cases h
theorem Qiz {α : Type} {xs : List α} {i : Int} {v : α} (h : atI xs i = some v) : ∃ j, seqIndex? i xs.length = some j /\ xs[j]? = some v /\ j < xs.length /\ -(xs.length : Int) <= i /\ i < xs.length := by
 unfold atI at h
 cases e : ixN xs.length i with
 | none => rw [e] at h; cases h
 | some j =>
  rw [e] at h
  obtain ⟨h1, h2, h3, h4⟩ := Qcu e
  exact ⟨j, h1, h, h2, h3, h4⟩
def Qeb (b : Expr) : Prop := ∀ o i, subscripted b false o i = operate [o, i] (getItem o i)
def IxR (X : Cx) (r : R2) : Prop :=
 ∀ (value slice : Expr) (pins : List (Addr × Obj)) (s : Shared) (σ : St) (H : Hp) (x y : V) (v u : Value) (Q : VK), Inv X pins σ H s -> RelV x v -> RelV y u -> r x y H Q →
  subscripted slice false v u = operate [v, u] (getItem v u) -> wpAny (model X.prog X.w) X.A (subscriptTail value slice v u) (EP X pins σ Q) X.xe s
def MtR (X : Cx) (id : String) (r : V -> List V -> Hp -> VK -> Prop) : Prop :=
 ∀ (pins : List (Addr × Obj)) (s : Shared) (σ : St) (H : Hp) (x : V) (xs : List V) (v : Value) (us : List Value) (Q : VK), Inv X pins σ H s -> RelV x v -> Qj xs us -> r x xs H Q →
  wpAny (model X.prog X.w) X.A (call (.builtin id) (v :: us)) (EP X pins σ Q) X.xe s
section
variable {X : Cx} {a b : Expr} {ta tb : TE} {pos : Pos}
theorem IxR.or {r r' : R2} (h : IxR X r) (h' : IxR X r') : IxR X (λ x y H Q => r x y H Q ∨ r' x y H Q) := by
 intro value slice pins s σ H x y v u Q I rx ry q hs
 rcases q with q | q
 ·exact h value slice pins s σ H x y v u Q I rx ry q hs
 ·exact h' value slice pins s σ H x y v u Q I rx ry q hs
theorem MtR.or {id : String} {r r' : V -> List V -> Hp -> VK -> Prop} (h : MtR X id r) (h' : MtR X id r') : MtR X id (λ x xs H Q => r x xs H Q ∨ r' x xs H Q) := by
 intro pins s σ H x xs v us Q I rx rs q
 rcases q with q | q
 ·exact h pins s σ H x xs v us Q I rx rs q
 ·exact h' pins s σ H x xs v us Q I rx rs q
theorem QlW {r : R2} (hr : IxR X r) (ha : PE X a ta) (hb : PE X b tb) (hs : Qeb b) : PE X (.Subscript a b pos) (tOp r ta tb) := by
 intro pins s σ H Q I h
 exact Subscript_ (QkE ha hb I h λ v u s2 x y H2 I2 rx ry q => hr a b pins s2 σ H2 x y v u Q I2 rx ry q (hs _ _))
noncomputable def QpZ (K : PySem.W.Frag) : R2 := λ x y H Q => ∃ p xs i v, x = .ref p /\ y = .int i /\ SqL K H p xs /\ atI xs i = some v /\ Q v H
noncomputable def Qqj (K : PySem.W.Frag) : R2 := λ x y H Q => ∃ p xs i v, x = .ref p /\ y = .int i /\ SqT K H p xs /\ atI xs i = some v /\ Q v H
theorem Qin : IxR X (QpZ X.K) := by
 intro value slice pins s σ H x y v u Q I rx ry h hs
 obtain ⟨p, xs, i, z, rfl, rfl, hq, he, q⟩ := h
 cases rx
 obtain ⟨t, rfl⟩ := ry
 obtain ⟨its, r, pl, hz⟩ := I.list hq
 obtain ⟨j, h1, h2, h3, h4, h5⟩ := Qiz he
 obtain ⟨w, ew, rw'⟩ := r.get h2
 have hl := r.length
 have hn := Qd0
 have fin : EP X pins σ Q w s := ⟨z, H, I, rw', q⟩
 by_cases h0 : 0 <= i
 ·have hj : i.toNat = j := by
   rw [seqIndex_of h0 h5] at h1
   exact Option.some.inj h1
  exact item_listR pl.isList h0 (by omega) (by rw [hj]; simpa using ew) fin hs
 ·have hj : (i + (its.toArray.size : Int)).toNat = j := by
   rw [seqIndex_neg (by omega) h4] at h1
   rw [Zo, ← hl]
   exact Option.some.inj h1
  exact subscriptTail_builtinR (x := w) pl.isList.typeIs slot_list_getitem.lookup
   (wpAny_getItem_list_neg (Q := λ r s' => r = w /\ EP X pins σ Q r s') pl.isList (by omega) (by rw [Zo] <;> omega) (by omega) (by rw [hj]; simpa using ew) ⟨rfl, fin⟩) hs
theorem Qkh : IxR X (Qqj X.K) := by
 intro value slice pins s σ H x y v u Q I rx ry h hs
 obtain ⟨p, xs, i, z, rfl, rfl, hq, he, q⟩ := h
 cases rx
 obtain ⟨t, rfl⟩ := ry
 obtain ⟨its, r, pl, hz⟩ := I.tuple hq
 obtain ⟨j, h1, h2, h3, h4, h5⟩ := Qiz he
 obtain ⟨w, ew, rw'⟩ := r.get h2
 have hl := r.length
 have hn := Qd0
 have fin : EP X pins σ Q w s := ⟨z, H, I, rw', q⟩
 exact subscriptTail_builtinR (x := w) pl.typeIs slot_tuple_getitem.lookup
  (getItem_tuple (j := j) (Q := λ r s' => r = w /\ EP X pins σ Q r s') pl (by omega) (by omega) (by rw [Zo, ← hl]; exact h1) (by simpa using ew) ⟨rfl, fin⟩) hs
theorem QiV (its : List Value) (n j : Nat) (u : Value) : Obj.mapSeq (·.setIfInBounds j u) { cls := .type "list", data := .seq its.toArray n } = { cls := .type "list", data := .seq (its.set j u).toArray n } := by
 simp [Obj.mapSeq]
theorem Inv.lst {pins : List (Addr × Obj)} {σ : St} {H : Hp} {s : Shared} {p : Addr} {xs : List V} (I : Inv X pins σ H s) (h : H p = some (.lst xs)) :
  ∃ (its : List Value) (n : Nat), Qj xs its /\ s.heap.get? p = some { cls := .type "list", data := .seq its.toArray n } /\ xs.length <= sizeLine := by
 obtain ⟨z, its, n, r, e⟩ := I.hok p _ h
 exact ⟨its, n, r, e, z⟩
theorem Inv.Qnm {pins : List (Addr × Obj)} {σ : St} {H : Hp} {s : Shared} {p : Addr} {xs ys : List V} {its its' : List Value} {n n' : Nat} {f : Obj -> Obj} (I : Inv X pins σ H s) (h : H p = some (.lst xs))
  (ho : s.heap.get? p = some { cls := .type "list", data := .seq its.toArray n }) (hf : f { cls := .type "list", data := .seq its.toArray n } = { cls := .type "list", data := .seq its'.toArray n' }) (r : Qj ys its') (hz : ys.length <= sizeLine) (t : Nat) :
  Inv X pins σ (upd H p (.lst ys)) { s with heap := s.heap.update p f, toks := t } := by
 have e : (s.heap.update p f).get? p = some { cls := .type "list", data := .seq its'.toArray n' } := by
  rw [Heap.get?_update_self f ho (by rw [hf] <;> rfl), hf]
 refine I.write (x := p) (e := p) (by rw [h]; trivial) (.inl rfl) (λ b u hb q => (Heap.get?_update_other _ _ (Ne.symm hb)).trans q) ⟨_, e⟩ ?_
 exact ⟨hz, its', n', r, e⟩
noncomputable def QgS : V -> V -> V -> Hp -> (Hp -> Prop) -> Prop := λ o i v H Q => ∃ p xs k j, o = .ref p /\ i = .int k /\ H p = some (.lst xs) /\ ixN xs.length k = some j /\ Q (upd H p (.lst (xs.set j v)))
theorem set_list : QnF X QgS := by
 intro pins s σ H o i v ov iv u Q I ro ri rv h
 obtain ⟨p, xs, k, j, rfl, rfl, hp, hj, q⟩ := h
 cases ro
 obtain ⟨t, rfl⟩ := ri
 obtain ⟨its, n, r, ho, hz⟩ := I.lst hp
 obtain ⟨h1, h2, h3, h4⟩ := Qcu hj
 have hl := r.length
 have hn := Qd0
 have I' : Inv X pins σ (upd H p (.lst (xs.set j v))) { s with heap := s.heap.update p (Obj.mapSeq (·.setIfInBounds j u)) } :=
  I.Qnm hp ho (QiV its n j u) (r.set rv j) (by rw [Zae]; exact hz) s.toks
 by_cases h0 : 0 <= k
 ·have hk : k.toNat = j := by
   rw [seqIndex_of h0 h4] at h1
   exact Option.some.inj h1
  exact PySem.W.ki_setAt ho h0 (by omega) (by rw [Zo, ← hl]; exact h4) (by rw [hk]; exact ⟨_, I', q⟩)
 ·have hk : (k + (its.toArray.size : Int)).toNat = j := by
   rw [seqIndex_neg (by omega) h3] at h1
   rw [Zo, ← hl]
   exact Option.some.inj h1
  exact PySem.W.ki_setBack ho (by omega) (by rw [Zo, ← hl]; exact h3) (by omega) (by rw [hk]; exact ⟨_, I', q⟩)
theorem QhI (lo hi : Option Int) (n : Nat) : (sliceBounds lo hi none n).1 = ((HT.sIx n 0 lo : Nat) : Int) /\ (sliceBounds lo hi none n).2.1 = ((HT.sIx n n hi : Nat) : Int) /\ (sliceBounds lo hi none n).2.2 = 1 := by
 refine ⟨?_, ?_, rfl⟩
 ·cases lo with
  | none => simp [sliceBounds, HT.sIx]
  | some i =>
   simp only [sliceBounds, HT.sIx, Option.getD_none, show (1 : Int) > 0 by decide, if_true]
   by_cases h : i < 0
   ·simp only [h, if_true] <;> omega
   ·simp only [h, if_false] <;> omega
 ·cases hi with
  | none => simp [sliceBounds, HT.sIx]
  | some i =>
   simp only [sliceBounds, HT.sIx, Option.getD_none, show (1 : Int) > 0 by decide, if_true]
   by_cases h : i < 0
   ·simp only [h, if_true] <;> omega
   ·simp only [h, if_false] <;> omega
theorem QgI (its : List Value) (lo hi : Option Int) : slicePick its.toArray lo hi none = ((its.drop (HT.sIx its.length 0 lo)).take (HT.sIx its.length its.length hi - HT.sIx its.length 0 lo)).toArray := by
 obtain ⟨h1, h2, h3⟩ := QhI lo hi its.toArray.size
 unfold slicePick
 rw [h1, h2, h3]
 simp only [sliceRange_one, pick_run, Zo] <;> rfl
noncomputable def QpY (K : PySem.W.Frag) : V -> Option Int -> Option Int -> Hp -> VK -> Prop := λ x lo hi H Q => ∃ a xs, x = .ref a /\ SqL K H a xs /\ ∀ p, H p = none -> Q (.ref p) (upd H p (.lst (Qf4 xs lo hi)))
theorem Qnd : SlR X (QpY X.K) := by
 intro pins s σ H x v vl vu lo hi sl Q I rx hs pl pu h
 obtain ⟨a, xs, rfl, hx, q⟩ := h
 cases rx
 obtain ⟨its, r, ht, hz⟩ := I.list hx
 have hlen := r.length
 refine ⟨"list", _, slot_list_getitem.lookup, ht.isList.typeIs, ?_⟩
 refine wpAny_getItem_list_slice ht.isList hs pl pu .none (by simp) ?_ (by rw [Zo] <;> omega)
 rw [QgI, ← hlen]
 refine ⟨.ref s.heap.objs.size, _, I.laid (t' := s.toks) (o := .lst (Qf4 xs lo hi)) (λ b ob q => Zm _ q) (Zj _) ?_, rfl, q _ (I.hok.fresh (Zj _))⟩
 exact ⟨Zr (Qie xs lo hi) hz, _, 0, (r.drop (HT.sIx xs.length 0 lo)).take (HT.sIx xs.length xs.length hi - HT.sIx xs.length 0 lo), Zy _ rfl⟩
theorem Qht : Qbn X (.builtin "len") (λ xs H Q => ∃ p ys, xs = [.ref p] /\ (SqL X.K H p ys ∨ SqT X.K H p ys) /\ Q (.int ys.length) H) := by
 intro pins s σ H xs us Q I r h
 obtain ⟨p, ys, rfl, hq, q⟩ := h
 obtain ⟨u, rfl, rx⟩ := vals1 r
 cases rx
 have hn := Qd0
 rcases hq with hq | hq
 ·obtain ⟨its, r', pl, hz⟩ := I.list hq
  have hlen := r'.length
  exact Calls.call_len_list pl.isList (by simp only [Zo] <;> omega) ⟨.int ys.length, H, I.tok _, ⟨s.toks + 1, by rw [Zo, hlen]⟩, q⟩
 ·obtain ⟨its, r', pl, hz⟩ := I.tuple hq
  have hlen := r'.length
  exact len_tuple pl (by simp only [Zo] <;> omega) ⟨.int ys.length, H, I.tok _, ⟨s.toks + 1, by rw [Zo, hlen]⟩, q⟩
theorem Qbn.or {f : Value} {r r' : List V -> Hp -> VK -> Prop} (h : Qbn X f r) (h' : Qbn X f r') : Qbn X f (λ xs H Q => r xs H Q ∨ r' xs H Q) := by
 intro pins s σ H xs us Q I rs q
 rcases q with q | q
 ·exact h pins s σ H xs us Q I rs q
 ·exact h' pins s σ H xs us Q I rs q
theorem QdL : Qbn X (.type "list") (λ xs H Q => ∃ p ys, xs = [.ref p] /\ (SqL X.K H p ys ∨ SqT X.K H p ys) /\ ∀ l, H l = none -> Q (.ref l) (upd H l (.lst ys))) := by
 intro pins s σ H xs us Q I r h
 obtain ⟨p, ys, rfl, hq, q⟩ := h
 obtain ⟨u, rfl, rx⟩ := vals1 r
 cases rx
 have fin : ∀ (its : List Value), Qj ys its -> ys.length <= sizeLine -> ∀ (h' : Heap) (c' : Nat), (∀ b o', s.heap.get? b = some o' -> h'.get? b = some o') →
   h'.get? s.heap.objs.size = some { cls := .type "list", dict := none, data := .seq its.toArray c', slots := #[] } -> EP X pins σ Q (.ref s.heap.objs.size) { s with heap := h' } := λ its r' hz h' c' kp e =>
  ⟨.ref s.heap.objs.size, _, I.laid (t' := s.toks) kp (Zj _) (show Qa1 X.prog X.w _ h' _ (.lst ys) from ⟨hz, its, c', r', e⟩), rfl, q _ (I.hok.fresh (Zj _))⟩
 rcases hq with hq | hq
 ·obtain ⟨its, r', pl, hz⟩ := I.list hq
  have hlen := r'.length
  obtain ⟨o, ho, hc, n, hd⟩ := pl.isList
  exact call_list_seq p (.inl rfl) ho hc hd (λ h' c' kp e => fin its r' hz h' c' kp e) (by simp only [Zo] <;> omega)
 ·obtain ⟨its, r', pl, hz⟩ := I.tuple hq
  have hlen := r'.length
  obtain ⟨o, ho, hc, n, hd⟩ := pl
  exact call_list_seq p (.inr rfl) ho hc hd (λ h' c' kp e => fin its r' hz h' c' kp e) (by simp only [Zo] <;> omega)
def tyV (K : PySem.W.Frag) (T : String) (x : V) (H : Hp) : Prop := match x with
 | .str _ => T = "str"
 | .int _ => T = "int"
 | .ref p => (T = "list" /\ ∃ xs, SqL K H p xs) ∨ (T = "tuple" /\ ∃ o, K.lookup p = some o /\ o.cls = .type "tuple" /\ o.dict = none) ∨
   (T = "dict" /\ ((∃ kvs, H p = some (.dK kvs)) ∨ ∃ kvs, H p = some (.dT kvs))) ∨ (T = "set" /\ ∃ S n, H p = some (.set S n))
 | _ => False
theorem QjU {pins : List (Addr × Obj)} {σ : St} {H : Hp} {s : Shared} {T : String} {x : V} {v : Value} (I : Inv X pins σ H s) (r : RelV x v) (ty : tyV X.K T x H) :
  s.TypeIs v T /\ ∀ a, v = .ref a -> ∃ ob, s.heap.get? a = some ob /\ ob.dict = none := by
 cases x with
 | str z =>
  obtain ⟨t, rfl⟩ := r
  cases (show T = "str" from ty)
  exact ⟨typeIs_str s z t, λ _ e => nomatch e⟩
 | int i =>
  obtain ⟨t, rfl⟩ := r
  cases (show T = "int" from ty)
  exact ⟨typeIs_int s i t, λ _ e => nomatch e⟩
 | ref p =>
  cases r
  rcases ty with ⟨rfl, xs, hq⟩ | ⟨rfl, o, hk, hc, hd⟩ | ⟨rfl, hk⟩ | ⟨rfl, S, n, hk⟩
  ·obtain ⟨its, _, pl, _⟩ := I.list hq
   refine ⟨pl.isList.typeIs, λ a e => ?_⟩
   cases e
   obtain ⟨o, n, e, c, hd, _⟩ := pl
   exact ⟨o, e, hd⟩
  ·refine ⟨⟨o, I.kIn p o hk, hc⟩, λ a e => ?_⟩
   cases e
   exact ⟨o, I.kIn _ o hk, hd⟩
  ·have z : ∃ o, s.heap.get? p = some o /\ o.ExactDict := by
    rcases hk with ⟨kvs, hk⟩ | ⟨kvs, hk⟩
    ·obtain ⟨_, _, _, _, o, _, _, e, ex, _⟩ := I.hok p _ hk
     exact ⟨o, e, ex⟩
    ·obtain ⟨_, _, _, _, o, _, _, e, ex, _⟩ := I.hok p _ hk
     exact ⟨o, e, ex⟩
   obtain ⟨o, e, ex⟩ := z
   refine ⟨⟨o, e, ex.1⟩, λ a e2 => ?_⟩
   cases e2
   exact ⟨o, e, ex.2.1⟩
  ·obtain ⟨o, _, _, _, e, ex, _⟩ := I.hok p _ hk
   refine ⟨⟨o, e, ex.1⟩, λ a e2 => ?_⟩
   cases e2
   exact ⟨o, e, ex.2.1⟩
 | _ => exact False.elim ty
noncomputable def Qow (K : PySem.W.Frag) (T : String) (r : V -> List V -> Hp -> VK -> Prop) (to : TE) : TE := λ σ H Q => to σ H λ x H1 => tyV K T x H1 /\ r x [] H1 Q
noncomputable def tBM (K : PySem.W.Frag) (T : String) (r : V -> List V -> Hp -> VK -> Prop) (to : TE) (t : TA) : TE := λ σ H Q => to σ H λ x H1 => tyV K T x H1 /\ t σ H1 λ xs H2 => r x xs H2 Q
variable {o e : Expr} {es : List Expr} {to : TE} {t : TA} {name : Str} {apos cpos : Pos} {T id : String} {r : V -> List V -> Hp -> VK -> Prop}
theorem Qof (pa : PlainAttrs T) (slot : Slot T name id) (hty : typeOf (.builtin id) = pure (.type "method_descriptor")) (hm : MtR X id r) (ho : PE X o to)
  (hbase : attributeBase o name X.env (eval o X.env) = eval o X.env := by rfl) (hline : (apos.endLine == cpos.line) = true := by rfl) : PE X (.Call (.Attribute o name apos) [] [] cpos) (Qow X.K T r to) := by
 intro pins s σ H Q I h
 refine wpAny_Call_method0_late hbase hline (thn (ho pins s σ H _ I h) λ v s1 ⟨x, H1, I1, r1, ty, q1⟩ => ?_)
 obtain ⟨h1, h2⟩ := QjU I1 r1 ty
 exact ⟨T, id, pa, slot, hty, h1, h2, Calls.callWith_builtin rfl (PySem.evalArgs_none (hm pins s1 σ H1 x [] v [] Q I1 r1 .nil q1))⟩
theorem QpB (pa : PlainAttrs T) (slot : Slot T name id) (hty : typeOf (.builtin id) = pure (.type "method_descriptor")) (hm : MtR X id r) (ho : PE X o to) (ha : PA X (e :: es) t)
  (hbase : attributeBase o name X.env (eval o X.env) = eval o X.env := by rfl)
  (hfew : ((backTo cpos (starEach (e :: es) X.env)).all (λ x => !x.1) && (backToKw cpos (keywordEach [] X.env)).all (λ x => x.1.isSome)
   && decide ((e :: es).length + ([] : List Keyword).length + (if ([] : List Keyword).isEmpty then 0 else 1) < 30)) = true := by rfl)
  (hline : (apos.endLine == cpos.line) = true := by rfl) (hs : starEach (e :: es) X.env = (false, eval e X.env) :: starEach es X.env := by rfl) (hplain : (backTo cpos (starEach es X.env)).any (·.1) = false := by rfl) :
  PE X (.Call (.Attribute o name apos) (e :: es) [] cpos) (tBM X.K T r to t) := by
 intro pins s σ H Q I h
 refine wpAny_Call_method_late hbase hfew hline rfl (thn (ho pins s σ H _ I h) λ v s1 ⟨x, H1, I1, r1, ty, q1⟩ => ?_)
 obtain ⟨h1, h2⟩ := QjU I1 r1 ty
 refine ⟨T, id, pa, slot, hty, h1, h2, ?_⟩
 have hA := ha cpos pins s1 σ H1 _ I1 q1
 rw [hs] at hA ⊢
 refine Calls.callWith_builtin (by show (false || (backTo cpos (starEach es X.env)).any (·.1)) = false; rw [hplain] <;> rfl) (Calls.evalArgs_plain ?_)
 exact thn hA λ us s2 ⟨vs, H2, I2, r2, q2⟩ => hm pins s2 σ H2 x vs v us Q I2 r1 r2 q2
end
end L2
namespace L2
open PySem PySem.Spec PyProof.Rows
def MtM (X : Cx) (id : String) (r : V -> List V -> Hp -> VK -> Prop) : Prop :=
 ∀ (pins : List (Addr × Obj)) (s : Shared) (σ : St) (H : Hp) (x : V) (xs : List V) (v : Value) (us : List Value) (Q : VK), Inv X pins σ H s -> RelV x v -> Qj xs us -> r x xs H Q →
  wpAny (model X.prog X.w) X.A (call (.builtin id) (v :: us)) (EP X pins σ Q) X.xe s
theorem Qj.one : ∀ {x : V} {us : List Value}, Qj [x] us -> ∃ u, us = [u] /\ RelV x u
 | _, _, .cons r .nil => ⟨_, rfl, r⟩
theorem Qj.two : ∀ {x y : V} {us : List Value}, Qj [x, y] us -> ∃ u v, us = [u, v] /\ RelV x u /\ RelV y v
 | _, _, _, .cons r (.cons q .nil) => ⟨_, _, rfl, r, q⟩
theorem Qj.zero : ∀ {us : List Value}, Qj [] us -> us = []
 | _, .nil => rfl
theorem Qj.rep {xs : List V} {us : List Value} (h : Qj xs us) : ∀ k : Nat, Qj (List.replicate k xs).flatten (List.replicate k us).flatten
 | 0 => .nil
 | k + 1 => by
  rw [ZK, ZK, ZS, ZS]
  exact Qj.append h (Qj.rep h k)
theorem foldl_rep (its : List Value) : ∀ (k : Nat) (acc : List Value),
  List.foldl (λ x1 x2 => x1 ++ x2) acc.toArray (List.replicate k its.toArray) = (acc ++ (List.replicate k its).flatten).toArray
 | 0, acc => by simp
 | k + 1, acc => by
  have e : acc.toArray ++ its.toArray = (acc ++ its).toArray := by simp
  have e2 : (acc ++ its) ++ (List.replicate k its).flatten = acc ++ (List.replicate (k + 1) its).flatten := by
   rw [ZK, ZS, Zaz]
  rw [← e2, ← foldl_rep its k (acc ++ its), ← e, ZK, List.foldl_cons]
section
variable {X : Cx} {pins : List (Addr × Obj)} {σ : St} {H : Hp} {s : Shared} {l b : Addr} {xs ys zs : List V}
theorem Inv.QnI {its its' : List Value} {n : Nat} {f : Array Value -> Array Value} {t' : Nat} (I : Inv X pins σ H s) (hH : H l = some (.lst xs))
  (e : s.heap.get? l = some { cls := .type "list", data := .seq its.toArray n }) (hf : f its.toArray = its'.toArray) (hv : Qj ys its') (hz : ys.length <= sizeLine) :
  Inv X pins σ (upd H l (.lst ys)) { s with heap := s.heap.update l (Obj.mapSeq f), toks := t' } := by
 have q := PySem.IsL.update e f
 rw [hf] at q
 refine I.write (x := l) (e := l) (by rw [hH]; exact trivial) (.inl rfl) (λ b' u hb hu => (Heap.get?_update_other s.heap (Obj.mapSeq f) (Ne.symm hb)).trans hu) ⟨_, q⟩ ?_
 exact ⟨hz, its', _, hv, q⟩
theorem Inv.Qnr {its : List Value} {t' : Nat} (I : Inv X pins σ H s) (hv : Qj ys its) (hz : ys.length <= sizeLine) :
  Inv X pins σ (upd H s.heap.objs.size (.lst ys)) { s with heap := s.heap.push { cls := .type "list", data := .seq its.toArray }, toks := t' } :=
 I.laid (λ _ _ q => Zm _ q) (Zj _) ⟨hz, its, 0, hv, Zy _ rfl⟩
theorem Inv.fresh (I : Inv X pins σ H s) : H s.heap.objs.size = none := I.hok.fresh (Zj _)
theorem Inv.QkJ (I : Inv X pins σ H s) (hH : H l = some (.lst xs)) : xs.length <= sizeLine /\ ∃ (its : List Value) (n : Nat), Qj xs its /\ xs.length = its.length /\ s.heap.get? l = some { cls := .type "list", data := .seq its.toArray n } := by
 obtain ⟨z, its, n, r, e⟩ := I.hok l _ hH
 exact ⟨z, its, n, r, r.length, e⟩
theorem Qk8 {n : Nat} (h : n <= sizeLine) : Builtin.List.listTooLong n = false := by
 unfold Builtin.List.listTooLong
 exact decide_eq_false (by omega)
end
section
variable {X : Cx}
noncomputable def QiB : V -> List V -> Hp -> VK -> Prop := λ x vs H Q => ∃ l xs y, x = .ref l /\ vs = [y] /\ H l = some (.lst xs) /\ xs.length < sizeLine /\ Q .non (upd H l (.lst (xs ++ [y])))
theorem Qgz : MtM X "list.append" QiB := by
 intro pins s σ H x vs v us Q I rx rv h
 obtain ⟨l, xs, y, rfl, rfl, hH, hz, q⟩ := h
 cases rx
 obtain ⟨u, rfl, ru⟩ := rv.one
 obtain ⟨z, its, n, r, hl, e⟩ := I.QkJ hH
 refine call_meets F.slot_list_append ⟨_, e, rfl⟩ F.entry_list_append (F.args_list_append_2 _ _) (PySem.list_append l its.toArray n u (by rw [Zo]; omega)) ⟨e, ?_⟩
 refine ⟨.non, _, I.QnI (its' := its ++ [u]) hH e (by simp) (r.append (.cons ru .nil)) ?_, rfl, q⟩
 rw [Zs, ZaF]
 omega
noncomputable def QjC : V -> List V -> Hp -> VK -> Prop := λ x vs H Q => ∃ l xs, x = .ref l /\ vs = [] /\ H l = some (.lst xs) /\ Q .non (upd H l (.lst []))
theorem QkN : MtM X "list.clear" QjC := by
 intro pins s σ H x vs v us Q I rx rv h
 obtain ⟨l, xs, rfl, rfl, hH, q⟩ := h
 cases rx
 have hus := rv.zero
 subst hus
 obtain ⟨z, its, n, r, hl, e⟩ := I.QkJ hH
 refine call_meets F.slot_list_clear ⟨_, e, rfl⟩ F.entry_list_clear (F.args_list_clear_1 _) (AutoSeq1.list_clear_list_0 l its.toArray n (by rw [Zo]; omega)) ⟨e, ?_⟩
 exact ⟨.non, _, I.QnI (its' := []) (ys := []) hH e rfl .nil (ZI _), rfl, q⟩
theorem len_rep {α : Type} (xs : List α) (k : Nat) : (List.replicate k xs).flatten.length = k * xs.length := by
 induction k with
 | zero => simp
 | succ k ih => rw [ZK, ZS, Zs, ih, Zbi, Nat.add_comm]
end
section
variable {prog : Program} {w : World} {A : Around} {E : Value -> Shared -> Prop} {s : Shared}
end
section
variable {X : Cx}
end
end L2
namespace Att
open PySem PySem.W PySem.Calls PyProof.Rows
theorem Qfo {P : Params} {h : Heap} : ∀ (ns : List Int) (vs : List Value), WellAll P h vs (ns.map WData.int) -> IntsAre vs ns := by
 intro ns
 induction ns with
 | nil =>
  intro vs w
  rw [List.map_nil] at w
  cases w
  exact .nil
 | cons n ns ih =>
  intro vs w
  rw [Zv] at w
  cases w with
  | cons a b =>
   cases a
   exact .cons _ _ (ih _ b)
theorem Qj3 {l : OpenLaw} {n : Nat} (hn : l.most = some n) {P : Params} {h : Heap} {args : List WData} {vals : List Value}
  (hpre : l.row.toRowW.claim.pre args = true) (hwl : WellAll P h vals args) :
  ∃ a vs ns, vals = [Value.ref a] /\ args = [WData.list (ns.map WData.int)] /\ h.get? a = some { cls := .type "list", data := .seq vs.toArray } /\ IntsAre vs ns /\ ns.length <= n := by
 have hsh : WShape.hasAll [] args [.list .int] = true := (pre_splitW hpre).1
 have hc : l.pre.holds [] { args := args } = true := (pre_splitW hpre).2
 obtain ⟨d, r, rfl, h1, h2⟩ := hasAllW_cons hsh
 obtain rfl := hasAllW_nil h2
 obtain ⟨xs, rfl, h3⟩ := hasW_list h1
 obtain ⟨ns, rfl⟩ := items_int h3
 have hlen : ns.length <= n := by
  unfold OpenLaw.pre at hc
  have h4 : (WTm.not (.lt (.lit (.int (n : Int))) (.len (.arg 0)))).holds [] { args := [.list (ns.map .int)] } = true := by
   have h4 := (holds_andW hc).1
   rw [hn] at h4
   exact h4
  have h5 := condW_of h4 (w_not (w_lt w_lit (w_len_list (w_arg rfl))))
  rw [ZA] at h5
  refine Nat.le_of_not_lt λ q => ?_
  have q' : (n : Int) < ((ns.length : Nat) : Int) := by omega
  first
   | (rw [decide_eq_true q'] at h5; exact absurd h5 (by decide))
   | (simp at h5; omega)
 cases hwl with
 | cons w1 w2 =>
  cases w2
  cases w1 with
  | list ho hall => exact ⟨_, _, ns, rfl, rfl, ho, Qfo ns _ hall, hlen⟩
theorem Qju (l : OpenLaw) (args : List WData) : l.row.toRowW.claim.post args (.bool true) args = true :=
 postW_of (r := l.row.toRowW) (X := (true == true))
  (show WShape.has [] (.bool true) .bool = true by first | rfl | decide | simp [WShape.has, WShape.arms, WShape.armsAll])
  (show (WTm.eq .res (.lit (.bool true))).value [] { args := args, res := some (.bool true), after := args } = some (.bool (true == true)) from w_eq_bool (w_res rfl) w_lit) rfl
theorem Qet {l : OpenLaw} {n : Nat} {q : Program} {loose : List Str} {XP : (Str -> Option Value) -> Heap -> Prop} {YP : World -> Heap -> Prop} {d : DefRec}
  (hn : l.most = some n) (hdf : d.params.defaults = [])
  (call : ∀ (w : World) (s₀ s₁ : Shared) (mg mb : Str -> Option Value) (fa : Addr) (o : Obj) (pm cd doc : Value) (a : Addr) (vs : List Value) (ns : List Int),
   Ground q loose [] XP w s₀ mg mb s₁.heap -> YP w s₁.heap →
   s₁.heap.get? fa = some o -> o.data = .func (docDef d.name d.params d.body d.scope pm cd doc) -> s₁.heap.CodeRec cd d.name -> mg d.name = some (.ref fa) →
   s₁.heap.get? a = some { cls := .type "list", data := .seq vs.toArray } -> IntsAre vs ns -> ns.length <= n -> s₁.gens = #[] →
   codeAny (model l.prog w) callerA (.call (.ref fa) ⟨[.ref a], []⟩) (λ r s' => r = .ok (.ret (.bool true)) /\ OldK s₁.heap s'.heap /\ s'.os = s₁.os /\ AllBare s'.gens) s₁) :
  WalkO q loose XP YP l.row.toRowW d [] (λ f vs => PySem.call f vs) := by
 intro w s₀ s₁ mg mb G Y fa o pm cd doc dV kV ho hd hcd hD hmg hg args vals as hpre hlay hrd hwl hlo
 obtain rfl : dV = .none := Dflts.none hD hdf
 obtain rfl : kV = .none := Dflts.noKw hD
 obtain ⟨a, vs, ns, rfl, rfl, hobj, hints, hlen⟩ := Qj3 hn hpre hwl
 refine enter_call (codeAny_mono (call w s₀ s₁ mg mb fa o pm cd doc a vs ns G Y ho (fd_plain hd) hcd hmg hobj hints hlen hg) λ r s' hq => ?_)
 obtain ⟨rfl, h2, h3, h4⟩ := hq
 exact ⟨.inl ⟨.bool true, .bool true, [], rfl, λ _ => rfl, .bool true, Qju l _, λ _ => ⟨List.Pairwise.nil, λ _ hm => (nomatch hm)⟩⟩, h2, h3, h4⟩
section
variable {prog : Program} {w : World} {A : Around} {E : Value -> Shared -> Prop} {s : Shared} {K : Frag}
noncomputable def ledger (h : Heap) (L d : Addr) : List (Addr × Obj) := (List.range h.objs.size).filterMap λ a => if a = L ∨ a = d then none else (h.get? a).map λ o => (a, o)
end
end Att
namespace L2
open PySem PySem.Spec PyProof.Rows
theorem Qcd : ∀ {vs : List Value} {ns : List Int}, IntsAre vs ns -> Qj (ns.map V.int) vs
 | _, _, .nil => .nil
 | _, _, .cons n t h => .cons ⟨t, rfl⟩ (Qcd h)
def QlM (H : Hp) : Prop := ∀ b, H b = none ∨ ∃ o xs, H b = some (.frz o (.lst xs))
theorem Qh5 {P : Program} {w : World} {K : PySem.W.Frag} {mg mb : Str -> Option Value} {CX : CXT} {k : Nat} {fa a : Addr} {fd : FuncData} {x : Str} {sp : Sp} {s₁ : Shared} {vs : List Value} {ns : List Int}
  (KX : K.In s₁.heap) (hns : s₁.heap.Ns mainGlobals mg) (hb : s₁.heap.Ns builtinsNs mb) (hbb : ∀ x : Str, x ≠ "__name__" -> mb x = bootBuiltins x) (hlim : s₁.heap.NoLimit) (hg : s₁.gens = #[])
  (ha : s₁.heap.get? a = some { cls := .type "list", data := .seq vs.toArray }) (hi : IntsAre vs ns) (hl : ns.length <= sizeLine) (hr : QX k callerA)
  (F : ∀ base : Heap, K.In base -> base.Ns mainGlobals mg -> Qa3 P w K mg base CX k fa fd [x] sp) (hbind : ∀ (s : Shared) (u : Value), BindsTo s fd ⟨[u], []⟩ [(x, u)])
  (hsp : ∀ H : Hp, QlM H -> SqL K H a (ns.map V.int) -> sp [.ref a] H (λ v _ => v = .bl true) λ _ _ _ => False)
  (hCX : ∀ H e s', CX [] H s₁ (λ _ _ _ => False) e s' -> False) :
  codeAny (model P w) callerA (.call (.ref fa) ⟨[.ref a], []⟩) (λ r s' => r = .ok (.ret (.bool true)) /\ OldK s₁.heap s'.heap /\ s'.os = s₁.os /\ AllBare s'.gens) s₁ := by
 have rv := Qcd hi
 have lenV := hi.length
 have core : ∀ H : Hp, QlM H -> SqL K H a (ns.map V.int) -> HOk P w H s₁.heap -> (∀ b, H b ≠ none -> b = a) -> (H a ≠ none -> K.lookup a = none) →
   codeAny (model P w) callerA (.call (.ref fa) ⟨[.ref a], []⟩) (λ r s' => r = .ok (.ret (.bool true)) /\ OldK s₁.heap s'.heap /\ s'.os = s₁.os /\ AllBare s'.gens) s₁ := by
  intro H hO hS hok hA hK
  have base_of : ∀ {b : Addr} {o : Obj}, s₁.heap.get? b = some o -> H b = none -> (Qdx s₁.heap H).get? b = some o := λ e n => Qk4 e n
  have noA : ∀ {b : Addr} {o : Obj} {es : Array DictEntry} {ep : Nat}, s₁.heap.get? b = some o -> o.data = .dict es ep -> H b = none := λ {b o es ep} e d => by
   cases q : H b with
   | none => rfl
   | some u =>
    have e' : b = a := hA b (by rw [q]; simp)
    subst e'
    rw [ha] at e; cases e
    have d' : Data.seq vs.toArray _ = Data.dict es ep := d
    cases d'
  have nsK : ∀ {b : Addr} {m : Str -> Option Value}, s₁.heap.Ns b m -> (Qdx s₁.heap H).Ns b m := λ {b m} ⟨o, es, ep, e, d, r⟩ => ⟨o, es, ep, base_of e (noA e d), d, r⟩
  have hKb : K.In (Qdx s₁.heap H) := λ b o e => base_of (KX b o e) (by
   cases q : H b with
   | none => rfl
   | some u =>
    have e' : b = a := hA b (by rw [q]; simp)
    subst e'
    rw [hK (by rw [q]; simp)] at e; cases e)
  have hM : Mod K mg (Qdx s₁.heap H) := ⟨hKb, nsK hns, ⟨mb, nsK hb, hbb⟩, let ⟨mc, h1, h2⟩ := hlim; ⟨mc, nsK h1, h2⟩⟩
  have e0 : Qc5 P w K mg (Qdx s₁.heap H) callerA [] s₁ H := ⟨rfl, hM, λ b o e => Qmj e, Nat.le_of_eq (Qj7 _ _), trivial, λ b hb => absurd (show b ∈ ([] : List Addr) from hb) (by simp), hok, .of_eq hg⟩
  refine codeAny_mono ((F _ hKb (nsK hns)).run callerA [] s₁ H ⟨[.ref a], []⟩ [.ref a] [.ref a] _ _ hr e0 (hbind s₁ (.ref a)) (.cons rfl .nil) (hsp H hO hS)) λ r s' h => ?_
  cases r with
  | error e => exact (hCX H e s' h).elim
  | ok fl =>
   cases fl with
   | next => exact False.elim h
   | brk => exact False.elim h
   | cont => exact False.elim h
   | ret u =>
    obtain ⟨v, H', os, bare, un, hok', r', q⟩ := h
    have q' : v = .bl true := q
    subst q'
    obtain rfl : u = Value.bool true := r'
    refine ⟨rfl, OldK.of_keep λ b o e => ?_, os, bare⟩
    cases q : H b with
    | none => exact un.keep b o e q (by intro z; exact absurd (show b ∈ ([] : List Addr) from z) (by simp)) (by simp)
    | some u =>
     rcases hO b with z | ⟨ob, xs, z⟩
     ·rw [q] at z; cases z
     ·have z2 := un.frzs b ob _ z
      obtain ⟨e1, _⟩ := hok b _ z
      obtain ⟨e2, _⟩ := hok' b _ z2
      rw [e] at e1; cases e1
      exact e2
 cases hk : K.lookup a with
 | some o =>
  have e := KX a o hk
  rw [ha] at e
  cases e
  refine core (λ _ => none) (λ _ => .inl rfl) (.inr ⟨_, vs.toArray, _, hk, rfl, rfl, rfl, by rw [Zo, lenV]; exact hl, by simpa using rv⟩) (λ b u z => by have z' : (none : Option HO) = some u := z; cases z') (λ b z => absurd rfl z) λ z => absurd rfl z
 | none =>
  refine core (λ b => if b = a then some (.frz { cls := .type "list", data := .seq vs.toArray } (.lst (ns.map V.int))) else none) (λ b => ?_) (.inl (.inr ⟨{ cls := .type "list", data := .seq vs.toArray }, if_pos rfl⟩)) (λ b u z => ?_) (λ b z => ?_) λ _ => hk
  ·by_cases hb : b = a
   ·exact .inr ⟨_, _, if_pos hb⟩
   ·exact .inl (if_neg hb)
  ·by_cases hb : b = a
   ·have z' := (if_pos hb).symm.trans z
    cases z'
    subst hb
    exact ⟨ha, by rw [ZA]; exact hl, vs, _, rv, ha⟩
   ·have z' := (if_neg hb).symm.trans z
    cases z'
  ·by_cases hb : b = a
   ·exact hb
   ·exact absurd (if_neg hb) z
end L2
namespace L2
open PySem PySem.Spec PyProof.Rows
noncomputable abbrev KOf {K : PySem.W.Frag} {h : Heap} (_ : K.In h) : PySem.W.Frag := K
theorem Qqz {l : PySem.W.OpenLaw} {n k : Nat} {q : Program} {loose : List Str} {XP : (Str -> Option Value) -> Heap -> Prop} {YP : World -> Heap -> Prop} {d : DefRec} {K : Params -> PySem.W.Frag} {CX : World -> CXT} {sp : World -> Sp} {x : Str}
  (hn : l.most = some n) (hn2 : n <= sizeLine) (hdf : d.params.defaults = []) (hr : QX k callerA)
  (hY : ∀ (w : World) (h : Heap), YP w h -> (K w.params).In h)
  (F : ∀ (w : World) (mg : Str -> Option Value) (fa : Addr) (h : Heap), (K w.params).In h -> h.Ns mainGlobals mg -> mg d.name = some (.ref fa) →
   ∃ fd : FuncData, (∀ (s : Shared) (u : Value), BindsTo s fd ⟨[u], []⟩ [(x, u)]) ∧
    ∀ base : Heap, (K w.params).In base -> base.Ns mainGlobals mg -> Qa3 l.prog w (K w.params) mg base (CX w) k fa fd [x] (sp w))
  (hsp : ∀ (w : World) (H : Hp) (a : Addr) (ns : List Int), ns.length <= n -> QlM H -> SqL (K w.params) H a (ns.map V.int) -> sp w [.ref a] H (λ v _ => v = .bl true) λ _ _ _ => False)
  (hCX : ∀ (w : World) (H : Hp) (s : Shared) (e : Value) (s' : Shared), CX w [] H s (λ _ _ _ => False) e s' -> False) :
  PySem.W.WalkO q loose XP YP l.row.toRowW d [] (λ f vs => PySem.call f vs) := by
 refine Att.Qet hn hdf λ w s₀ s₁ mg mb fa o pm cd doc a vs ns G Y ho hd hcd hmg hobj hints hlen hg => ?_
 have KX := hY w _ Y
 obtain ⟨fd, hb, hF⟩ := F w mg fa _ KX G.T.g hmg
 exact Qh5 KX G.T.g G.T.b G.T.builtins G.T.nolimit hg hobj hints (Zr hlen hn2) hr hF hb (λ H hO hS => hsp w H a ns hlen hO hS) λ H e s' => hCX w H s₁ e s'
end L2
namespace L2
open PySem PySem.Spec PyProof.Rows
noncomputable def Qcw (s : Stmt) : Arguments := match s with
 | .FunctionDef _ a _ _ _ _ _ _ _ _ => a
 | _ => { posonlyargs := [], args := [], vararg := none, kwonlyargs := [], kw_defaults := [], kwarg := none, defaults := [] }
noncomputable def QaB (s : Stmt) : List Stmt := match s with
 | .FunctionDef _ _ b _ _ _ _ _ _ _ => b
 | _ => []
noncomputable def Qh (s : Stmt) : Scope := match s with
 | .FunctionDef _ _ _ _ _ _ sc _ _ _ => sc
 | _ => { kind := .function, names := [], isGenerator := false, isCoroutine := false }
noncomputable abbrev CX0 : CXT := λ _ _ _ _ _ _ => False
noncomputable abbrev E0 : XK := λ _ _ _ => False
theorem QlS {X : Cx} : Qfb CX0 X E0 := λ _ _ _ _ _ _ _ h => h.elim
structure Fun (K : PySem.W.Frag) (x qual : Str) (st : Stmt) (f : Addr) (fd : FuncData) : Prop where
 ex : ∃ (oc : Value) (od : Option Addr) (kV doc pm : Value) (an : Option Addr) (cdv ct : Value) (osl : Array (Option Value)),
  fd = PySem.W.fnOf x qual (Qcw st) (QaB st) (Qh st) .none kV doc pm an cdv ct /\ K.lookup f = some ⟨oc, od, .func fd, osl⟩ /\ PySem.W.codeIn K cdv qual = true
 kp : PySem.W.keepIn K (.ref f) = true
section
variable {P : Program} {w : World} {K : PySem.W.Frag} {mg : Str -> Option Value} {base : Heap}
theorem Fun.ok {x qual : Str} {st : Stmt} {f : Addr} {fd : FuncData} {N ps : List Str} {k : Nat} {sp : Sp} (F : Fun K x qual st f fd) (S : Qa9 N ps (Qh st)) (len : ∀ vs H Q E, sp vs H Q E -> vs.length = ps.length)
  (hbody : ∀ (cdv : Value) (A : Around) (outer : List Env) (s : Shared) (H : Hp) (vs : List V) (Q : VK) (E : XK), QX k (A.deeper (envOfC qual (Qh st) s.heap.objs.size f cdv)) -> sp vs H Q E →
   ∃ t, PSs (Qd1 CX0 P w K mg base N qual (Qh st) f cdv A outer s H E).nox (QaB st) t /\ t { nx := λ _ H' => Q .non H', rt := Q } (start N vs) H) : Qa3 P w K mg base CX0 (k + 1) f fd ps sp := by
 obtain ⟨oc, od, kV, doc, pm, an, cdv, ct, osl, rfl, lk, hcd⟩ := F.ex
 refine Qpa lk hcd S len λ A outer s H vs Q E hr hsp => ?_
 obtain ⟨t, h, q⟩ := hbody cdv A outer s H vs Q E hr hsp
 exact ⟨t, h.nox, q⟩
theorem Fun.binds {x qual : Str} {st : Stmt} {f : Addr} {fd : FuncData} {ps : List Str} (F : Fun K x qual st f fd)
  (h : ∀ (kV doc pm : Value) (an : Option Addr) (cdv ct : Value) (us : List Value), us.length = ps.length -> bindArgs (PySem.W.fnOf x qual (Qcw st) (QaB st) (Qh st) .none kV doc pm an cdv ct) ⟨us, []⟩ = pure (ps.zip us)) : Binds K fd ps [] := by
 obtain ⟨oc, od, kV, doc, pm, an, cdv, ct, osl, rfl, lk, hcd⟩ := F.ex
 exact .all (h kV doc pm an cdv ct)
theorem Qop {x qual : Str} {st : Stmt} {f : Addr} {oc : Value} {od an : Option Addr} {osl : Array (Option Value)} {kV doc pm cdv ct : Value} (l : K.lookup f = some ⟨oc, od, .func (PySem.W.fnOf x qual (Qcw st) (QaB st) (Qh st) .none kV doc pm an cdv ct), osl⟩)
  (c : PySem.W.codeIn K cdv qual = true) (k : PySem.W.keepIn K (.ref f) = true) : Fun K x qual st f (PySem.W.fnOf x qual (Qcw st) (QaB st) (Qh st) .none kV doc pm an cdv ct) := ⟨⟨oc, od, kV, doc, pm, an, cdv, ct, osl, rfl, l, c⟩, k⟩
end
section
variable {X : Cx}
theorem pv (i : Nat) {x : Str} {pos : Pos} (hN : X.N[i]? = some x := by rfl) (hv : Vis X.env.scope x := by first | exact Or.inl rfl | exact Or.inr (Or.inl rfl) | exact Or.inr (Or.inr rfl)) (hd : (x == ("__debug__" : Str)) = false := by decide)
  (hcd : (x == ("__classdict__" : Str)) = false := by decide) : PE X (.Name x pos) (QeO i) := QkB hN hv hd hcd
end
theorem Qot {A B : Prop} (h : B) : if false = true then A else B := by
 rw [if_neg Zai]
 exact h
theorem Qoh {A B : Prop} (h : A) : if true = true then A else B := by
 rw [if_pos rfl]
 exact h
def Qr (H H' : Hp) : Prop := ∀ b o, H b = some o -> H' b = some o
theorem Qr.refl (H : Hp) : Qr H H := λ _ _ h => h
theorem Qr.trans {H H1 H2 : Hp} (a : Qr H H1) (b : Qr H1 H2) : Qr H H2 := λ c o h => b c o (a c o h)
theorem Qr.free {H H' : Hp} (e : Qr H H') {l : Addr} (h : H' l = Option.none) : H l = Option.none := by
 cases q : H l with
 | none => rfl
 | some o =>
  rw [e l o q] at h
  cases h
theorem Qr.seq {K : PySem.W.Frag} {H H' : Hp} {a : Addr} {xs : List V} (e : Qr H H') (h : SqL K H a xs) : SqL K H' a xs := by
 rcases h with (h | ⟨o, h⟩) | h
 ·exact .inl (.inl (e _ _ h))
 ·exact .inl (.inr ⟨o, e _ _ h⟩)
 ·exact .inr h
end L2
namespace L2
open PySem PySem.Spec PyProof.Rows
theorem Qf0 (env : Env) (body : Str × NameKind -> List (Str × Addr) -> Sem (ForInStep (List (Str × Addr))))
  (hb : ∀ n k cs, body (n, k) cs = if (k == NameKind.free) = true then (do let c ← cellOf env n; pure (ForInStep.yield ((n, c) :: cs))) else pure (ForInStep.yield cs)) :
  ∀ (names : List (Str × NameKind)) (acc : List (Str × Addr)), (∀ y ∈ names, y.2 = .free -> ∃ c, env.cells.lookup y.1 = some c) -> (∀ x c, acc.lookup x = some c -> env.cells.lookup x = some c) →
   ∃ cl, forIn names acc body = (pure cl : Sem _) /\ (∀ x c, cl.lookup x = some c -> env.cells.lookup x = some c) /\ (∀ x, acc.lookup x ≠ none -> cl.lookup x ≠ none) /\ ∀ y ∈ names, y.2 = .free -> cl.lookup y.1 ≠ none
 | [], acc, _, ha => ⟨acc, rfl, ha, λ _ h => h, λ y hy => by simp at hy⟩
 | (n, k) :: r, acc, hn, ha => by
  rw [List.forIn_cons, hb]
  have hr : ∀ y ∈ r, y.2 = .free -> ∃ c, env.cells.lookup y.1 = some c := λ y hy => hn y (Zd _ hy)
  by_cases hk : k = .free
  ·subst hk
   obtain ⟨c, hc⟩ := hn (n, .free) Zi rfl
   have hce : cellOf env n = pure c := by unfold cellOf; rw [show env.cells.lookup n = some c from hc]
   rw [if_pos (by rfl), hce]
   obtain ⟨cl, e, h1, h2, h3⟩ := Qf0 env body hb r ((n, c) :: acc) hr (λ x c' e => by
    rw [Zl] at e
    cases q : x == n with
    | true => rw [q] at e; cases e; rw [beq_iff_eq] at q; rw [q]; exact hc
    | false => rw [q] at e; exact ha x c' e)
   have hcons : ∀ x, ((n, c) :: acc).lookup x ≠ none -> cl.lookup x ≠ none := h2
   refine ⟨cl, by simpa using e, h1, λ x hx => hcons x ?_, λ y hy hf => ?_⟩
   ·rw [Zl]; cases x == n with
    | true => simp
    | false => exact hx
   ·rcases Zt.mp hy with rfl | hy
    ·exact hcons _ (by simp [Zl])
    ·exact h3 y hy hf
  ·rw [if_neg (by simpa using hk)]
   obtain ⟨cl, e, h1, h2, h3⟩ := Qf0 env body hb r acc hr ha
   refine ⟨cl, by simpa using e, h1, h2, λ y hy hf => ?_⟩
   rcases Zt.mp hy with rfl | hy
   ·exact absurd hf hk
   ·exact h3 y hy hf
theorem Qm0 {scope : Scope} {env : Env} (h : ∀ y ∈ scope.names, y.2 = .free -> ∃ c, env.cells.lookup y.1 = some c) :
  ∃ cl, closureFor scope env = pure cl /\ (∀ x c, cl.lookup x = some c -> env.cells.lookup x = some c) /\ ∀ y ∈ scope.names, y.2 = .free -> ∃ c, cl.lookup y.1 = some c := by
 unfold closureFor
 obtain ⟨cl, e, h1, _, h3⟩ := Qf0 env (λ x cs => match x with | (name, kind) => if (kind == NameKind.free) = true then (do let c ← cellOf env name; pure (ForInStep.yield ((name, c) :: cs))) else pure (ForInStep.yield cs)) (λ _ _ _ => rfl) scope.names [] h (λ x c e => by simp at e)
 refine ⟨cl, ?_, h1, λ y hy hf => Option.ne_none_iff_exists'.mp (h3 y hy hf)⟩
 show (forIn scope.names [] _ >>= λ r => pure r) = _
 rw [e]; rfl
noncomputable def cxc (X : Cx) (N' : List Str) (scope : Scope) (cl : List (Str × Addr)) (C : Addr) (fp : List Addr) (s3 : Shared) (H3 : Hp) : Cx :=
 { X with N := N', s₀ := s3, H₀ := H3, env := compEnvC scope cl C X.env, outer := X.stack, ex := fp, fn := λ x => decide (scope.names.lookup x = some .cell), pn := [], xe := λ _ _ => False }
def PTs (X : Cx) (ifs : List Expr) (t : TT) : Prop :=
 ∀ (pins : List (Addr × Obj)) (s : Shared) (σ : St) (H : Hp) (Q : Bool -> Hp -> Prop), Inv X pins σ H s -> t σ H Q →
  wpAny (model X.prog X.w) X.A (forIn ifs true λ c r => if r = true then do let ok ← isTrue c X.env (eval c X.env); pure (ForInStep.yield ok) else pure (ForInStep.yield r)) (TP X pins σ Q) X.xe s
noncomputable def Qqf : TT := λ _ H Q => Q true H
theorem Qmf {X : Cx} : PTs X [] Qqf := λ _ _ _ H _ I h => wpAny_tests_nil ⟨H, I, h⟩
theorem QmW {X : Cx} {c : Expr} {t : TT} (h : PT X c t) : PTs X [c] t := λ pins s σ H Q I q => wpAny_tests_one (h pins s σ H Q I q)
def Qe7 (X : Cx) (N' : List Str) (scope : Scope) (σ σ' : St) : Prop :=
 σ'.length = N'.length /\ ∀ (j : Nat) (x : Str) (v : V), N'[j]? = some x -> σ'[j]? = some (some v) -> scope.names.lookup x = some .free /\ ∃ i : Nat, X.N[i]? = some x /\ σ[i]? = some (some v) /\ (X.env.kindOf x = some .cell ∨ X.env.kindOf x = some .free)
noncomputable def QgP (wi : TI) (cap : St -> St -> Prop) (g : TG) (tc : TT) (te : TE) : TE := λ σ H Q => wi σ H λ J H1 => ∃ σc, cap σ σc /\ ∀ D, H1 D = none -> ∃ W : Nat -> Nat -> List V -> Hp -> Prop,
 (∃ m, W 0 m [] (upd H1 D (.lst []))) /\ ∀ i m acc H2, W i m acc H2 -> (J.stop i H2 /\ Q (.ref D) H2) ∨
  (J.go i H2 /\ ∀ x H3, J.yld i H2 x H3 -> g x σc H3 λ σ2 H4 => (∀ (j : Nat) v, σc[j]? = some (some v) -> σ2[j]? = some (some v)) /\ tc σ2 H4 λ b H5 => if b = true then
   te σ2 H5 λ y H6 => H6 D = some (.lst acc) /\ acc.length < sizeLine /\ ∃ m', m' < m /\ W (i + 1) m' (acc ++ [y]) (upd H6 D (.lst (acc ++ [y])))
   else ∃ m', m' < m /\ W (i + 1) m' acc H5)
theorem QaY {env : Env} : ∀ {names : List (Str × NameKind)} {x : Str}, names.lookup x = some .free →
  (names.map λ (n, k) => if (k == NameKind.free && env.scope.kind == .function && env.kindOf n == some .cell) then (n, NameKind.cell) else (n, k)).lookup x = some .cell ∨
  (names.map λ (n, k) => if (k == NameKind.free && env.scope.kind == .function && env.kindOf n == some .cell) then (n, NameKind.cell) else (n, k)).lookup x = some .free
 | [], _, h => by simp at h
 | (n, k) :: r, x, h => by
  have ih := @QaY env r x
  rw [Zv]
  cases hx : x == n with
  | true =>
   simp only [Zl, hx] at h
   cases h
   dsimp only
   split
   ·left; simp [Zl, hx]
   ·right; simp [Zl, hx]
  | false =>
   simp only [Zl, hx] at h
   dsimp only
   split
   ·simp only [Zl, hx]; exact ih h
   ·simp only [Zl, hx]; exact ih h
theorem Qcg {env : Env} : ∀ {names : List (Str × NameKind)} {x : Str},
  ((names.map λ (n, k) => if (k == NameKind.free && env.scope.kind == .function && env.kindOf n == some .cell) then (n, NameKind.cell) else (n, k)).lookup x = some .cell ∨
  (names.map λ (n, k) => if (k == NameKind.free && env.scope.kind == .function && env.kindOf n == some .cell) then (n, NameKind.cell) else (n, k)).lookup x = some .free) →
  ∃ k, (x, k) ∈ names /\ (k = .free ∨ k = .cell)
 | [], _, h => by simp at h
 | (n, k) :: r, x, h => by
  have ih := @Qcg env r x
  rw [Zv] at h
  cases hx : x == n with
  | true =>
   have hn : x = n := by simpa using hx
   subst hn
   dsimp only at h
   split at h
   ·rename_i hc
    simp only [Zg] at hc
    refine ⟨k, Zi, .inl (by simpa using hc.1.1)⟩
   ·simp only [Zl, hx] at h
    refine ⟨k, Zi, ?_⟩
    rcases h with h | h
    ·exact .inr (Option.some.inj h)
    ·exact .inl (Option.some.inj h)
  | false =>
   dsimp only at h
   have : ∃ k, (x, k) ∈ r /\ (k = .free ∨ k = .cell) := by
    apply ih
    split at h
    ·simpa only [Zl, hx] using h
    ·simpa only [Zl, hx] using h
   obtain ⟨k', h1, h2⟩ := this
   exact ⟨k', Zd _ h1, h2⟩
theorem Qc7 : ∀ (names : List (Str × NameKind)) (n : Nat) (acc : List (Str × Addr)) (x : Str) (c : Addr), (cellsFrom n names acc).lookup x = some c -> acc.lookup x = some c ∨ (n <= c /\ (x, NameKind.cell) ∈ names)
 | [], _, _, _, _, h => .inl h
 | (nm, k) :: r, n, acc, x, c, h => by
  unfold cellsFrom at h
  split at h
  ·rename_i hk
   have hk : k = .cell := by simpa using hk
   rcases Qc7 r (n + 1) ((nm, n) :: acc) x c h with h | ⟨h1, h2⟩
   ·rw [Zl] at h
    cases q : x == nm with
    | true =>
     rw [q] at h
     cases h
     have : x = nm := by simpa using q
     exact .inr ⟨Zj _, by rw [this, hk]; exact Zi⟩
    | false => rw [q] at h; exact .inl h
   ·exact .inr ⟨by omega, Zd _ h2⟩
  ·rcases Qc7 r n acc x c h with h | ⟨h1, h2⟩
   ·exact .inl h
   ·exact .inr ⟨h1, Zd _ h2⟩
theorem Qh7 : ∀ (names : List (Str × NameKind)) (n : Nat) (acc : List (Str × Addr)) (x : Str) (c : Addr), (x, NameKind.cell) ∈ names -> (cellsFrom n names acc).lookup x = some c -> n <= c
 | (nm, k) :: r, n, acc, x, c, hm, h => by
  unfold cellsFrom at h
  split at h
  ·by_cases hr : (x, NameKind.cell) ∈ r
   ·have := Qh7 r (n + 1) _ x c hr h
    omega
   ·have hx : x = nm := by
     rcases Zt.mp hm with e | e
     ·exact (Prod.mk.inj e).1
     ·exact absurd e hr
    rcases Qc7 r (n + 1) ((nm, n) :: acc) x c h with h | ⟨h1, _⟩
    ·rw [Zl, show (x == nm) = true by simpa using hx] at h
     cases h
     exact Zj _
    ·omega
  ·rename_i hk
   rcases Zt.mp hm with e | e
   ·exact absurd (by rw [← (Prod.mk.inj e).2]; rfl) hk
   ·exact Qh7 r n acc x c e h
theorem Qg6 : ∀ (names : List (Str × NameKind)) (n : Nat) (acc : List (Str × Addr)), (∀ x y c, acc.lookup x = some c -> acc.lookup y = some c -> x = y) -> (∀ x c, acc.lookup x = some c -> c < n) →
  ∀ x y c, (cellsFrom n names acc).lookup x = some c -> (cellsFrom n names acc).lookup y = some c -> x = y
 | [], _, _, hi, _, x, y, c, h1, h2 => hi x y c h1 h2
 | (nm, k) :: r, n, acc, hi, hb, x, y, c, h1, h2 => by
  unfold cellsFrom at h1 h2
  split at h1
  ·rename_i hk
   rw [if_pos hk] at h2
   refine Qg6 r (n + 1) ((nm, n) :: acc) (λ x y c h1 h2 => ?_) (λ x c h => ?_) x y c h1 h2
   ·rw [Zl] at h1 h2
    cases qx : x == nm with
    | true =>
     rw [qx] at h1
     cases h1
     cases qy : y == nm with
     | true => rw [show x = nm by simpa using qx, show y = nm by simpa using qy]
     | false => rw [qy] at h2; exact absurd (hb y _ h2) (ZG _)
    | false =>
     rw [qx] at h1
     cases qy : y == nm with
     | true => rw [qy] at h2; cases h2; exact absurd (hb x _ h1) (ZG _)
     | false => rw [qy] at h2; exact hi x y c h1 h2
   ·rw [Zl] at h
    cases qx : x == nm with
    | true => rw [qx] at h; cases h; exact Zbb _
    | false => rw [qx] at h; exact ZaA (hb x c h)
  ·rename_i hk
   rw [if_neg hk] at h2
   exact Qg6 r n acc hi hb x y c h1 h2
theorem Qdj : ∀ (names : List (Str × NameKind)) (n : Nat) (acc : List (Str × Addr)) (x : Str), (∃ c, acc.lookup x = some c) -> ∃ c, (cellsFrom n names acc).lookup x = some c
 | [], _, _, _, h => h
 | (nm, k) :: r, n, acc, x, h => by
  unfold cellsFrom
  split
  ·refine Qdj r (n + 1) _ x ?_
   rw [Zl]
   cases x == nm with
   | true => exact ⟨n, rfl⟩
   | false => exact h
  ·exact Qdj r n acc x h
theorem Qhc : ∀ (names : List (Str × NameKind)) (n : Nat) (acc : List (Str × Addr)) (x : Str), (x, NameKind.cell) ∈ names -> ∃ c, (cellsFrom n names acc).lookup x = some c
 | (nm, k) :: r, n, acc, x, hm => by
  unfold cellsFrom
  rcases Zt.mp hm with e | e
  ·obtain ⟨e1, e2⟩ := Prod.mk.inj e
   subst e1
   rw [← e2, if_pos (by rfl)]
   exact Qdj r (n + 1) _ x ⟨n, by simp [Zl]⟩
  ·split
   ·exact Qhc r (n + 1) _ x e
   ·exact Qhc r n acc x e
theorem QfR (lo : Nat) : ∀ (names : List (Str × NameKind)) (h : Heap) (acc : List (Str × Addr)), (∀ x c, acc.lookup x = some c -> lo <= c -> h.IsCell c none) -> lo <= h.objs.size →
  ∀ x c, (cellsFrom h.objs.size names acc).lookup x = some c -> lo <= c -> (pushCells h names).IsCell c none
 | [], _, _, ha, _, x, c, e, hl => ha x c e hl
 | (nm, k) :: r, h, acc, ha, hlo, x, c, e, hl => by
  unfold cellsFrom at e
  unfold pushCells
  split at e
  ·rename_i hk
   rw [if_pos hk]
   have hs := Zav h { cls := .type "cell", data := .cell none }
   refine QfR lo r (h.push { cls := .type "cell", data := .cell none }) ((nm, h.objs.size) :: acc) (λ x c e hl => ?_) (by rw [hs]; omega) x c (by rw [hs]; exact e) hl
   rw [Zl] at e
   cases q : x == nm with
   | true => rw [q] at e; cases e; exact ⟨_, Zy _ rfl, rfl⟩
   | false => rw [q] at e; exact (ha x c e hl).keeps λ b o e => Zm _ e
  ·rename_i hk
   rw [if_neg hk]
   exact QfR lo r h acc ha hlo x c e hl
theorem Qjf {M : Model} {A : Around} {E : Value -> Shared -> Prop} {s : Shared} {scope : Scope} {globals builtins : Addr} {cl : List (Str × Addr)} {qual : Str} {env : Env} {Q : Env -> Shared -> Prop}
  (hQ : ∀ h' : Heap, h'.Ns s.heap.objs.size (λ _ => none) -> (∀ b o, s.heap.get? b = some o -> h'.get? b = some o) -> ((∀ x c, cl.lookup x = some c -> c < s.heap.objs.size) -> ∀ x c, (cellsFrom (s.heap.objs.size + 1) scope.names cl).lookup x = some c -> s.heap.objs.size + 1 <= c -> h'.IsCell c none) →
   Q (newEnv scope s.heap.objs.size globals (cellsFrom (s.heap.objs.size + 1) scope.names cl) qual none .none (some env) builtins) { s with heap := h' }) :
  wpAny M A (newFunctionEnv scope globals cl [] qual none .none (some env) builtins) Q E s := by
 simp only [newFunctionEnv, Option.isSome_some, if_true]
 refine wpAny_bind (wpAny_alloc ?_)
 refine wpAny_bind (wpAny_layCells _ (λ name kind cells => by cases hkc : kind == NameKind.cell <;> simp [hkc]) _ _ _ _ ?_)
 have hs := Zav s.heap { cls := .type "dict", data := .dict #[] }
 rw [show ({ s with heap := s.heap.push { cls := .type "dict", data := .dict #[] } } : Shared).heap.objs.size = s.heap.objs.size + 1 from hs]
 refine wpAny_bind (wpAny_pure (wpAny_pure ?_))
 refine hQ _ ((Heap.Ns.new s.heap (.type "dict")).keeps (pushCells_keeps _ _)) (λ b o e => pushCells_keeps _ _ b o (Zm _ e)) λ hb x c e hl => ?_
 refine QfR (s.heap.objs.size + 1) scope.names (s.heap.push { cls := .type "dict", data := .dict #[] }) cl (λ x c e hl => ?_) (by rw [hs]; exact Zj _) x c (by rw [hs]; exact e) hl
 exact absurd (Zn (hb x c e) (Zr (ZaW _) hl)) (ZG _)
section
variable {X : Cx} {tg iter elt : Expr} {ifs : List Expr} {scope : Scope} {N' : List Str} {pos : Pos}
structure Qcf (X : Cx) (N' : List Str) (scope : Scope) : Prop where
 kind : scope.kind = .function
 own : ∀ y ∈ scope.names, y.2 = .cell -> scope.names.lookup y.1 = some .cell
 loc : ∀ y ∈ scope.names, y.2 = .local -> scope.names.lookup y.1 = some .local
 free : ∀ y ∈ scope.names, y.2 = .free -> X.env.kindOf y.1 = some .cell ∨ X.env.kindOf y.1 = some .free
theorem QkR {pins : List (Addr × Obj)} {σ σc : St} {H3 : Hp} {s3 : Shared} {fp : List Addr} {cl : List (Str × Addr)} {h' : Heap} {tk : Nat} (S : Qcf X N' scope) (I : Inv X pins σ H3 s3)
  (hf : ∀ b ∈ fp, QbV X pins H3 b) (hfl : ∀ b ∈ fp, b < s3.heap.objs.size) (hc1 : ∀ x c, cl.lookup x = some c -> X.env.cells.lookup x = some c) (hc2 : ∀ y ∈ scope.names, y.2 = .free -> ∃ c, cl.lookup y.1 = some c) (cap : Qe7 X N' scope σ σc)
  (hns : h'.Ns s3.heap.objs.size (λ _ => none)) (hk : ∀ b o, s3.heap.get? b = some o -> h'.get? b = some o)
  (hown : (∀ x c, cl.lookup x = some c -> c < s3.heap.objs.size) -> ∀ x c, (cellsFrom (s3.heap.objs.size + 1) scope.names cl).lookup x = some c -> s3.heap.objs.size + 1 <= c -> h'.IsCell c none) :
  Inv (cxc X N' scope (cellsFrom (s3.heap.objs.size + 1) scope.names cl) s3.heap.objs.size fp s3 H3) [] σc H3 { s3 with heap := h', toks := tk } := by
 have nold : ∀ b, b ∈ fp -> b ≠ s3.heap.objs.size := λ b hb e => absurd (hfl b hb) (by rw [e]; exact ZG _)
 have cellOld : ∀ x c, cl.lookup x = some c -> ∃ v, s3.heap.IsCell c v := λ x c e => I.cell x c (hc1 x c e)
 have cellLt : ∀ x c, cl.lookup x = some c -> c < s3.heap.objs.size := λ x c e => let ⟨v, q⟩ := cellOld x c e; q.lt
 have cellNew : ∀ c v, s3.heap.IsCell c v -> h'.IsCell c v := λ c v ⟨o, ho, hd⟩ => ⟨o, hk c o ho, hd⟩
 have hown := hown cellLt
 have look : ∀ x c, (cellsFrom (s3.heap.objs.size + 1) scope.names cl).lookup x = some c -> cl.lookup x = some c ∨ (s3.heap.objs.size + 1 <= c /\ (x, NameKind.cell) ∈ scope.names) := Qc7 scope.names _ cl
 refine ⟨⟨I.ok.mod, S.kind, I.ok.glob, I.ok.blt, Zj _, Qg6 scope.names _ cl (λ x y c h1 h2 => I.ok.inj x y c (hc1 x c h1) (hc1 y c h2)) (λ x c e => ZaA (cellLt x c e)), λ x hx => ?_, λ x c e1 e2 => ?_, I.ok.hd, I.ok.frames, .inl rfl, λ b hb => ⟨nold b hb, λ x c e => ?_⟩,
  I.bs, Zr I.ok.bsz I.sz, λ b o e hb => ?_, λ b hb hs => ?_, I.stack, I.Qis⟩, rfl, I.bare, Un.kept hk, ⟨_, hns, λ j x v h1 h2 h3 => ?_⟩, λ x c e => ?_, I.hok.fresh (Zj _), λ x c e => ?_, λ p hp => absurd (show p ∈ ([] : List (Addr × Obj)) from hp) (by simp), I.hok.kept hk, cap.1⟩
 ·obtain ⟨k, hm, hk'⟩ := Qcg (env := X.env) (names := scope.names) (x := x) hx
  rcases hk' with rfl | rfl
  ·exact Qdj scope.names _ cl x (hc2 _ hm rfl)
  ·exact Qhc scope.names _ cl x hm
 ·have e1 : decide (scope.names.lookup x = some .cell) = true := e1
  have := Qh7 scope.names _ cl x c (ZJ (of_decide_eq_true e1)) e2
  exact Zr (ZaW _) this
 ·rcases look x c e with e | ⟨e, _⟩
  ·exact (hf b hb).2.2.2.2.1 x c (hc1 x c e)
  ·intro z
   rw [z] at e
   exact absurd (Zn (hfl b hb) (Zr (ZaW _) e)) (ZG _)
 ·rcases (hf b hb).2.2.2.1 with z | z
  ·exact I.ok.noex b o e z
  ·exact absurd (Zn (Zp e) (Zr I.ok.bsz z)) (ZG _)
 ·rcases Zt.mp (I.Qfe b hs) with e | z
  ·exact (hf b hb).2.1 e
  ·exact (hf b hb).2.2.1 z
 ·obtain ⟨hl, i, e1, e2, e3⟩ := cap.2 j x v h1 h2
  obtain ⟨m, hn, look'⟩ := I.loc
  obtain ⟨u, r, l⟩ := look' i x v e1 e2 (e3.elim (λ z => .inr (.inl z)) λ z => .inr (.inr z))
  refine ⟨u, r, .inr ⟨QaY hl, ?_⟩⟩
  rcases l with ⟨k, _⟩ | ⟨_, c, ec, hcell⟩
  ·rcases e3 with z | z <;> (rw [k] at z; cases z)
  ·obtain ⟨c', ec'⟩ := Qdj scope.names (s3.heap.objs.size + 1) cl x (hc2 (x, .free) (ZJ hl) rfl)
   rcases look x c' ec' with q | ⟨_, q⟩
   ·have := hc1 x c' q
    rw [ec] at this; cases this
    exact ⟨c, ec', cellNew c _ hcell⟩
   ·have := S.own _ q rfl
    rw [hl] at this
    cases this
 ·rcases look x c e with q | ⟨q, _⟩
  ·obtain ⟨v, q⟩ := cellOld x c q
   exact ⟨v, cellNew c v q⟩
  ·exact ⟨none, hown x c e q⟩
 ·rcases look x c e with q | ⟨q, _⟩
  ·exact I.freeC x c (hc1 x c q)
  ·exact I.hok.fresh (by omega)
theorem QjG {prog : Program} {w : World} {A : Around} {env : Env} {it acc : Value} {R : Result -> Shared -> Prop} {s0 : Shared} (J : Nat -> Shared -> Prop)
  (turn : ∀ n s, J n s -> wpAny (model prog w) A (pyNext it) (λ r s1 => match r with
   | none => R (.ok .next) s1
   | some v => wpAny (model prog w) A (letOwnedTupleGo tg it v) (λ _ s2 => wpAny (model prog w) A (assign tg env v) (λ _ s3 =>
     wpAny (model prog w) A (forIn ifs true λ c r => if r = true then do let ok ← isTrue c env (eval c env); pure (ForInStep.yield ok) else pure (ForInStep.yield r)) (λ ok s4 =>
      if ok = true then wpAny (model prog w) A (eval elt env) (λ x s5 => wpAny (model prog w) A (call (.builtin "list.append") [acc, x]) (λ _ s6 => ∃ m, m < n /\ J m s6) (λ _ _ => False) s5) (λ _ _ => False) s4
      else ∃ m, m < n /\ J m s4) (λ _ _ => False) s3) (λ _ _ => False) s2) (λ _ _ => False) s1) (λ _ _ => False) s)
  (n : Nat) (h : J n s0) : codeAny (model prog w) A (.compLoop (.ListComp elt [⟨tg, iter, ifs, 0⟩] scope pos) 0 it acc env) R s0 := by
 have up : ∀ {α : Type} {t : Sem α} {Q : α -> Shared -> Prop} {E : Value -> Shared -> Prop} {s : Shared}, wpAny (model prog w) A t Q (λ _ _ => False) s -> wpAny (model prog w) A t Q E s := λ h => wpAny_mono h (λ _ _ q => q) λ _ _ f => f.elim
 refine codeAny_loop (by rfl) J (λ k sk hk => ?_) n h
 show wpAny (model prog w) A ((compTurn (.ListComp elt [⟨tg, iter, ifs, 0⟩] scope pos) 0 it acc env).onRaise (λ x => do noteFrame x env; theTreesLotGoes x)) _ _ sk
 refine wpAny_noted (up ?_)
 rw [compTurn_list]
 refine wpAny_bind (wpAny_standAt (wpAny_bind (thn (turn k sk hk) λ r s1 h1 => ?_)))
 cases r with
 | none => exact wpAny_pure h1
 | some v =>
  refine wpAny_bind (thn h1 λ _ s2 h2 => wpAny_bind (thn h2 λ _ s3 h3 => wpAny_bind (thn h3 λ ok s4 h4 => ?_)))
  cases ok with
  | false => exact wpAny_pure ⟨rfl, h4⟩
  | true => exact wpAny_bind (wpAny_bind (thn h4 λ x s5 h5 => wpAny_bind (thn h5 λ _ s6 h6 => wpAny_pure (wpAny_pure ⟨rfl, h6⟩))))
theorem Qlv {it D C : Addr} {fp : List Addr} {tn : Nat -> Heap -> Prop} {J : It} {cl : List (Str × Addr)} {s3 s4 : Shared} {H3 : Hp} {σc : St} {g : TG} {tc : TT} {te : TE} {Q : Hp -> Prop} (hcalm : X.calm = true)
  (T : Turn X.prog X.w X.K tg J fp it tn)
  (hg : PG (cxc X N' scope cl C fp s3 H3) tg g) (ht : PTs (cxc X N' scope cl C fp s3 H3) ifs tc) (he : PE (cxc X N' scope cl C fp s3 H3) elt te)
  (I : Inv (cxc X N' scope cl C fp s3 H3) [] σc H3 s4) (st : tn 0 s4.heap) (ff : ∀ b ∈ fp, QbV (cxc X N' scope cl C fp s3 H3) [] H3 b)
  (W : Nat -> Nat -> List V -> Hp -> Prop) (hw : ∃ m, W 0 m [] H3)
  (turn : ∀ i m acc H2, W i m acc H2 -> (J.stop i H2 /\ Q H2) ∨
   (J.go i H2 /\ ∀ x H5, J.yld i H2 x H5 -> g x σc H5 λ σ2 H6 => (∀ (j : Nat) v, σc[j]? = some (some v) -> σ2[j]? = some (some v)) /\ tc σ2 H6 λ b H7 => if b = true then
    te σ2 H7 λ y H8 => H8 D = some (.lst acc) /\ acc.length < sizeLine /\ ∃ m', m' < m /\ W (i + 1) m' (acc ++ [y]) (upd H8 D (.lst (acc ++ [y])))
    else ∃ m', m' < m /\ W (i + 1) m' acc H7))
  {R : Result -> Shared -> Prop} (hR : ∀ H' s', Inv (cxc X N' scope cl C fp s3 H3) [] σc H' s' -> Q H' -> R (.ok .next) s') :
  codeAny (model X.prog X.w) X.A (.compStart (.ListComp elt [⟨tg, iter, ifs, 0⟩] scope pos) 0 (.ref it) (.ref D) (compEnvC scope cl C X.env)) R s4 := by
 obtain ⟨m0, w0⟩ := hw
 have stat : ∀ {H' : Hp}, (∀ b ∈ fp, H' b = none) -> ∀ b ∈ fp, QbV (cxc X N' scope cl C fp s3 H3) [] H' b := λ hn b hb => ⟨hn b hb, (ff b hb).2⟩
 have loop : codeAny (model X.prog X.w) X.A (.compLoop (.ListComp elt [⟨tg, iter, ifs, 0⟩] scope pos) 0 (.ref it) (.ref D) (compEnvC scope cl C X.env)) R s4 := by
  refine QjG (λ n s' => ∃ i acc H', Inv (cxc X N' scope cl C fp s3 H3) [] σc H' s' /\ tn i s'.heap /\ (∀ b ∈ fp, H' b = none) /\ W i n acc H') ?_ m0 ⟨0, [], H3, I, st, λ b hb => (ff b hb).1, w0⟩
  rintro n s5 ⟨i, acc, H5, I5, st5, fr5, w5⟩
  rcases turn i n acc H5 w5 with ⟨stop, q⟩ | ⟨go, step⟩
  ·refine thn (T.done (cxc X N' scope cl C fp s3 H3) rfl rfl rfl hcalm i [] s5 σc H5 _ I5 (stat fr5) st5 stop) λ r s6 ⟨hr, I6⟩ => ?_
   subst hr
   exact hR H5 s6 I6 q
  ·refine thn (T.item (cxc X N' scope cl C fp s3 H3) rfl rfl rfl hcalm i [] s5 σc H5 _ I5 (stat fr5) st5 go) λ r s6 ⟨u, hr, h6⟩ => ?_
   subst hr
   refine thn h6 λ _ s7 ⟨x, H7, I7, r7, y7, st7, fr7⟩ => ?_
   have I7' := I7.pinned (stat fr7) (T.obj _ _ st7)
   refine thn (hg _ s7 σc H7 x u _ I7' r7 (step x H7 y7)) λ _ s8 ⟨σ8, H8, I8, k8, q8⟩ => ?_
   refine thn (ht _ s8 σ8 H8 _ I8 q8) λ ok s9 ⟨H9, I9, q9⟩ => ?_
   have again : ∀ {H' : Hp} {s' : Shared} {acc' : List V}, Inv (cxc X N' scope cl C fp s3 H3) ([] ++ QdN fp s7.heap) σ8 H' s' -> (∃ m', m' < n /\ W (i + 1) m' acc' H') →
     ∃ m, m < n /\ ∃ i acc H', Inv (cxc X N' scope cl C fp s3 H3) [] σc H' s' /\ tn i s'.heap /\ (∀ b ∈ fp, H' b = none) /\ W i m acc H' := λ {H' s' acc'} I' ⟨m', hm, w'⟩ => by
    have pin : ∀ b ∈ fp, ∀ o, s7.heap.get? b = some o -> s'.heap.get? b = some o /\ H' b = none := λ b hb o e => by
     have z := I'.pin (b, o) (Zb _ (Zb _ (Qdy hb e)))
     exact ⟨z.1, z.2.1⟩
    refine ⟨m', hm, i + 1, acc', H', ?_, T.keep _ _ _ st7 λ b hb o e => (pin b hb o e).1, λ b hb => ?_, w'⟩
    ·exact I'.Qdk.weak (I.len.trans I8.len.symm) k8
    ·obtain ⟨o, e, _⟩ := T.obj _ _ st7 b hb
     exact (pin b hb o e).2
   cases ok with
   | false =>
    rw [if_neg Zai] at q9 ⊢
    exact again I9 q9
   | true =>
    rw [if_pos rfl] at q9 ⊢
    refine thn (he _ s9 σ8 H9 _ I9 q9) λ yv s10 ⟨y, H10, I10, r10, e10, l10, q10⟩ => ?_
    refine thn (Qgz _ s10 σ8 H10 (.ref D) [y] (.ref D) [yv] (λ v H11 => H11 = upd H10 D (.lst (acc ++ [y]))) I10 rfl (.cons r10 .nil) ⟨D, acc, y, rfl, rfl, e10, l10, rfl⟩) λ _ s11 ⟨_, H11, I11, _, e11⟩ => ?_
    subst e11
    exact again I11 q10
 exact codeAny_compStart_list loop (T.self _ 0 _ _ _ st loop)
theorem Qhf {wi : TI} {g : TG} {tc : TT} {te : TE} {cp : Pos} {use : Option (Value -> Sem Unit)} {pins : List (Addr × Obj)} {s : Shared} {σ : St} {H : Hp} {QV : Value -> Shared -> Prop} {Q : VK} (hcalm : X.calm = true) (S : Qcf X N' scope) (hi : PI X tg iter wi)
  (hin : ∀ cl C fp s3 H3, PG (cxc X N' scope cl C fp s3 H3) tg g /\ PTs (cxc X N' scope cl C fp s3 H3) ifs tc /\ PE (cxc X N' scope cl C fp s3 H3) elt te)
  (hs : ∀ x, foldedSetIterable iter X.env x = pure x) (I : Inv X pins σ H s) (h : QgP wi (Qe7 X N' scope) g tc te σ H Q)
  (fin : ∀ (D C : Addr) (H' : Hp) (s' : Shared), Inv X pins σ H' s' -> H' C = none -> C ≠ X.env.locals -> X.s₀.heap.objs.size <= C -> (∀ x c, X.env.cells.lookup x = some c -> c ≠ C) -> (∀ p ∈ X.pn ++ pins, p.1 ≠ C) -> (∃ m, s'.heap.Ns C m) -> Q (.ref D) H' →
   compPost (model X.prog X.w) X.A X.xe use QV (.ref D) C (.ok .next) s') :
  wpAny (model X.prog X.w) X.A (comprehension (.ListComp elt [⟨tg, iter, ifs, 0⟩] scope pos) scope X.env cp (newList []) false (eval iter X.env) use) QV X.xe s := by
 obtain ⟨cl, hcl, hc1, hc2⟩ := Qm0 (scope := scope) (env := X.env) λ y hy hf => I.ok.has y.1 (S.free y hy hf)
 refine wpAny_comprehension_free (g := ⟨tg, iter, ifs, 0⟩) (gs := []) rfl hs hcl S.kind S.loc ?_
 refine thn (hi pins s σ H _ I h) λ v s1 h1 => thn h1 λ itv s2 h2 => ?_
 obtain ⟨it, fp, tn, J, H2, e, I2, T, st2, f2, σc, cap, hw⟩ := h2
 subst e
 have hD0 : H2 s2.heap.objs.size = none := I2.hok.fresh (Zj _)
 obtain ⟨W, hW0, turn⟩ := hw _ hD0
 have fpl : ∀ b ∈ fp, b < s2.heap.objs.size := λ b hb => let ⟨o, e, _⟩ := T.obj _ _ st2 b hb; Zp e
 have hlist : ∀ D : Addr, D = s2.heap.objs.size -> ∃ x, x = D := λ D _ => ⟨D, rfl⟩
 refine wpAny_newObj_type ?_
 have I3 : Inv X pins σ (upd H2 s2.heap.objs.size (.lst [])) { s2 with heap := s2.heap.push { cls := .type "list", dict := none, data := .seq ([] : List Value).toArray } } :=
  I2.laid (t' := s2.toks) (λ b o e => Zm _ e) (Zj _) ⟨ZI _, [], 0, .nil, Zy _ rfl⟩
 generalize hs3 : ({ s2 with heap := s2.heap.push { cls := .type "list", dict := none, data := .seq ([] : List Value).toArray } } : Shared) = s3 at I3
 have hs3' : s3.heap = s2.heap.push { cls := .type "list", dict := none, data := .seq ([] : List Value).toArray } := by rw [← hs3]
 have sz3 : s3.heap.objs.size = s2.heap.objs.size + 1 := by rw [hs3', Zav]
 have old3 : ∀ b o, s2.heap.get? b = some o -> s3.heap.get? b = some o := λ b o e => by rw [hs3']; exact Zm _ e
 have f3 : ∀ b ∈ fp, QbV X pins (upd H2 s2.heap.objs.size (.lst [])) b := λ b hb => ⟨by rw [Qt (ZH (fpl b hb))]; exact (f2 b hb).1, (f2 b hb).2⟩
 have fpl3 : ∀ b ∈ fp, b < s3.heap.objs.size := λ b hb => by rw [sz3]; exact ZaA (fpl b hb)
 refine Qjf (λ h4 hns4' keep4 hown4 => ?_)
 have I4 := QkR (tk := s3.toks) S I3 f3 fpl3 hc1 hc2 cap hns4' keep4 hown4
 have hout : ∀ H' s', Inv (cxc X N' scope (cellsFrom (s3.heap.objs.size + 1) scope.names cl) s3.heap.objs.size fp s3 (upd H2 s2.heap.objs.size (.lst []))) [] σc H' s' -> Inv X pins σ H' s' := λ H' s' J' =>
  I3.QoU (ch := fp) J'.os J'.base J'.hok J'.bare λ b hb => ⟨(f3 b hb).2.2.2.1, (f3 b hb).2.1, (f3 b hb).2.2.2.2.1, (f3 b hb).2.2.2.2.2⟩
 obtain ⟨hg, ht, he⟩ := hin (cellsFrom (s3.heap.objs.size + 1) scope.names cl) s3.heap.objs.size fp s3 (upd H2 s2.heap.objs.size (.lst []))
 have fc : ∀ b ∈ fp, QbV (cxc X N' scope (cellsFrom (s3.heap.objs.size + 1) scope.names cl) s3.heap.objs.size fp s3 (upd H2 s2.heap.objs.size (.lst []))) [] (upd H2 s2.heap.objs.size (.lst [])) b := λ b hb =>
  ⟨(f3 b hb).1, ZH (fpl3 b hb), λ hs' => (Zt.mp (I3.Qfe b hs')).elim (f3 b hb).2.1 (f3 b hb).2.2.1, .inl hb, λ x c e => (by
   rcases Qc7 scope.names _ cl x c e with e | ⟨e, _⟩
   ·exact (f3 b hb).2.2.2.2.1 x c (hc1 x c e)
   ·intro z
    rw [z] at e
    exact absurd (Zn (fpl3 b hb) (Zr (ZaW _) e)) (ZG _)), λ p hp => absurd (show p ∈ ([] : List (Addr × Obj)) from hp) (by simp)⟩
 have hC1 : s3.heap.objs.size ≠ X.env.locals := Ne.symm (ZH I3.lt)
 refine Qlv (D := s2.heap.objs.size) (C := s3.heap.objs.size) (s3 := s3) (σc := σc) (H3 := upd H2 s2.heap.objs.size (.lst [])) (W := W) (Q := λ H' => Q (.ref s2.heap.objs.size) H') hcalm T hg ht he I4 (T.keep _ _ _ st2 λ b hb o e => keep4 b o (old3 b o e)) fc hW0 turn λ H' s' J' q => ?_
 have O := hout H' s' J'
 refine fin _ _ H' s' O J'.free hC1 (Zr I3.sz (Zj _)) (λ x c e z => ?_) (λ p hp z => ?_) (let ⟨m, hn, _⟩ := J'.loc; ⟨m, hn⟩) q
 ·obtain ⟨v, o, ho, _⟩ := I3.cell x c e
  exact absurd (Zp ho) (by rw [z]; exact ZG _)
 ·exact absurd (Zp (I3.pin p hp).1) (by rw [z]; exact ZG _)
theorem Inv.QlQ {pins : List (Addr × Obj)} {σ : St} {H : Hp} {s : Shared} {C : Addr} {h' : Heap} (I : Inv X pins σ H s) (hs : Heap.SameBut C s.heap h') (hn : H C = none) (hL : C ≠ X.env.locals) (h1 : X.s₀.heap.objs.size <= C)
  (h2 : ∀ x c, X.env.cells.lookup x = some c -> c ≠ C) (h3 : ∀ p ∈ X.pn ++ pins, p.1 ≠ C) : Inv X pins σ H { s with heap := h' } :=
 I.turned (t' := s.toks) (λ b o hb e => (hs.2 b hb).trans e) hn hL (.inr h1) h2 h3
theorem Qip {wi : TI} {g : TG} {tc : TT} {te : TE} (hcalm : X.calm = true) (S : Qcf X N' scope) (hi : PI X tg iter wi)
  (hin : ∀ cl C fp s3 H3, PG (cxc X N' scope cl C fp s3 H3) tg g /\ PTs (cxc X N' scope cl C fp s3 H3) ifs tc /\ PE (cxc X N' scope cl C fp s3 H3) elt te)
  (hs : ∀ x, foldedSetIterable iter X.env x = pure x := by intro _; rfl) : PE X (.ListComp elt [⟨tg, iter, ifs, 0⟩] scope pos) (QgP wi (Qe7 X N' scope) g tc te) := by
 intro pins s σ H Q I h
 rw [eval_ListComp]
 refine Qhf (use := none) hcalm S hi hin hs I h λ D C H' s' O h1 h2 h3 h4 h5 ⟨m, hm⟩ q => ?_
 exact ⟨m, hm, λ h' hs' => ⟨.ref D, H', O.QlQ hs' h1 h2 h3 h4 h5, rfl, q⟩⟩
theorem QmM {wi : TI} {g : TG} {tc : TT} {te : TE} {i : Nat} {x : Str} {pos' spos : Pos} (hN : X.N.Nodup) (hx1 : X.N[i]? = some x) (hx : Loc X.env.scope x) (hf : X.fn x = true ∨ X.env.scope.names.lookup x = some .local) (hcalm : X.calm = true) (S : Qcf X N' scope) (hi : PI X tg iter wi)
  (hin : ∀ cl C fp s3 H3, PG (cxc X N' scope cl C fp s3 H3) tg g /\ PTs (cxc X N' scope cl C fp s3 H3) ifs tc /\ PE (cxc X N' scope cl C fp s3 H3) elt te)
  (hs : ∀ x, foldedSetIterable iter X.env x = pure x := by intro _; rfl) :
  PS X (.Assign [.Name x pos'] (.ListComp elt [⟨tg, iter, ifs, 0⟩] scope pos) spos) (QdF (QgP wi (Qe7 X N' scope) g tc te) (Qdl i)) := by
 have hb : ∃ b, swapsWith (.ListComp elt [⟨tg, iter, ifs, 0⟩] scope pos) (some (.Name x pos')) spos.line X.env = pure b := ⟨_, rfl⟩
 obtain ⟨b, hb⟩ := hb
 cases b with
 | false => exact QfG hN hx1 hx (Qip hcalm S hi hin hs) hb hf
 | true =>
  intro pins s σ H D I h
  rw [exec_Assign_Name_used _ _ _ _ hb]
  refine wpAny_bind (wpAny_standAt (wpAny_bind ?_))
  show wpAny _ X.A (do let _ ← comprehension (.ListComp elt [⟨tg, iter, ifs, 0⟩] scope pos) scope X.env _ (newList []) false (eval iter X.env) (some (assign (.Name x pos') X.env))) _ _ s
  refine wpAny_bind (thn (Qhf (use := some (assign (.Name x pos') X.env)) (QV := λ _ s' => SP X pins D .next s') hcalm S hi hin hs I h λ Dl C H' s' O h1 h2 h3 h4 h5 ⟨m, hm⟩ q => ?_) λ _ s' hq => wpAny_pure (wpAny_pure hq))
  refine wpAny_assign_Name (Qgu O hN hx1 hx (v := .ref Dl) (u := .ref Dl) rfl (λ s2 I2 hsb => ?_) hf)
  obtain ⟨a, sb, ha⟩ := hsb
  have haC : C ≠ a := by
   rcases ha with rfl | ha
   ·exact h2
   ·exact Ne.symm (h4 _ _ ha)
  exact ⟨m, hm.sameBut sb haC, λ h' hs' => ⟨_, H', I2.QlQ hs' h1 h2 h3 h4 h5, q⟩⟩
end
end L2
namespace L2
open PySem PySem.Spec PyProof.Rows
section
variable {X : Cx} {pins : List (Addr × Obj)} {σ : St} {H H' : Hp} {s : Shared} {h' : Heap}
theorem Inv.Qo4 {t' : Nat} {ch : List Addr} {T : Addr} {ts : List V} (I : Inv X pins σ H s) (hf : ∀ b ∈ ch, QbV X pins H b) (k : ∀ b o, b ∉ ch -> s.heap.get? b = some o -> h'.get? b = some o) (hp : ∀ b ∈ ch, ∃ o, h'.get? b = some o)
  (hT : s.heap.objs.size <= T) (hnew : ts.length <= sizeLine /\ ∃ its : List Value, Qj ts its /\ IsTup h' T its.toArray) : Inv X pins σ (upd H T (.tup ts)) { s with heap := h', toks := t' } := by
 have hn : H T = none := I.hok.fresh hT
 have neT : ∀ b u, H b = some u -> b ≠ T := λ b u e => Qat e hn
 have nch : ∀ b u, H b = some u -> b ∉ ch := λ b u e hb => by rw [(hf b hb).1] at e; cases e
 have ltT : ∀ b o, s.heap.get? b = some o -> b ≠ T := λ b o e => ZH (Zn (Zp e) hT)
 refine I.step (g' := s.gens) (d' := s.drawn) (ch := ch) (λ b hb => ?_) (λ b o _ _ hc e _ => k b o hc e) (λ b o _ _ hc e _ => ⟨o.slots, k b o hc e⟩) (λ b o _ e n => by rw [Qt (ltT b o e)]; exact n)
  (λ b o hc e => ⟨o, k b o hc e⟩) (λ b xs e => by rw [Qt (neT b _ e)]; exact e) (λ b o u e => by rw [Qt (neT b _ e)]; exact e) (λ b ps e => ⟨#[], by rw [Qt (neT b _ e), e]; simp⟩) (λ m hm => ?_) (λ b u e => ?_) I.bare
 ·obtain ⟨f0, f1, f2, f3, f4, f5⟩ := hf b hb
  exact ⟨f3, f1, f4, f5⟩
 ·obtain ⟨o, es, ep, ho, r⟩ := hm
  exact ⟨o, es, ep, k _ o (λ z => (hf _ z).2.1 rfl) ho, r⟩
 ·by_cases hb : b = T
  ·subst hb
   rw [QQ] at e
   cases e
   exact hnew
  ·rw [Qt hb] at e
   refine (I.hok b u e).QeY (λ c v hc q => k c v ?_ q) (λ c q => by rw [Qt (neT c _ q)]; exact q) λ c xs q => by rw [Qt (neT c _ q)]; exact q
   rcases hc with z | z
   ·rw [z]; exact nch b u e
   ·exact nch c _ z
theorem Inv.turns {t' : Nat} {ch : List Addr} (I : Inv X pins σ H s) (hf : ∀ b ∈ ch, QbV X pins H b) (k : ∀ b o, b ∉ ch -> s.heap.get? b = some o -> h'.get? b = some o) : Inv X pins σ H { s with heap := h', toks := t' } := by
 have nch : ∀ b u, H b = some u -> b ∉ ch := λ b u e hb => by rw [(hf b hb).1] at e; cases e
 refine I.step (g' := s.gens) (d' := s.drawn) (ch := ch) (λ b hb => ?_) (λ b o _ _ hc e _ => k b o hc e) (λ b o _ _ hc e _ => ⟨o.slots, k b o hc e⟩) (λ b o _ e n => n)
  (λ b o hc e => ⟨o, k b o hc e⟩) (λ b xs e => e) (λ b o u e => e) (λ b ps e => ⟨#[], by rw [e]; simp⟩) (λ m hm => ?_) (λ b u e => ?_) I.bare
 ·obtain ⟨f0, f1, f2, f3, f4, f5⟩ := hf b hb
  exact ⟨f3, f1, f4, f5⟩
 ·obtain ⟨o, es, ep, ho, r⟩ := hm
  exact ⟨o, es, ep, k _ o (λ z => (hf _ z).2.1 rfl) ho, r⟩
 ·refine (I.hok b u e).QeY (λ c v hc q => k c v ?_ q) (λ c q => q) λ c xs q => q
  rcases hc with z | z
  ·rw [z]; exact nch b u e
  ·exact nch c _ z
end
section
variable {X : Cx}
end
noncomputable def Itz (K : PySem.W.Frag) (a b : Addr) : It :=
 ⟨λ i H => ∃ xs ys x y, SqL K H a xs /\ SqL K H b ys /\ xs[i]? = some x /\ ys[i]? = some y, λ i H v H' => ∃ p x y, v = .ref p /\ H p = none /\ H' = upd H p (.tup [x, y]) /\ (∀ xs, SqL K H a xs -> xs[i]? = some x) /\ ∀ ys, SqL K H b ys -> ys[i]? = some y,
  λ i H => ∃ xs ys, SqL K H a xs /\ SqL K H b ys /\ (xs.length <= i ∨ ys.length <= i)⟩
structure Ql8 (z TI TO i1 i2 : Addr) : Prop where
 a : TI ≠ z
 b : TO ≠ z
 c : i1 ≠ z
 d : i2 ≠ z
 e : TI ≠ TO
 f : TI ≠ i1
 g : TI ≠ i2
 h : TO ≠ i1
 i : TO ≠ i2
 j : i1 ≠ i2
theorem Qle {P : Program} {w : World} {K : PySem.W.Frag} {es : List Expr} {tk : Nat} {tpos : Pos} (l1 l2 z TI TO i1 i2 : Addr) (D : Ql8 z TI TO i1 i2) :
  Turn P w K (.Tuple es tk tpos) (Itz K l1 l2) [z, TI, TO, i1, i2] z (λ i h => IsZip h z TI TO .none /\ IsPair h TI (.ref i1) (.ref i2) /\ (∃ a b, IsPair h TO a b) /\ h.IsListIter i1 l1 i /\ h.IsListIter i2 l2 i) where
 mem := by simp
 obj := λ i h st b hb => by
  obtain ⟨hz, hTI, ⟨p, q, hTO⟩, ⟨o1, ho1, hc1, hd1⟩, ⟨o2, ho2, hc2, hd2⟩⟩ := st
  have hb : b = z ∨ b = TI ∨ b = TO ∨ b = i1 ∨ b = i2 := by simpa using hb
  rcases hb with rfl | rfl | rfl | rfl | rfl
  ·exact ⟨_, hz, λ v z => by cases z⟩
  ·exact ⟨_, hTI, λ v z => by cases z⟩
  ·exact ⟨_, hTO, λ v z => by cases z⟩
  ·exact ⟨o1, ho1, λ v z => by rw [hd1] at z; cases z⟩
  ·exact ⟨o2, ho2, λ v z => by rw [hd2] at z; cases z⟩
 keep := λ i h h' st k => by
  obtain ⟨hz, hTI, ⟨p, q, hTO⟩, h1, h2⟩ := st
  exact ⟨k z (by simp) _ hz, k TI (by simp) _ hTI, ⟨p, q, k TO (by simp) _ hTO⟩, h1.at λ o e => k i1 (by simp) o e, h2.at λ o e => k i2 (by simp) o e⟩
 item := by
  intro X hP hw hK hc i pins s σ H E I hf st hg
  subst hP hw hK
  obtain ⟨hz, hTI, ⟨a0, b0, hTO⟩, h1, h2⟩ := st
  obtain ⟨xs, ys, x, y, hq1, hq2, hx, hy⟩ := hg
  obtain ⟨its, rv, p, hzz⟩ := I.list hq1
  obtain ⟨its2, rv2, p2, hzz2⟩ := I.list hq2
  obtain ⟨u, hu, ru⟩ := rv.get hx
  obtain ⟨u2, hu2, ru2⟩ := rv2.get hy
  have free : ∀ l ys, SqL X.K H l ys -> ∀ b, b ∈ [z, TI, TO, i1, i2] -> l ≠ b := λ l ys hq b hb e => by
   subst e
   rcases hq with (hq | ⟨o, hq⟩) | ⟨o, its, n, hk, hc', _, hd', _⟩
   ·rw [(hf l hb).1] at hq; cases hq
   ·rw [(hf l hb).1] at hq; cases hq
   ·have e1 := I.kIn l o hk
    obtain ⟨o1, ho1, hcc1, hd1⟩ := id h1
    obtain ⟨o2, ho2, hcc2, hd2⟩ := id h2
    have hb : l = z ∨ l = TI ∨ l = TO ∨ l = i1 ∨ l = i2 := by simpa using hb
    rcases hb with rfl | rfl | rfl | rfl | rfl
    ·rw [hz] at e1; cases e1; simp at hc'
    ·rw [hTI] at e1; cases e1; simp at hc'
    ·rw [hTO] at e1; cases e1; simp at hc'
    ·rw [ho1] at e1; cases e1; rw [hc'] at hcc1; simp at hcc1
    ·rw [ho2] at e1; cases e1; rw [hc'] at hcc2; simp at hcc2
  have A1 := free l1 xs hq1
  have A2 := free l2 ys hq2
  have DD : ZipApart z TI TO i1 i2 l1 l2 := ⟨D.a, D.b, D.c, D.d, D.e, D.f, D.g, D.h, D.i, D.j, A1 z (by simp), A1 TO (by simp), A1 i1 (by simp), A1 i2 (by simp), A2 z (by simp), A2 TO (by simp), A2 i1 (by simp), A2 i2 (by simp)⟩
  refine wpAny_pyNext_zip_item DD hz hTI hTO h1 h2 p.isList p2.isList (x := u) (y := u2) (by simpa using hu) (by simpa using hu2) λ h3 z3 TO3 a3 b3 T3 sz3 k3 => ?_
  refine ⟨.ref s.heap.objs.size, rfl, wpAny_letOwnedTupleGo_zip z3 λ h4 z4 hs4 => ?_⟩
  replace hs4 : Heap.SameBut z h3 h4 := hs4
  have lt : ∀ {c o}, s.heap.get? c = some o -> c < s.heap.objs.size := λ e => Zp e
  have hzlt := lt hz
  have all : ∀ b ∈ [z, TI, TO, i1, i2], b < s.heap.objs.size := λ b hb => by
   have hb : b = z ∨ b = TI ∨ b = TO ∨ b = i1 ∨ b = i2 := by simpa using hb
   obtain ⟨o1, ho1, _⟩ := h1
   obtain ⟨o2, ho2, _⟩ := h2
   rcases hb with rfl | rfl | rfl | rfl | rfl
   ·exact lt hz
   ·exact lt hTI
   ·exact lt hTO
   ·exact lt ho1
   ·exact lt ho2
  have kk : ∀ b o, b ∉ [z, TI, TO, i1, i2] -> s.heap.get? b = some o -> h4.get? b = some o := λ b o hb q => by
   have n1 : b ≠ z := λ e => hb (by simp [e])
   exact hs4.extBut b o n1 (k3 b o n1 (λ e => hb (by simp [e])) (λ e => hb (by simp [e])) (λ e => hb (by simp [e])) q)
  have TI4 : IsPair h4 TI (.ref i1) (.ref i2) := hs4.extBut _ _ D.a (k3 _ _ D.a D.e D.f D.g hTI)
  have TO4 : IsPair h4 TO u u2 := hs4.extBut _ _ D.b TO3
  have a4 : h4.IsListIter i1 l1 (i + 1) := a3.extBut hs4.extBut D.c
  have b4 : h4.IsListIter i2 l2 (i + 1) := b3.extBut hs4.extBut D.d
  have T4 : IsTup h4 s.heap.objs.size [u, u2].toArray := ⟨_, (hs4.2 _ (Nat.ne_of_gt hzlt)).trans T3, rfl, _, rfl⟩
  refine ⟨.ref s.heap.objs.size, upd H s.heap.objs.size (.tup [x, y]), I.Qo4 (t' := s.toks) hf kk (λ b hb => ?_) (Zj _) ⟨by show 2 <= sizeLine; decide, _, .cons ru (.cons ru2 .nil), T4⟩, rfl,
   ⟨_, x, y, rfl, I.hok.fresh (Zj _), rfl, λ zs hy' => by rw [I.QeK hy' hq1]; exact hx, λ zs hy' => by rw [I.QeK hy' hq2]; exact hy⟩, ⟨z4, TI4, ⟨_, _, TO4⟩, a4, b4⟩, λ b hb => ?_⟩
  ·have hb : b = z ∨ b = TI ∨ b = TO ∨ b = i1 ∨ b = i2 := by simpa using hb
   obtain ⟨o1, ho1, _⟩ := a4
   obtain ⟨o2, ho2, _⟩ := b4
   rcases hb with rfl | rfl | rfl | rfl | rfl
   ·exact ⟨_, z4⟩
   ·exact ⟨_, TI4⟩
   ·exact ⟨_, TO4⟩
   ·exact ⟨_, ho1⟩
   ·exact ⟨_, ho2⟩
  ·rw [Qt (ZH (all b hb))]; exact (hf b hb).1
 done := by
  intro X hP hw hK hc i pins s σ H E I hf st hg
  subst hP hw hK
  obtain ⟨hz, hTI, ⟨a0, b0, hTO⟩, h1, h2⟩ := st
  obtain ⟨xs, ys, hq1, hq2, hx⟩ := hg
  obtain ⟨its, rv, p, hzz⟩ := I.list hq1
  obtain ⟨its2, rv2, p2, hzz2⟩ := I.list hq2
  have free : ∀ l ys, SqL X.K H l ys -> ∀ b, b ∈ [z, TI, TO, i1, i2] -> l ≠ b := λ l ys hq b hb e => by
   subst e
   rcases hq with (hq | ⟨o, hq⟩) | ⟨o, its, n, hk, hc', _, hd', _⟩
   ·rw [(hf l hb).1] at hq; cases hq
   ·rw [(hf l hb).1] at hq; cases hq
   ·have e1 := I.kIn l o hk
    obtain ⟨o1, ho1, hcc1, hd1⟩ := id h1
    obtain ⟨o2, ho2, hcc2, hd2⟩ := id h2
    have hb : l = z ∨ l = TI ∨ l = TO ∨ l = i1 ∨ l = i2 := by simpa using hb
    rcases hb with rfl | rfl | rfl | rfl | rfl
    ·rw [hz] at e1; cases e1; simp at hc'
    ·rw [hTI] at e1; cases e1; simp at hc'
    ·rw [hTO] at e1; cases e1; simp at hc'
    ·rw [ho1] at e1; cases e1; rw [hc'] at hcc1; simp at hcc1
    ·rw [ho2] at e1; cases e1; rw [hc'] at hcc2; simp at hcc2
  have A1 := free l1 xs hq1
  have A2 := free l2 ys hq2
  have DD : ZipApart z TI TO i1 i2 l1 l2 := ⟨D.a, D.b, D.c, D.d, D.e, D.f, D.g, D.h, D.i, D.j, A1 z (by simp), A1 TO (by simp), A1 i1 (by simp), A1 i2 (by simp), A2 z (by simp), A2 TO (by simp), A2 i1 (by simp), A2 i2 (by simp)⟩
  have hl := rv.length
  have hl2 := rv2.length
  refine wpAny_pyNext_zip_end (I.ok.hd hc) DD hz hTI hTO h1 h2 p.isList p2.isList (by rcases hx with hx | hx; (left; simp; omega); (right; simp; omega)) λ h3 k3 => ⟨rfl, ?_⟩
  exact I.turns (t' := s.toks) hf λ b o hb q => k3 b o (λ e => hb (by simp [e])) (λ e => hb (by simp [e])) (λ e => hb (by simp [e])) (λ e => hb (by simp [e])) q
 self := λ _ _ _ _ _ st h => wpAny_pyIter_zip st.1 h
section
variable {X : Cx}
noncomputable def Qp7 (K : PySem.W.Frag) (ta : TA) : TI := λ σ H R => ta σ H λ vs H1 => ∃ a b, vs = [.ref a, .ref b] /\ (∃ xs, SqL K H1 a xs) /\ (∃ ys, SqL K H1 b ys) /\ R (Itz K a b) H1
theorem Qn9 {a b : Expr} {ta : TA} {p pos : Pos} {es : List Expr} {tk : Nat} {tpos : Pos} (hg : Gl X "zip") (hm : X.mg "zip" = none) (ha : PA X [a, b] ta) (hs : starEach [a, b] X.env = [(false, eval a X.env), (false, eval b X.env)]) (hs2 : starEach [b] X.env = [(false, eval b X.env)]) :
  PI X (.Tuple es tk tpos) (.Call (.Name "zip" p) [a, b] [] pos) (Qp7 X.K ta) := by
 intro pins s σ H R I h
 refine Call_ (Qce I hg hm PyProof.Rows.boot_zip (ZN (thn (ha pos pins s σ H _ I h) λ us s1 ⟨vs, H1, I1, r1, q1⟩ => ?_) (by rw [hs, hs2]) (by rw [hs2]; rfl)))
 obtain ⟨l, l2, e, ⟨xs, hq⟩, ⟨ys, hq2⟩, q⟩ := q1
 subst e
 obtain ⟨u, u2, rfl, ru, ru2⟩ := vals2 r1
 cases ru
 cases ru2
 obtain ⟨its, rv, pl, hz⟩ := I1.list hq
 obtain ⟨its2, rv2, pl2, hz2⟩ := I1.list hq2
 refine call_zip_2 pl.isList pl2.isList λ h2 hz hTI hTO h1 h2' hsz hk2 => ?_
 have I2 : Inv X pins σ H1 { s1 with heap := h2 } := I1.kept (t' := s1.toks) hk2
 refine wpAny_pyIter_zip hz ⟨_, [s1.heap.objs.size + 4, s1.heap.objs.size + 2, s1.heap.objs.size + 3, s1.heap.objs.size, s1.heap.objs.size + 1], _, _, H1, rfl, I2, Qle l l2 _ _ _ _ _ ⟨?_, ?_, ?_, ?_, ?_, ?_, ?_, ?_, ?_, ?_⟩, ⟨hz, hTI, ⟨_, _, hTO⟩, h1, h2'⟩, λ b hb => ?_, q⟩
 iterate 10 (exact (by intro e; first | (have e' : (s1.heap.objs.size : Nat) + _ = _ := e; omega) | (have e' : (s1.heap.objs.size : Nat) = _ := e; omega)))
 have hle : s1.heap.objs.size <= b := by
  simp only [Zt, List.not_mem_nil, or_false] at hb
  rcases hb with rfl | rfl | rfl | rfl | rfl <;> first | exact Zj _ | exact Nat.le_add_right _ _
 exact I1.Qi4 hle (I1.hok.fresh hle)
end
end L2
namespace L2
open PySem PySem.Spec
section
variable {prog : Program} {w : World} {A : Around} {E : Value -> Shared -> Prop} {s : Shared}
structure Six (z TI TO i1 i2 i3 : Addr) : Prop where
 TIz : TI ≠ z
 TOz : TO ≠ z
 i1z : i1 ≠ z
 i2z : i2 ≠ z
 i3z : i3 ≠ z
 TITO : TI ≠ TO
 TIi1 : TI ≠ i1
 TIi2 : TI ≠ i2
 TIi3 : TI ≠ i3
 TOi1 : TO ≠ i1
 TOi2 : TO ≠ i2
 TOi3 : TO ≠ i3
 i12 : i1 ≠ i2
 i13 : i1 ≠ i3
 i23 : i2 ≠ i3
end
section
variable {prog : Program} {w : World} {A : Around} {E : Value -> Shared -> Prop} {s : Shared}
end
open PyProof.Rows
section
variable {X : Cx}
end
end L2
namespace HS
open PySem PySem.Spec PyProof.Rows L2
inductive D where
 | non | bl (b : Bool) | int (i : Int) | str (x : Str) | tup (xs : List D) | lst (xs : List D) | exc (x : Str)
mutual
noncomputable def D.flat : D -> Bool
 | .lst _ => false
 | .tup xs => QG xs
 | .non => true
 | .bl _ => true
 | .int _ => true
 | .str _ => true
 | .exc _ => true
noncomputable def QG : List D -> Bool
 | [] => true
 | d :: ds => d.flat && QG ds
end
mutual
noncomputable def D.nl : D -> Nat
 | .lst xs => nls xs + 1
 | .tup xs => nls xs
 | .non => 0
 | .bl _ => 0
 | .int _ => 0
 | .str _ => 0
 | .exc _ => 0
noncomputable def nls : List D -> Nat
 | [] => 0
 | d :: ds => d.nl + nls ds
end
mutual
theorem Qcx : ∀ (d : D), d.flat = true -> d.nl = 0
 | .non, _ => rfl
 | .bl _, _ => rfl
 | .int _, _ => rfl
 | .str _, _ => rfl
 | .exc _, _ => rfl
 | .tup xs, h => by simp only [D.nl]; simp only [D.flat] at h; exact QeL xs h
 | .lst xs, h => by simp [D.flat] at h
theorem QeL : ∀ (ds : List D), QG ds = true -> nls ds = 0
 | [], _ => rfl
 | d :: ds, h => by simp only [QG, Zg] at h; simp only [nls, Qcx d h.1, QeL ds h.2]
end
def Fix (K : PySem.W.Frag) (H : Hp) (a : Addr) (vs : List V) : Prop :=
 (∃ o, H a = some (.frz o (.lst vs))) ∨
  ∃ (its : List Value) (n : Nat), K.lookup a = some { cls := .type "list", data := .seq its.toArray n } /\ vs.length <= sizeLine /\ Qj vs its
def Qqc (a C : Addr) (h : Heap) : Prop := ∃ o vs, h.get? a = some o /\ o.cls = .ref C /\ o.data = .fields vs
def ExcAt (K : PySem.W.Frag) (H : Hp) (a : Addr) (x : Str) : Prop := ∃ C, PySem.W.nsIn K mainGlobals x = some (some (.ref C)) /\ H a = some (.ext (Qqc a C))
theorem Qjl {K : PySem.W.Frag} {H H' : Hp} {a : Addr} {x : Str} (s : Qr H H') (h : ExcAt K H a x) : ExcAt K H' a x := by
 obtain ⟨C, h1, h2⟩ := h
 exact ⟨C, h1, s _ _ h2⟩
theorem QjT {K : PySem.W.Frag} {H : Hp} {a p : Addr} {x : Str} {zs ys : List V} (hp : H p = some (.lst zs)) (h : ExcAt K H a x) : ExcAt K (upd H p (.lst ys)) a x := by
 obtain ⟨C, h1, h2⟩ := h
 exact ⟨C, h1, by rw [Qt (QgW h2 hp (by intro z; cases z))]; exact h2⟩
mutual
noncomputable def Rp (K : PySem.W.Frag) (H : Hp) : D -> V -> List Addr -> Prop
 | .non, v, F => v = .non /\ F = []
 | .bl b, v, F => v = .bl b /\ F = []
 | .int i, v, F => v = .int i /\ F = []
 | .str x, v, F => v = .str x /\ F = []
 | .exc x, v, F => (∃ a, v = .ref a /\ ExcAt K H a x) /\ F = []
 | .tup ds, v, F => ∃ a vs, v = .ref a /\ SqT K H a vs /\ Rps K H ds vs F
 | .lst ds, v, F => ds.length <= sizeLine /\ ∃ a vs, v = .ref a /\ ((∃ G, F = a :: G /\ H a = some (.lst vs) /\ Rps K H ds vs G) ∨ (Fix K H a vs /\ Rps K H ds vs F))
noncomputable def Rps (K : PySem.W.Frag) (H : Hp) : List D -> List V -> List Addr -> Prop
 | [], vs, F => vs = [] /\ F = []
 | d :: ds, vs, F => ∃ v ws F1 F2, vs = v :: ws /\ F = F1 ++ F2 /\ Rp K H d v F1 /\ Rps K H ds ws F2
end
theorem Qhs {K : PySem.W.Frag} {H H' : Hp} {a : Addr} {vs : List V} (s : Qr H H') (h : SqT K H a vs) : SqT K H' a vs := by
 rcases h with (h | ⟨o, h⟩) | h
 ·exact .inl (.inl (s _ _ h))
 ·exact .inl (.inr ⟨o, s _ _ h⟩)
 ·exact .inr h
theorem QhQ {K : PySem.W.Frag} {H H' : Hp} {a : Addr} {vs : List V} (s : Qr H H') (h : Fix K H a vs) : Fix K H' a vs := by
 rcases h with ⟨o, h⟩ | h
 ·exact .inl ⟨o, s _ _ h⟩
 ·exact .inr h
theorem Qiq {K : PySem.W.Frag} {H : Hp} {a p : Addr} {vs zs ys : List V} (hp : H p = some (.lst zs)) (h : SqT K H a vs) : SqT K (upd H p (.lst ys)) a vs := by
 rcases h with (h | ⟨o, h⟩) | h
 ·exact .inl (.inl (by rw [Qt (QgW h hp (by intro z; cases z))]; exact h))
 ·exact .inl (.inr ⟨o, by rw [Qt (QgW h hp (by intro z; cases z))]; exact h⟩)
 ·exact .inr h
theorem Qna {K : PySem.W.Frag} {H : Hp} {a p : Addr} {vs zs ys : List V} (hp : H p = some (.lst zs)) (h : Fix K H a vs) : Fix K (upd H p (.lst ys)) a vs := by
 rcases h with ⟨o, h⟩ | h
 ·exact .inl ⟨o, by rw [Qt (QgW h hp (by intro z; cases z))]; exact h⟩
 ·exact .inr h
section
variable {K : PySem.W.Frag} {H H' : Hp}
mutual
theorem Rp.same (s : Qr H H') : ∀ {d : D} {v : V} {F : List Addr}, Rp K H d v F -> Rp K H' d v F
 | .exc _, _, _, h => by
  simp only [Rp] at h ⊢
  obtain ⟨⟨a, e, q⟩, z⟩ := h
  exact ⟨⟨a, e, Qjl s q⟩, z⟩
 | .non, _, _, h => h
 | .bl _, _, _, h => h
 | .int _, _, _, h => h
 | .str _, _, _, h => h
 | .tup ds, _, _, h => by
  simp only [Rp] at h ⊢
  obtain ⟨a, vs, e, q, r⟩ := h
  exact ⟨a, vs, e, Qhs s q, Rps.same s r⟩
 | .lst ds, _, _, h => by
  simp only [Rp] at h ⊢
  obtain ⟨hz, a, vs, e, ⟨G, eF, q, r⟩ | ⟨q, r⟩⟩ := h
  ·exact ⟨hz, a, vs, e, .inl ⟨G, eF, s _ _ q, Rps.same s r⟩⟩
  ·exact ⟨hz, a, vs, e, .inr ⟨QhQ s q, Rps.same s r⟩⟩
theorem Rps.same (s : Qr H H') : ∀ {ds : List D} {vs : List V} {F : List Addr}, Rps K H ds vs F -> Rps K H' ds vs F
 | [], _, _, h => h
 | d :: ds, _, _, h => by
  simp only [Rps] at h ⊢
  obtain ⟨v, ws, F1, F2, e, eF, r, q⟩ := h
  exact ⟨v, ws, F1, F2, e, eF, Rp.same s r, Rps.same s q⟩
end
mutual
theorem Rp.upd {p : Addr} {zs ys : List V} (hp : H p = some (.lst zs)) : ∀ {d : D} {v : V} {F : List Addr}, Rp K H d v F -> p ∉ F -> Rp K (upd H p (.lst ys)) d v F
 | .exc _, _, _, h, _ => by
  simp only [Rp] at h ⊢
  obtain ⟨⟨a, e, q⟩, z⟩ := h
  exact ⟨⟨a, e, QjT hp q⟩, z⟩
 | .non, _, _, h, _ => h
 | .bl _, _, _, h, _ => h
 | .int _, _, _, h, _ => h
 | .str _, _, _, h, _ => h
 | .tup ds, _, _, h, hn => by
  simp only [Rp] at h ⊢
  obtain ⟨a, vs, e, q, r⟩ := h
  exact ⟨a, vs, e, Qiq hp q, Rps.upd hp r hn⟩
 | .lst ds, _, _, h, hn => by
  simp only [Rp] at h ⊢
  obtain ⟨hz, a, vs, e, ⟨G, eF, q, r⟩ | ⟨q, r⟩⟩ := h
  ·subst eF
   have h1 : a ≠ p := λ z => hn (by rw [z]; exact Zi)
   exact ⟨hz, a, vs, e, .inl ⟨G, rfl, by rw [Qt h1]; exact q, Rps.upd hp r λ z => hn (Zd _ z)⟩⟩
  ·exact ⟨hz, a, vs, e, .inr ⟨Qna hp q, Rps.upd hp r hn⟩⟩
theorem Rps.upd {p : Addr} {zs ys : List V} (hp : H p = some (.lst zs)) : ∀ {ds : List D} {vs : List V} {F : List Addr}, Rps K H ds vs F -> p ∉ F -> Rps K (upd H p (.lst ys)) ds vs F
 | [], _, _, h, _ => h
 | d :: ds, _, _, h, hn => by
  simp only [Rps] at h ⊢
  obtain ⟨v, ws, F1, F2, e, eF, r, q⟩ := h
  subst eF
  exact ⟨v, ws, F1, F2, e, rfl, Rp.upd hp r λ z => hn (Zf _ z), Rps.upd hp q λ z => hn (Zb _ z)⟩
end
mutual
theorem Rp.mem : ∀ {d : D} {v : V} {F : List Addr}, Rp K H d v F -> ∀ a ∈ F, ∃ vs, H a = some (.lst vs)
 | .non, _, _, h, a, ha => by simp only [Rp] at h; rw [h.2] at ha; simp at ha
 | .bl _, _, _, h, a, ha => by simp only [Rp] at h; rw [h.2] at ha; simp at ha
 | .int _, _, _, h, a, ha => by simp only [Rp] at h; rw [h.2] at ha; simp at ha
 | .str _, _, _, h, a, ha => by simp only [Rp] at h; rw [h.2] at ha; simp at ha
 | .exc _, _, _, h, a, ha => by simp only [Rp] at h; rw [h.2] at ha; simp at ha
 | .tup ds, _, _, h, a, ha => by
  simp only [Rp] at h
  obtain ⟨_, vs, e, q, r⟩ := h
  exact Rps.mem r a ha
 | .lst ds, _, _, h, a, ha => by
  simp only [Rp] at h
  obtain ⟨_, b, vs, e, ⟨G, eF, q, r⟩ | ⟨q, r⟩⟩ := h
  ·subst eF
   rcases Zt.mp ha with z | z
   ·exact ⟨vs, by rw [z]; exact q⟩
   ·exact Rps.mem r a z
  ·exact Rps.mem r a ha
theorem Rps.mem : ∀ {ds : List D} {vs : List V} {F : List Addr}, Rps K H ds vs F -> ∀ a ∈ F, ∃ vs, H a = some (.lst vs)
 | [], _, _, h, a, ha => by simp only [Rps] at h; rw [h.2] at ha; simp at ha
 | d :: ds, _, _, h, a, ha => by
  simp only [Rps] at h
  obtain ⟨v, ws, F1, F2, e, eF, r, q⟩ := h
  subst eF
  rcases Zx.mp ha with z | z
  ·exact Rp.mem r a z
  ·exact Rps.mem q a z
end
mutual
theorem Rp.QaZ : ∀ {d : D} {v : V} {F : List Addr}, Rp K H d v F -> d.flat = true -> F = []
 | .non, _, _, h, _ => by simp only [Rp] at h; exact h.2
 | .bl _, _, _, h, _ => by simp only [Rp] at h; exact h.2
 | .int _, _, _, h, _ => by simp only [Rp] at h; exact h.2
 | .str _, _, _, h, _ => by simp only [Rp] at h; exact h.2
 | .exc _, _, _, h, _ => by simp only [Rp] at h; exact h.2
 | .tup ds, _, _, h, hf => by
  simp only [Rp] at h
  simp only [D.flat] at hf
  obtain ⟨_, vs, e, q, r⟩ := h
  exact Rps.QaZ r hf
 | .lst ds, _, _, h, hf => by simp [D.flat] at hf
theorem Rps.QaZ : ∀ {ds : List D} {vs : List V} {F : List Addr}, Rps K H ds vs F -> QG ds = true -> F = []
 | [], _, _, h, _ => by simp only [Rps] at h; exact h.2
 | d :: ds, _, _, h, hf => by
  simp only [Rps] at h
  simp only [QG, Zg] at hf
  obtain ⟨v, ws, F1, F2, e, eF, r, q⟩ := h
  rw [eF, Rp.QaZ r hf.1, Rps.QaZ q hf.2]; rfl
end
mutual
theorem Rp.Q3 : ∀ {d : D} {v : V} {F : List Addr}, Rp K H d v F -> F.length <= d.nl
 | .non, _, _, h => by simp only [Rp] at h; rw [h.2]; exact ZI _
 | .bl _, _, _, h => by simp only [Rp] at h; rw [h.2]; exact ZI _
 | .int _, _, _, h => by simp only [Rp] at h; rw [h.2]; exact ZI _
 | .str _, _, _, h => by simp only [Rp] at h; rw [h.2]; exact ZI _
 | .exc _, _, _, h => by simp only [Rp] at h; rw [h.2]; exact ZI _
 | .tup ds, _, _, h => by
  simp only [Rp] at h
  obtain ⟨_, vs, e, q, r⟩ := h
  simp only [D.nl]
  exact Rps.Q3 r
 | .lst ds, _, _, h => by
  simp only [Rp] at h
  simp only [D.nl]
  obtain ⟨_, b, vs, e, ⟨G, eF, q, r⟩ | ⟨q, r⟩⟩ := h
  ·rw [eF, Zz]; have := Rps.Q3 r; omega
  ·have := Rps.Q3 r; omega
theorem Rps.Q3 : ∀ {ds : List D} {vs : List V} {F : List Addr}, Rps K H ds vs F -> F.length <= nls ds
 | [], _, _, h => by simp only [Rps] at h; rw [h.2]; exact ZI _
 | d :: ds, _, _, h => by
  simp only [Rps] at h
  obtain ⟨v, ws, F1, F2, e, eF, r, q⟩ := h
  simp only [nls]
  rw [eF, Zs]
  have := Rp.Q3 r
  have := Rps.Q3 q
  omega
end
theorem Rps.length : ∀ {ds : List D} {vs : List V} {F : List Addr}, Rps K H ds vs F -> ds.length = vs.length
 | [], _, _, h => by simp only [Rps] at h; rw [h.1]; rfl
 | d :: ds, _, _, h => by
  simp only [Rps] at h
  obtain ⟨v, ws, F1, F2, e, eF, r, q⟩ := h
  rw [e, Zz, Zz, Rps.length q]
theorem Rps.append : ∀ {ds es : List D} {vs ws : List V} {F G : List Addr}, Rps K H ds vs F -> Rps K H es ws G -> Rps K H (ds ++ es) (vs ++ ws) (F ++ G)
 | [], _, _, _, _, _, h, g => by simp only [Rps] at h; rw [h.1, h.2]; exact g
 | d :: ds, _, _, _, _, _, h, g => by
  simp only [Rps, Zbe] at h ⊢
  obtain ⟨v, ws, F1, F2, e, eF, r, q⟩ := h
  subst e eF
  exact ⟨v, _, F1, _, rfl, by rw [Zaz], r, Rps.append q g⟩
theorem Rps.get : ∀ {ds : List D} {vs : List V} {F : List Addr} {i : Nat} {d : D}, Rps K H ds vs F -> ds[i]? = some d -> ∃ v F1 G F2, vs[i]? = some v /\ F = F1 ++ (G ++ F2) /\ Rp K H d v G /\ (F.length = nls ds -> G.length = d.nl)
 | [], _, _, _, _, _, e => by simp at e
 | d :: ds, _, _, 0, _, h, e => by
  simp only [Rps] at h
  obtain ⟨v, ws, F1, F2, e1, eF, r, q⟩ := h
  simp at e; subst e e1 eF
  refine ⟨v, [], F1, F2, by simp, rfl, r, λ hl => ?_⟩
  simp only [nls, Zs] at hl
  have := Rp.Q3 r
  have := Rps.Q3 q
  omega
 | d :: ds, _, _, i + 1, _, h, e => by
  simp only [Rps] at h
  obtain ⟨v, ws, F1, F2, e1, eF, r, q⟩ := h
  obtain ⟨v', G1, G, G2, h1, h2, h3, h4⟩ := Rps.get q (i := i) (by simpa using e)
  have l1 := Rp.Q3 r
  have l2 := Rps.Q3 q
  subst e1 eF
  refine ⟨v', F1 ++ G1, G, G2, by simpa using h1, by rw [h2, Zaz], h3, λ hl => h4 ?_⟩
  simp only [nls, Zs] at hl
  omega
theorem Fix.sq {K : PySem.W.Frag} {H : Hp} {a : Addr} {vs : List V} (h : Fix K H a vs) : SqL K H a vs := by
 rcases h with ⟨o, h⟩ | ⟨its, n, h, hz, r⟩
 ·exact .inl (.inr ⟨o, h⟩)
 ·exact .inr ⟨_, its.toArray, n, h, rfl, rfl, rfl, by rw [Zo, ← r.length]; exact hz, by simpa using r⟩
theorem _root_.L2.Inv.Qhm {X : Cx} {pins : List (Addr × Obj)} {σ : L2.St} {H : Hp} {s : Shared} {a : Addr} {vs : List V} (I : Inv X pins σ H s) (h : H a = some (.lst vs) ∨ Fix X.K H a vs) :
  vs.length <= sizeLine /\ ∃ (its : List Value) (n : Nat), Qj vs its /\ vs.length = its.length /\ s.heap.get? a = some { cls := .type "list", data := .seq its.toArray n } := by
 rcases h with h | ⟨o, h⟩ | ⟨its, n, h, hz, r⟩
 ·exact I.QkJ h
 ·obtain ⟨e, hz, its, n, r, e2⟩ := I.hok a _ h
  exact ⟨hz, its, n, r, r.length, e2⟩
 ·exact ⟨hz, its, n, r, r.length, I.kIn _ _ h⟩
theorem Rp.lst_inv {K : PySem.W.Frag} {H : Hp} {ds : List D} {v : V} {F : List Addr} (h : Rp K H (.lst ds) v F) :
  ∃ a vs G, v = .ref a /\ (H a = some (.lst vs) ∨ Fix K H a vs) /\ Rps K H ds vs G /\ ds.length <= sizeLine /\ (F = a :: G ∨ F = G) := by
 simp only [Rp] at h
 obtain ⟨hz, a, vs, e, ⟨G, eF, q, r⟩ | ⟨q, r⟩⟩ := h
 ·exact ⟨a, vs, G, e, .inl q, r, hz, .inl eF⟩
 ·exact ⟨a, vs, F, e, .inr q, r, hz, .inr rfl⟩
theorem QS {K : PySem.W.Frag} {H : Hp} {a : Addr} {vs : List V} (h : H a = some (.lst vs) ∨ Fix K H a vs) : SqL K H a vs := h.elim (λ h => SqL.of h) Fix.sq
theorem Rp.Qaf {K : PySem.W.Frag} {H : Hp} {ds : List D} {v : V} {F : List Addr} (h : Rp K H (.tup ds) v F) : ∃ a vs, v = .ref a /\ SqT K H a vs /\ Rps K H ds vs F := by
 simp only [Rp] at h
 exact h
theorem Rp.Qcc {K : PySem.W.Frag} {H : Hp} {ds : List D} {a : Addr} {vs : List V} {G : List Addr} (h : H a = some (.lst vs)) (r : Rps K H ds vs G) (hz : ds.length <= sizeLine) : Rp K H (.lst ds) (.ref a) (a :: G) := by
 simp only [Rp]
 exact ⟨hz, a, vs, rfl, .inl ⟨G, rfl, h, r⟩⟩
theorem Rp.QhN {K : PySem.W.Frag} {H : Hp} {ds : List D} {a : Addr} {vs : List V} {G : List Addr} (h : H a = some (.tup vs)) (r : Rps K H ds vs G) : Rp K H (.tup ds) (.ref a) G := by
 simp only [Rp]
 exact ⟨a, vs, rfl, SqT.of h, r⟩
theorem Rp.int_inv {K : PySem.W.Frag} {H : Hp} {i : Int} {v : V} {F : List Addr} (h : Rp K H (.int i) v F) : v = .int i := by simp only [Rp] at h; exact h.1
theorem Rp.Qd6 {K : PySem.W.Frag} {H : Hp} {i : Bool} {v : V} {F : List Addr} (h : Rp K H (.bl i) v F) : v = .bl i := by simp only [Rp] at h; exact h.1
theorem Rp.QfY {K : PySem.W.Frag} {H : Hp} {v : V} {F : List Addr} (h : Rp K H .non v F) : v = .non := by simp only [Rp] at h; exact h.1
theorem Rp.str_inv {K : PySem.W.Frag} {H : Hp} {i : Str} {v : V} {F : List Addr} (h : Rp K H (.str i) v F) : v = .str i := by simp only [Rp] at h; exact h.1
theorem Rp.int_mk {K : PySem.W.Frag} {H : Hp} {i : Int} : Rp K H (.int i) (.int i) [] := by simp [Rp]
theorem Rp.QbF {K : PySem.W.Frag} {H : Hp} {i : Bool} : Rp K H (.bl i) (.bl i) [] := by simp [Rp]
theorem Rp.Qfh {K : PySem.W.Frag} {H : Hp} : Rp K H .non .non [] := by simp [Rp]
theorem Rp.str_mk {K : PySem.W.Frag} {H : Hp} {i : Str} : Rp K H (.str i) (.str i) [] := by simp [Rp]
theorem Qa2 {H : Hp} {p : Addr} {o : HO} (h : H p = none) : Qr H (L2.upd H p o) := λ b u e => by rw [Qt (Qat e h)]; exact e
end
end HS
namespace HS
open PySem PySem.Spec L2
noncomputable abbrev En := List (Option (D × Bool))
structure R where
 d : D
 fr : Bool
 M : List Nat
structure RA where
 ds : List D
 fr : Bool
 M : List Nat
noncomputable abbrev DE := En -> Option R
noncomputable abbrev DA := En -> Option RA
noncomputable abbrev DT := En -> Option Bool
structure Rel (K : PySem.W.Frag) (H0 : Hp) (A0 : List Addr) (hs : List (V × D × List Addr)) (ρ : En) (F : Nat -> List Addr) (σ : St) (H : Hp) : Prop where
 len : ρ.length = σ.length
 val : ∀ (i : Nat) d b, ρ[i]? = some (some (d, b)) -> ∃ v, σ[i]? = some (some v) /\ Rp K H d v (F i)
 own : ∀ (i : Nat) d, ρ[i]? = some (some (d, true)) -> (F i).length = d.nl /\ (F i).Nodup /\ (∀ a ∈ F i, H0 a = none) /\ (∀ (j : Nat) d' b', j ≠ i -> ρ[j]? = some (some (d', b')) -> ∀ a ∈ F i, a ∉ F j) /\ ∀ t ∈ hs, ∀ a ∈ F i, a ∉ t.2.2
 src : ∀ (i : Nat) d b, ρ[i]? = some (some (d, b)) -> ∀ a ∈ F i, H0 a = none ∨ a ∈ A0
 held : ∀ t ∈ hs, Rp K H t.2.1 t.1 t.2.2 /\ ∀ a ∈ t.2.2, H0 a = none ∨ a ∈ A0
 same : Qr H0 H
def Src (ρ : En) (F : Nat -> List Addr) (H : Hp) (M : List Nat) (G : List Addr) : Prop :=
 ∀ a ∈ G, H a = none ∨ ∃ (i : Nat) (d : D) (b : Bool), ρ[i]? = some (some (d, b)) /\ a ∈ F i /\ (b = true -> i ∈ M)
noncomputable def nw (H : Hp) (a : Addr) : Nat := match H a with | none => 1 | some _ => 0
def Cnt (F : Nat -> List Addr) (H : Hp) (M : List Nat) (G : List Addr) : Prop :=
 ∀ a, G.count a <= nw H a + ((M.map F).flatten).count a
def Qak (ρ : En) (M : List Nat) : Prop := ∀ i ∈ M, ∃ d, ρ[i]? = some (some (d, true))
structure QH (K : PySem.W.Frag) (ρ : En) (F : Nat -> List Addr) (H H' : Hp) (r : R) (v : V) (G : List Addr) : Prop where
 same : Qr H H'
 rp : Rp K H' r.d v G
 src : Src ρ F H r.M G
 cnt : r.fr = true -> Cnt F H r.M G /\ G.length = r.d.nl
 own : Qak ρ r.M
structure Qpc (K : PySem.W.Frag) (ρ : En) (F : Nat -> List Addr) (H H' : Hp) (r : RA) (vs : List V) (G : List Addr) : Prop where
 same : Qr H H'
 rp : Rps K H' r.ds vs G
 src : Src ρ F H r.M G
 cnt : r.fr = true -> Cnt F H r.M G /\ G.length = nls r.ds
 own : Qak ρ r.M
noncomputable def tV (K : PySem.W.Frag) (H0 : Hp) (A0 : List Addr) (f : DE) : TE := λ σ H Q => ∃ ρ hs F r, Rel K H0 A0 hs ρ F σ H /\ f ρ = some r /\ ∀ v H' G, QH K ρ F H H' r v G -> Q v H'
noncomputable def tVA (K : PySem.W.Frag) (H0 : Hp) (A0 : List Addr) (f : DA) : TA := λ σ H Q => ∃ ρ hs F r, Rel K H0 A0 hs ρ F σ H /\ f ρ = some r /\ ∀ v H' G, Qpc K ρ F H H' r v G -> Q v H'
noncomputable def tVT (K : PySem.W.Frag) (H0 : Hp) (A0 : List Addr) (f : DT) : TT := λ σ H Q => ∃ ρ hs F b, Rel K H0 A0 hs ρ F σ H /\ f ρ = some b /\ ∀ H', Qr H H' -> Q b H'
def SE (X : Cx) (e : Expr) (f : DE) : Prop := ∀ H0 A0, PE X e (tV X.K H0 A0 f)
def SA (X : Cx) (es : List Expr) (f : DA) : Prop := ∀ H0 A0, PA X es (tVA X.K H0 A0 f)
def ST (X : Cx) (e : Expr) (f : DT) : Prop := ∀ H0 A0, PT X e (tVT X.K H0 A0 f)
theorem _root_.L2.PE.mono {X : Cx} {e : Expr} {t t' : TE} (h : PE X e t) (m : ∀ σ H Q, t' σ H Q -> t σ H Q) : PE X e t' := λ pins s σ H Q I q => h pins s σ H Q I (m σ H Q q)
theorem _root_.L2.PT.mono {X : Cx} {e : Expr} {t t' : TT} (h : PT X e t) (m : ∀ σ H Q, t' σ H Q -> t σ H Q) : PT X e t' := λ pins s σ H Q I q => h pins s σ H Q I (m σ H Q q)
theorem _root_.L2.PA.mono {X : Cx} {e : List Expr} {t t' : TA} (h : PA X e t) (m : ∀ σ H Q, t' σ H Q -> t σ H Q) : PA X e t' := λ pos pins s σ H Q I q => h pos pins s σ H Q I (m σ H Q q)
section
variable {K : PySem.W.Frag} {H0 H H' : Hp} {A0 : List Addr} {hs : List (V × D × List Addr)} {ρ : En} {F : Nat -> List Addr} {σ : St}
theorem Rel.ext (r : Rel K H0 A0 hs ρ F σ H) (s : Qr H H') : Rel K H0 A0 hs ρ F σ H' where
 len := r.len
 val := λ i d b e => let ⟨v, h1, h2⟩ := r.val i d b e; ⟨v, h1, h2.same s⟩
 own := r.own
 src := r.src
 held := λ t ht => ⟨(r.held t ht).1.same s, (r.held t ht).2⟩
 same := r.same.trans s
theorem Rel.mem (r : Rel K H0 A0 hs ρ F σ H) {i : Nat} {d : D} {b : Bool} (e : ρ[i]? = some (some (d, b))) {a : Addr} (h : a ∈ F i) : ∃ vs, H a = some (.lst vs) :=
 let ⟨_, _, h2⟩ := r.val i d b e; h2.mem a h
theorem QbP {a : Addr} {o : HO} (h : H a = some o) : nw H a = 0 := by simp [nw, h]
theorem Qag {a : Addr} (h : H a = none) : nw H a = 1 := by simp [nw, h]
theorem Rel.fl0 (r : Rel K H0 A0 hs ρ F σ H) {M : List Nat} (ow : Qak ρ M) {a : Addr} (h : H a = none) : ((M.map F).flatten).count a = 0 := by
 rw [ZC]
 intro hm
 obtain ⟨l, hl, ha⟩ := ZaI.mp hm
 obtain ⟨i, hi, rfl⟩ := Zag.mp hl
 obtain ⟨d, e⟩ := ow i hi
 obtain ⟨vs, q⟩ := r.mem e ha
 rw [h] at q; cases q
theorem Cnt.append (r : Rel K H0 A0 hs ρ F σ H) {H1 : Hp} {M1 M2 : List Nat} {G1 G2 : List Addr} (c1 : Cnt F H M1 G1) (c2 : Cnt F H1 M2 G2) (s : Qr H H1) (m1 : ∀ a ∈ G1, ∃ vs, H1 a = some (.lst vs)) : Cnt F H (M1 ++ M2) (G1 ++ G2) := λ a => by
 rw [ZT, Zam, List.flatten_append, ZT]
 have h1 := c1 a
 have h2 := c2 a
 cases q : H1 a with
 | some o => rw [QbP q] at h2; omega
 | none =>
  rw [Qag q] at h2
  have h3 : H a = none := s.free q
  rw [Qag h3] at h1 ⊢
  have h4 : G1.count a = 0 := ZC.mpr λ hm => by obtain ⟨vs, z⟩ := m1 a hm; rw [q] at z; cases z
  omega
theorem Src.append {H1 : Hp} {M1 M2 : List Nat} {G1 G2 : List Addr} (c1 : Src ρ F H M1 G1) (c2 : Src ρ F H1 M2 G2) (s : Qr H H1) : Src ρ F H (M1 ++ M2) (G1 ++ G2) := λ a ha => by
 rcases Zx.mp ha with h | h
 ·rcases c1 a h with z | ⟨i, d, b, e, m, w⟩
  ·exact .inl z
  ·exact .inr ⟨i, d, b, e, m, λ hb => Zf _ (w hb)⟩
 ·rcases c2 a h with z | ⟨i, d, b, e, m, w⟩
  ·exact .inl (s.free z)
  ·exact .inr ⟨i, d, b, e, m, λ hb => Zb _ (w hb)⟩
theorem Qak.append {M1 M2 : List Nat} (h1 : Qak ρ M1) (h2 : Qak ρ M2) : Qak ρ (M1 ++ M2) := λ i hi => (Zx.mp hi).elim (h1 i) (h2 i)
theorem Qak.nil : Qak ρ [] := λ i hi => by simp at hi
theorem Src.nil {M : List Nat} : Src ρ F H M [] := λ a ha => by simp at ha
theorem Cnt.nil {M : List Nat} : Cnt F H M [] := λ a => by simp
theorem QH.flat {d : D} {v : V} (s : Qr H H') (r : Rp K H' d v []) (hf : d.flat = true := by rfl) : QH K ρ F H H' ⟨d, true, []⟩ v [] := ⟨s, r, Src.nil, λ _ => ⟨Cnt.nil, (Qcx d hf).symm⟩, Qak.nil⟩
theorem QH.sub {r : R} {v u : V} {d : D} {G G' : List Addr} {H1 : Hp} (p : QH K ρ F H H1 r v G) (rp : Rp K H1 d u G') (hs : ∀ a, G'.count a <= G.count a) (hn : G.length = r.d.nl -> G'.length = d.nl) : QH K ρ F H H1 ⟨d, r.fr, r.M⟩ u G' where
 same := p.same
 rp := rp
 src := λ a ha => p.src a (by
  have := hs a
  have h1 : 0 < G'.count a := Zab.mpr ha
  exact Zab.mp (by omega))
 cnt := λ h => ⟨λ a => Zr (hs a) ((p.cnt h).1 a), hn (p.cnt h).2⟩
 own := p.own
noncomputable def R.norm (r : R) : R := if r.d.flat then ⟨r.d, true, []⟩ else r
theorem R.Qbi (r : R) : r.norm.d = r.d := by unfold R.norm; split <;> rfl
theorem QH.norm {r : R} {v : V} {G : List Addr} (p : QH K ρ F H H' r v G) : QH K ρ F H H' r.norm v G := by
 unfold R.norm
 split
 ·rename_i h
  have := p.rp.QaZ h
  subst this
  exact .flat p.same p.rp h
 ·exact p
end
noncomputable def Qa (i : Nat) : DE := λ ρ => match ρ[i]? with
 | some (some (d, b)) => if d.flat then some ⟨d, true, []⟩ else if b then some ⟨d, true, [i]⟩ else some ⟨d, false, []⟩
 | _ => none
noncomputable def dC (d : D) : DE := λ _ => some ⟨d, true, []⟩
section
variable {X : Cx}
theorem Qnx {i : Nat} {x : Str} {pos : Pos} (h : PE X (.Name x pos) (QeO i)) : SE X (.Name x pos) (Qa i) := λ H0 A0 => h.mono λ σ H Q ⟨ρ, hs, F, r, rel, e, q⟩ => by
 unfold Qa at e
 split at e
 ·rename_i d b q1
  obtain ⟨v, h1, h2⟩ := rel.val i d b q1
  refine ⟨v, h1, q v H (F i) ?_⟩
  split at e
  ·rename_i hf
   cases e
   have := h2.QaZ hf
   rw [this] at h2 ⊢
   exact .flat (Qr.refl _) h2 hf
  ·split at e
   ·rename_i hb
    cases e
    subst hb
    exact ⟨Qr.refl _, h2, λ a ha => .inr ⟨i, d, true, q1, ha, λ _ => by simp⟩, λ _ => ⟨λ a => (by simp), (rel.own i d q1).1⟩, λ j hj => by simp at hj; subst hj; exact ⟨d, q1⟩⟩
   ·rename_i hb
    cases e
    simp at hb
    subst hb
    exact ⟨Qr.refl _, h2, λ a ha => .inr ⟨i, d, false, q1, ha, λ z => by cases z⟩, λ z => (by cases z), Qak.nil⟩
 ·cases e
theorem Qhb {e : Expr} {d : D} {v : V} (h : PE X e (tC v)) (r : ∀ K H, Rp K H d v []) (hf : d.flat = true) : SE X e (dC d) := λ H0 A0 => h.mono λ σ H Q ⟨ρ, hs, F, r', rel, e, q⟩ => by
 cases e
 exact q v H [] (.flat (Qr.refl _) (r _ _) hf)
theorem two {K : PySem.W.Frag} {H0 : Hp} {A0 : List Addr} {fa fb : DE} {σ : St} {H : Hp} {hs : List (V × D × List Addr)} {ρ : En} {F : Nat -> List Addr} {ra rb : R} {Rr : V -> V -> Hp -> Prop} (rel : Rel K H0 A0 hs ρ F σ H) (ea : fa ρ = some ra) (eb : fb ρ = some rb)
  (k : ∀ x y H1 H2 G1 G2, QH K ρ F H H1 ra x G1 -> QH K ρ F H1 H2 rb y G2 -> Rr x y H2) : tV K H0 A0 fa σ H λ x H1 => tV K H0 A0 fb σ H1 λ y H2 => Rr x y H2 :=
 ⟨ρ, hs, F, ra, rel, ea, λ x H1 G1 p1 => ⟨ρ, hs, F, rb, rel.ext p1.same, eb, λ y H2 G2 p2 => k x y H1 H2 G1 G2 p1 p2⟩⟩
noncomputable def dOp (g : D -> D -> Option D) (fa fb : DE) : DE := λ ρ => (fa ρ).bind λ ra => (fb ρ).bind λ rb => (g ra.d rb.d).map λ d => ⟨d, true, []⟩
theorem QfO {g : D -> D -> Option D} {fa fb : DE} {ρ : En} {r : R} (e : dOp g fa fb ρ = some r) : ∃ ra rb d, fa ρ = some ra /\ fb ρ = some rb /\ g ra.d rb.d = some d /\ r = ⟨d, true, []⟩ := by
 unfold dOp at e
 cases h1 : fa ρ with
 | none => rw [h1] at e; cases e
 | some ra =>
  cases h2 : fb ρ with
  | none => rw [h1, h2] at e; cases e
  | some rb =>
   rw [h1, h2] at e
   cases h3 : g ra.d rb.d with
   | none => simp [h3] at e
   | some d => simp [h3] at e; exact ⟨ra, rb, d, rfl, rfl, h3, e.symm⟩
def Qbe (K : PySem.W.Frag) (g : D -> D -> Option D) (r : R2) : Prop := ∀ a b d, g a b = some d -> d.flat = true /\ ∀ H x y F G (Q : VK), Rp K H a x F -> Rp K H b y G -> (∀ v, (∀ H', Rp K H' d v []) -> Q v H) -> r x y H Q
theorem QgU {a b : Expr} {op : Operator} {pos : Pos} {fa fb : DE} {g : D -> D -> Option D} {r : R2} (ho : OpR X (binaryOp op) r) (hg : Qbe X.K g r) (ha : SE X a fa) (hb : SE X b fb) : SE X (.BinOp a op b pos) (dOp g fa fb) := λ H0 A0 =>
 (Qja ho (ha H0 A0) (hb H0 A0)).mono λ σ H Q ⟨ρ, hs, F, r', rel, e, q⟩ => by
  obtain ⟨ra, rb, d, ea, eb, eg, rfl⟩ := QfO e
  refine two rel ea eb λ x y H1 H2 G1 G2 p1 p2 => (hg _ _ _ eg).2 H2 x y G1 G2 Q (p1.rp.same p2.same) p2.rp λ v hv => ?_
  exact q v H2 [] (.flat (p1.same.trans p2.same) (hv H2) (hg _ _ _ eg).1)
theorem Qou {a b : Expr} {op : CmpOp} {pos : Pos} {fa fb : DE} {g : D -> D -> Option D} {r : R2} (ho : OpR X (compareOp op) r) (hg : Qbe X.K g r) (ha : SE X a fa) (hb : SE X b fb) (hm : behindInMarks op b = false) : SE X (.Compare a [op] [b] pos) (dOp g fa fb) := λ H0 A0 =>
 (Qmh ho (ha H0 A0) (hb H0 A0) hm).mono λ σ H Q ⟨ρ, hs, F, r', rel, e, q⟩ => by
  obtain ⟨ra, rb, d, ea, eb, eg, rfl⟩ := QfO e
  refine two rel ea eb λ x y H1 H2 G1 G2 p1 p2 => (hg _ _ _ eg).2 H2 x y G1 G2 Q (p1.rp.same p2.same) p2.rp λ v hv => ?_
  exact q v H2 [] (.flat (p1.same.trans p2.same) (hv H2) (hg _ _ _ eg).1)
end
end HS
namespace HS
open PySem PySem.Spec L2
noncomputable def QbW (i j : Int) : Int := if 0 <= j then i / j else i.fdiv j
noncomputable def QcH (i j : Int) : Int := if 0 <= j then i % j else i.fmod j
theorem QfJ (i j : Int) : QbW i j = i.fdiv j := by
 unfold QbW; split
 ·rw [Int.fdiv_eq_ediv_of_nonneg _ (by assumption)]
 ·rfl
theorem QiC (i j : Int) : QcH i j = i.fmod j := by
 unfold QcH; split
 ·rw [Int.fmod_eq_emod_of_nonneg _ (by assumption)]
 ·rfl
noncomputable def QbJ (i j : Int) : Bool := decide (i.natAbs < 2 ^ 64) || decide (j.natAbs < 2 ^ 64) || (decide (Builtin.Int.intBits i <= 2 ^ 20) && decide (Builtin.Int.intBits j <= 2 ^ 20))
noncomputable def QaL (j : Int) : Bool := decide (j ≠ 0) && decide (j.natAbs < 2 ^ 8000)
noncomputable def gI (f : Int -> Int -> Option D) (a b : D) : Option D := match a, b with
 | .int i, .int j => f i j
 | _, _ => none
noncomputable def Qb9 := gI λ i j => some (.int (i - j))
noncomputable def QdX := gI λ i j => if QaL j then some (.int (QbW i j)) else none
noncomputable def Qbf := gI λ i j => if j ≠ 0 then some (.int (QcH i j)) else none
noncomputable def Qb2 := gI λ i j => if 0 <= j /\ j <= 1000 /\ i.natAbs < 2 ^ 200 then some (.int (i ^ j.toNat)) else none
noncomputable def gLt := gI λ i j => some (.bl (decide (i < j)))
noncomputable def gLe := gI λ i j => some (.bl (decide (i <= j)))
noncomputable def gGt := gI λ i j => some (.bl (decide (j < i)))
noncomputable def gGe := gI λ i j => some (.bl (decide (j <= i)))
theorem QjO {f : Int -> Int -> Option D} {a b d : D} (h : gI f a b = some d) : ∃ i j, a = .int i /\ b = .int j /\ f i j = some d := by
 unfold gI at h
 split at h
 ·exact ⟨_, _, rfl, rfl, h⟩
 ·cases h
section
variable {K : PySem.W.Frag} {X : Cx}
theorem QdU {f : Int -> Int -> Option D} {r : R2} (hf : ∀ i j d, f i j = some d -> d.flat = true) (h : ∀ i j d, f i j = some d -> ∀ H (Q : VK), (∀ v, (∀ H', Rp K H' d v []) -> Q v H) -> r (.int i) (.int j) H Q) : Qbe K (gI f) r := λ a b d e => by
 obtain ⟨i, j, rfl, rfl, ef⟩ := QjO e
 refine ⟨hf i j d ef, λ H x y F G Q ha hb q => ?_⟩
 rw [ha.int_inv, hb.int_inv]
 exact h i j d ef H Q q
theorem Qn4 : Qbe K Qb9 (rI0 λ i j => .int (i - j)) := QdU (λ i j d e => by cases e; rfl) λ i j d e H Q q => by cases e; exact ⟨i, j, rfl, rfl, q _ λ _ => .int_mk⟩
theorem Qlk {i j : Int} (h : QbJ i j = true) : IntMulOk i j := by
 have small : ∀ k : Int, k.natAbs < 2 ^ 64 -> Builtin.Int.intBits k <= 64 := λ k hk => by
  unfold Builtin.Int.intBits
  split
  ·omega
  ·rename_i h0; have h0' : k.natAbs ≠ 0 := λ z => by simp_all
   have := (Zbo h0').mpr hk; omega
 unfold QbJ at h
 simp only [Bool.or_eq_true, Zg, decide_eq_true_eq] at h
 rcases h with (h | h) | ⟨h1, h2⟩
 ·exact .of_left (small i h)
 ·exact .of_right (small j h)
 ·exact .of_bits h1 h2
theorem Qm8 : OpR X (binaryOp .Mult) (rI (λ i j => QbJ i j = true) λ i j => .int (i * j)) := opI λ _ _ _ _ _ _ _ hc q => PyProof.Rows.mul_int q (Qlk hc)
theorem Qmq : OpR X (binaryOp .FloorDiv) (rI (λ i j => QaL j = true) λ i j => .int (QbW i j)) := opI λ i j _ _ _ _ _ hc q => by
 unfold QaL at hc
 simp only [Zg, decide_eq_true_eq] at hc
 rw [QfJ] at q
 refine PyProof.Rows.floordiv_int hc.1 q (.inl (Zba ?_))
 have h0 : j.natAbs ≠ 0 := by omega
 exact Nat.lt_trans ((Zbo h0).mpr hc.2) (by decide)
theorem QmG : OpR X (binaryOp .Mod) (rI (λ i j => j ≠ 0) λ i j => .int (QcH i j)) := opI λ i j _ _ _ _ _ hc q => by
 rw [QiC] at q
 exact PyProof.Rows.mod_int' hc q
theorem Qn2 : Qbe K QdX (rI (λ i j => QaL j = true) λ i j => .int (QbW i j)) := QdU (λ i j d e => by split at e <;> cases e; rfl) λ i j d e H Q q => by
 split at e
 ·cases e; exact ⟨i, j, rfl, rfl, by assumption, q _ λ _ => .int_mk⟩
 ·cases e
theorem QnT : Qbe K Qbf (rI (λ i j => j ≠ 0) λ i j => .int (QcH i j)) := QdU (λ i j d e => by split at e <;> cases e; rfl) λ i j d e H Q q => by
 split at e
 ·cases e; exact ⟨i, j, rfl, rfl, by assumption, q _ λ _ => .int_mk⟩
 ·cases e
theorem Qmc : OpR X (binaryOp .Pow) (rI (λ i j => 0 <= j /\ j <= 1000 /\ i.natAbs < 2 ^ 200) λ i j => .int (i ^ j.toNat)) := opI λ i j _ _ _ _ _ hc q => by
 refine PyProof.Rows.pow_int hc.1 ?_ q
 have hb : Builtin.Int.intBits i <= 200 := by
  unfold Builtin.Int.intBits
  split
  ·omega
  ·rename_i h0; have h0' : i.natAbs ≠ 0 := λ z => by simp_all
   have := (Zbo h0').mpr hc.2.2; omega
 have h1 : ((Builtin.Int.intBits i : Nat) : Int) * j <= 200 * 1000 := Int.mul_le_mul (by omega) hc.2.1 hc.1 (by decide)
 omega
theorem Qnq : Qbe K Qb2 (rI (λ i j => 0 <= j /\ j <= 1000 /\ i.natAbs < 2 ^ 200) λ i j => .int (i ^ j.toNat)) := QdU (λ i j d e => by split at e <;> cases e; rfl) λ i j d e H Q q => by
 split at e
 ·rename_i h; cases e; exact ⟨i, j, rfl, rfl, h, q _ λ _ => .int_mk⟩
 ·cases e
theorem Qo7 : Qbe K gLt (rI0 λ i j => .bl (decide (i < j))) := QdU (λ i j d e => by cases e; rfl) λ i j d e H Q q => by cases e; exact ⟨i, j, rfl, rfl, q _ λ _ => .QbF⟩
theorem Qpj : Qbe K gLe (rI0 λ i j => .bl (decide (i <= j))) := QdU (λ i j d e => by cases e; rfl) λ i j d e H Q q => by cases e; exact ⟨i, j, rfl, rfl, q _ λ _ => .QbF⟩
theorem Qo0 : Qbe K gGt (rI0 λ i j => .bl (decide (j < i))) := QdU (λ i j d e => by cases e; rfl) λ i j d e H Q q => by cases e; exact ⟨i, j, rfl, rfl, q _ λ _ => .QbF⟩
theorem Qpz : Qbe K gGe (rI0 λ i j => .bl (decide (j <= i))) := QdU (λ i j d e => by cases e; rfl) λ i j d e H Q q => by cases e; exact ⟨i, j, rfl, rfl, q _ λ _ => .QbF⟩
end
theorem QbC : ∀ (xs ys : List D), QG (xs ++ ys) = (QG xs && QG ys)
 | [], ys => by simp [QG]
 | x :: xs, ys => by simp [QG, QbC xs ys, Bool.and_assoc]
noncomputable def QaN (ds : List D) (M : List Nat) : R := if QG ds then ⟨.lst ds, true, []⟩ else ⟨.lst ds, false, M⟩
section
variable {K : PySem.W.Frag} {H0 H H' : Hp} {A0 : List Addr} {hs : List (V × D × List Addr)} {ρ : En} {F : Nat -> List Addr} {σ : L2.St}
theorem QH.QaN {ds : List D} {M : List Nat} {vs : List V} {G : List Addr} {H1 : Hp} {p : Addr} (s : Qr H H1) (hp : H1 p = none) (r : Rps K H1 ds vs G) (hz : ds.length <= sizeLine) (src : Src ρ F H M G) (ow : Qak ρ M) :
  QH K ρ F H (upd H1 p (.lst vs)) (QaN ds M) (.ref p) (p :: G) := by
 have s2 : Qr H1 (upd H1 p (.lst vs)) := Qa2 hp
 have rp : Rp K (upd H1 p (.lst vs)) (.lst ds) (.ref p) (p :: G) := Rp.Qcc QQ (r.same s2) hz
 have hH : H p = none := s.free hp
 unfold HS.QaN
 split
 ·rename_i hf
  have := r.QaZ hf
  subst this
  refine ⟨s.trans s2, rp, λ a ha => ?_, λ _ => ⟨λ a => ?_, by simp only [D.nl, QeL ds hf]; rfl⟩, Qak.nil⟩
  ·have : a = p := by simpa using ha
   subst this; exact .inl hH
  ·rw [List.count_singleton]
   split
   ·rename_i e; have e' : p = a := by simpa using e
    subst e'; rw [Qag hH]; omega
   ·omega
 ·refine ⟨s.trans s2, rp, λ a ha => ?_, λ z => (by cases z), ow⟩
  rcases Zt.mp ha with rfl | h
  ·exact .inl hH
  ·exact src a h
end
noncomputable def Q2 (fa fb : DE) : DE := λ ρ => (fa ρ).bind λ ra => (fb ρ).bind λ rb => match ra.d, rb.d with
 | .int i, .int j => some ⟨.int (i + j), true, []⟩
 | .lst xs, .lst ys => if xs.length + ys.length <= sizeLine then some (QaN (xs ++ ys) (ra.M ++ rb.M)) else none
 | _, _ => none
noncomputable def Q6 (fa fb : DE) : DE := λ ρ => (fa ρ).bind λ ra => (fb ρ).bind λ rb => match ra.d, rb.d with
 | .int i, .int j => if QbJ i j then some ⟨.int (i * j), true, []⟩ else none
 | .lst xs, .int j => if xs.length * j.toNat <= sizeLine /\ -(2 ^ 63) <= j /\ j < 2 ^ 63 /\ QG xs = true then some ⟨.lst (List.replicate j.toNat xs).flatten, true, []⟩ else none
 | _, _ => none
theorem Qi9 {fa fb : DE} {ρ : En} {k : R -> R -> Option R} {r : R} (e : ((fa ρ).bind λ ra => (fb ρ).bind λ rb => k ra rb) = some r) : ∃ ra rb, fa ρ = some ra /\ fb ρ = some rb /\ k ra rb = some r := by
 cases h1 : fa ρ with
 | none => rw [h1] at e; cases e
 | some ra =>
  cases h2 : fb ρ with
  | none => rw [h1, h2] at e; cases e
  | some rb => rw [h1, h2] at e; exact ⟨ra, rb, rfl, rfl, e⟩
theorem bind1 {α β : Type} {x : Option α} {k : α -> Option β} {r : β} (e : x.bind k = some r) : ∃ a, x = some a /\ k a = some r := by
 cases x with
 | none => cases e
 | some a => exact ⟨a, rfl, e⟩
section
variable {X : Cx} {a b : Expr} {fa fb : DE} {pos : Pos}
noncomputable def Qpl (K : PySem.W.Frag) : R2 := λ x y H Q => ∃ l c xs zs, x = .ref l /\ y = .ref c /\ (H l = some (.lst xs) ∨ Fix K H l xs) /\ (H c = some (.lst zs) ∨ Fix K H c zs) /\ xs.length + zs.length <= sizeLine /\ ∀ p, H p = none -> Q (.ref p) (upd H p (.lst (xs ++ zs)))
theorem Qmz : OpR X (binaryOp .Add) (Qpl X.K) := by
 intro pins s σ H x y v u Q I rx ry h
 obtain ⟨l, c, xs, zs, rfl, rfl, hH, hB, hz, q⟩ := h
 cases rx
 cases ry
 obtain ⟨z, its, n, r, hl, e⟩ := I.Qhm hH
 obtain ⟨z2, its2, n2, r2, hl2, e2⟩ := I.Qhm hB
 refine PySem.P.add_list e e2 ?_ (by rw [Zo, Zo]; omega)
 have ea : its.toArray ++ its2.toArray = (its ++ its2).toArray := by simp
 rw [ea]
 exact ⟨.ref _, _, I.Qnr (t' := s.toks) (r.append r2) (by rw [Zs]; omega), rfl, q _ I.fresh⟩
theorem QoA (ha : SE X a fa) (hb : SE X b fb) : SE X (.BinOp a .Add b pos) (Q2 fa fb) := λ H0 A0 =>
 (Qja (Qoe.or Qmz) (ha H0 A0) (hb H0 A0)).mono λ σ H Q ⟨ρ, hs, F, r', rel, e, q⟩ => by
  obtain ⟨ra, rb, ea, eb, ek⟩ := Qi9 e
  refine two rel ea eb λ x y H1 H2 G1 G2 p1 p2 => ?_
  have p1' := p1.rp.same p2.same
  have p2' := p2.rp
  have c1 := p1.src.append p2.src p1.same
  have o1 := p1.own.append p2.own
  revert ek
  revert p1' p2'
  cases ra.d <;> cases rb.d <;> intro p1' p2' ek <;> first | (cases ek; done) | skip
  ·cases ek
   rw [p1'.int_inv, p2'.int_inv]
   exact .inl ⟨_, _, rfl, rfl, q _ H2 [] (.flat (p1.same.trans p2.same) .int_mk)⟩
  ·rename_i xs ys
   dsimp only at ek
   split at ek
   ·rename_i hz
    cases ek
    obtain ⟨l, vs, L1, rfl, hl, rl, zl, el⟩ := p1'.lst_inv
    obtain ⟨c, ws, L2', rfl, hc, rc, zc, ec⟩ := p2'.lst_inv
    have n1 := rl.length
    have n2 := rc.length
    refine .inr ⟨l, c, vs, ws, rfl, rfl, hl, hc, by omega, λ p hp => ?_⟩
    refine q _ _ (p :: (L1 ++ L2')) (QH.QaN (p1.same.trans p2.same) hp (rl.append rc) (by rw [Zs]; exact hz) (λ a ha => c1 a ?_) o1)
    rcases Zx.mp ha with h | h
    ·refine Zf _ ?_
     rcases el with rfl | rfl
     ·exact Zd _ h
     ·exact h
    ·refine Zb _ ?_
     rcases ec with rfl | rfl
     ·exact Zd _ h
     ·exact h
   ·cases ek
noncomputable def QpG (K : PySem.W.Frag) : R2 := λ x y H Q => ∃ l k xs, x = .ref l /\ y = .int k /\ (H l = some (.lst xs) ∨ Fix K H l xs) /\ -(2 ^ 63) <= k /\ k < 2 ^ 63 /\ xs.length * k.toNat <= sizeLine ∧
 ∀ p, H p = none -> Q (.ref p) (upd H p (.lst (List.replicate k.toNat xs).flatten))
theorem QmV : OpR X (binaryOp .Mult) (QpG X.K) := by
 intro pins s σ H x y v u Q I rx ry h
 obtain ⟨l, k, xs, rfl, rfl, hH, h1, h2, hz, q⟩ := h
 cases rx
 obtain ⟨t, rfl⟩ := ry
 obtain ⟨z, its, n, r, hl, e⟩ := I.Qhm hH
 have hlen : its.toArray.size * k.toNat <= sizeLine := by rw [Zo, ← hl]; exact hz
 have hcap : ¬ its.toArray.size * k.toNat > (2 ^ 63 - 1) / 8 := by
  have : (sizeLine : Nat) <= (2 ^ 63 - 1) / 8 := by decide
  omega
 have hfit : ¬ (!Builtin.List.listFitsIndex k) = true := by
  rw [fitsIndex_both h1 h2]
  exact Zai
 have hlong : ¬ Builtin.List.listTooLong (its.toArray.size * k.toNat) = true := by
  rw [Qk8 hlen]
  exact Zai
 have hnew : List.foldl (λ x1 x2 => x1 ++ x2) #[] (List.replicate (if its.toArray.isEmpty = true then 0 else k.toNat) its.toArray) = (List.replicate k.toNat its).flatten.toArray := by
  have f0 : ∀ m : Nat, List.foldl (λ x1 x2 => x1 ++ x2) #[] (List.replicate m its.toArray) = (List.replicate m its).flatten.toArray := λ m => by
   have := foldl_rep its m []
   rw [List.nil_append] at this
   exact this
  rw [f0]
  cases its with
  | nil => simp
  | cons a r' => rw [if_neg (by simp)]
 open PyProof.Rows in
 refine wpAny_binaryOp_repeat_ref (T := "list") (U := "int") (by decide) ⟨_, e, rfl⟩ (λ s' => typeIs_int s' k t) noFill_list_mul F.fills_int_mul F.slot_int_rmul repeat_list F.slot_int_index.lookup
  (call_meets F.slot_int_rmul (typeIs_int s k t) F.entry_int_rmul (F.args_int_rmul_2 _ _) (int___rmul___int_list k t l its.toArray n)
   ⟨e, rfl, ⟨_, e, rfl⟩, call_meets F.slot_list_mul ⟨_, e, rfl⟩ F.entry_list_mul (F.args_list_mul_2 _ _) (AutoListH.list___mul___list_int_3 l its.toArray n k t hfit hcap hlong) ⟨e, ?_⟩⟩)
 rw [hnew]
 exact ⟨.ref _, _, I.Qnr (t' := s.toks) (r.rep k.toNat) (by rw [len_rep, Nat.mul_comm]; exact hz), rfl, q _ I.fresh⟩
theorem Qgx {xs : List D} (h : QG xs = true) : ∀ n : Nat, QG (List.replicate n xs).flatten = true
 | 0 => by simp [QG]
 | n + 1 => by rw [ZK, ZS, QbC, h, Qgx h n]; rfl
theorem Rps.rep {K : PySem.W.Frag} {H : Hp} {ds : List D} {vs : List V} (h : Rps K H ds vs []) : ∀ n : Nat, Rps K H (List.replicate n ds).flatten (List.replicate n vs).flatten []
 | 0 => by simp [Rps]
 | n + 1 => by rw [ZK, ZS, ZK, ZS]; exact h.append (Rps.rep h n)
theorem QnJ (ha : SE X a fa) (hb : SE X b fb) : SE X (.BinOp a .Mult b pos) (Q6 fa fb) := λ H0 A0 =>
 (Qja (Qm8.or QmV) (ha H0 A0) (hb H0 A0)).mono λ σ H Q ⟨ρ, hs, F, r', rel, e, q⟩ => by
  obtain ⟨ra, rb, ea, eb, ek⟩ := Qi9 e
  refine two rel ea eb λ x y H1 H2 G1 G2 p1 p2 => ?_
  have p1' := p1.rp.same p2.same
  have p2' := p2.rp
  revert ek
  revert p1' p2'
  cases ra.d <;> cases rb.d <;> intro p1' p2' ek <;> first | (cases ek; done) | skip
  ·dsimp only at ek
   split at ek
   ·rename_i hm
    cases ek
    rw [p1'.int_inv, p2'.int_inv]
    exact .inl ⟨_, _, rfl, rfl, hm, q _ H2 [] (.flat (p1.same.trans p2.same) .int_mk)⟩
   ·cases ek
  ·rename_i xs j
   dsimp only at ek
   split at ek
   ·rename_i hz
    cases ek
    obtain ⟨hz1, hz2, hz3, hf⟩ := hz
    obtain ⟨l, vs, L1, rfl, hl, rl, zl, el⟩ := p1'.lst_inv
    have n1 := rl.length
    have e0 := rl.QaZ hf
    subst e0
    rw [p2'.int_inv]
    refine .inr ⟨l, j, vs, rfl, rfl, hl, hz2, hz3, by rw [← n1]; exact hz1, λ p hp => ?_⟩
    have w : HS.QaN (List.replicate j.toNat xs).flatten [] = ⟨.lst (List.replicate j.toNat xs).flatten, true, []⟩ := by
     unfold HS.QaN; rw [if_pos (Qgx hf _)]
    rw [← w] at q
    exact q _ _ (p :: []) (QH.QaN (p1.same.trans p2.same) hp (rl.rep _) (by rw [len_rep, Nat.mul_comm]; exact hz1) Src.nil Qak.nil)
   ·cases ek
end
end HS
namespace HS
open PySem PySem.Spec L2
noncomputable def Qg : DA := λ _ => some ⟨[], true, []⟩
noncomputable def Qb (fa : DE) (fr : DA) : DA := λ ρ => (fa ρ).bind λ r => (fr ρ).bind λ rs => some ⟨r.d :: rs.ds, r.fr && rs.fr, r.M ++ rs.M⟩
noncomputable def QfZ (fa : DA) : DE := λ ρ => (fa ρ).bind λ r => if r.ds.length <= 64 then some ⟨.tup r.ds, r.fr, r.M⟩ else none
noncomputable def QaH (fa : DA) : DE := λ ρ => (fa ρ).bind λ r => if r.ds.length <= 64 then some ⟨.lst r.ds, r.fr, r.M⟩ else none
section
variable {X : Cx} {a b e : Expr} {es : List Expr} {fa fb : DE} {fs : DA} {pos : Pos}
theorem Qfn : SA X [] Qg := λ H0 A0 => QcL.mono λ σ H Q ⟨ρ, hs, F, r', rel, e, q⟩ => by
 cases e
 exact q [] H [] ⟨Qr.refl _, by simp [Rps], Src.nil, λ _ => ⟨Cnt.nil, rfl⟩, Qak.nil⟩
theorem Qdg (ha : SE X e fa) (hr : SA X es fs) (hs : starEach (e :: es) X.env = (false, eval e X.env) :: starEach es X.env) : SA X (e :: es) (Qb fa fs) := λ H0 A0 =>
 (QaR (ha H0 A0) (hr H0 A0) hs).mono λ σ H Q ⟨ρ, hs, F, r', rel, e, q⟩ => by
  obtain ⟨r, e1, e⟩ := bind1 e
  obtain ⟨rs, e2, e⟩ := bind1 e
  cases e
  refine ⟨ρ, hs, F, r, rel, e1, λ x H1 G1 p1 => ⟨ρ, hs, F, rs, rel.ext p1.same, e2, λ xs H2 G2 p2 => ?_⟩⟩
  refine q _ H2 (G1 ++ G2) ⟨p1.same.trans p2.same, ?_, p1.src.append p2.src p1.same, λ h => ?_, p1.own.append p2.own⟩
  ·simp only [Rps]
   exact ⟨x, xs, G1, G2, rfl, rfl, p1.rp.same p2.same, p2.rp⟩
  ·simp only [Zg] at h
   exact ⟨(p1.cnt h.1).1.append rel (p2.cnt h.2).1 p1.same p1.rp.mem, by simp only [nls, Zs, (p1.cnt h.1).2, (p2.cnt h.2).2]⟩
theorem Qdm {n : Nat} (h : n <= 64) : n <= sizeLine := Zr h (by decide)
theorem Qov {k : Nat} (ha : SA X es fs) : SE X (.Tuple es k pos) (QfZ fs) := λ H0 A0 =>
 (QoG (ha H0 A0)).mono λ σ H Q ⟨ρ, hs, F, r', rel, e, q⟩ => by
  obtain ⟨r, e1, e⟩ := bind1 e
  split at e
  ·rename_i hz
   cases e
   refine ⟨ρ, hs, F, r, rel, e1, λ xs H1 G p => ⟨by rw [← p.rp.length]; exact Qdm hz, λ c hc => q _ _ G ⟨p.same.trans (Qa2 hc), Rp.QhN QQ (p.rp.same (Qa2 hc)), p.src, λ h => ⟨(p.cnt h).1, by simp only [D.nl]; exact (p.cnt h).2⟩, p.own⟩⟩⟩
  ·cases e
theorem Qnw (ha : SA X es fs) : SE X (.List es pos) (QaH fs) := λ H0 A0 =>
 (QoK (ha H0 A0)).mono λ σ H Q ⟨ρ, hs, F, r', rel, e, q⟩ => by
  obtain ⟨r, e1, e⟩ := bind1 e
  split at e
  ·rename_i hz
   cases e
   refine ⟨ρ, hs, F, r, rel, e1, λ xs H1 G p => ⟨by rw [← p.rp.length]; exact Qdm hz, λ c hc => ?_⟩⟩
   have hH : H c = none := p.same.free hc
   refine q _ _ (c :: G) ⟨p.same.trans (Qa2 hc), Rp.Qcc QQ (p.rp.same (Qa2 hc)) (Qdm hz), λ z hz' => ?_, λ h => ⟨λ z => ?_, by simp only [D.nl, Zz, (p.cnt h).2]⟩, p.own⟩
   ·rcases Zt.mp hz' with rfl | h
    ·exact .inl hH
    ·exact p.src z h
   ·rw [Zan]
    have := (p.cnt h).1 z
    split
    ·rename_i e'
     have e' : c = z := by simpa using e'
     subst e'
     have h0 : G.count c = 0 := ZC.mpr λ hm => by obtain ⟨vs, w⟩ := p.rp.mem c hm; rw [hc] at w; cases w
     rw [Qag hH]; omega
    ·exact this
  ·cases e
noncomputable def D.items : D -> Option (List D)
 | .lst xs => some xs
 | .tup xs => some xs
 | _ => none
noncomputable def Qy (fa fb : DE) : DE := λ ρ => (fa ρ).bind λ ra => (fb ρ).bind λ rb => match rb.d with
 | .int i => (ra.d.items).bind λ xs => (atI xs i).map λ d => (R.norm ⟨d, ra.fr, ra.M⟩)
 | _ => none
theorem Qmm {α β : Type} {xs : List α} {i : Int} {d : α} (h : atI xs i = some d) : ∃ j : Nat, xs[j]? = some d /\ ∀ (ys : List β), ys.length = xs.length -> ∀ y, ys[j]? = some y -> atI ys i = some y := by
 unfold atI at h
 cases e : ixN xs.length i with
 | none => rw [e] at h; cases h
 | some j =>
  rw [e] at h
  refine ⟨j, h, λ ys hl y hy => ?_⟩
  unfold atI
  rw [hl, e]
  exact hy
theorem Qnn (ha : SE X a fa) (hb : SE X b fb) (hs : Qeb b) : SE X (.Subscript a b pos) (Qy fa fb) := λ H0 A0 =>
 (QlW (Qin.or Qkh) (ha H0 A0) (hb H0 A0) hs).mono λ σ H Q ⟨ρ, hs, F, r', rel, e, q⟩ => by
  obtain ⟨ra, rb, ea, eb, ek⟩ := Qi9 e
  refine two rel ea eb λ x y H1 H2 G1 G2 p1 p2 => ?_
  have p1' := p1.rp.same p2.same
  have p2' := p2.rp
  have pp : QH X.K ρ F H H2 ra x G1 := ⟨p1.same.trans p2.same, p1', p1.src, p1.cnt, p1.own⟩
  cases hb' : rb.d with
  | int i =>
   rw [hb'] at ek p2'
   rw [p2'.int_inv]
   obtain ⟨xs, ex, ek⟩ := bind1 ek
   obtain ⟨d, ed, ek⟩ := Zc.mp ek
   subst ek
   obtain ⟨j, hj, hm⟩ := Qmm (β := V) ed
   have fin : ∀ (L : List Addr) (vs : List V), Rps X.K H2 xs vs L -> (∀ z, L.count z <= G1.count z) -> (G1.length = ra.d.nl -> L.length = nls xs) -> ∃ v, atI vs i = some v /\ Q v H2 := λ L vs rl hc hn => by
    obtain ⟨v, F1, G, F2, hv, eF, rv, hx⟩ := rl.get hj
    refine ⟨v, hm vs rl.length.symm v hv, q v H2 G (QH.norm (QH.sub pp rv (λ z => Zr ?_ (hc z)) λ z => hx (hn z)))⟩
    rw [eF, ZT, ZT]; omega
   cases hra : ra.d with
   | lst ys =>
    rw [hra] at ex p1'
    cases ex
    obtain ⟨l, vs, L, rfl, hl, rl, zl, el⟩ := p1'.lst_inv
    have hn : G1.length = ra.d.nl -> L.length = nls xs := λ hz => by
     have := rl.Q3
     simp only [hra, D.nl] at hz
     rcases el with rfl | rfl
     ·rw [Zz] at hz; omega
     ·omega
    have hc : ∀ z, L.count z <= G1.count z := λ z => by
     rcases el with rfl | rfl
     ·rw [Zan]; omega
     ·exact Zj _
    obtain ⟨v, h1, h2⟩ := fin L vs rl hc hn
    exact .inl ⟨l, vs, i, v, rfl, rfl, QS hl, h1, h2⟩
   | tup ys =>
    rw [hra] at ex p1'
    cases ex
    obtain ⟨l, vs, rfl, hl, rl⟩ := p1'.Qaf
    obtain ⟨v, h1, h2⟩ := fin G1 vs rl (λ z => Zj _) λ z => (by simpa only [hra, D.nl] using z)
    exact .inr ⟨l, vs, i, v, rfl, rfl, hl, h1, h2⟩
   | _ => rw [hra] at ex; cases ex
  | _ => rw [hb'] at ek; cases ek
noncomputable abbrev DO := En -> Option (Option Int)
noncomputable def QcV : DO := λ _ => some none
noncomputable def QcZ (f : DE) : DO := λ ρ => (f ρ).bind λ r => match r.d with
 | .int i => some (some i)
 | _ => none
noncomputable def tVO (K : PySem.W.Frag) (H0 : Hp) (A0 : List Addr) (f : DO) : TO := λ σ H Q => ∃ ρ hs F o, Rel K H0 A0 hs ρ F σ H /\ f ρ = some o /\ ∀ H', Qr H H' -> Q o H'
def SO (X : Cx) (e : Option Expr) (f : DO) : Prop := ∀ H0 A0, PO X e (tVO X.K H0 A0 f)
theorem _root_.L2.PO.mono {X : Cx} {e : Option Expr} {t t' : TO} (h : PO X e t) (m : ∀ σ H Q, t' σ H Q -> t σ H Q) : PO X e t' := by
 intro pins s σ H Q I q
 exact h pins s σ H Q I (m σ H Q q)
theorem Qmd : SO X none QcV := λ H0 A0 => QmR.mono λ σ H Q ⟨ρ, hs, F, o, rel, e, q⟩ => by
 cases e
 exact q H (Qr.refl _)
theorem Qmi (h : SE X a fa) : SO X (some a) (QcZ fa) := λ H0 A0 => (Qm4 (h H0 A0)).mono λ σ H Q ⟨ρ, hs, F, o, rel, e, q⟩ => by
 obtain ⟨r, e1, e⟩ := bind1 e
 refine ⟨ρ, hs, F, r, rel, e1, λ v H1 G p => ?_⟩
 have rp := p.rp
 cases hr : r.d with
 | int i =>
  rw [hr] at e rp
  cases e
  exact ⟨i, rp.int_inv, q H1 p.same⟩
 | _ => rw [hr] at e; cases e
noncomputable def cutD (xs : List D) (lo hi : Option Int) : List D := (xs.drop (HT.sIx xs.length 0 lo)).take (HT.sIx xs.length xs.length hi - HT.sIx xs.length 0 lo)
noncomputable def QdT (fa : DE) (lo hi : DO) : DE := λ ρ => (fa ρ).bind λ ra => (lo ρ).bind λ l => (hi ρ).bind λ h => match ra.d with
 | .lst xs => some (QaN (cutD xs l h) ra.M)
 | _ => none
theorem Rps.drop : ∀ {ds : List D} {vs : List V} {F : List Addr} {K : PySem.W.Frag} {H : Hp} (n : Nat), Rps K H ds vs F -> ∃ G, Rps K H (ds.drop n) (vs.drop n) G /\ ∀ a ∈ G, a ∈ F
 | [], vs, F, K, H, n, h => by simp only [Rps] at h; rw [h.1, h.2]; exact ⟨[], by simp [Rps], λ _ h => h⟩
 | d :: ds, vs, F, K, H, 0, h => ⟨F, by simpa using h, λ _ h => h⟩
 | d :: ds, vs, F, K, H, n + 1, h => by
  simp only [Rps] at h
  obtain ⟨v, ws, F1, F2, e, eF, r, q⟩ := h
  subst e eF
  obtain ⟨G, h1, h2⟩ := Rps.drop n q
  exact ⟨G, by simpa using h1, λ a ha => Zb _ (h2 a ha)⟩
theorem Rps.take : ∀ {ds : List D} {vs : List V} {F : List Addr} {K : PySem.W.Frag} {H : Hp} (n : Nat), Rps K H ds vs F -> ∃ G, Rps K H (ds.take n) (vs.take n) G /\ ∀ a ∈ G, a ∈ F
 | [], vs, F, K, H, n, h => by simp only [Rps] at h; rw [h.1, h.2]; exact ⟨[], by simp [Rps], λ _ h => h⟩
 | d :: ds, vs, F, K, H, 0, h => ⟨[], by simp [Rps], λ _ h => by simp at h⟩
 | d :: ds, vs, F, K, H, n + 1, h => by
  simp only [Rps] at h
  obtain ⟨v, ws, F1, F2, e, eF, r, q⟩ := h
  subst e eF
  obtain ⟨G, h1, h2⟩ := Rps.take n q
  refine ⟨F1 ++ G, ?_, λ a ha => ?_⟩
  ·simp only [List.take_succ_cons, Rps]
   exact ⟨v, _, F1, G, rfl, rfl, r, h1⟩
  ·rcases Zx.mp ha with h | h
   ·exact Zf _ h
   ·exact Zb _ (h2 a h)
theorem Qon {lo hi : Option Expr} {fl fh : DO} {p2 : Pos} (ha : SE X a fa) (hl : SO X lo fl) (hh : SO X hi fh) : SE X (.Subscript a (.Slice lo hi none p2) pos) (QdT fa fl fh) := λ H0 A0 =>
 (Qk1 Qnd (ha H0 A0) (hl H0 A0) (hh H0 A0)).mono λ σ H Q ⟨ρ, hs, F, r', rel, e, q⟩ => by
  obtain ⟨ra, e1, e⟩ := bind1 e
  obtain ⟨l, e2, e⟩ := bind1 e
  obtain ⟨h, e3, e⟩ := bind1 e
  refine ⟨ρ, hs, F, ra, rel, e1, λ x H1 G1 p1 => ⟨ρ, hs, F, l, rel.ext p1.same, e2, λ H2 s2 => ⟨ρ, hs, F, h, (rel.ext p1.same).ext s2, e3, λ H3 s3 => ?_⟩⟩⟩
  have rp := p1.rp.same (s2.trans s3)
  cases hra : ra.d with
  | lst xs =>
   rw [hra] at e rp
   cases e
   obtain ⟨c, vs, L, rfl, hc, rl, zl, el⟩ := rp.lst_inv
   refine ⟨c, vs, rfl, QS hc, λ p hp => ?_⟩
   obtain ⟨G2, h2, m2⟩ := rl.drop (HT.sIx xs.length 0 l)
   obtain ⟨G3, h3, m3⟩ := h2.take (HT.sIx xs.length xs.length h - HT.sIx xs.length 0 l)
   have n1 := rl.length
   rw [show Qf4 vs l h = (vs.drop (HT.sIx xs.length 0 l)).take (HT.sIx xs.length xs.length h - HT.sIx xs.length 0 l) by unfold Qf4; rw [n1]]
   refine q _ _ (p :: G3) (QH.QaN (p1.same.trans (s2.trans s3)) hp h3 ?_ (λ z hz => p1.src z ?_) p1.own)
   ·unfold cutD; rw [Zbc, List.length_drop]; omega
   ·have := m2 z (m3 z hz)
    rcases el with rfl | rfl
    ·exact Zd _ this
    ·exact this
  | _ => rw [hra] at e; cases e
noncomputable def dBf (g : List D -> Option D) (fs : DA) : DE := λ ρ => (fs ρ).bind λ r => (g r.ds).map λ d => ⟨d, true, []⟩
def QhK (K : PySem.W.Frag) (g : List D -> Option D) (r : List V -> Hp -> VK -> Prop) : Prop := ∀ ds d, g ds = some d -> d.flat = true /\ ∀ H vs F (Q : VK), Rps K H ds vs F -> (∀ v, (∀ H', Rp K H' d v []) -> Q v H) -> r vs H Q
theorem QlX {x : Str} {id : String} {g : List D -> Option D} {r : List V -> Hp -> VK -> Prop} {p : Pos} (hc : Qbn X (.builtin id) r) (hk : QhK X.K g r) (hg : Gl X x) (hm : X.mg x = none) (hv : bootBuiltins x = some (.builtin id)) (ha : SA X (e :: es) fs) (hn : x ≠ "__name__") (hdb : (x == ("__debug__" : Str)) = false)
  (he : starEach (e :: es) X.env = (false, eval e X.env) :: starEach es X.env) (hpl : (backTo pos (starEach es X.env)).any (·.1) = false) : SE X (.Call (.Name x p) (e :: es) [] pos) (dBf g fs) := λ H0 A0 =>
 (Qe4 hc hg hm hv (ha H0 A0) hn hdb he hpl).mono λ σ H Q ⟨ρ, hs, F, r', rel, e, q⟩ => by
  obtain ⟨ra, e1, e⟩ := bind1 e
  obtain ⟨d, ed, e⟩ := Zc.mp e
  subst e
  exact ⟨ρ, hs, F, ra, rel, e1, λ vs H1 G p1 => (hk _ _ ed).2 H1 vs G Q p1.rp λ v hv => q v H1 [] (.flat p1.same (hv _) (hk _ _ ed).1)⟩
theorem Rps.one {K : PySem.W.Frag} {H : Hp} {d : D} {vs : List V} {F : List Addr} (h : Rps K H [d] vs F) : ∃ v, vs = [v] /\ Rp K H d v F := by
 simp only [Rps] at h
 obtain ⟨v, ws, F1, F2, rfl, rfl, r, rfl, rfl⟩ := h
 exact ⟨v, rfl, by simpa using r⟩
theorem Rps.two {K : PySem.W.Frag} {H : Hp} {d e : D} {vs : List V} {F : List Addr} (h : Rps K H [d, e] vs F) : ∃ v w F1 F2, vs = [v, w] /\ Rp K H d v F1 /\ Rp K H e w F2 := by
 simp only [Rps] at h
 obtain ⟨v, ws, F1, F2, rfl, rfl, r, w, ws', F3, F4, rfl, rfl, r2, rfl, rfl⟩ := h
 exact ⟨v, w, F1, F3, rfl, r, r2⟩
noncomputable def Qax : List D -> Option D
 | [.lst xs] => some (.int xs.length)
 | [.tup xs] => some (.int xs.length)
 | _ => none
theorem Qny {K : PySem.W.Frag} : QhK K Qax (λ xs H Q => ∃ p ys, xs = [.ref p] /\ (SqL K H p ys ∨ SqT K H p ys) /\ Q (.int ys.length) H) := λ ds d e => by
 unfold Qax at e
 split at e
 ·cases e
  refine ⟨rfl, λ H vs F Q r q => ?_⟩
  obtain ⟨v, rfl, rp⟩ := r.one
  obtain ⟨l, ws, L, rfl, hl, rl, zl, el⟩ := rp.lst_inv
  exact ⟨l, ws, rfl, .inl (QS hl), by rw [← rl.length]; exact q _ λ _ => .int_mk⟩
 ·cases e
  refine ⟨rfl, λ H vs F Q r q => ?_⟩
  obtain ⟨v, rfl, rp⟩ := r.one
  obtain ⟨l, ws, rfl, hl, rl⟩ := rp.Qaf
  exact ⟨l, ws, rfl, .inr hl, by rw [← rl.length]; exact q _ λ _ => .int_mk⟩
 ·cases e
noncomputable def dList (fs : DA) : DE := λ ρ => (fs ρ).bind λ r => match r.ds with
 | [.lst xs] => some (QaN xs r.M)
 | [.tup xs] => if xs.length <= sizeLine then some (QaN xs r.M) else none
 | _ => none
theorem QmU {p : Pos} (hg : Gl X "list") (hm : X.mg "list" = none) (ha : SA X (e :: es) fs) (he : starEach (e :: es) X.env = (false, eval e X.env) :: starEach es X.env) (hpl : (backTo pos (starEach es X.env)).any (·.1) = false) :
  SE X (.Call (.Name "list" p) (e :: es) [] pos) (dList fs) := λ H0 A0 =>
 (Qgd QdL hg hm ZaB (ha H0 A0) (by decide) (by decide) he hpl).mono λ σ H Q ⟨ρ, hs, F, r', rel, e, q⟩ => by
  obtain ⟨ra, e1, e⟩ := bind1 e
  refine ⟨ρ, hs, F, ra, rel, e1, λ vs H1 G p1 => ?_⟩
  have rp := p1.rp
  have src := p1.src
  split at e
  ·rename_i xs hds
   cases e
   rw [hds] at rp
   obtain ⟨v, rfl, rq⟩ := rp.one
   obtain ⟨l, ws, L, rfl, hl, rl, zl, el⟩ := rq.lst_inv
   refine ⟨l, ws, rfl, .inl (QS hl), λ c hc => q _ _ (c :: L) (QH.QaN p1.same hc rl zl (λ z hz => src z ?_) p1.own)⟩
   rcases el with rfl | rfl
   ·exact Zd _ hz
   ·exact hz
  ·rename_i xs hds
   split at e
   ·rename_i hz
    cases e
    rw [hds] at rp
    obtain ⟨v, rfl, rq⟩ := rp.one
    obtain ⟨l, ws, rfl, hl, rl⟩ := rq.Qaf
    exact ⟨l, ws, rfl, .inr hl, λ c hc => q _ _ (c :: G) (QH.QaN p1.same hc rl hz src p1.own)⟩
   ·cases e
  ·cases e
end
end HS
namespace HS
open PySem PySem.Spec L2
mutual
noncomputable def D.py : D -> PyData
 | .non => .none
 | .bl b => .bool b
 | .int i => .int i
 | .str x => .str x
 | .tup xs => .tuple (pys xs)
 | .lst xs => .list (pys xs)
 | .exc _ => .none
noncomputable def pys : List D -> List PyData
 | [] => []
 | d :: ds => d.py :: pys ds
end
theorem Qir : ∀ ds : List D, pys ds = ds.map D.py
 | [] => rfl
 | d :: ds => by simp [pys, Qir ds]
noncomputable def D.sim : Nat -> D -> Bool
 | _, .non => true
 | _, .bl _ => true
 | _, .int _ => true
 | _, .str x => PyData.canLay0 (.str x)
 | 0, .tup xs => xs.isEmpty
 | 0, .lst xs => xs.isEmpty
 | n + 1, .tup xs => xs.all (D.sim n)
 | n + 1, .lst xs => xs.all (D.sim n)
 | _, .exc _ => false
theorem QcA : ∀ {ds : List D}, (∀ d ∈ ds, d.py.canLay0 = true) -> PyData.canLayAll0 (pys ds) = true
 | [], _ => rfl
 | d :: ds, h => by
  simp only [pys, PyData.canLayAll0, Zg]
  exact ⟨h d Zi, QcA λ e he => h e (Zd _ he)⟩
theorem Qc4 {n : Nat} : ∀ {ds : List D}, (∀ d ∈ ds, d.py.depth <= n) -> PyData.depthAll (pys ds) <= n
 | [], _ => ZI _
 | d :: ds, h => by
  simp only [pys, PyData.depthAll]
  exact Nat.max_le.mpr ⟨h d Zi, Qc4 λ e he => h e (Zd _ he)⟩
theorem QaO : ∀ (n : Nat) (d : D), d.sim n = true -> d.py.canLay0 = true /\ d.py.depth <= n + 1
 | n, .exc _, h => by cases n <;> cases h
 | n, .non, _ => by simp [D.py, PyData.canLay0, PyData.depth]
 | n, .bl _, _ => by simp [D.py, PyData.canLay0, PyData.depth]
 | n, .int _, _ => by simp [D.py, PyData.canLay0, PyData.depth]
 | n, .str x, h => by
  simp only [D.py, PyData.depth]
  refine ⟨?_, ZI _⟩
  cases n <;> exact h
 | 0, .tup xs, h => by
  have : xs = [] := by simpa [D.sim] using h
  subst this
  simp [D.py, pys, PyData.canLay0, PyData.canLayAll0, PyData.depth, PyData.depthAll]
 | 0, .lst xs, h => by
  have : xs = [] := by simpa [D.sim] using h
  subst this
  simp [D.py, pys, PyData.canLay0, PyData.canLayAll0, PyData.depth, PyData.depthAll]
 | n + 1, .tup xs, h => by
  simp only [D.sim, Zah] at h
  simp only [D.py, PyData.canLay0, PyData.depth]
  exact ⟨QcA λ d hd => (QaO n d (h d hd)).1, ZaL (Qc4 λ d hd => (QaO n d (h d hd)).2) 1⟩
 | n + 1, .lst xs, h => by
  simp only [D.sim, Zah] at h
  simp only [D.py, PyData.canLay0, PyData.depth]
  exact ⟨QcA λ d hd => (QaO n d (h d hd)).1, ZaL (Qc4 λ d hd => (QaO n d (h d hd)).2) 1⟩
noncomputable def deq (a b : D) : Bool := PyData.eqv a.py b.py
mutual
noncomputable def D.noX : D -> Bool
 | .exc _ => false
 | .tup xs => QeX xs
 | .lst xs => QeX xs
 | .non => true
 | .bl _ => true
 | .int _ => true
 | .str _ => true
noncomputable def QeX : List D -> Bool
 | [] => true
 | d :: ds => d.noX && QeX ds
end
theorem QfS : ∀ {ds : List D}, (∀ d ∈ ds, d.noX = true) -> QeX ds = true
 | [], _ => rfl
 | d :: ds, h => by
  simp only [QeX, Zg]
  exact ⟨h d Zi, QfS λ e he => h e (Zd _ he)⟩
theorem QaT : ∀ (n : Nat) (d : D), d.sim n = true -> d.noX = true
 | n, .exc _, h => by cases n <;> cases h
 | n, .non, _ => rfl
 | n, .bl _, _ => rfl
 | n, .int _, _ => rfl
 | n, .str x, _ => rfl
 | 0, .tup xs, h => by
  have : xs = [] := by simpa [D.sim] using h
  subst this; rfl
 | 0, .lst xs, h => by
  have : xs = [] := by simpa [D.sim] using h
  subst this; rfl
 | n + 1, .tup xs, h => by
  simp only [D.sim, Zah] at h
  simp only [D.noX]
  exact QfS λ d hd => QaT n d (h d hd)
 | n + 1, .lst xs, h => by
  simp only [D.sim, Zah] at h
  simp only [D.noX]
  exact QfS λ d hd => QaT n d (h d hd)
section
variable {X : Cx} {pins : List (Addr × Obj)} {σ : L2.St} {H : Hp} {s : Shared}
mutual
theorem Rp.reads (I : Inv X pins σ H s) : ∀ {d : D} {v : V} {F : List Addr} {u : Value}, d.noX = true -> Rp X.K H d v F -> RelV v u -> ∃ as, Reads s.heap u d.py as
 | .exc _, v, _, u, hx, h, r => by cases hx
 | .non, v, _, u, hx, h, r => by
  rw [h.QfY] at r
  cases (show u = Value.none from r)
  exact ⟨_, .none⟩
 | .bl b, v, _, u, hx, h, r => by
  rw [h.Qd6] at r
  cases (show u = Value.bool b from r)
  exact ⟨_, .bool b⟩
 | .int i, v, _, u, hx, h, r => by
  rw [h.int_inv] at r
  obtain ⟨t, rfl⟩ := (show ∃ t, u = Value.int i t from r)
  exact ⟨_, .int i t⟩
 | .str i, v, _, u, hx, h, r => by
  rw [h.str_inv] at r
  obtain ⟨t, rfl⟩ := (show ∃ t, u = Value.str i t from r)
  exact ⟨_, .str i t⟩
 | .tup ds, v, _, u, hx, h, r => by
  obtain ⟨a, vs, rfl, hq, rs⟩ := h.Qaf
  cases (show u = Value.ref a from r)
  obtain ⟨its, rv, ⟨o, h1, h2, n, h3⟩, _⟩ := I.tuple hq
  obtain ⟨as, ra⟩ := Rps.reads I (by simpa only [D.noX] using hx) rs rv
  exact ⟨_, .tuple h1 h2 h3 (by simpa using ra)⟩
 | .lst ds, v, _, u, hx, h, r => by
  simp only [Rp] at h
  obtain ⟨hz, a, vs, rfl, h⟩ := h
  have key : ∃ G, (H a = some (.lst vs) ∨ Fix X.K H a vs) /\ Rps X.K H ds vs G := by
   rcases h with ⟨G, _, q, rs⟩ | ⟨q, rs⟩
   ·exact ⟨G, .inl q, rs⟩
   ·exact ⟨_, .inr q, rs⟩
  obtain ⟨G, hq, rs⟩ := key
  cases (show u = Value.ref a from r)
  obtain ⟨_, its, n, rv, _, e⟩ := I.Qhm hq
  obtain ⟨as, ra⟩ := Rps.reads I (by simpa only [D.noX] using hx) rs rv
  exact ⟨_, .list e rfl rfl (by simpa using ra)⟩
theorem Rps.reads (I : Inv X pins σ H s) : ∀ {ds : List D} {vs : List V} {F : List Addr} {us : List Value}, QeX ds = true -> Rps X.K H ds vs F -> Qj vs us -> ∃ as, ReadsAll s.heap us (pys ds) as
 | [], vs, _, us, _, h, r => by
  simp only [Rps] at h
  rw [h.1] at r
  cases r
  exact ⟨_, .nil⟩
 | d :: ds, vs, _, us, hx, h, r => by
  simp only [QeX, Zg] at hx
  simp only [Rps] at h
  obtain ⟨v, ws, F1, F2, rfl, rfl, h1, h2⟩ := h
  cases r with
  | cons r rr =>
   obtain ⟨as, ra⟩ := Rp.reads I hx.1 h1 r
   obtain ⟨bs, rb⟩ := Rps.reads I hx.2 h2 rr
   exact ⟨_, .cons ra rb⟩
end
end
noncomputable def gEq (a b : D) : Option D := if a.sim 8 && b.sim 8 then some (.bl (deq a b)) else none
noncomputable def gNe (a b : D) : Option D := if a.sim 8 && b.sim 8 then some (.bl (!deq a b)) else none
noncomputable def gIn (neg : Bool) (a b : D) : Option D := match b with
 | .lst xs => if a.sim 8 && b.sim 8 then some (.bl (if neg then !(xs.any λ y => deq y a) else xs.any λ y => deq y a)) else none
 | .tup xs => if a.sim 8 && b.sim 8 then some (.bl (if neg then !(xs.any λ y => deq y a) else xs.any λ y => deq y a)) else none
 | _ => none
noncomputable def Qnf (K : PySem.W.Frag) : R2 := λ x y H Q => ∃ a b F G, Rp K H a x F /\ Rp K H b y G /\ a.sim 8 = true /\ b.sim 8 = true /\ Q (.bl (deq a b)) H
noncomputable def QnW (K : PySem.W.Frag) : R2 := λ x y H Q => ∃ a b F G, Rp K H a x F /\ Rp K H b y G /\ a.sim 8 = true /\ b.sim 8 = true /\ Q (.bl (!deq a b)) H
section
variable {X : Cx}
theorem QnV (hu : X.A.units + 64 < cLine) : OpR X (compareOp .Eq) (Qnf X.K) := by
 intro pins s σ H x y v u Q I rx ry h
 obtain ⟨a, b, F, G, ha, hb, sa, sb, q⟩ := h
 obtain ⟨as, ra⟩ := Rp.reads I (QaT 8 _ sa) ha rx
 obtain ⟨bs, rb⟩ := Rp.reads I (QaT 8 _ sb) hb ry
 have h1 := QaO 8 a sa
 have h2 := QaO 8 b sb
 exact SeqAt.compareEq_reads ra rb h1.1 h2.1 (by have := Nat.min_le_left a.py.depth b.py.depth; omega) ⟨.bl _, H, I, rfl, q⟩
theorem QnX (hu : X.A.units + 64 < cLine) : OpR X (compareOp .NotEq) (QnW X.K) := by
 intro pins s σ H x y v u Q I rx ry h
 obtain ⟨a, b, F, G, ha, hb, sa, sb, q⟩ := h
 obtain ⟨as, ra⟩ := Rp.reads I (QaT 8 _ sa) ha rx
 obtain ⟨bs, rb⟩ := Rp.reads I (QaT 8 _ sb) hb ry
 have h1 := QaO 8 a sa
 have h2 := QaO 8 b sb
 exact SeqAt.compareNe_reads ra rb h1.1 h2.1 (by have := Nat.min_le_left a.py.depth b.py.depth; omega) ⟨.bl _, H, I, rfl, q⟩
theorem Qpk {K : PySem.W.Frag} : Qbe K gEq (Qnf K) := λ a b d e => by
 unfold gEq at e
 split at e
 ·rename_i h
  simp only [Zg] at h
  cases e
  exact ⟨rfl, λ H x y F G Q ha hb q => ⟨a, b, F, G, ha, hb, h.1, h.2, q _ λ _ => .QbF⟩⟩
 ·cases e
theorem QpE {K : PySem.W.Frag} : Qbe K gNe (QnW K) := λ a b d e => by
 unfold gNe at e
 split at e
 ·rename_i h
  simp only [Zg] at h
  cases e
  exact ⟨rfl, λ H x y F G Q ha hb q => ⟨a, b, F, G, ha, hb, h.1, h.2, q _ λ _ => .QbF⟩⟩
 ·cases e
noncomputable def QkT (K : PySem.W.Frag) (neg : Bool) : R2 := λ x y H Q => ∃ a b F G xs, Rp K H a x F /\ Rp K H b y G /\ a.sim 8 = true /\ b.sim 8 = true /\ (b = .lst xs ∨ b = .tup xs) /\ Q (.bl (if neg then !(xs.any λ y => deq y a) else xs.any λ y => deq y a)) H
theorem QkA (xs : List D) (a : D) : ((pys xs).any λ y => PyData.eqv y a.py) = xs.any λ y => deq y a := by
 rw [Qir, List.any_map]; rfl
theorem Qnv (hu : X.A.units + 64 < cLine) : OpR X (compareOp .In) (QkT X.K false) := by
 intro pins s σ H x y v u Q I rx ry h
 obtain ⟨a, b, F, G, xs, ha, hb, sa, sb, hk, q⟩ := h
 obtain ⟨as, ra⟩ := Rp.reads I (QaT 8 _ sa) ha rx
 obtain ⟨bs, rb⟩ := Rp.reads I (QaT 8 _ sb) hb ry
 have h1 := QaO 8 a sa
 have h2 := QaO 8 b sb
 have q' : Q (.bl ((pys xs).any λ y => PyData.eqv y a.py)) H := by rw [QkA]; exact q
 rcases hk with rfl | rfl
 ·exact SeqAt.in_list_reads rb ra h2.1 h1.1 (by have := ZaJ (PyData.depthAll (pys xs)) a.py.depth; omega) ⟨.bl _, H, I, rfl, q'⟩
 ·exact SeqAt.in_tuple_reads rb ra h2.1 h1.1 (by have := ZaJ (PyData.depthAll (pys xs)) a.py.depth; omega) ⟨.bl _, H, I, rfl, q'⟩
theorem Qkd (hu : X.A.units + 64 < cLine) : OpR X (compareOp .NotIn) (QkT X.K true) := by
 intro pins s σ H x y v u Q I rx ry h
 obtain ⟨a, b, F, G, xs, ha, hb, sa, sb, hk, q⟩ := h
 obtain ⟨as, ra⟩ := Rp.reads I (QaT 8 _ sa) ha rx
 obtain ⟨bs, rb⟩ := Rp.reads I (QaT 8 _ sb) hb ry
 have h1 := QaO 8 a sa
 have h2 := QaO 8 b sb
 have q' : Q (.bl (!(pys xs).any λ y => PyData.eqv y a.py)) H := by rw [QkA]; exact q
 rcases hk with rfl | rfl
 ·exact SeqAt.notIn_list_reads rb ra h2.1 h1.1 (by have := ZaJ (PyData.depthAll (pys xs)) a.py.depth; omega) ⟨.bl _, H, I, rfl, q'⟩
 ·exact SeqAt.notIn_tuple_reads rb ra h2.1 h1.1 (by have := ZaJ (PyData.depthAll (pys xs)) a.py.depth; omega) ⟨.bl _, H, I, rfl, q'⟩
theorem QlO {K : PySem.W.Frag} {neg : Bool} : Qbe K (gIn neg) (QkT K neg) := λ a b d e => by
 unfold gIn at e
 split at e
 ·split at e
  ·rename_i h
   simp only [Zg] at h
   cases e
   exact ⟨rfl, λ H x y F G Q ha hb q => ⟨a, _, F, G, _, ha, hb, h.1, h.2, .inl rfl, q _ λ _ => .QbF⟩⟩
  ·cases e
 ·split at e
  ·rename_i h
   simp only [Zg] at h
   cases e
   exact ⟨rfl, λ H x y F G Q ha hb q => ⟨a, _, F, G, _, ha, hb, h.1, h.2, .inr rfl, q _ λ _ => .QbF⟩⟩
  ·cases e
 ·cases e
noncomputable def D.tyN : D -> String
 | .non => "NoneType" | .bl _ => "bool" | .int _ => "int" | .str _ => "str" | .tup _ => "tuple" | .lst _ => "list" | .exc _ => "?"
noncomputable def D.isE : D -> Bool
 | .exc _ => true
 | _ => false
noncomputable def D.isa (T : String) (d : D) : Option Bool := if (T == "int" || T == "bool" || T == "list" || T == "tuple" || T == "str") && !d.isE then some (d.tyN == T || (d.tyN == "bool" && T == "int")) else none
theorem Qng {pins : List (Addr × Obj)} {σ : L2.St} {H : Hp} {s : Shared} {A : Around} {E Q : Value -> Shared -> Prop} {d : D} {v : V} {F : List Addr} {u : Value} {T : String} {b : Bool} (I : Inv X pins σ H s) (rp : Rp X.K H d v F) (rx : RelV v u) (e : d.isa T = some b) (h : ∀ tk, Q (.bool b) { s with toks := tk }) :
  wpAny (model X.prog X.w) A (call (.builtin "isinstance") [u, .type T]) Q E s := by
 have kit : PySem.W.kitOne X.K (.type d.tyN) (.type T) = some b := by
  unfold D.isa at e
  split at e
  ·rename_i hT
   cases e
   simp only [Zg, Bool.or_eq_true, beq_iff_eq] at hT
   obtain ⟨hT, hE⟩ := hT
   rcases hT with (((rfl | rfl) | rfl) | rfl) | rfl <;> cases d <;> first | rfl | (cases hE)
  ·cases e
 cases d with
 | exc x => unfold D.isa at e; split at e; (rename_i hT; exfalso; simp only [Zg] at hT; exact nomatch hT.2); cases e
 | non => rw [rp.QfY] at rx; cases (show u = Value.none from rx); exact Zau PySem.W.kitx_none I.kIn True.intro kit (λ z => nomatch z) h
 | bl y => rw [rp.Qd6] at rx; cases (show u = Value.bool y from rx); exact Zau PySem.W.kitx_bool I.kIn True.intro kit (λ z => nomatch z) h
 | int i => rw [rp.int_inv] at rx; obtain ⟨t, q⟩ := (show ∃ t, u = Value.int i t from rx); cases q; exact Zau PySem.W.kitx_int I.kIn True.intro kit (λ z => nomatch z) h
 | str y => rw [rp.str_inv] at rx; obtain ⟨t, q⟩ := (show ∃ t, u = Value.str y t from rx); cases q; exact Zau PySem.W.kitx_str I.kIn True.intro kit (λ z => nomatch z) h
 | tup ds =>
  obtain ⟨a, vs, rfl, hq, _⟩ := rp.Qaf
  cases (show u = Value.ref a from rx)
  obtain ⟨its, rv, ⟨o, h1, h2, n, h3⟩, _⟩ := I.tuple hq
  exact Zau PySem.W.kitx_tuple I.kIn ⟨o, h1, h2⟩ kit (λ z => nomatch z) h
 | lst ds =>
  obtain ⟨a, vs, G, rfl, hq, _⟩ := rp.lst_inv
  cases (show u = Value.ref a from rx)
  obtain ⟨_, its, n, rv, _, e1⟩ := I.Qhm hq
  exact Zau PySem.W.kitx_list I.kIn ⟨_, e1, rfl⟩ kit (λ z => nomatch z) h
noncomputable def Qqi (K : PySem.W.Frag) : List V -> Hp -> VK -> Prop := λ xs H Q => ∃ x T d F b, xs = [x, .ty T] /\ Rp K H d x F /\ d.isa T = some b /\ Q (.bl b) H
theorem QkQ : Qbn X (.builtin "isinstance") (Qqi X.K) := by
 intro pins s σ H xs us Q I r h
 obtain ⟨x, T, d, F, b, rfl, rp, e, q⟩ := h
 obtain ⟨u, w, rfl, ru, rw'⟩ := vals2 r
 cases (show w = Value.type T from rw')
 exact Qng I rp ru e λ tk => ⟨.bl b, H, I.tok _, rfl, q⟩
noncomputable def QeW (T : String) (fa : DE) : DE := λ ρ => (fa ρ).bind λ r => (r.d.isa T).map λ b => ⟨.bl b, true, []⟩
theorem QoM {a : Expr} {fa : DE} {T : String} {x : Str} {p p2 pos : Pos} (hg : Gl X "isinstance") (hm : X.mg "isinstance" = none) (ha : SE X a fa) (hT : PE X (.Name x p2) (tC (.ty T)))
  (he : starEach [a, .Name x p2] X.env = (false, eval a X.env) :: starEach [.Name x p2] X.env) : SE X (.Call (.Name "isinstance" p) [a, .Name x p2] [] pos) (QeW T fa) := λ H0 A0 =>
 (Qe4 QkQ hg hm PyProof.Rows.boot_isinstance (QaR (ha H0 A0) (QaR hT QcL) he) (by decide) (by decide) he (by rfl)).mono λ σ H Q ⟨ρ, hs, F, r', rel, e, q⟩ => by
  obtain ⟨r, e1, e⟩ := bind1 e
  obtain ⟨b, eb, e⟩ := Zc.mp e
  subst e
  exact ⟨ρ, hs, F, r, rel, e1, λ v H1 G p => ⟨v, T, r.d, G, b, rfl, p.rp, eb, q _ H1 [] (.flat p.same .QbF)⟩⟩
noncomputable def D.tru : D -> Option Bool
 | .non => some false
 | .bl b => some b
 | .int i => some (i != 0)
 | .lst xs => some (!xs.isEmpty)
 | .tup xs => some (!xs.isEmpty)
 | .str _ => none
 | .exc _ => none
theorem Qg0 {K : PySem.W.Frag} {H : Hp} {d : D} {v : V} {F : List Addr} {b : Bool} (h : Rp K H d v F) (e : d.tru = some b) : Qls K v H b := by
 have emp : ∀ {ds : List D} {vs : List V} {G : List Addr}, Rps K H ds vs G -> (!ds.isEmpty) = !vs.isEmpty := λ {ds vs G} r => by
  have := r.length
  cases ds <;> cases vs <;> simp_all
 cases d with
 | non => rw [h.QfY]; cases e; exact rfl
 | bl c => rw [h.Qd6]; cases e; exact rfl
 | int i => rw [h.int_inv]; cases e; exact rfl
 | str i => cases e
 | exc i => cases e
 | tup ds => cases e; obtain ⟨a, vs, rfl, hq, r⟩ := h.Qaf; exact .inr (.inl ⟨vs, hq, emp r⟩)
 | lst ds => cases e; obtain ⟨a, vs, G, rfl, hq, r, _⟩ := h.lst_inv; exact .inl ⟨vs, QS hq, emp r⟩
noncomputable def QP (fa : DE) : DT := λ ρ => (fa ρ).bind λ r => r.d.tru
noncomputable def QkY (f g : DT) : DT := λ ρ => (f ρ).bind λ b => if b = true then g ρ else some false
noncomputable def bOr (f g : DT) : DT := λ ρ => (f ρ).bind λ b => if b = true then some true else g ρ
noncomputable def Qb0 (f : DT) : DT := λ ρ => (f ρ).bind λ b => some (!b)
def SW (X : Cx) (e : Expr) (f : DT) : Prop := ∀ H0 A0, PW X e (tVT X.K H0 A0 f)
theorem _root_.L2.PW.mono {X : Cx} {e : Expr} {t t' : TT} (h : PW X e t) (m : ∀ σ H Q, t' σ H Q -> t σ H Q) : PW X e t' := λ wh pins s σ H Q I q => h wh pins s σ H Q I (m σ H Q q)
variable {a b e : Expr} {fa fb : DE} {ga gb gc : DT} {pos : Pos} {rest : List Expr}
theorem QoL (ha : SE X a fa) (he : ∀ whole, isTrue a X.env whole = (do let v ← whole; standAt a.pos; holding [v] (truthy v))) : ST X a (QP fa) := λ H0 A0 =>
 (QlG (ha H0 A0) he).mono λ σ H Q ⟨ρ, hs, F, b, rel, e, q⟩ => by
  obtain ⟨r, e1, e⟩ := bind1 e
  exact ⟨ρ, hs, F, r, rel, e1, λ v H1 G p => ⟨b, Qg0 p.rp e, q H1 p.same⟩⟩
theorem Qn5 {op : CmpOp} {g : D -> D -> Option D} {r : R2} (ho : OpR X (compareOp op) r) (hg : Qbe X.K g r) (hbl : ∀ a b d, g a b = some d -> ∃ k, d = .bl k) (ha : SE X a fa) (hb : SE X b fb) (hm : behindInMarks op b = false) : ST X (.Compare a [op] [b] pos) (QP (dOp g fa fb)) := λ H0 A0 =>
 (Qnc ho (ha H0 A0) (hb H0 A0) hm).mono λ σ H Q ⟨ρ, hs, F, k, rel, e, q⟩ => by
  obtain ⟨r', e0, e⟩ := bind1 e
  obtain ⟨ra, rb, d, ea, eb, eg, rfl⟩ := QfO e0
  obtain ⟨k', rfl⟩ := hbl _ _ _ eg
  cases e
  refine two rel ea eb λ x y H1 H2 G1 G2 p1 p2 => (hg _ _ _ eg).2 H2 x y G1 G2 _ (p1.rp.same p2.same) p2.rp λ v hv => ?_
  exact ⟨_, (hv H2).Qd6, q H2 (p1.same.trans p2.same)⟩
theorem Qod (ha : ST X a ga) : ST X (.UnaryOp .Not a pos) (Qb0 ga) := λ H0 A0 =>
 (QnU (ha H0 A0)).mono λ σ H Q ⟨ρ, hs, F, b, rel, e, q⟩ => by
  obtain ⟨c, e1, e⟩ := bind1 e
  cases e
  exact ⟨ρ, hs, F, c, rel, e1, λ H1 s1 => q H1 s1⟩
theorem QmD (ha : ST X a ga) : SW X (.BoolOp .And [a] pos) ga := λ H0 A0 => Ql9 (ha H0 A0)
theorem Qnl (ha : ST X a ga) : SW X (.BoolOp .Or [a] pos) ga := λ H0 A0 => QoD (ha H0 A0)
theorem Qoi (ha : ST X a ga) (hb : SW X (.BoolOp .And (b :: rest) pos) gb) : SW X (.BoolOp .And (a :: b :: rest) pos) (QkY ga gb) := λ H0 A0 =>
 (Qnk (ha H0 A0) (hb H0 A0)).mono λ σ H Q ⟨ρ, hs, F, c, rel, e, q⟩ => by
  obtain ⟨d, e1, e⟩ := bind1 e
  refine ⟨ρ, hs, F, d, rel, e1, λ H1 s1 => ?_⟩
  cases d with
  | true => exact ⟨ρ, hs, F, c, rel.ext s1, e, λ H2 s2 => q H2 (s1.trans s2)⟩
  | false => cases e; exact q H1 s1
theorem QoW (ha : ST X a ga) (hb : SW X (.BoolOp .Or (b :: rest) pos) gb) : SW X (.BoolOp .Or (a :: b :: rest) pos) (bOr ga gb) := λ H0 A0 =>
 (Qpn (ha H0 A0) (hb H0 A0)).mono λ σ H Q ⟨ρ, hs, F, c, rel, e, q⟩ => by
  obtain ⟨d, e1, e⟩ := bind1 e
  refine ⟨ρ, hs, F, d, rel, e1, λ H1 s1 => ?_⟩
  cases d with
  | true => cases e; exact q H1 s1
  | false => exact ⟨ρ, hs, F, c, rel.ext s1, e, λ H2 s2 => q H2 (s1.trans s2)⟩
theorem SW.st (h : SW X e ga) : ST X e ga := λ H0 A0 => (h H0 A0).pt
noncomputable def QeJ (fa fb : DE) : DE := λ ρ => (fa ρ).bind λ ra => (ra.d.tru).bind λ b => if b = true then fb ρ else some ra
noncomputable def dOr (fa fb : DE) : DE := λ ρ => (fa ρ).bind λ ra => (ra.d.tru).bind λ b => if b = true then some ra else fb ρ
noncomputable def QlC (fa : DE) : DE := λ ρ => (fa ρ).bind λ ra => (ra.d.tru).bind λ b => some ⟨.bl (!b), true, []⟩
theorem Qkx {op} (h : SE X a fa) : SE X (.BoolOp op [a] pos) fa := λ H0 A0 => Qoj (h H0 A0)
theorem QH.ext {K : PySem.W.Frag} {ρ : En} {F : Nat -> List Addr} {H H1 H2 : Hp} {r : R} {v : V} {G : List Addr} (s : Qr H H1) (p : QH K ρ F H1 H2 r v G) {H0 : Hp} {A0 : List Addr} {hs : List (V × D × List Addr)} {σ : L2.St} (rel : Rel K H0 A0 hs ρ F σ H) : QH K ρ F H H2 r v G where
 same := s.trans p.same
 rp := p.rp
 src := λ a ha => (p.src a ha).elim (λ z => .inl (s.free z)) .inr
 cnt := λ h => ⟨λ a => Zr ((p.cnt h).1 a) (ZaL (by
  cases q : H1 a with
  | none => rw [Qag q, Qag (s.free q)]; exact Zj _
  | some o => rw [QbP q]; exact ZI _) _), (p.cnt h).2⟩
 own := p.own
theorem Qog (ha : SE X a fa) (hb : SE X (.BoolOp .And (b :: rest) pos) fb) : SE X (.BoolOp .And (a :: b :: rest) pos) (QeJ fa fb) := λ H0 A0 => by
 intro pins s σ H Q I ⟨ρ, hs, F, r, rel, e, q⟩
 obtain ⟨ra, e1, e⟩ := bind1 e
 obtain ⟨c, e2, e⟩ := bind1 e
 refine PyProof.Rows.BoolOp_and (thn (ha H0 A0 pins s σ H _ I ⟨ρ, hs, F, ra, rel, e1, λ v H' G p => (⟨G, p⟩ : ∃ G, QH X.K ρ F H H' ra v G)⟩) λ v s1 ⟨x, H1, I1, r1, G, p⟩ => ?_)
 refine thn (QfB pins s1 σ H1 x v (λ k H2 => k = c /\ H2 = H1) I1 r1 ⟨c, Qg0 p.rp e2, rfl, rfl⟩) λ k s2 ⟨H2, I2, e3, e4⟩ => ?_
 subst e3 e4
 cases k with
 | true => exact hb H0 A0 pins s2 σ _ Q I2 ⟨ρ, hs, F, r, rel.ext p.same, e, λ w H3 G3 p3 => q w H3 G3 (p3.ext p.same rel)⟩
 | false => cases e; exact ⟨x, _, I2, r1, q x _ G p⟩
theorem Qpy (ha : SE X a fa) (hb : SE X (.BoolOp .Or (b :: rest) pos) fb) : SE X (.BoolOp .Or (a :: b :: rest) pos) (dOr fa fb) := λ H0 A0 => by
 intro pins s σ H Q I ⟨ρ, hs, F, r, rel, e, q⟩
 obtain ⟨ra, e1, e⟩ := bind1 e
 obtain ⟨c, e2, e⟩ := bind1 e
 refine PyProof.Rows.BoolOp_or (thn (ha H0 A0 pins s σ H _ I ⟨ρ, hs, F, ra, rel, e1, λ v H' G p => (⟨G, p⟩ : ∃ G, QH X.K ρ F H H' ra v G)⟩) λ v s1 ⟨x, H1, I1, r1, G, p⟩ => ?_)
 refine thn (QfB pins s1 σ H1 x v (λ k H2 => k = c /\ H2 = H1) I1 r1 ⟨c, Qg0 p.rp e2, rfl, rfl⟩) λ k s2 ⟨H2, I2, e3, e4⟩ => ?_
 subst e3 e4
 cases k with
 | false => exact hb H0 A0 pins s2 σ _ Q I2 ⟨ρ, hs, F, r, rel.ext p.same, e, λ w H3 G3 p3 => q w H3 G3 (p3.ext p.same rel)⟩
 | true => cases e; exact ⟨x, _, I2, r1, q x _ G p⟩
theorem Qnu (ha : SE X a fa) : SE X (.UnaryOp .Not a pos) (QlC fa) := λ H0 A0 => by
 intro pins s σ H Q I ⟨ρ, hs, F, r, rel, e, q⟩
 obtain ⟨ra, e1, e⟩ := bind1 e
 obtain ⟨c, e2, e⟩ := bind1 e
 cases e
 refine PyProof.Rows.UnaryOp_ (thn (ha H0 A0 pins s σ H _ I ⟨ρ, hs, F, ra, rel, e1, λ v H' G p => (⟨G, p⟩ : ∃ G, QH X.K ρ F H H' ra v G)⟩) λ v s1 ⟨x, H1, I1, r1, G, p⟩ => ?_)
 refine PyProof.Rows.not_of (thn (QfB pins s1 σ H1 x v (λ k H2 => k = c /\ H2 = H1) I1 r1 ⟨c, Qg0 p.rp e2, rfl, rfl⟩) λ k s2 ⟨H2, I2, e3, e4⟩ => ?_)
 subst e3 e4
 exact ⟨.bl (!k), _, I2, rfl, q _ _ [] (.flat p.same .QbF)⟩
noncomputable def QoI (fa : DE) : DE := λ ρ => (fa ρ).bind λ ra => match ra.d with
 | .int i => some ⟨.int (-i), true, []⟩
 | _ => none
theorem Qoq (ha : SE X a fa) : SE X (.UnaryOp .USub a pos) (QoI fa) := λ H0 A0 =>
 (QpH QnB (ha H0 A0)).mono λ σ H Q ⟨ρ, hs, F, r, rel, e, q⟩ => by
  obtain ⟨ra, e1, e⟩ := bind1 e
  refine ⟨ρ, hs, F, ra, rel, e1, λ v H1 G p => ?_⟩
  have rp := p.rp
  cases hr : ra.d with
  | int i =>
   rw [hr] at e rp
   cases e
   exact ⟨i, rp.int_inv, q _ H1 [] (.flat p.same .int_mk)⟩
  | _ => rw [hr] at e; cases e
end
end HS
namespace HS
open PySem PySem.Spec L2
section
variable {K : PySem.W.Frag} {H0 H H' : Hp} {A0 : List Addr} {hs : List (V × D × List Addr)} {ρ ρ' : En} {F : Nat -> List Addr} {σ : L2.St}
def Qa7 (ρ ρ' : En) : Prop := ρ'.length = ρ.length /\ ∀ (i : Nat) d b, ρ'[i]? = some (some (d, b)) -> ∃ b', ρ[i]? = some (some (d, b')) /\ (b = true -> b' = true)
theorem Qa7.refl : Qa7 ρ ρ := ⟨rfl, λ i d b h => ⟨b, h, id⟩⟩
theorem Qa7.trans {ρ'' : En} (a : Qa7 ρ ρ') (b : Qa7 ρ' ρ'') : Qa7 ρ ρ'' := ⟨b.1.trans a.1, λ i d c h => by
 obtain ⟨c', h1, h2⟩ := b.2 i d c h
 obtain ⟨c'', h3, h4⟩ := a.2 i d c' h1
 exact ⟨c'', h3, λ z => h4 (h2 z)⟩⟩
theorem Rel.weak (r : Rel K H0 A0 hs ρ F σ H) (w : Qa7 ρ ρ') : Rel K H0 A0 hs ρ' F σ H where
 len := w.1.trans r.len
 val := λ i d b e => let ⟨b', h, _⟩ := w.2 i d b e; r.val i d b' h
 own := λ i d e => by
  obtain ⟨b', h, hb⟩ := w.2 i d true e
  have : b' = true := hb rfl
  subst this
  obtain ⟨h1, h2, h3, h4, h5⟩ := r.own i d h
  exact ⟨h1, h2, h3, λ j d' b' hj e' => let ⟨b'', h', _⟩ := w.2 j d' b' e'; h4 j d' b'' hj h', h5⟩
 src := λ i d b e => let ⟨b', h, _⟩ := w.2 i d b e; r.src i d b' h
 held := r.held
 same := r.same
noncomputable def kill : List Nat -> En -> En
 | [], ρ => ρ
 | i :: M, ρ => kill M (ρ.set i none)
noncomputable def Qaa : List Nat -> En -> En
 | [], ρ => ρ
 | i :: M, ρ => Qaa M (match ρ[i]? with
  | some (some (d, _)) => ρ.set i (some (d, false))
  | _ => ρ)
theorem Qge (i : Nat) : Qa7 ρ (ρ.set i none) := ⟨by simp, λ j d b h => by
 by_cases hj : i = j
 ·subst hj
  by_cases hl : i < ρ.length
  ·rw [Zk hl] at h; cases h
  ·rw [Zu (by simp; omega)] at h; cases h
 ·rw [Ze hj] at h
  exact ⟨b, h, id⟩⟩
theorem Qa6 : ∀ (M : List Nat) (ρ : En), Qa7 ρ (kill M ρ)
 | [], ρ => .refl
 | i :: M, ρ => (Qge i).trans (Qa6 M _)
theorem Qd4 : ∀ (M : List Nat) (ρ : En) (i : Nat) (d : D) (b : Bool), i ∈ M -> (kill M ρ)[i]? = some (some (d, b)) -> False
 | [], ρ, i, d, b, h, _ => by simp at h
 | j :: M, ρ, i, d, b, h, e => by
  rcases Zt.mp h with rfl | h
  ·obtain ⟨b', e', _⟩ := (Qa6 M (ρ.set i none)).2 i d b e
   by_cases hl : i < ρ.length
   ·rw [Zk hl] at e'; cases e'
   ·rw [Zu (by simp; omega)] at e'; cases e'
  ·exact Qd4 M _ i d b h e
theorem QlH (i : Nat) : Qa7 ρ (match ρ[i]? with
  | some (some (d, _)) => ρ.set i (some (d, false))
  | _ => ρ) := by
 split
 ·rename_i d b e
  refine ⟨by simp, λ j d' b' h => ?_⟩
  by_cases hj : i = j
  ·subst hj
   have hl : i < ρ.length := (Zh.mp e).1
   rw [Zk hl] at h
   cases h
   exact ⟨b, e, λ z => by cases z⟩
  ·rw [Ze hj] at h
   exact ⟨b', h, id⟩
 ·exact .refl
theorem Q8 : ∀ (M : List Nat) (ρ : En), Qa7 ρ (Qaa M ρ)
 | [], ρ => .refl
 | i :: M, ρ => (QlH i).trans (Q8 M _)
theorem Qfv : ∀ (M : List Nat) (ρ : En) (i : Nat) (d : D), i ∈ M -> (Qaa M ρ)[i]? = some (some (d, true)) -> False
 | [], ρ, i, d, h, _ => by simp at h
 | j :: M, ρ, i, d, h, e => by
  rcases Zt.mp h with rfl | h
  ·obtain ⟨b', e', hb⟩ := (Q8 M _).2 i d true e
   have : b' = true := hb rfl
   subst this
   split at e'
   ·rename_i d' b e1
    have hl : i < ρ.length := (Zh.mp e1).1
    rw [Zk hl] at e'
    cases e'
   ·rename_i h1
    exact h1 d true e'
  ·exact Qfv M _ i d h e
def Shr (H0 : Hp) (A0 : List Addr) (ρ : En) (F : Nat -> List Addr) (G : List Addr) : Prop :=
 ∀ a ∈ G, (H0 a = none ∨ a ∈ A0) /\ ∀ (i : Nat) d, ρ[i]? = some (some (d, true)) -> a ∉ F i
theorem Shr.of (r : Rel K H0 A0 hs ρ F σ H) {M : List Nat} {G : List Addr} (s : Src ρ F H M G) : Shr H0 A0 (Qaa M ρ) F G := λ a ha => by
 have w := Q8 M ρ
 rcases s a ha with h | ⟨i, d, b, e, m, hm⟩
 ·refine ⟨.inl (r.same.free h), λ j d' e' hj => ?_⟩
  obtain ⟨b', e2, _⟩ := w.2 j d' true e'
  obtain ⟨vs, q⟩ := r.mem e2 hj
  rw [h] at q; cases q
 ·refine ⟨r.src i d b e a m, λ j d' e' hj => ?_⟩
  obtain ⟨b', e2, hb⟩ := w.2 j d' true e'
  have : b' = true := hb rfl
  subst this
  by_cases hij : i = j
  ·subst hij
   rw [e] at e2
   cases e2
   exact Qfv M ρ i _ (hm rfl) e'
  ·exact (r.own j d' e2).2.2.2.1 i d b hij e a hj m
theorem Rel.Qjc (r : Rel K H0 A0 hs ρ F σ H) {i : Nat} {d : D} {v : V} {G : List Addr} (rp : Rp K H d v G) (sh : Shr H0 A0 ρ F G) :
  Rel K H0 A0 hs (ρ.set i (some (d, d.flat))) (λ j => if j = i then G else F j) (σ.set i (some v)) H where
 len := by simp [r.len]
 val := λ j d' b e => by
  by_cases hj : j = i
  ·subst hj
   have hl : j < ρ.length := by
    by_cases hl : j < ρ.length
    ·exact hl
    ·rw [Zu (by simp; omega)] at e; cases e
   rw [Zk hl] at e
   cases e
   exact ⟨v, by rw [Zk (by rw [← r.len]; exact hl)], by rw [if_pos rfl]; exact rp⟩
  ·rw [Ze (Ne.symm hj)] at e
   obtain ⟨w, h1, h2⟩ := r.val j d' b e
   exact ⟨w, by rw [Ze (Ne.symm hj)]; exact h1, by rw [if_neg hj]; exact h2⟩
 own := λ j d' e => by
  by_cases hj : j = i
  ·subst hj
   have hl : j < ρ.length := by
    by_cases hl : j < ρ.length
    ·exact hl
    ·rw [Zu (by simp; omega)] at e; cases e
   rw [Zk hl] at e
   have e1 := Option.some.inj (Option.some.inj e)
   have ed : d = d' := congrArg Prod.fst e1
   have ef : d.flat = true := congrArg Prod.snd e1
   subst ed
   have := rp.QaZ ef
   subst this
   rw [if_pos rfl]
   exact ⟨(Qcx d ef).symm, Zaw, λ a ha => by simp at ha, λ _ _ _ _ _ a ha => by simp at ha, λ _ _ a ha => by simp at ha⟩
  ·rw [Ze (Ne.symm hj)] at e
   obtain ⟨h1, h2, h3, h4, h5⟩ := r.own j d' e
   rw [if_neg hj]
   refine ⟨h1, h2, h3, λ k d'' b hk ek a ha => ?_, h5⟩
   by_cases hki : k = i
   ·subst hki
    rw [if_pos rfl]
    exact λ hG => (sh a hG).2 j d' e ha
   ·rw [Ze (Ne.symm hki)] at ek
    rw [if_neg hki]
    exact h4 k d'' b hk ek a ha
 src := λ j d' b e a ha => by
  by_cases hj : j = i
  ·subst hj
   rw [if_pos rfl] at ha
   exact (sh a ha).1
  ·rw [Ze (Ne.symm hj)] at e
   rw [if_neg hj] at ha
   exact r.src j d' b e a ha
 held := r.held
 same := r.same
theorem Qpf (r : Rel K H0 A0 hs ρ F σ H) {M : List Nat} (ow : Qak ρ M) (nd : M.Nodup) (a : Addr) : ((M.map F).flatten).count a <= 1 := by
 induction M with
 | nil => simp
 | cons i M ih =>
  rw [Zv, ZS, ZT]
  obtain ⟨h1, h2⟩ := Zal.mp nd
  have ih' := ih (λ j hj => ow j (Zd _ hj)) h2
  obtain ⟨d, e⟩ := ow i Zi
  obtain ⟨_, nd1, _, apart, _⟩ := r.own i d e
  by_cases ha : a ∈ F i
  ·have c1 : (F i).count a <= 1 := Zad.mp nd1 a
   have c2 : ((M.map F).flatten).count a = 0 := ZC.mpr λ hm => by
    obtain ⟨l, hl, hal⟩ := ZaI.mp hm
    obtain ⟨j, hj, rfl⟩ := Zag.mp hl
    obtain ⟨d', e'⟩ := ow j (Zd _ hj)
    exact apart j d' true (λ z => h1 (z ▸ hj)) e' a ha hal
   omega
  ·have : (F i).count a = 0 := ZC.mpr ha
   omega
theorem QH.fresh (r : Rel K H0 A0 hs ρ F σ H) {rr : R} {v : V} {G : List Addr} (p : QH K ρ F H H' rr v G) (hf : rr.fr = true) (nd : rr.M.Nodup) :
  G.Nodup /\ ∀ a ∈ G, H0 a = none /\ (H a = none ∨ ∃ i d, i ∈ rr.M /\ ρ[i]? = some (some (d, true)) /\ a ∈ F i) := by
 obtain ⟨c, _⟩ := p.cnt hf
 refine ⟨Zad.mpr λ a => ?_, λ a ha => ?_⟩
 ·have h1 := c a
  have h2 := Qpf r p.own nd a
  cases q : H a with
  | none => rw [Qag q, r.fl0 p.own q] at h1; omega
  | some o => rw [QbP q] at h1; omega
 ·cases q : H a with
  | none => exact ⟨r.same.free q, .inl rfl⟩
  | some o =>
   have h1 := c a
   rw [QbP q] at h1
   have h2 : 0 < G.count a := Zab.mpr ha
   obtain ⟨l, hl, hal⟩ := ZaI.mp (Zab.mp (by omega : 0 < ((rr.M.map F).flatten).count a))
   obtain ⟨i, hi, rfl⟩ := Zag.mp hl
   obtain ⟨d, e⟩ := p.own i hi
   exact ⟨(r.own i d e).2.2.1 a hal, .inr ⟨i, d, hi, e, hal⟩⟩
theorem Rel.QpQ (r : Rel K H0 A0 hs ρ F σ H) {i : Nat} {rr : R} {v : V} {G : List Addr} (p : QH K ρ F H H' rr v G) (hf : rr.fr = true) (nd : rr.M.Nodup) :
  Rel K H0 A0 hs ((kill rr.M ρ).set i (some (rr.d, true))) (λ j => if j = i then G else F j) (σ.set i (some v)) H' := by
 have r1 := (r.ext p.same).weak (Qa6 rr.M ρ)
 obtain ⟨gn, gs⟩ := p.fresh r hf nd
 have gl := (p.cnt hf).2
 have apart : ∀ (j : Nat) d b, (kill rr.M ρ)[j]? = some (some (d, b)) -> ∀ a ∈ G, a ∉ F j := λ j d b e a ha hj => by
  obtain ⟨b', e', _⟩ := (Qa6 rr.M ρ).2 j d b e
  rcases (gs a ha).2 with q | ⟨k, d', hk, ek, hak⟩
  ·obtain ⟨vs, w⟩ := r.mem e' hj
   rw [q] at w; cases w
  ·have hjk : j ≠ k := λ z => by subst z; exact Qd4 rr.M ρ j d b hk e
   exact (r.own k d' ek).2.2.2.1 j d b' hjk e' a hak hj
 have apartH : ∀ t ∈ hs, ∀ a ∈ G, a ∉ t.2.2 := λ t ht a ha hj => by
  rcases (gs a ha).2 with q | ⟨k, d', hk, ek, hak⟩
  ·obtain ⟨vs, w⟩ := (r.held t ht).1.mem a hj
   rw [q] at w; cases w
  ·exact (r.own k d' ek).2.2.2.2 t ht a hak hj
 have lt : ∀ {j : Nat} {x : Option (D × Bool)} {y : D × Bool}, ((kill rr.M ρ).set j x)[j]? = some (some y) -> j < (kill rr.M ρ).length := λ {j x y} e => by
  by_cases hl : j < (kill rr.M ρ).length
  ·exact hl
  ·rw [Zu (by simp; omega)] at e; cases e
 refine ⟨by simp [r1.len], λ j d b e => ?_, λ j d e => ?_, λ j d b e a ha => ?_, r1.held, r1.same⟩
 ·by_cases hj : j = i
  ·subst hj
   have hl := lt e
   rw [Zk hl] at e
   cases e
   exact ⟨v, by rw [Zk (by rw [← r1.len]; exact hl)], by rw [if_pos rfl]; exact p.rp⟩
  ·rw [Ze (Ne.symm hj)] at e
   obtain ⟨w, h1, h2⟩ := r1.val j d b e
   exact ⟨w, by rw [Ze (Ne.symm hj)]; exact h1, by rw [if_neg hj]; exact h2⟩
 ·by_cases hj : j = i
  ·subst hj
   have hl := lt e
   rw [Zk hl] at e
   cases e
   rw [if_pos rfl]
   refine ⟨gl, gn, λ a ha => (gs a ha).1, λ k d' b hk ek a ha => ?_, apartH⟩
   rw [Ze (Ne.symm hk)] at ek
   rw [if_neg hk]
   exact apart k d' b ek a ha
  ·rw [Ze (Ne.symm hj)] at e
   obtain ⟨h1, h2, h3, h4, h5⟩ := r1.own j d e
   rw [if_neg hj]
   refine ⟨h1, h2, h3, λ k d' b hk ek a ha => ?_, h5⟩
   by_cases hki : k = i
   ·subst hki
    rw [if_pos rfl]
    exact λ hG => apart j d true e a hG ha
   ·rw [Ze (Ne.symm hki)] at ek
    rw [if_neg hki]
    exact h4 k d' b hk ek a ha
 ·by_cases hj : j = i
  ·subst hj
   rw [if_pos rfl] at ha
   exact .inl (gs a ha).1
  ·rw [Ze (Ne.symm hj)] at e
   rw [if_neg hj] at ha
   exact r1.src j d b e a ha
noncomputable def asg (i : Nat) (r : R) (ρ : En) : En :=
 if r.norm.fr && decide r.norm.M.Nodup then (kill r.norm.M ρ).set i (some (r.d, true)) else (Qaa r.norm.M ρ).set i (some (r.d, r.d.flat))
theorem Rel.asg (r : Rel K H0 A0 hs ρ F σ H) {i : Nat} {rr : R} {v : V} {G : List Addr} (p : QH K ρ F H H' rr v G) : ∃ F', Rel K H0 A0 hs (asg i rr ρ) F' (σ.set i (some v)) H' := by
 have p' := p.norm
 unfold HS.asg
 split
 ·rename_i h
  simp only [Zg, decide_eq_true_eq] at h
  have := r.QpQ (i := i) p' h.1 h.2
  rw [rr.Qbi] at this
  exact ⟨_, this⟩
 ·have r1 := (r.ext p'.same).weak (Q8 rr.norm.M ρ)
  have rp := p'.rp
  rw [rr.Qbi] at rp
  have sh := Shr.of r p'.src
  exact ⟨_, r1.Qjc rp sh⟩
theorem Rel.hold (r : Rel K H0 A0 hs ρ F σ H) {ts : List (V × D × List Addr)} (h : ∀ t ∈ ts, Rp K H t.2.1 t.1 t.2.2 /\ Shr H0 A0 ρ F t.2.2) : Rel K H0 A0 (ts ++ hs) ρ F σ H where
 len := r.len
 val := r.val
 own := λ i d e => by
  obtain ⟨h1, h2, h3, h4, h5⟩ := r.own i d e
  refine ⟨h1, h2, h3, h4, λ t ht a ha hm => ?_⟩
  rcases Zx.mp ht with z | z
  ·exact ((h t z).2 a hm).2 i d e ha
  ·exact h5 t z a ha hm
 src := r.src
 held := λ t ht => by
  rcases Zx.mp ht with z | z
  ·exact ⟨(h t z).1, λ a ha => ((h t z).2 a ha).1⟩
  ·exact r.held t z
 same := r.same
theorem Rel.Qki {ts : List (V × D × List Addr)} (r : Rel K H0 A0 (ts ++ hs) ρ F σ H) : Rel K H0 A0 hs ρ F σ H where
 len := r.len
 val := r.val
 own := λ i d e => let ⟨h1, h2, h3, h4, h5⟩ := r.own i d e; ⟨h1, h2, h3, h4, λ t ht => h5 t (Zb _ ht)⟩
 src := r.src
 held := λ t ht => r.held t (Zb _ ht)
 same := r.same
end
end HS
namespace HS
open PySem PySem.Spec L2
structure Ret (K : PySem.W.Frag) (H0 : Hp) (A0 : List Addr) (d : D) (fr : Bool) (v : V) (H' : Hp) (G : List Addr) : Prop where
 same : Qr H0 H'
 rp : Rp K H' d v G
 src : ∀ a ∈ G, H0 a = none ∨ a ∈ A0
 cnt : fr = true -> G.Nodup /\ G.length = d.nl /\ ∀ a ∈ G, H0 a = none
noncomputable abbrev Den := List D -> Option (D × Bool)
noncomputable def spV (K : PySem.W.Frag) (n : Nat) (den : Den) : Sp := λ vs H Q _ => ∃ ds F d fr, Rps K H ds vs F /\ ds.length = n /\ den ds = some (d, fr) /\ ∀ v H' G, Ret K H F d fr v H' G -> Q v H'
theorem QmN {K : PySem.W.Frag} {n : Nat} {den : Den} {ps : List Str} (hn : ps.length = n) : ∀ vs H Q E, spV K n den vs H Q E -> vs.length = ps.length := λ vs H Q E ⟨ds, F, d, fr, r, hl, _⟩ => by rw [hn, ← hl, r.length]
noncomputable def Qx (n : Nat) (den : Den) (dfl : List D) (fs : DA) : DE := λ ρ => (fs ρ).bind λ r => if r.ds.length + dfl.length = n then (den (r.ds ++ dfl)).map λ q => if q.2 = true then ⟨q.1, true, []⟩ else R.norm ⟨q.1, false, r.M⟩ else none
section
variable {X : Cx} {e : Expr} {es : List Expr} {fs : DA} {pos p : Pos} {x : Str} {n k : Nat} {f : Addr} {fd : FuncData} {ps : List Str} {den : Den} {dfl : List D} {dvs : List V} {ds : List Value}
theorem Qgi {σ : L2.St} {H H0 : Hp} {A0 : List Addr} {Q : VK} (hdf : ∀ H, Rps X.K H dfl dvs []) : tV X.K H0 A0 (Qx n den dfl fs) σ H Q -> Qjh (spV X.K n den) dvs E0 (tVA X.K H0 A0 fs) σ H Q := λ ⟨ρ, hs, F, r, rel, e, q⟩ => by
 obtain ⟨ra, e1, e⟩ := bind1 e
 split at e
 ·rename_i hl
  obtain ⟨⟨d, fr⟩, e2, e⟩ := Zc.mp e
  refine ⟨ρ, hs, F, ra, rel, e1, λ vs H1 G p1 => ⟨ra.ds ++ dfl, G ++ [], d, fr, p1.rp.append (hdf H1), by rw [Zs]; exact hl, e2, λ v H2 G2 rt => ?_⟩⟩
  subst e
  have src : Src ρ F H ra.M G2 := λ a ha => by
   rcases rt.src a ha with z | z
   ·exact .inl (p1.same.free z)
   ·rw [Zbl] at z
    exact p1.src a z
  split at q
  ·rename_i hf
   have hf : fr = true := hf
   obtain ⟨nd, hn, fresh⟩ := rt.cnt hf
   have hH : ∀ a ∈ G2, H a = none := λ a ha => p1.same.free (fresh a ha)
   refine q v H2 G2 ⟨p1.same.trans rt.same, rt.rp, λ a ha => .inl (hH a ha), λ _ => ⟨λ a => ?_, hn⟩, Qak.nil⟩
   by_cases ha : a ∈ G2
   ·rw [Qag (hH a ha)]; have := Zad.mp nd a; omega
   ·rw [ZC.mpr ha]; exact ZI _
  ·refine q v H2 G2 (QH.norm ⟨p1.same.trans rt.same, rt.rp, src, λ z => (by cases z), p1.own⟩)
 ·cases e
theorem QmE (Fk : Qa3 X.prog X.w X.K X.mg X.base CX0 k f fd ps (spV X.K n den)) (hr : QX k X.A) (hg : Gl X x) (hm : X.mg x = some (.ref f)) (hk : PySem.W.keepIn X.K (.ref f) = true) (hb : Binds X.K fd ps ds) (hd : Qj dvs ds) (hdf : ∀ H, Rps X.K H dfl dvs [])
  (ha : SA X (e :: es) fs) (hdb : (x == ("__debug__" : Str)) = false) (he : starEach (e :: es) X.env = (false, eval e X.env) :: starEach es X.env) (hpl : (backTo pos (starEach es X.env)).any (·.1) = false) :
  SE X (.Call (.Name x p) (e :: es) [] pos) (Qx n den dfl fs) := λ H0 A0 =>
 (QmL Fk hr hg hm hk hb hd QlS (ha H0 A0) hdb he hpl).mono λ σ H Q h => Qgi hdf h
theorem QkV (Fk : Qa3 X.prog X.w X.K X.mg X.base CX0 k f fd ps (spV X.K n den)) (hr : QX k X.A) (hg : Gl X x) (hm : X.mg x = some (.ref f)) (hk : PySem.W.keepIn X.K (.ref f) = true) (hb : Binds X.K fd ps ds) (hd : Qj dvs ds) (hdf : ∀ H, Rps X.K H dfl dvs [])
  (hdb : (x == ("__debug__" : Str)) = false) : SE X (.Call (.Name x p) [] [] pos) (Qx n den dfl Qg) := λ H0 A0 =>
 (QkS Fk hr hg hm hk hb hd QlS hdb).mono λ σ H Q h => by
  have h' := Qgi (X := X) (H0 := H0) (A0 := A0) hdf h
  obtain ⟨ρ, hs, F, r, rel, e, q⟩ := h'
  cases e
  exact q [] H [] ⟨Qr.refl _, by simp [Rps], Src.nil, λ _ => ⟨Cnt.nil, rfl⟩, Qak.nil⟩
end
structure IR where
 items : List D
 M : List Nat
noncomputable abbrev DI := En -> Option IR
def Qhe (K : PySem.W.Frag) (H : Hp) (ts : List (V × D × List Addr)) : Prop := ∀ t ∈ ts, Rp K H t.2.1 t.1 t.2.2
structure Walk (K : PySem.W.Frag) (J : It) (ts : List (V × D × List Addr)) (ds : List D) : Prop where
 stop : ∀ H, Qhe K H ts -> J.stop ds.length H
 go : ∀ i H, i < ds.length -> Qhe K H ts -> J.go i H
 yld : ∀ (i : Nat) d H x H', ds[i]? = some d -> Qhe K H ts -> J.yld i H x H' -> Qr H H' /\ ∃ G, Rp K H' d x G /\ ∀ a ∈ G, ∃ t ∈ ts, a ∈ t.2.2
noncomputable def tI (K : PySem.W.Frag) (H0 : Hp) (A0 : List Addr) (f : DI) : TI := λ σ H Rr => ∃ ρ hs F ir, Rel K H0 A0 hs ρ F σ H /\ f ρ = some ir ∧
 ∀ J H1 ts, Qr H H1 -> Walk K J ts ir.items -> (∀ t ∈ ts, Rp K H1 t.2.1 t.1 t.2.2 /\ Src ρ F H ir.M t.2.2) -> Qak ρ ir.M -> ir.items.length <= sizeLine -> Rr J H1
def SI (X : Cx) (tg e : Expr) (f : DI) : Prop := ∀ H0 A0, PI X tg e (tI X.K H0 A0 f)
theorem _root_.L2.PI.mono {X : Cx} {tg e : Expr} {t t' : TI} (h : PI X tg e t) (m : ∀ σ H Q, t' σ H Q -> t σ H Q) : PI X tg e t' := λ pins s σ H Q I q => h pins s σ H Q I (m σ H Q q)
section
variable {X : Cx} {tg a b : Expr} {fa fb : DE} {fs : DA} {pos p : Pos}
theorem Rps.nth {K : PySem.W.Frag} {H : Hp} {ds : List D} {vs : List V} {F : List Addr} {i : Nat} {d : D} (h : Rps K H ds vs F) (e : ds[i]? = some d) : ∃ v G, vs[i]? = some v /\ Rp K H d v G /\ ∀ a ∈ G, a ∈ F := by
 obtain ⟨v, F1, G, F2, h1, h2, h3, _⟩ := h.get e
 exact ⟨v, G, h1, h3, λ a ha => by rw [h2]; exact Zb _ (Zf _ ha)⟩
noncomputable def QpO (K : PySem.W.Frag) (tl : TE) : TI := λ σ H Rr => tl σ H λ x H1 => (∃ a, x = .ref a /\ (∃ xs, SqL K H1 a xs) /\ Rr (Itl K a) H1) ∨ (∃ a, x = .ref a /\ (∃ xs, SqT K H1 a xs) /\ Rr (Itt K a) H1)
theorem Qnh {l : Expr} {tl : TE} (hl : PE X l tl) : PI X tg l (QpO X.K tl) := by
 intro pins s σ H Rr I h
 refine thn (hl pins s σ H _ I h) λ v s1 ⟨x, H1, I1, r1, q1⟩ => ?_
 rcases q1 with ⟨a, e, ⟨xs, hq⟩, q⟩ | ⟨a, e, ⟨xs, hq⟩, q⟩
 ·subst e
  cases r1
  obtain ⟨its, rv, pl, hz⟩ := I1.list hq
  refine wpAny_pyIter_list pl.isList ⟨s1.heap.objs.size, [s1.heap.objs.size], _, _, H1, rfl, I1.kept (t' := s1.toks) λ b o e => Zm _ e, Qjx a _, ⟨_, Zy _ rfl, rfl, rfl⟩, λ b hb => ?_, q⟩
  have e : b = s1.heap.objs.size := by simpa using hb
  subst e
  exact I1.Qi4 (Zj _) (I1.hok.fresh (Zj _))
 ·subst e
  cases r1
  obtain ⟨its, rv, pl, hz⟩ := I1.tuple hq
  refine wpAny_pyIter_tuple (show s1.heap.IsTuple a its.toArray from pl) ⟨s1.heap.objs.size, [s1.heap.objs.size], _, _, H1, rfl, I1.kept (t' := s1.toks) λ b o e => Zm _ e, Qjb a _, ⟨_, Zy _ rfl, rfl, rfl⟩, λ b hb => ?_, q⟩
  have e : b = s1.heap.objs.size := by simpa using hb
  subst e
  exact I1.Qi4 (Zj _) (I1.hok.fresh (Zj _))
noncomputable def Qay (fa : DE) : DI := λ ρ => (fa ρ).bind λ r => match r.d with
 | .lst xs => some ⟨xs, r.M⟩
 | .tup xs => if xs.length <= sizeLine then some ⟨xs, r.M⟩ else none
 | _ => none
theorem Qkf {K : PySem.W.Frag} {c : Addr} {ds : List D} {G : List Addr} : Walk K (Itl K c) [(.ref c, .lst ds, G)] ds where
 stop := λ H h => by
  obtain ⟨l, vs, L, e, hl, rl, zl, el⟩ := (h _ (Zw.mpr rfl)).lst_inv
  cases e
  exact ⟨vs, QS hl, by rw [rl.length]; exact Zj _⟩
 go := λ i H hi h => by
  obtain ⟨l, vs, L, e, hl, rl, zl, el⟩ := (h _ (Zw.mpr rfl)).lst_inv
  cases e
  have : i < vs.length := by rw [← rl.length]; exact hi
  exact ⟨vs, vs[i], QS hl, by simp [this]⟩
 yld := λ i d H x H' e h y => by
  obtain ⟨l, vs, L, e1, hl, rl, zl, el⟩ := (h _ (Zw.mpr rfl)).lst_inv
  cases e1
  obtain ⟨rfl, y⟩ := y
  obtain ⟨v, G', h1, h2, h3⟩ := rl.nth e
  have := y vs (QS hl)
  rw [h1] at this
  cases this
  refine ⟨Qr.refl _, G', h2, λ z hz => ⟨_, Zw.mpr rfl, ?_⟩⟩
  have := h3 z hz
  rcases el with rfl | rfl
  ·exact Zd _ this
  ·exact this
theorem QkZ {K : PySem.W.Frag} {c : Addr} {ds : List D} {G : List Addr} : Walk K (Itt K c) [(.ref c, .tup ds, G)] ds where
 stop := λ H h => by
  obtain ⟨l, vs, e, hl, rl⟩ := (h _ (Zw.mpr rfl)).Qaf
  cases e
  exact ⟨vs, hl, by rw [rl.length]; exact Zj _⟩
 go := λ i H hi h => by
  obtain ⟨l, vs, e, hl, rl⟩ := (h _ (Zw.mpr rfl)).Qaf
  cases e
  have : i < vs.length := by rw [← rl.length]; exact hi
  exact ⟨vs, vs[i], hl, by simp [this]⟩
 yld := λ i d H x H' e h y => by
  obtain ⟨l, vs, e1, hl, rl⟩ := (h _ (Zw.mpr rfl)).Qaf
  cases e1
  obtain ⟨rfl, y⟩ := y
  obtain ⟨v, G', h1, h2, h3⟩ := rl.nth e
  have := y vs hl
  rw [h1] at this
  cases this
  exact ⟨Qr.refl _, G', h2, λ z hz => ⟨_, Zw.mpr rfl, h3 z hz⟩⟩
theorem Qoy (ha : SE X a fa) : SI X tg a (Qay fa) := λ H0 A0 => (Qnh (ha H0 A0)).mono λ σ H Rr ⟨ρ, hs, F, ir, rel, e, q⟩ => by
 obtain ⟨r, e1, e⟩ := bind1 e
 refine ⟨ρ, hs, F, r, rel, e1, λ v H1 G p => ?_⟩
 have rp := p.rp
 cases hr : r.d with
 | lst xs =>
  rw [hr] at e rp
  cases e
  obtain ⟨c, vs, L, rfl, hl, rl, zl, el⟩ := rp.lst_inv
  refine .inl ⟨c, rfl, ⟨vs, QS hl⟩, q _ H1 [(.ref c, .lst xs, G)] p.same Qkf (λ t ht => ?_) p.own zl⟩
  rw [Zw.mp ht]
  exact ⟨rp, p.src⟩
 | tup xs =>
  rw [hr] at e rp
  dsimp only at e
  split at e
  ·rename_i hz
   cases e
   obtain ⟨c, vs, rfl, hl, rl⟩ := rp.Qaf
   refine .inr ⟨c, rfl, ⟨vs, hl⟩, q _ H1 [(.ref c, .tup xs, G)] p.same QkZ (λ t ht => ?_) p.own hz⟩
   rw [Zw.mp ht]
   exact ⟨rp, p.src⟩
  ·cases e
 | _ => rw [hr] at e; cases e
noncomputable def QdK (lo : Int) (n : Nat) : List D := (List.range n).map λ (k : Nat) => .int (lo + (k : Int))
theorem Qdp {lo : Int} {n : Nat} : (QdK lo n).length = n := by simp [QdK]
theorem Qlc {lo : Int} {n i : Nat} {d : D} (h : (QdK lo n)[i]? = some d) : i < n /\ d = .int (lo + i) := by
 unfold QdK at h
 rw [Zq] at h
 cases q : (List.range n)[i]? with
 | none => rw [q] at h; cases h
 | some k =>
  rw [q] at h
  obtain ⟨h1, h2⟩ := Zh.mp q
  simp at h1 h2
  subst h2
  exact ⟨h1, (Option.some.inj h).symm⟩
theorem Qfk {K : PySem.W.Frag} {lo : Int} {n : Nat} : Walk K (Itr lo n) [] (QdK lo n) where
 stop := λ H _ => by rw [Qdp]; exact Zj _
 go := λ i H hi _ => by rw [Qdp] at hi; exact hi
 yld := λ i d H x H' e _ y => by
  obtain ⟨h1, rfl⟩ := Qlc e
  obtain ⟨rfl, rfl⟩ := y
  exact ⟨Qr.refl _, [], .int_mk, λ z hz => by simp at hz⟩
noncomputable def Qao (fa : DE) : DI := λ ρ => (fa ρ).bind λ r => match r.d with
 | .int j => if j <= 16777216 /\ -(2 ^ 62) <= j then some ⟨QdK 0 j.toNat, []⟩ else none
 | _ => none
noncomputable def Qct (fa fb : DE) : DI := λ ρ => (fa ρ).bind λ r => (fb ρ).bind λ r' => match r.d, r'.d with
 | .int i, .int j => if j - i <= 16777216 /\ -(2 ^ 62) <= i /\ i < 2 ^ 62 /\ -(2 ^ 62) <= j /\ j < 2 ^ 62 then some ⟨QdK i (j - i).toNat, []⟩ else none
 | _, _ => none
theorem Qel : (sizeLine : Nat) = 16777216 := sizeLine_eq
theorem QjI (hg : Gl X "range") (hm : X.mg "range" = none) (ha : SE X a fa) (hs : starEach [a] X.env = [(false, eval a X.env)]) : SI X tg (.Call (.Name "range" p) [a] [] pos) (Qao fa) := λ H0 A0 =>
 (Qkr hg hm (QaR (ha H0 A0) QcL hs) hs).mono λ σ H Rr ⟨ρ, hs, F, ir, rel, e, q⟩ => by
  obtain ⟨r, e1, e⟩ := bind1 e
  refine ⟨ρ, hs, F, r, rel, e1, λ v H1 G pp => ?_⟩
  have rp := pp.rp
  cases hr : r.d with
  | int j =>
   rw [hr] at e rp
   dsimp only at e
   split at e
   ·rename_i hz
    cases e
    rw [rp.int_inv]
    refine ⟨j, rfl, hz.2, by omega, q _ H1 [] pp.same Qfk (λ t ht => by simp at ht) Qak.nil ?_⟩
    rw [Qdp, Qel]; omega
   ·cases e
  | _ => rw [hr] at e; cases e
theorem Qka (hg : Gl X "range") (hm : X.mg "range" = none) (ha : SE X a fa) (hb : SE X b fb) (hs : starEach [a, b] X.env = [(false, eval a X.env), (false, eval b X.env)]) (hs2 : starEach [b] X.env = [(false, eval b X.env)]) :
  SI X tg (.Call (.Name "range" p) [a, b] [] pos) (Qct fa fb) := λ H0 A0 =>
 (Qko hg hm (QaR (ha H0 A0) (QaR (hb H0 A0) QcL hs2) (by rw [hs, hs2])) hs hs2).mono λ σ H Rr ⟨ρ, hs, F, ir, rel, e, q⟩ => by
  obtain ⟨r, e1, e⟩ := bind1 e
  obtain ⟨r', e2, e⟩ := bind1 e
  refine ⟨ρ, hs, F, r, rel, e1, λ v H1 G pp => ⟨ρ, hs, F, r', rel.ext pp.same, e2, λ v' H2 G' pp' => ?_⟩⟩
  have rp := pp.rp.same pp'.same
  have rp' := pp'.rp
  cases hr : r.d with
  | int i =>
   cases hr' : r'.d with
   | int j =>
    rw [hr, hr'] at e
    rw [hr] at rp
    rw [hr'] at rp'
    dsimp only at e
    split at e
    ·rename_i hz
     cases e
     rw [rp.int_inv, rp'.int_inv]
     refine ⟨i, j, rfl, hz.2, q _ H2 [] (pp.same.trans pp'.same) Qfk (λ t ht => by simp at ht) Qak.nil ?_⟩
     rw [Qdp, Qel]; omega
    ·cases e
   | _ => rw [hr, hr'] at e; cases e
  | _ => rw [hr] at e; cases e
noncomputable def QdR (xs ys : List D) : List D := (xs.zip ys).map λ q => .tup [q.1, q.2]
theorem QeQ {xs ys : List D} : (QdR xs ys).length = min xs.length ys.length := by simp [QdR]
theorem QlD {xs ys : List D} {i : Nat} {d : D} (h : (QdR xs ys)[i]? = some d) : ∃ e f, xs[i]? = some e /\ ys[i]? = some f /\ d = .tup [e, f] := by
 unfold QdR at h
 rw [Zq] at h
 cases q : (xs.zip ys)[i]? with
 | none => rw [q] at h; cases h
 | some e =>
  rw [q] at h
  obtain ⟨h1, h2⟩ := List.getElem?_zip_eq_some.mp q
  exact ⟨e.1, e.2, h1, h2, (Option.some.inj h).symm⟩
theorem Qk2 {K : PySem.W.Frag} {c c' : Addr} {xs ys : List D} {G G' : List Addr} : Walk K (Itz K c c') [(.ref c, .lst xs, G), (.ref c', .lst ys, G')] (QdR xs ys) where
 stop := λ H h => by
  obtain ⟨l, vs, L, e, hl, rl, zl, el⟩ := (h _ (Zi)).lst_inv
  obtain ⟨l', vs', L', e', hl', rl', zl', el'⟩ := (h _ (Zd _ Zi)).lst_inv
  cases e
  cases e'
  refine ⟨vs, vs', QS hl, QS hl', ?_⟩
  rw [QeQ, ← rl.length, ← rl'.length]; omega
 go := λ i H hi h => by
  obtain ⟨l, vs, L, e, hl, rl, zl, el⟩ := (h _ (Zi)).lst_inv
  obtain ⟨l', vs', L', e', hl', rl', zl', el'⟩ := (h _ (Zd _ Zi)).lst_inv
  cases e
  cases e'
  rw [QeQ] at hi
  have h1 : i < vs.length := by rw [← rl.length]; omega
  have h2 : i < vs'.length := by rw [← rl'.length]; omega
  exact ⟨vs, vs', vs[i], vs'[i], QS hl, QS hl', by simp [h1], by simp [h2]⟩
 yld := λ i d H x H' e h y => by
  obtain ⟨l, vs, L, e1, hl, rl, zl, el⟩ := (h _ (Zi)).lst_inv
  obtain ⟨l', vs', L', e1', hl', rl', zl', el'⟩ := (h _ (Zd _ Zi)).lst_inv
  cases e1
  cases e1'
  obtain ⟨d1, d2, ea, eb, rfl⟩ := QlD e
  obtain ⟨pp, u, u', rfl, hp, rfl, y, y'⟩ := y
  obtain ⟨v, G1, h1, h2, h3⟩ := rl.nth ea
  obtain ⟨v', G2, h1', h2', h3'⟩ := rl'.nth eb
  have := y vs (QS hl)
  rw [h1] at this
  cases this
  have := y' vs' (QS hl')
  rw [h1'] at this
  cases this
  have s := Qa2 (o := .tup [u, u']) hp
  refine ⟨s, G1 ++ G2, Rp.QhN QQ ?_, λ z hz => ?_⟩
  ·simp only [Rps]
   exact ⟨u, [u'], G1, G2, rfl, rfl, h2.same s, u', [], G2, [], rfl, by simp, h2'.same s, rfl, rfl⟩
  ·rcases Zx.mp hz with hz | hz
   ·refine ⟨_, Zi, ?_⟩
    have := h3 z hz
    rcases el with rfl | rfl
    ·exact Zd _ this
    ·exact this
   ·refine ⟨_, Zd _ Zi, ?_⟩
    have := h3' z hz
    rcases el' with rfl | rfl
    ·exact Zd _ this
    ·exact this
noncomputable def Qd8 (fa fb : DE) : DI := λ ρ => (fa ρ).bind λ r => (fb ρ).bind λ r' => match r.d, r'.d with
 | .lst xs, .lst ys => some ⟨QdR xs ys, r.M ++ r'.M⟩
 | _, _ => none
theorem QoB {es : List Expr} {tk : Nat} {tpos : Pos} (hg : Gl X "zip") (hm : X.mg "zip" = none) (ha : SE X a fa) (hb : SE X b fb) (hs : starEach [a, b] X.env = [(false, eval a X.env), (false, eval b X.env)]) (hs2 : starEach [b] X.env = [(false, eval b X.env)]) :
  SI X (.Tuple es tk tpos) (.Call (.Name "zip" p) [a, b] [] pos) (Qd8 fa fb) := λ H0 A0 =>
 (Qn9 hg hm (QaR (ha H0 A0) (QaR (hb H0 A0) QcL hs2) (by rw [hs, hs2])) hs hs2).mono λ σ H Rr ⟨ρ, hs, F, ir, rel, e, q⟩ => by
  obtain ⟨r, e1, e⟩ := bind1 e
  obtain ⟨r', e2, e⟩ := bind1 e
  refine ⟨ρ, hs, F, r, rel, e1, λ v H1 G pp => ⟨ρ, hs, F, r', rel.ext pp.same, e2, λ v' H2 G' pp' => ?_⟩⟩
  have rp := pp.rp.same pp'.same
  have rp' := pp'.rp
  cases hr : r.d with
  | lst xs =>
   cases hr' : r'.d with
   | lst ys =>
    rw [hr, hr'] at e
    rw [hr] at rp
    rw [hr'] at rp'
    cases e
    obtain ⟨c, vs, L, rfl, hl, rl, zl, el⟩ := rp.lst_inv
    obtain ⟨c', vs', L', rfl, hl', rl', zl', el'⟩ := rp'.lst_inv
    refine ⟨c, c', rfl, ⟨vs, QS hl⟩, ⟨vs', QS hl'⟩, q _ H2 [(.ref c, .lst xs, G), (.ref c', .lst ys, G')] (pp.same.trans pp'.same) Qk2 (λ t ht => ?_) (pp.own.append pp'.own) (by rw [QeQ]; omega)⟩
    have sa := pp.src.append pp'.src pp.same
    rcases Zt.mp ht with rfl | ht
    ·exact ⟨rp, λ z hz => sa z (Zf _ hz)⟩
    ·rw [Zw.mp ht]
     exact ⟨rp', λ z hz => sa z (Zb _ hz)⟩
   | _ => rw [hr, hr'] at e; cases e
  | _ => rw [hr] at e; cases e
end
end HS
namespace HS
open PySem L2
section
variable {X : Cx} {a b c : Expr} {fa fb fc : DE} {pos p : Pos}
end
end HS
namespace HS
open PySem PySem.Spec L2
inductive Tg where
 | nm (i : Nat)
 | tp (is : List Nat)
noncomputable def Tg.slots : Tg -> List Nat
 | .nm i => [i]
 | .tp is => is
noncomputable def QcP : List Nat -> List D -> En -> En
 | i :: is, d :: ds, ρ => QcP is ds (ρ.set i (some (d, d.flat)))
 | _, _, ρ => ρ
noncomputable def Qa0 : Tg -> D -> En -> Option En
 | .nm i, d, ρ => some (ρ.set i (some (d, d.flat)))
 | .tp is, .tup xs, ρ => if xs.length = is.length then some (QcP is xs ρ) else none
 | .tp _, _, _ => none
noncomputable def tG (K : PySem.W.Frag) (H0 : Hp) (A0 : List Addr) (t : Tg) : TG := λ v σ H Q => ∃ ρ hs F d G ρ', Rel K H0 A0 hs ρ F σ H /\ Rp K H d v G /\ Shr H0 A0 ρ F G /\ Qa0 t d ρ = some ρ' ∧
 ∀ σ' F', Rel K H0 A0 hs ρ' F' σ' H -> (∀ j, j ∉ t.slots -> σ'[j]? = σ[j]?) -> (∀ j a, a ∈ F' j -> a ∈ F j ∨ a ∈ G) -> Q σ' H
def SG (X : Cx) (tg : Expr) (t : Tg) : Prop := ∀ H0 A0, PG X tg (tG X.K H0 A0 t)
theorem _root_.L2.PG.mono {X : Cx} {tg : Expr} {t t' : TG} (h : PG X tg t) (m : ∀ v σ H Q, t' v σ H Q -> t v σ H Q) : PG X tg t' := λ pins s σ H v u Q I r q => h pins s σ H v u Q I r (m v σ H Q q)
noncomputable def Qfg : List Nat -> TGs
 | [] => QnE
 | i :: is => Ql2 (Qdl i) (Qfg is)
theorem Shr.set {H0 : Hp} {A0 : List Addr} {ρ : En} {F : Nat -> List Addr} {G G1 : List Addr} {i : Nat} {d : D} (h : Shr H0 A0 ρ F G) (hf : d.flat = true -> G1 = []) : Shr H0 A0 (ρ.set i (some (d, d.flat))) (λ j => if j = i then G1 else F j) G := λ a ha => by
 refine ⟨(h a ha).1, λ j d' e => ?_⟩
 by_cases hj : j = i
 ·subst hj
  show ¬ a ∈ (if j = j then G1 else F j)
  rw [if_pos rfl]
  have hl : j < ρ.length := by
   by_cases hl : j < ρ.length
   ·exact hl
   ·rw [Zu (by simp; omega)] at e; cases e
  rw [Zk hl] at e
  have e1 := Option.some.inj (Option.some.inj e)
  rw [hf (congrArg Prod.snd e1)]
  simp
 ·rw [Ze (Ne.symm hj)] at e
  show ¬ a ∈ (if j = i then G1 else F j)
  rw [if_neg hj]
  exact (h a ha).2 j d' e
theorem QhV {K : PySem.W.Frag} {H0 : Hp} {A0 : List Addr} {hs : List (V × D × List Addr)} : ∀ (is : List Nat) (ds : List D) (vs : List V) (ρ : En) (F : Nat -> List Addr) (σ : L2.St) (H : Hp) (G : List Addr) (Q : L2.St -> Hp -> Prop),
  Rel K H0 A0 hs ρ F σ H -> Rps K H ds vs G -> Shr H0 A0 ρ F G -> ds.length = is.length →
  (∀ σ' F', Rel K H0 A0 hs (QcP is ds ρ) F' σ' H -> (∀ j, j ∉ is -> σ'[j]? = σ[j]?) -> (∀ j a, a ∈ F' j -> a ∈ F j ∨ a ∈ G) -> Q σ' H) -> Qfg is vs σ H Q
 | [], ds, vs, ρ, F, σ, H, G, Q, rel, rp, sh, hl, q => by
  have : ds = [] := by simpa using hl
  subst this
  simp only [Rps] at rp
  exact ⟨rp.1, q σ F rel (λ _ _ => rfl) λ _ _ h => .inl h⟩
 | i :: is, [], vs, ρ, F, σ, H, G, Q, rel, rp, sh, hl, q => by simp at hl
 | i :: is, d :: ds, vs, ρ, F, σ, H, G, Q, rel, rp, sh, hl, q => by
  simp only [Rps] at rp
  obtain ⟨v, ws, G1, G2, rfl, rfl, r1, r2⟩ := rp
  refine ⟨v, ws, rfl, ?_⟩
  have sh1 : Shr H0 A0 ρ F G1 := λ a ha => sh a (Zf _ ha)
  have sh2 : Shr H0 A0 ρ F G2 := λ a ha => sh a (Zb _ ha)
  refine QhV is ds ws _ _ _ H G2 Q (rel.Qjc (i := i) r1 sh1) r2 (sh2.set r1.QaZ) (by simpa using hl) λ σ' F' rel' k m => q σ' F' rel' (λ j hj => ?_) λ j a ha => ?_
  ·have h1 : j ≠ i := λ z => hj (by rw [z]; exact Zi)
   rw [k j λ z => hj (Zd _ z), Ze (Ne.symm h1)]
  ·rcases m j a ha with z | z
   ·by_cases hj : j = i
    ·rw [if_pos hj] at z; exact .inr (Zf _ z)
    ·rw [if_neg hj] at z; exact .inl z
   ·exact .inr (Zb _ z)
section
variable {X : Cx} {tg : Expr} {pos : Pos}
theorem Qmk {i : Nat} {x : Str} (h : PG X (.Name x pos) (Qdl i)) : SG X (.Name x pos) (.nm i) := λ H0 A0 => h.mono λ v σ H Q ⟨ρ, hs, F, d, G, ρ', rel, rp, sh, e, q⟩ => by
 cases e
 refine q _ _ (rel.Qjc (i := i) rp sh) (λ j hj => ?_) λ j a ha => ?_
 ·have : j ≠ i := λ z => hj (by simp [Tg.slots, z])
  rw [Ze (Ne.symm this)]
 ·by_cases hj : j = i
  ·rw [if_pos hj] at ha; exact .inr ha
  ·rw [if_neg hj] at ha; exact .inl ha
theorem Qn7 {es : List Expr} {k : Nat} {is : List Nat} (hc : X.calm = true) (h : PGs X es (Qfg is)) (hn : (assignEach es X.env).length = is.length) (hst : (assignEach es X.env).findIdx? (·.1) = none) : SG X (.Tuple es k pos) (.tp is) := λ H0 A0 =>
 (QoH hc h hn hst).mono λ v σ H Q ⟨ρ, hs, F, d, G, ρ', rel, rp, sh, e, q⟩ => by
  cases d with
  | tup xs =>
   simp only [Qa0] at e
   split at e
   ·rename_i hl
    cases e
    obtain ⟨a, vs, rfl, hq, rs⟩ := rp.Qaf
    exact ⟨a, vs, rfl, hq, by rw [← rs.length]; exact hl, QhV is xs vs ρ F σ H G Q rel rs sh hl q⟩
   ·cases e
  | _ => simp only [Qa0] at e; cases e
end
noncomputable def Qcq (cap : List (Option Nat)) (ρ : En) : En := cap.map λ o => o.bind λ i => match ρ[i]? with
 | some (some (d, _)) => some (d, d.flat)
 | _ => none
noncomputable def QiU (cap : List (Option Nat)) (ρ : En) : List Nat := cap.filterMap λ o => o.bind λ i => match ρ[i]? with
 | some (some (d, b)) => if b && !d.flat then some i else none
 | _ => none
noncomputable def QcR (t : Tg) (ft : DT) (fe : DE) (ρc : En) (acc : List D × Bool) (d : D) : Option (List D × Bool) :=
 (Qa0 t d ρc).bind λ ρ1 => (ft ρ1).bind λ c => if c = true then (fe ρ1).map λ r => (acc.1 ++ [r.d], acc.2 && r.norm.fr) else some acc
noncomputable def Q9 (fi : DI) (t : Tg) (cap : List (Option Nat)) (ft : DT) (fe : DE) : DE := λ ρ => (fi ρ).bind λ ir =>
 (ir.items.foldlM (QcR t ft fe (Qcq cap ρ)) ([], true)).map λ q => if q.2 = true then ⟨.lst q.1, true, []⟩ else ⟨.lst q.1, false, ir.M ++ QiU cap ρ⟩
def Qba (ρ : En) : Prop := ∀ (j : Nat) d, ρ[j]? = some (some (d, true)) -> d.flat = true
theorem Qba.set {ρ : En} (h : Qba ρ) (i : Nat) (d : D) : Qba (ρ.set i (some (d, d.flat))) := λ j d' e => by
 by_cases hj : j = i
 ·subst hj
  have hl : j < ρ.length := by
   by_cases hl : j < ρ.length
   ·exact hl
   ·rw [Zu (by simp; omega)] at e; cases e
  rw [Zk hl] at e
  have e1 := Option.some.inj (Option.some.inj e)
  have h1 : d = d' := congrArg Prod.fst e1
  have h2 : d.flat = true := congrArg Prod.snd e1
  rw [← h1]; exact h2
 ·rw [Ze (Ne.symm hj)] at e
  exact h j d' e
theorem Qba.QcP : ∀ (is : List Nat) (ds : List D) {ρ : En}, Qba ρ -> Qba (QcP is ds ρ)
 | [], _, _, h => h
 | _ :: _, [], _, h => h
 | i :: is, d :: ds, _, h => Qba.QcP is ds (h.set i d)
theorem Qba.bind {t : Tg} {d : D} {ρ ρ' : En} (h : Qba ρ) (e : Qa0 t d ρ = some ρ') : Qba ρ' := by
 cases t with
 | nm i => cases e; exact h.set i d
 | tp is =>
  cases d with
  | tup xs =>
   simp only [Qa0] at e
   split at e
   ·cases e; exact h.QcP is xs
   ·cases e
  | _ => simp only [Qa0] at e; cases e
theorem QeV (cap : List (Option Nat)) (ρ : En) : Qba (Qcq cap ρ) := λ j d e => by
 unfold Qcq at e
 rw [Zq] at e
 cases q : cap[j]? with
 | none => rw [q] at e; cases e
 | some o =>
  rw [q] at e
  cases o with
  | none => cases e
  | some i =>
   simp only [ZV, Za, Option.some.injEq] at e
   split at e
   ·have e1 := Option.some.inj e
    have h1 := congrArg Prod.fst e1
    have h2 := congrArg Prod.snd e1
    dsimp only at h1 h2
    rw [← h1]; exact h2
   ·cases e
theorem QgD {cap : List (Option Nat)} {ρ : En} {j : Nat} {d : D} {b : Bool} (e : (Qcq cap ρ)[j]? = some (some (d, b))) : ∃ i b', cap[j]? = some (some i) /\ ρ[i]? = some (some (d, b')) := by
 unfold Qcq at e
 rw [Zq] at e
 cases q : cap[j]? with
 | none => rw [q] at e; cases e
 | some o =>
  rw [q] at e
  cases o with
  | none => cases e
  | some i =>
   simp only [ZV, Za, Option.some.injEq] at e
   split at e
   ·rename_i d' b' hi
    have e1 := Option.some.inj e
    have h1 : d' = d := congrArg Prod.fst e1
    subst h1
    exact ⟨i, b', rfl, hi⟩
   ·cases e
def Qh4 (X : Cx) (ifs : List Expr) (f : DT) : Prop := ∀ H0 A0, PTs X ifs (tVT X.K H0 A0 f)
noncomputable def QaM : DT := λ _ => some true
theorem Qlh {X : Cx} : Qh4 X [] QaM := λ H0 A0 pins s σ H Q I ⟨ρ, hs, F, b, rel, e, q⟩ => by
 cases e
 exact Qmf pins s σ H Q I (q H (Qr.refl _))
theorem Qk0 {X : Cx} {c : Expr} {f : DT} (h : ST X c f) : Qh4 X [c] f := λ H0 A0 => QmW (h H0 A0)
structure QgX (X : Cx) (N' : List Str) (scope : Scope) (cap : List (Option Nat)) (tgs : List Nat) : Prop where
 len : cap.length = N'.length
 get : ∀ (j i : Nat), cap[j]? = some (some i) -> ∃ x, N'[j]? = some x /\ scope.names.lookup x = some .free /\ X.N[i]? = some x /\ (X.env.kindOf x = some .cell ∨ X.env.kindOf x = some .free)
 apart : ∀ (j i : Nat), cap[j]? = some (some i) -> j ∉ tgs
theorem join_some {α : Type} {o : Option (Option α)} {v : α} (h : o.join = some v) : o = some (some v) := by
 cases o with
 | none => cases h
 | some p => cases p with
  | none => cases h
  | some x => exact h ▸ rfl
theorem Qgr {X : Cx} {N' : List Str} {scope : Scope} {fi : DI} {t : Tg} {cap : List (Option Nat)} {ft : DT} {fe : DE} {H0 : Hp} {A0 : List Addr} {σ : L2.St} {H : Hp} {Q : VK} (hc : QgX X N' scope cap t.slots) :
  tV X.K H0 A0 (Q9 fi t cap ft fe) σ H Q -> QgP (tI X.K H0 A0 fi) (Qe7 X N' scope) (tG X.K (λ _ => none) [] t) (tVT X.K (λ _ => none) [] ft) (tV X.K (λ _ => none) [] fe) σ H Q := λ ⟨ρ, hs, F, r, rel, e, q⟩ => by
 obtain ⟨ir, e1, e⟩ := bind1 e
 obtain ⟨⟨xs, f⟩, ef, e⟩ := Zc.mp e
 subst e
 refine ⟨ρ, hs, F, ir, rel, e1, λ J H1 ts s1 wk hts ow hz => ?_⟩
 refine ⟨cap.map λ o => o.bind λ i => σ[i]?.join, ⟨by simp [hc.len], λ j x v hN hv => ?_⟩, λ Dl hD => ?_⟩
 ·rw [Zq] at hv
  cases qc : cap[j]? with
  | none => rw [qc] at hv; cases hv
  | some o =>
   rw [qc] at hv
   cases o with
   | none => cases hv
   | some i =>
    simp only [ZV, Za, Option.some.injEq] at hv
    obtain ⟨y, h1, h2, h3, h4⟩ := hc.get j i qc
    rw [hN] at h1; cases h1
    exact ⟨h2, i, h3, join_some hv, h4⟩
 generalize hσc : (cap.map λ o => o.bind λ i => σ[i]?.join) = σc
 generalize hρc : Qcq cap ρ = ρc at ef
 have hF0 : ∃ Fc : Nat -> List Addr, Fc = λ j => match cap[j]? with
  | some (some i) => (match ρ[i]? with
   | some (some _) => F i
   | _ => [])
  | _ => [] := ⟨_, rfl⟩
 obtain ⟨Fc, hFc⟩ := hF0
 have rel1 := rel.ext s1
 have relC : ∀ H2, Qr H1 H2 -> Rel X.K (λ _ => none) [] [] ρc Fc σc H2 := λ H2 s2 => by
  refine ⟨by rw [← hρc, ← hσc]; simp [Qcq], λ j d b e => ?_, λ j d e => ?_, λ j d b e a ha => .inl rfl, λ t ht => (by simp at ht), λ b o z => (by cases z)⟩
  ·rw [← hρc] at e
   obtain ⟨i, b', h1, h2⟩ := QgD e
   obtain ⟨v, h3, h4⟩ := (rel1.ext s2).val i d b' h2
   refine ⟨v, ?_, ?_⟩
   ·rw [← hσc, Zq, h1]
    simp only [ZV, Za, h3, Option.join_some]
   ·rw [hFc]; simp only [h1, h2]; exact h4
  ·have hf : d.flat = true := QeV cap ρ j d (by rw [hρc]; exact e)
   have : Fc j = [] := by
    rw [← hρc] at e
    obtain ⟨i, b', h1, h2⟩ := QgD e
    obtain ⟨v, h3, h4⟩ := rel1.val i d b' h2
    rw [hFc]; simp only [h1, h2]; exact h4.QaZ hf
   rw [this]
   exact ⟨(Qcx d hf).symm, Zaw, λ a ha => (by simp at ha), λ _ _ _ _ _ a ha => (by simp at ha), λ t ht => (by simp at ht)⟩
 have shC : ∀ G, Shr (λ _ => none) [] ρc Fc G := λ G a ha => ⟨.inl rfl, λ j d e hj => by
  have h0 := (relC H1 (Qr.refl _)).own j d e
  have hf : d.flat = true := QeV cap ρ j d (by rw [hρc]; exact e)
  have : (Fc j).length = 0 := by rw [h0.1, Qcx d hf]
  rw [List.eq_nil_of_length_eq_zero this] at hj
  simp at hj⟩
 have hSh : Qba ρc := by rw [← hρc]; exact QeV cap ρ
 have heldOf : ∀ H2, Qr H1 H2 -> Qhe X.K H2 ts := λ H2 s2 t ht => (hts t ht).1.same s2
 have oldOf : ∀ a, ((∃ t ∈ ts, a ∈ t.2.2) ∨ ∃ j, a ∈ Fc j) -> (∃ vs, H1 a = some (.lst vs)) /\ (H a = none ∨ ∃ (i : Nat) (d : D) (b : Bool), ρ[i]? = some (some (d, b)) /\ a ∈ F i /\ (b = true -> i ∈ ir.M ++ QiU cap ρ)) := λ a ha => by
  rcases ha with ⟨t, ht, ha⟩ | ⟨j, ha⟩
  ·refine ⟨(hts t ht).1.mem a ha, ?_⟩
   rcases (hts t ht).2 a ha with z | ⟨i, d, b, e, m, w⟩
   ·exact .inl z
   ·exact .inr ⟨i, d, b, e, m, λ hb => Zf _ (w hb)⟩
  ·have ha0 := ha
   rw [hFc] at ha
   dsimp only at ha
   split at ha
   ·rename_i i hi
    split at ha
    ·rename_i db hdb
     obtain ⟨d, b⟩ := db
     obtain ⟨v, h3, h4⟩ := rel1.val i d b hdb
     refine ⟨h4.mem a ha, .inr ⟨i, d, b, hdb, ha, λ hb => Zb _ ?_⟩⟩
     unfold QiU
     refine Zay.mpr ⟨some i, Zao hi, ?_⟩
     simp only [Za, hdb]
     have hnf : d.flat = false := by
      cases hf : d.flat with
      | false => rfl
      | true => rw [h4.QaZ hf] at ha; simp at ha
     rw [hb, hnf]; rfl
    ·simp at ha
   ·simp at ha
 have fresh5 : ∀ H2, Qr H1 H2 -> ∀ a, H2 a = none -> H1 a = none := λ H2 s2 a h => s2.free h
 refine ⟨λ i m acc H2 => m = ir.items.length - i /\ i <= ir.items.length /\ Qr H1 H2 /\ H2 Dl = some (.lst acc) /\ ∃ (ys : List D) (g : Bool) (G : List Addr), (ir.items.drop i).foldlM (QcR t ft fe ρc) (ys, g) = some (xs, f) /\ Rps X.K H2 ys acc G /\ ys.length <= i ∧
  (∀ a ∈ G, a ≠ Dl /\ (H1 a = none ∨ (∃ t ∈ ts, a ∈ t.2.2) ∨ ∃ j, a ∈ Fc j)) /\ (g = true -> G.length = nls ys /\ ∀ a, G.count a <= nw H1 a), ⟨ir.items.length, rfl, ZI _, Qa2 hD, QQ, [], true, [], by simpa using ef, by simp [Rps], Zj _, λ a ha => (by simp at ha), λ _ => ⟨rfl, λ a => by simp⟩⟩, ?_⟩
 rintro i m acc H2 ⟨rfl, hi, s2, eD, ys, g, G, hfold, rps, hlen, hG, hcnt⟩
 by_cases hlt : i < ir.items.length
 ·refine .inr ⟨wk.go i H2 hlt (heldOf H2 s2), λ x H3 hy => ?_⟩
  obtain ⟨s3, G0, rp0, hG0⟩ := wk.yld i ir.items[i] H2 x H3 (by simp [hlt]) (heldOf H2 s2) hy
  rw [Zaa hlt, Zbf] at hfold
  obtain ⟨acc1, hstep, hrest⟩ := bind1 hfold
  unfold QcR at hstep
  obtain ⟨ρ1, eb, hstep⟩ := bind1 hstep
  obtain ⟨c, ec, hstep⟩ := bind1 hstep
  have sh1 : Qba ρ1 := hSh.bind eb
  refine ⟨ρc, [], Fc, ir.items[i], G0, ρ1, relC H3 (s2.trans s3), rp0, shC G0, eb, λ σ2 F2 rel2 keep mem2 => ⟨λ j v hv => ?_, ρ1, [], F2, c, rel2, ec, λ H5 s5 => ?_⟩⟩
  ·have hj : j ∉ t.slots := λ hj => by
    rw [← hσc, Zq] at hv
    cases qc : cap[j]? with
    | none => rw [qc] at hv; cases hv
    | some o =>
     cases o with
     | none => rw [qc] at hv; cases hv
     | some k => exact hc.apart j k qc hj
   rw [keep j hj]; exact hv
  have s15 : Qr H1 H5 := (s2.trans s3).trans s5
  have eD5 : H5 Dl = some (.lst acc) := s5 _ _ (s3 _ _ eD)
  cases c with
  | false =>
   rw [if_neg Zai] at hstep
   refine Qot ?_
   cases hstep
   exact ⟨_, by omega, rfl, hlt, s15, eD5, ys, g, G, hrest, rps.same (s3.trans s5), by omega, hG, hcnt⟩
  | true =>
   rw [if_pos rfl] at hstep
   refine Qoh ?_
   obtain ⟨rr, er, hstep⟩ := Zc.mp hstep
   subst hstep
   refine ⟨ρ1, [], F2, rr, rel2.ext s5, er, λ y H6 Ge pe => ?_⟩
   have eD6 : H6 Dl = some (.lst acc) := pe.same _ _ eD5
   have s16 := s15.trans pe.same
   refine ⟨eD6, ?_, _, by omega, rfl, hlt, ?_⟩
   ·rw [← rps.length]; exact ZX hlen (Zn hlt hz)
   have hGe : ∀ a ∈ Ge, a ≠ Dl /\ (H1 a = none ∨ (∃ t ∈ ts, a ∈ t.2.2) ∨ ∃ j, a ∈ Fc j) := λ a ha => by
    rcases pe.src a ha with z | ⟨j, d, b, ej, hj, _⟩
    ·exact ⟨λ w => (by rw [w, eD5] at z; cases z), .inl (s15.free z)⟩
    ·have h1 : (∃ t ∈ ts, a ∈ t.2.2) ∨ ∃ j, a ∈ Fc j := by
      rcases mem2 j a hj with w | w
      ·exact .inr ⟨j, w⟩
      ·exact .inl (hG0 a w)
     obtain ⟨⟨vs, w⟩, _⟩ := oldOf a h1
     exact ⟨λ w' => (by rw [w', hD] at w; cases w), .inr h1⟩
   have nD : Dl ∉ G := λ h => (hG _ h).1 rfl
   have nDe : Dl ∉ Ge := λ h => (hGe _ h).1 rfl
   have sU : Qr H1 (L2.upd H6 Dl (.lst (acc ++ [y]))) := λ b o hb => by rw [Qt (Qat hb hD)]; exact s16 b o hb
   refine ⟨sU, QQ, ys ++ [rr.d], g && rr.norm.fr, G ++ Ge, hrest, ?_, by rw [Zs, ZaF]; omega, λ a ha => ?_, λ hg => ?_⟩
   ·refine Rps.append ((rps.same ((s3.trans s5).trans pe.same)).upd eD6 nD) ?_
    simp only [Rps]
    exact ⟨y, [], Ge, [], rfl, by simp, pe.rp.upd eD6 nDe, rfl, rfl⟩
   ·rcases Zx.mp ha with h | h
    ·exact hG a h
    ·exact hGe a h
   ·simp only [Zg] at hg
    obtain ⟨l1, c1⟩ := hcnt hg.1
    have pn := pe.norm
    obtain ⟨c2, l2⟩ := pn.cnt hg.2
    rw [rr.Qbi] at l2
    have nlapp : ∀ (as bs : List D), nls (as ++ bs) = nls as + nls bs := λ as bs => by
     induction as with
     | nil => simp [nls]
     | cons a as ih => simp only [Zbe, nls, ih]; omega
    refine ⟨by rw [Zs, l1, l2, nlapp]; simp [nls], λ a => ?_⟩
    have fl : ((rr.norm.M.map F2).flatten).count a = 0 := by
     rw [ZC]
     intro hm
     obtain ⟨l, hl, hal⟩ := ZaI.mp hm
     obtain ⟨j, hj, rfl⟩ := Zag.mp hl
     obtain ⟨d, ej⟩ := pn.own j hj
     have hf := sh1 j d ej
     obtain ⟨v, _, rv⟩ := rel2.val j d true ej
     rw [rv.QaZ hf] at hal
     simp at hal
    have h1 := c1 a
    have h2 := c2 a
    rw [fl] at h2
    rw [ZT]
    cases q5 : H5 a with
    | some o => rw [QbP q5] at h2; omega
    | none =>
     rw [Qag q5] at h2
     have h0 : G.count a = 0 := ZC.mpr λ hm => by
      obtain ⟨vs, w⟩ := rps.mem a hm
      rw [s5 _ _ (s3 _ _ w)] at q5; cases q5
     rw [Qag (s15.free q5)]
     omega
 ·have hn : i = ir.items.length := by omega
  subst hn
  refine .inl ⟨wk.stop H2 (heldOf H2 s2), ?_⟩
  rw [List.drop_length] at hfold
  have : (ys, g) = (xs, f) := Option.some.inj hfold
  cases this
  have rp : Rp X.K H2 (.lst xs) (.ref Dl) (Dl :: G) := Rp.Qcc eD rps (Zr hlen hz)
  have hHD : H Dl = none := s1.free hD
  split at q
  ·rename_i hg
   have hg : f = true := hg
   obtain ⟨l1, c1⟩ := hcnt hg
   have hn : ∀ a ∈ G, H1 a = none := λ a ha => by
    have := c1 a
    have h2 : 0 < G.count a := Zab.mpr ha
    cases w : H1 a with
    | none => rfl
    | some o => rw [QbP w] at this; omega
   refine q _ H2 (Dl :: G) ⟨s1.trans s2, rp, λ a ha => ?_, λ _ => ⟨λ a => ?_, by simp only [D.nl, Zz, l1]⟩, Qak.nil⟩
   ·rcases Zt.mp ha with rfl | h
    ·exact .inl hHD
    ·exact .inl (s1.free (hn a h))
   ·rw [Zan]
    have h1 := c1 a
    split
    ·rename_i w
     have w : Dl = a := by simpa using w
     subst w
     have h0 : G.count Dl = 0 := ZC.mpr λ h => (hG _ h).1 rfl
     rw [Qag hHD]; omega
    ·cases w : H1 a with
     | none => rw [Qag w] at h1; rw [Qag (s1.free w)]; omega
     | some o => rw [QbP w] at h1; omega
  ·refine q _ H2 (Dl :: G) ⟨s1.trans s2, rp, λ a ha => ?_, λ z => (by cases z), ?_⟩
   ·rcases Zt.mp ha with rfl | h
    ·exact .inl hHD
    ·rcases (hG a h).2 with z | z
     ·exact .inl (s1.free z)
     ·exact (oldOf a z).2
   ·refine ow.append λ i hi => ?_
    unfold QiU at hi
    obtain ⟨o, _, ho⟩ := Zay.mp hi
    cases o with
    | none => cases ho
    | some k =>
     simp only [Za] at ho
     split at ho
     ·rename_i d b hk
      split at ho
      ·rename_i hb
       cases ho
       simp only [Zg] at hb
       rw [hb.1] at hk
       exact ⟨d, hk⟩
      ·cases ho
     ·cases ho
section
variable {X : Cx} {tg iter elt : Expr} {ifs : List Expr} {scope : Scope} {N' : List Str} {pos : Pos} {fi : DI} {t : Tg} {cap : List (Option Nat)} {ft : DT} {fe : DE}
theorem Qmb (hcalm : X.calm = true) (S : Qcf X N' scope) (hi : SI X tg iter fi) (hcap : QgX X N' scope cap t.slots)
  (hin : ∀ cl C fp s3 H3, SG (cxc X N' scope cl C fp s3 H3) tg t /\ Qh4 (cxc X N' scope cl C fp s3 H3) ifs ft /\ SE (cxc X N' scope cl C fp s3 H3) elt fe) (hs : ∀ x, foldedSetIterable iter X.env x = pure x) :
  SE X (.ListComp elt [⟨tg, iter, ifs, 0⟩] scope pos) (Q9 fi t cap ft fe) := λ H0 A0 =>
 (Qip hcalm S (hi H0 A0) (λ cl C fp s3 H3 => ⟨(hin cl C fp s3 H3).1 _ _, (hin cl C fp s3 H3).2.1 _ _, (hin cl C fp s3 H3).2.2 _ _⟩) hs).mono λ σ H Q h => Qgr hcap h
end
end HS
namespace HS
open PySem PySem.Spec L2
inductive Out where
 | nx (ρ : En)
 | bk (ρ : En)
 | ct (ρ : En)
 | rt (d : D) (fr : Bool)
noncomputable abbrev DS := En -> Option Out
noncomputable def Fits (K : PySem.W.Frag) (H0 : Hp) (A0 : List Addr) (hs : List (V × D × List Addr)) (E : Ends) : Out -> Prop
 | .nx ρ => ∀ σ H F, Rel K H0 A0 hs ρ F σ H -> E.nx σ H
 | .bk ρ => ∀ σ H F, Rel K H0 A0 hs ρ F σ H -> E.bk σ H
 | .ct ρ => ∀ σ H F, Rel K H0 A0 hs ρ F σ H -> E.ct σ H
 | .rt d fr => ∀ v H G, Ret K H0 A0 d fr v H G -> E.rt v H
noncomputable def tS (K : PySem.W.Frag) (H0 : Hp) (A0 : List Addr) (f : DS) : TS := λ E σ H => ∃ ρ hs F o, Rel K H0 A0 hs ρ F σ H /\ f ρ = some o /\ Fits K H0 A0 hs E o
def S1 (X : Cx) (st : Stmt) (f : DS) : Prop := ∀ H0 A0, PS X st (tS X.K H0 A0 f)
def SS (X : Cx) (sts : List Stmt) (f : DS) : Prop := ∀ H0 A0, PSs X sts (tS X.K H0 A0 f)
theorem _root_.L2.PS.mono {X : Cx} {st : Stmt} {t t' : TS} (h : PS X st t) (m : ∀ D σ H, t' D σ H -> t D σ H) : PS X st t' := λ pins s σ H D I q => h pins s σ H D I (m D σ H q)
theorem _root_.L2.PSs.mono {X : Cx} {st : List Stmt} {t t' : TS} (h : PSs X st t) (m : ∀ D σ H, t' D σ H -> t D σ H) : PSs X st t' := λ pins s σ H D I q => h pins s σ H D I (m D σ H q)
noncomputable def Qp : DS := λ ρ => some (.nx ρ)
noncomputable def Qe (f g : DS) : DS := λ ρ => (f ρ).bind λ o => match o with
 | .nx ρ' => g ρ'
 | .bk ρ' => some (.bk ρ')
 | .ct ρ' => some (.ct ρ')
 | .rt d fr => some (.rt d fr)
noncomputable def Qlr : DS := λ ρ => some (.bk ρ)
noncomputable def QkG : DS := λ ρ => some (.ct ρ)
noncomputable def QA (i : Nat) (fa : DE) : DS := λ ρ => (fa ρ).bind λ r => some (.nx (asg i r ρ))
noncomputable def QaC (fa : DE) : DE := λ ρ => (fa ρ).map λ r => ⟨r.d, false, r.M⟩
noncomputable def QN (fa : DE) : DS := λ ρ => (fa ρ).bind λ r => some (.rt r.d (r.norm.fr && decide r.norm.M.Nodup))
noncomputable def Qjm : DS := λ _ => some (.rt .non true)
noncomputable def Qjj (fa : DE) : DS := λ ρ => (fa ρ).bind λ _ => some (.nx ρ)
noncomputable def sIf (g : DT) (f1 f2 : DS) : DS := λ ρ => (g ρ).bind λ b => if b = true then f1 ρ else f2 ρ
noncomputable def Qbl (t : Tg) (fb : DS) : List D -> DS
 | [], ρ => some (.nx ρ)
 | d :: ds, ρ => (Qa0 t d ρ).bind λ ρ1 => (fb ρ1).bind λ o => match o with
  | .nx ρ2 => Qbl t fb ds ρ2
  | .ct ρ2 => Qbl t fb ds ρ2
  | .bk ρ2 => some (.nx ρ2)
  | .rt d fr => some (.rt d fr)
noncomputable def Qb1 (fi : DI) (t : Tg) (fb : DS) : DS := λ ρ => (fi ρ).bind λ ir => Qbl t fb ir.items (Qaa ir.M ρ)
section
variable {X : Cx} {st : Stmt} {sts : List Stmt} {e : Expr} {fa : DE} {f g : DS} {gc : DT} {pos : Pos}
theorem QnN : SS X [] Qp := λ H0 A0 => QmC.mono λ E σ H ⟨ρ, hs, F, o, rel, e, q⟩ => by
 cases e
 exact q σ H F rel
theorem Qms (h1 : S1 X st f) (h2 : SS X sts g) : SS X (st :: sts) (Qe f g) := λ H0 A0 => (Qdw (h1 H0 A0) (h2 H0 A0)).mono λ E σ H ⟨ρ, hs, F, o, rel, e, q⟩ => by
 obtain ⟨o1, e1, e⟩ := bind1 e
 refine ⟨ρ, hs, F, o1, rel, e1, ?_⟩
 cases o1 with
 | nx ρ' => exact λ σ' H' F' rel' => ⟨ρ', hs, F', o, rel', e, q⟩
 | bk ρ' => cases e; exact q
 | ct ρ' => cases e; exact q
 | rt d fr => cases e; exact q
theorem Qm2 : S1 X (.Pass pos) Qp := λ H0 A0 => Qmn.mono λ E σ H ⟨ρ, hs, F, o, rel, e, q⟩ => by
 cases e
 exact q σ H F rel
theorem QkP : S1 X (.Break pos) Qlr := λ H0 A0 => Qlq.mono λ E σ H ⟨ρ, hs, F, o, rel, e, q⟩ => by
 cases e
 exact q σ H F rel
theorem QmY : S1 X (.Continue pos) QkG := λ H0 A0 => Qid.mono λ E σ H ⟨ρ, hs, F, o, rel, e, q⟩ => by
 cases e
 exact q σ H F rel
theorem Qk6 (h : SE X e fa) : SE X e (QaC fa) := λ H0 A0 => (h H0 A0).mono λ σ H Q ⟨ρ, hs, F, r, rel, e, q⟩ => by
 obtain ⟨r', e1, rfl⟩ := Zc.mp e
 exact ⟨ρ, hs, F, r', rel, e1, λ v H' G p => q v H' G ⟨p.same, p.rp, p.src, λ z => (by cases z), p.own⟩⟩
theorem QhO {i : Nat} (h : ∀ H0 A0, PS X st (QdF (tV X.K H0 A0 fa) (Qdl i))) : S1 X st (QA i fa) := λ H0 A0 => (h H0 A0).mono λ E σ H ⟨ρ, hs, F, o, rel, e, q⟩ => by
 obtain ⟨r, e1, e⟩ := bind1 e
 cases e
 refine ⟨ρ, hs, F, r, rel, e1, λ v H' G p => ?_⟩
 obtain ⟨F', rel'⟩ := rel.asg (i := i) p
 exact q _ _ F' rel'
theorem Qm1 (h : PS X st (QgV (tV X.K H0 A0 fa))) : PS X st (tS X.K H0 A0 (Qjj fa)) := h.mono λ E σ H ⟨ρ, hs, F, o, rel, e, q⟩ => by
 obtain ⟨r, e1, e⟩ := bind1 e
 cases e
 exact ⟨ρ, hs, F, r, rel, e1, λ v H' G p => q σ H' F (rel.ext p.same)⟩
theorem Rel.ret {K : PySem.W.Frag} {H0 H H' : Hp} {A0 : List Addr} {hs : List (V × D × List Addr)} {ρ : En} {F : Nat -> List Addr} {σ : L2.St} (rel : Rel K H0 A0 hs ρ F σ H) {r : R} {v : V} {G : List Addr} (p : QH K ρ F H H' r v G) : Ret K H0 A0 r.d (r.norm.fr && decide r.norm.M.Nodup) v H' G where
 same := rel.same.trans p.same
 rp := p.rp
 src := λ a ha => by
  rcases p.src a ha with z | ⟨i, d, b, e, m, _⟩
  ·exact .inl (rel.same.free z)
  ·exact rel.src i d b e a m
 cnt := λ h => by
  simp only [Zg, decide_eq_true_eq] at h
  have p' := p.norm
  obtain ⟨h1, h2⟩ := p'.fresh rel h.1 h.2
  have h3 := (p'.cnt h.1).2
  rw [r.Qbi] at h3
  exact ⟨h1, h3, λ a ha => (h2 a ha).1⟩
theorem Qoc (he : SE X e fa) : S1 X (.Return (some e) pos) (QN fa) := λ H0 A0 => (QnO (he H0 A0)).mono λ E σ H ⟨ρ, hs, F, o, rel, e, q⟩ => by
 obtain ⟨r, e1, e⟩ := bind1 e
 cases e
 exact ⟨ρ, hs, F, r, rel, e1, λ v H' G p => q v H' G (rel.ret p)⟩
theorem Qnb : S1 X (.Return none pos) Qjm := λ H0 A0 => Ql4.mono λ E σ H ⟨ρ, hs, F, o, rel, e, q⟩ => by
 cases e
 exact q .non H [] ⟨rel.same, .Qfh, λ a ha => (by simp at ha), λ _ => ⟨Zaw, rfl, λ a ha => (by simp at ha)⟩⟩
theorem Qpw {c : Expr} {a b : List Stmt} (hc : ST X c gc) (ha : SS X a f) (hb : SS X b g) : S1 X (.If c a b pos) (sIf gc f g) := λ H0 A0 => (QpA (hc H0 A0) (ha H0 A0) (hb H0 A0)).mono λ E σ H ⟨ρ, hs, F, o, rel, e, q⟩ => by
 obtain ⟨c, e1, e⟩ := bind1 e
 refine ⟨ρ, hs, F, c, rel, e1, λ H1 s1 => ?_⟩
 cases c with
 | true => exact Qoh ⟨ρ, hs, F, o, rel.ext s1, e, q⟩
 | false => exact Qot ⟨ρ, hs, F, o, rel.ext s1, e, q⟩
theorem Qox {tg iter : Expr} {body : List Stmt} {fi : DI} {t : Tg} (hp : PassesOwn (model X.prog X.w) X.A X.env X.xe) (hc : X.calm = true) (hi : SI X tg iter fi) (hg : SG X tg t) (hb : SS X body f) (hs : ∀ x, foldedSetIterable iter X.env x = pure x) :
  S1 X (.For tg iter body [] pos) (Qb1 fi t f) := λ H0 A0 => (Qom hp hc (hi H0 A0) (hg H0 A0) (hb H0 A0) hs).mono λ E σ H ⟨ρ, hs, F, o, rel, e, q⟩ => by
 obtain ⟨ir, e1, e⟩ := bind1 e
 refine ⟨ρ, hs, F, ir, rel, e1, λ J H1 ts s1 wk hts ow hz => ?_⟩
 have rel1 : Rel X.K H0 A0 (ts ++ hs) (Qaa ir.M ρ) F σ H1 := ((rel.ext s1).weak (Q8 ir.M ρ)).hold λ t ht => ⟨(hts t ht).1, Shr.of rel (hts t ht).2⟩
 refine ⟨λ i m σ' H' => m = ir.items.length - i /\ i <= ir.items.length /\ ∃ ρi Fi, Rel X.K H0 A0 (ts ++ hs) ρi Fi σ' H' /\ Qbl t f (ir.items.drop i) ρi = some o, ⟨_, rfl, ZI _, _, F, rel1, by simpa using e⟩, ?_⟩
 rintro i m σ' H' ⟨rfl, hi', ρi, Fi, reli, ei⟩
 have held : Qhe X.K H' ts := λ t ht => (reli.held t (Zf _ ht)).1
 by_cases hlt : i < ir.items.length
 ·rw [Zaa hlt] at ei
  unfold Qbl at ei
  obtain ⟨ρ1, eb, ei⟩ := bind1 ei
  obtain ⟨o1, eo, ei⟩ := bind1 ei
  refine .inr ⟨wk.go i H' hlt held, λ σ2 H2 => ∃ ρ2 F2, Rel X.K H0 A0 (ts ++ hs) ρ2 F2 σ2 H2 /\ Qbl t f (ir.items.drop (i + 1)) ρ2 = some o, λ σ2 H2 ⟨ρ2, F2, rel2, e2⟩ => ⟨_, by omega, rfl, hlt, ρ2, F2, rel2, e2⟩, λ x H2 hy => ?_⟩
  obtain ⟨s2, G0, rp0, hG0⟩ := wk.yld i ir.items[i] H' x H2 (by simp [hlt]) held hy
  have shr : Shr H0 A0 ρi Fi G0 := λ a ha => by
   obtain ⟨t, ht, hat⟩ := hG0 a ha
   exact ⟨(reli.held t (Zf _ ht)).2 a hat, λ j d ej hj => (reli.own j d ej).2.2.2.2 t (Zf _ ht) a hj hat⟩
  refine ⟨ρi, ts ++ hs, Fi, ir.items[i], G0, ρ1, reli.ext s2, rp0, shr, eb, λ σ3 F3 rel3 _ _ => ⟨ρ1, ts ++ hs, F3, o1, rel3, eo, ?_⟩⟩
  cases o1 with
  | nx ρ2 => exact λ σ4 H4 F4 rel4 => ⟨ρ2, F4, rel4, ei⟩
  | ct ρ2 => exact λ σ4 H4 F4 rel4 => ⟨ρ2, F4, rel4, ei⟩
  | bk ρ2 => cases ei; exact λ σ4 H4 F4 rel4 => q σ4 H4 F4 rel4.Qki
  | rt d fr => cases ei; exact q
 ·have hn : i = ir.items.length := by omega
  subst hn
  rw [List.drop_length] at ei
  cases ei
  exact .inl ⟨wk.stop H' held, q σ' H' Fi reli.Qki⟩
end
end HS
namespace HS
open PySem PySem.Spec L2
section
variable {K : PySem.W.Frag} {H H' : Hp}
theorem Rps.split : ∀ {ds : List D} {vs : List V} {F : List Addr} {j : Nat} {d : D}, Rps K H ds vs F -> ds[j]? = some d →
  ∃ F1 G F2 v, F = F1 ++ (G ++ F2) /\ vs[j]? = some v /\ Rps K H (ds.take j) (vs.take j) F1 /\ Rp K H d v G /\ Rps K H (ds.drop (j + 1)) (vs.drop (j + 1)) F2
 | [], _, _, _, _, _, e => by simp at e
 | d :: ds, _, _, 0, _, h, e => by
  simp only [Rps] at h
  obtain ⟨v, ws, F1, F2, rfl, rfl, r, q⟩ := h
  simp at e; subst e
  exact ⟨[], F1, F2, v, rfl, by simp, by simp [Rps], r, by simpa using q⟩
 | d :: ds, _, _, j + 1, _, h, e => by
  simp only [Rps] at h
  obtain ⟨v, ws, F1, F2, rfl, rfl, r, q⟩ := h
  obtain ⟨G1, G, G2, v', h1, h2, h3, h4, h5⟩ := Rps.split q (j := j) (by simpa using e)
  refine ⟨F1 ++ G1, G, G2, v', by rw [h1, Zaz], by simpa using h2, ?_, h4, by simpa using h5⟩
  simp only [List.take_succ_cons, Rps]
  exact ⟨v, _, F1, G1, rfl, rfl, r, h3⟩
theorem Rps.join {ds : List D} {vs : List V} {F1 G F2 : List Addr} {j : Nat} {d : D} {v : V} (h1 : Rps K H (ds.take j) (vs.take j) F1) (hd : Rp K H d v G) (h2 : Rps K H (ds.drop (j + 1)) (vs.drop (j + 1)) F2) (hj : j < ds.length) (hv : vs[j]? = some v) :
  Rps K H (ds.set j d) vs (F1 ++ (G ++ F2)) := by
 have e1 : ds.set j d = ds.take j ++ d :: ds.drop (j + 1) := Zaj .. |>.trans (by rw [if_pos hj])
 have hjv : j < vs.length := (Zh.mp hv).1
 have hve : vs[j] = v := (Zh.mp hv).2
 have e2 : vs = vs.take j ++ v :: vs.drop (j + 1) := by
  rw [← hve, ← Zaa hjv, ZaG]
 rw [e1, e2]
 refine h1.append ?_
 simp only [Rps]
 refine ⟨v, _, G, F2, rfl, rfl, hd, h2⟩
theorem Rps.QlZ {ds : List D} {vs : List V} {F1 G F2 : List Addr} {j : Nat} {d : D} {v : V} (h1 : Rps K H (ds.take j) (vs.take j) F1) (hd : Rp K H d v G) (h2 : Rps K H (ds.drop (j + 1)) (vs.drop (j + 1)) F2) (hj : j < ds.length) (hv : j < vs.length) :
  Rps K H (ds.set j d) (vs.set j v) (F1 ++ (G ++ F2)) := by
 have e1 : ds.set j d = ds.take j ++ d :: ds.drop (j + 1) := Zaj .. |>.trans (by rw [if_pos hj])
 have e2 : vs.set j v = vs.take j ++ v :: vs.drop (j + 1) := Zaj .. |>.trans (by rw [if_pos hv])
 rw [e1, e2]
 refine h1.append ?_
 simp only [Rps]
 exact ⟨v, _, G, F2, rfl, rfl, hd, h2⟩
noncomputable def Focus (K : PySem.W.Frag) (H : Hp) : List Int -> D -> V -> List Addr -> D -> V -> List Addr -> Prop
 | [], d, v, F, dm, w, Gm => dm = d /\ w = v /\ Gm = F /\ Rp K H d v F
 | i :: is, d, v, F, dm, w, Gm => ∃ (ds : List D) (a : Addr) (vs : List V) (j : Nat) (F1 G F2 : List Addr) (d' : D) (v' : V), v = .ref a /\ ixN ds.length i = some j ∧
   ((d = .lst ds /\ ds.length <= sizeLine /\ ((F = a :: (F1 ++ (G ++ F2)) /\ H a = some (.lst vs)) ∨ (F = F1 ++ (G ++ F2) /\ Fix K H a vs))) ∨ (d = .tup ds /\ F = F1 ++ (G ++ F2) /\ SqT K H a vs)) ∧
   Rps K H (ds.take j) (vs.take j) F1 /\ Rps K H (ds.drop (j + 1)) (vs.drop (j + 1)) F2 /\ ds[j]? = some d' /\ vs[j]? = some v' /\ ds.length = vs.length /\ Focus K H is d' v' G dm w Gm
theorem Focus.same (s : Qr H H') : ∀ {is : List Int} {d : D} {v : V} {F : List Addr} {dm : D} {w : V} {Gm : List Addr}, Focus K H is d v F dm w Gm -> Focus K H' is d v F dm w Gm
 | [], _, _, _, _, _, _, h => ⟨h.1, h.2.1, h.2.2.1, h.2.2.2.same s⟩
 | i :: is, _, _, _, _, _, _, h => by
  obtain ⟨ds, a, vs, j, F1, G, F2, d', v', h1, h2, h3, h4, h5, h6, h7, h8, h9⟩ := h
  refine ⟨ds, a, vs, j, F1, G, F2, d', v', h1, h2, ?_, h4.same s, h5.same s, h6, h7, h8, h9.same s⟩
  rcases h3 with ⟨e, z, q⟩ | ⟨e, eF, q⟩
  ·refine .inl ⟨e, z, ?_⟩
   rcases q with ⟨eF, q⟩ | ⟨eF, q⟩
   ·exact .inl ⟨eF, s _ _ q⟩
   ·exact .inr ⟨eF, QhQ s q⟩
  ·exact .inr ⟨e, eF, Qhs s q⟩
theorem Focus.rp : ∀ {is : List Int} {d : D} {v : V} {F : List Addr} {dm : D} {w : V} {Gm : List Addr}, Focus K H is d v F dm w Gm -> Rp K H dm w Gm
 | [], _, _, _, _, _, _, h => by
  obtain ⟨rfl, rfl, rfl, r⟩ := h
  exact r
 | i :: is, _, _, _, _, _, _, h => by
  obtain ⟨ds, a, vs, j, F1, G, F2, d', v', h1, h2, h3, h4, h5, h6, h7, h8, h9⟩ := h
  exact h9.rp
theorem Focus.QjV : ∀ {is : List Int} {d : D} {v : V} {F : List Addr} {dm : D} {w : V} {Gm : List Addr}, Focus K H is d v F dm w Gm -> Rp K H d v F
 | [], _, _, _, _, _, _, h => h.2.2.2
 | i :: is, _, _, _, _, _, _, h => by
  obtain ⟨ds, a, vs, j, F1, G, F2, d', v', rfl, h2, h3, h4, h5, h6, h7, h8, h9⟩ := h
  have hjl : j < ds.length := (Zh.mp h6).1
  have hdj : ds[j] = d' := (Zh.mp h6).2
  have j1 := Rps.join h4 h9.QjV h5 hjl h7
  rw [show ds.set j d' = ds by rw [← hdj]; exact List.set_getElem_self hjl] at j1
  rcases h3 with ⟨rfl, hz, ⟨rfl, q⟩ | ⟨rfl, q⟩⟩ | ⟨rfl, rfl, q⟩
  ·exact Rp.Qcc q j1 hz
  ·simp only [Rp]
   exact ⟨hz, a, vs, rfl, .inr ⟨q, j1⟩⟩
  ·simp only [Rp]
   exact ⟨a, vs, rfl, q, j1⟩
theorem Focus.one {d : D} {v : V} {F : List Addr} {ds : List D} {i : Int} {d' : D} (r : Rp K H d v F) (hd : d.items = some ds) (hi : atI ds i = some d') :
  ∃ a vs v' G, v = .ref a /\ ((d = .lst ds /\ SqL K H a vs) ∨ (d = .tup ds /\ SqT K H a vs)) /\ atI vs i = some v' /\ Focus K H [i] d v F d' v' G := by
 unfold atI at hi
 cases hj : ixN ds.length i with
 | none => rw [hj] at hi; cases hi
 | some j =>
  rw [hj] at hi
  have hdj : ds[j]? = some d' := hi
  have fin : ∀ (vs : List V) (L : List Addr), Rps K H ds vs L -> ∃ v' G F1 F2, L = F1 ++ (G ++ F2) /\ vs[j]? = some v' /\ atI vs i = some v' /\ Rps K H (ds.take j) (vs.take j) F1 /\ Rp K H d' v' G /\ Rps K H (ds.drop (j + 1)) (vs.drop (j + 1)) F2 /\ ds.length = vs.length := λ vs L rl => by
   obtain ⟨F1, G, F2, v', h1, h2, h3, h4, h5⟩ := rl.split hdj
   refine ⟨v', G, F1, F2, h1, h2, ?_, h3, h4, h5, rl.length⟩
   unfold atI
   rw [← rl.length, hj]
   exact h2
  cases d with
  | lst xs =>
   cases hd
   simp only [Rp] at r
   obtain ⟨hz, a, vs, rfl, ⟨L, rfl, q, rl⟩ | ⟨q, rl⟩⟩ := r
   ·obtain ⟨v', G, F1, F2, h1, h2, h3, h4, h5, h6, h7⟩ := fin vs L rl
    exact ⟨a, vs, v', G, rfl, .inl ⟨rfl, SqL.of q⟩, h3, ds, a, vs, j, F1, G, F2, d', v', rfl, hj, .inl ⟨rfl, hz, .inl ⟨by rw [h1], q⟩⟩, h4, h6, hdj, h2, h7, rfl, rfl, rfl, h5⟩
   ·obtain ⟨v', G, F1, F2, h1, h2, h3, h4, h5, h6, h7⟩ := fin vs _ rl
    exact ⟨a, vs, v', G, rfl, .inl ⟨rfl, q.sq⟩, h3, ds, a, vs, j, F1, G, F2, d', v', rfl, hj, .inl ⟨rfl, hz, .inr ⟨h1, q⟩⟩, h4, h6, hdj, h2, h7, rfl, rfl, rfl, h5⟩
  | tup xs =>
   cases hd
   obtain ⟨a, vs, rfl, q, rl⟩ := r.Qaf
   obtain ⟨v', G, F1, F2, h1, h2, h3, h4, h5, h6, h7⟩ := fin vs _ rl
   exact ⟨a, vs, v', G, rfl, .inr ⟨rfl, q⟩, h3, ds, a, vs, j, F1, G, F2, d', v', rfl, hj, .inr ⟨rfl, h1, q⟩, h4, h6, hdj, h2, h7, rfl, rfl, rfl, h5⟩
  | _ => cases hd
theorem Focus.snoc : ∀ {is : List Int} {d : D} {v : V} {F : List Addr} {dm : D} {w : V} {Gm : List Addr} {i : Int} {d' : D} {v' : V} {G : List Addr}, Focus K H is d v F dm w Gm -> Focus K H [i] dm w Gm d' v' G -> Focus K H (is ++ [i]) d v F d' v' G
 | [], _, _, _, _, _, _, _, _, _, _, h, g => by
  obtain ⟨rfl, rfl, rfl, r⟩ := h
  exact g
 | k :: is, _, _, _, _, _, _, _, _, _, _, h, g => by
  obtain ⟨ds, a, vs, j, F1, G, F2, d', v', h1, h2, h3, h4, h5, h6, h7, h8, h9⟩ := h
  exact ⟨ds, a, vs, j, F1, G, F2, d', v', h1, h2, h3, h4, h5, h6, h7, h8, h9.snoc g⟩
noncomputable def QbK : D -> List Int -> Option D
 | d, [] => some d
 | d, i :: is => (d.items).bind λ ds => (atI ds i).bind λ d' => QbK d' is
theorem Qfi : ∀ {is : List Int} {d : D} {i : Int} {d' : D}, QbK d (is ++ [i]) = some d' -> ∃ dm ds, QbK d is = some dm /\ dm.items = some ds /\ atI ds i = some d'
 | [], d, i, d', h => by
  obtain ⟨ds, h1, h⟩ := bind1 h
  obtain ⟨d'', h2, h⟩ := bind1 h
  cases h
  exact ⟨d, ds, rfl, h1, h2⟩
 | k :: is, d, i, d', h => by
  obtain ⟨ds, h1, h⟩ := bind1 h
  obtain ⟨d'', h2, h⟩ := bind1 h
  obtain ⟨dm, es, h3, h4, h5⟩ := Qfi h
  refine ⟨dm, es, ?_, h4, h5⟩
  simp only [QbK, h1, h2, Za, h3]
noncomputable def QaK : List Int -> D -> D -> D
 | [], _, new => new
 | i :: is, .lst ds, new => match ixN ds.length i with
  | some j => .lst (ds.set j (QaK is (ds.getD j .non) new))
  | none => .lst ds
 | i :: is, .tup ds, new => match ixN ds.length i with
  | some j => .tup (ds.set j (QaK is (ds.getD j .non) new))
  | none => .tup ds
 | _ :: _, d, _ => d
theorem Qej : ∀ {ds : List D} {j : Nat} {d e : D}, ds[j]? = some d -> nls (ds.set j e) + d.nl = nls ds + e.nl
 | [], _, _, _, h => by simp at h
 | x :: ds, 0, d, e, h => by simp at h; subst h; simp only [List.set_cons_zero, nls]; omega
 | x :: ds, j + 1, d, e, h => by
  have := Qej (ds := ds) (j := j) (e := e) (by simpa using h)
  simp only [List.set_cons_succ, nls]; omega
theorem Qco : ∀ (as bs : List D), nls (as ++ bs) = nls as + nls bs
 | [], bs => by simp [nls]
 | a :: as, bs => by simp only [Zbe, nls, Qco as bs]; omega
theorem Focus.mut {p : Addr} {dsm ds' : List D} {vs' : List V} {G' : List Addr} : ∀ {is : List Int} {d : D} {v : V} {F : List Addr} {Gm : List Addr}, Focus K H is d v F (.lst dsm) (.ref p) Gm -> F.Nodup -> F.length = d.nl →
  ∃ vsm Gp, H p = some (.lst vsm) /\ Gm = p :: Gp /\ Rps K H dsm vsm Gp /\ Gp.length = nls dsm /\ p ∈ F /\ (∀ a ∈ Gp, a ∈ F) /\ p ∉ Gp ∧
   (Rps K (upd H p (.lst vs')) ds' vs' G' -> ds'.length <= sizeLine -> G'.length = nls ds' →
    ∃ F', Rp K (upd H p (.lst vs')) (QaK is d (.lst ds')) v F' /\ F'.length = (QaK is d (.lst ds')).nl /\ ∀ a, F'.count a + Gp.count a = F.count a + G'.count a)
 | [], d, v, F, Gm, h, nd, hl => by
  obtain ⟨rfl, rfl, rfl, r⟩ := h
  simp only [Rp] at r
  obtain ⟨hz, a, vs, e, h⟩ := r
  cases e
  rcases h with ⟨L, rfl, q, rl⟩ | ⟨q, rl⟩
  ·obtain ⟨n1, n2⟩ := Zal.mp nd
   have hl' : L.length = nls dsm := by simp only [D.nl, Zz] at hl; omega
   refine ⟨vs, L, q, rfl, rl, hl', Zi, λ a ha => Zd _ ha, n1, λ r' hz' hl2 => ⟨p :: G', Rp.Qcc QQ r' hz', ?_, λ a => ?_⟩⟩
   ·simp only [QaK, D.nl, Zz, hl2]
   ·rw [Zan, Zan]; omega
  ·have := rl.Q3
   simp only [D.nl] at hl
   omega
 | i :: is, d, v, F, Gm, h, nd, hl => by
  obtain ⟨ds, a, vs, j, F1, G, F2, d', v', rfl, hj, h3, h4, h5, h6, h7, h8, h9⟩ := h
  have hjl : j < ds.length := (Zh.mp h6).1
  have gd : ds.getD j .non = d' := by rw [ZQ, h6]; rfl
  have l1 := h4.Q3
  have l2 := h5.Q3
  have l3 := h9.QjV.Q3
  have nlsplit : nls (ds.take j) + (d'.nl + nls (ds.drop (j + 1))) = nls ds := by
   have e1 : ds = ds.take j ++ d' :: ds.drop (j + 1) := by
    have : ds[j] = d' := (Zh.mp h6).2
    rw [← this, ← Zaa hjl, ZaG]
   have e2 := congrArg nls e1
   rw [Qco] at e2
   simp only [nls] at e2
   exact e2.symm
  have core : (F1 ++ (G ++ F2)).Nodup -> (F1 ++ (G ++ F2)).length = nls ds -> _ := λ nd' hl' => by
   simp only [Zs] at hl'
   have hG : G.length = d'.nl := by omega
   have ndG : G.Nodup := (ZaC.mp (ZaC.mp nd').2.1).1
   exact (h9.mut (vs' := vs') (ds' := ds') (G' := G') ndG hG)
  have apart : (F1 ++ (G ++ F2)).Nodup -> p ∈ G -> p ∉ F1 /\ p ∉ F2 := λ nd' hp => by
   have n1 := ZaC.mp nd'
   have n2 := ZaC.mp n1.2.1
   exact ⟨λ h => n1.2.2 p h p (Zf _ hp) rfl, λ h => n2.2.2 p hp p h rfl⟩
  have cnt : ∀ (G'' Gp : List Addr), (∀ a, G''.count a + Gp.count a = G.count a + G'.count a) -> ∀ a, (F1 ++ (G'' ++ F2)).count a + Gp.count a = (F1 ++ (G ++ F2)).count a + G'.count a := λ G'' Gp hc a => by
   have := hc a
   simp only [ZT]; omega
  rcases h3 with ⟨rfl, hz, ⟨rfl, q⟩ | ⟨rfl, q⟩⟩ | ⟨rfl, rfl, q⟩
  ·
   obtain ⟨n1, n2⟩ := Zal.mp nd
   have hl' : (F1 ++ (G ++ F2)).length = nls ds := by simp only [D.nl, Zz] at hl; omega
   obtain ⟨vsm, Gp, e1, e2, e3, e4, e5, e6, e7, e8⟩ := core n2 hl'
   have ap := apart n2 e5
   have hap : a ≠ p := λ z => n1 (by rw [z]; exact Zb _ (Zf _ e5))
   refine ⟨vsm, Gp, e1, e2, e3, e4, Zd _ (Zb _ (Zf _ e5)), λ b hb => Zd _ (Zb _ (Zf _ (e6 b hb))), e7, λ r' hz' hl2 => ?_⟩
   obtain ⟨G'', f1, f2, f3⟩ := e8 r' hz' hl2
   have j1 := Rps.join (h4.upd (ys := vs') e1 ap.1) f1 (h5.upd (ys := vs') e1 ap.2) hjl h7
   refine ⟨a :: (F1 ++ (G'' ++ F2)), ?_, ?_, λ b => ?_⟩
   ·simp only [QaK, hj, gd]
    exact Rp.Qcc (by rw [Qt hap]; exact q) j1 (by rw [Zae]; exact hz)
   ·have := Qej (ds := ds) (j := j) (e := QaK is d' (.lst ds')) h6
    simp only [QaK, hj, gd, D.nl, Zz, Zs, f2] at hl' ⊢
    omega
   ·have := cnt G'' Gp f3 b
    rw [Zan, Zan]; omega
  ·have : (F1 ++ (G ++ F2)).length <= nls ds := by simp only [Zs]; omega
   simp only [D.nl] at hl
   omega
  ·
   have hl' : (F1 ++ (G ++ F2)).length = nls ds := by simpa only [D.nl] using hl
   obtain ⟨vsm, Gp, e1, e2, e3, e4, e5, e6, e7, e8⟩ := core nd hl'
   have ap := apart nd e5
   refine ⟨vsm, Gp, e1, e2, e3, e4, Zb _ (Zf _ e5), λ b hb => Zb _ (Zf _ (e6 b hb)), e7, λ r' hz' hl2 => ?_⟩
   obtain ⟨G'', f1, f2, f3⟩ := e8 r' hz' hl2
   have j1 := Rps.join (h4.upd (ys := vs') e1 ap.1) f1 (h5.upd (ys := vs') e1 ap.2) hjl h7
   refine ⟨F1 ++ (G'' ++ F2), ?_, ?_, cnt G'' Gp f3⟩
   ·simp only [QaK, hj, gd, Rp]
    exact ⟨a, vs, rfl, Qiq e1 q, j1⟩
   ·have := Qej (ds := ds) (j := j) (e := QaK is d' (.lst ds')) h6
    simp only [QaK, hj, gd, D.nl, Zs, f2] at hl' ⊢
    omega
end
end HS
namespace HS
open PySem PySem.Spec L2
section
variable {K : PySem.W.Frag} {H0 H H1 H2 : Hp} {A0 : List Addr} {hs : List (V × D × List Addr)} {ρ : En} {F : Nat -> List Addr} {σ : L2.St}
theorem Rel.mut (rel : Rel K H0 A0 hs ρ F σ H) {r : R} {vn : V} {Gn : List Addr} (p : QH K ρ F H H1 r vn Gn) (hf : r.fr = true) (nd : r.M.Nodup) (s12 : Qr H1 H2) {x : Nat} {d : D} (hx : ρ[x]? = some (some (d, true))) (hxM : x ∉ r.M) {v0 : V} (hv0 : σ[x]? = some (some v0))
  {dnew : D} {q : Addr} {F' : List Addr} {vsm vs' : List V} (e1 : H2 q = some (.lst vsm)) (e5 : q ∈ F x) (f1 : Rp K (upd H2 q (.lst vs')) dnew v0 F') (f2 : F'.length = dnew.nl) (cF : ∀ a, F'.count a <= (F x).count a + Gn.count a) :
  ∃ F', Rel K H0 A0 hs ((kill r.M ρ).set x (some (dnew, true))) F' σ (upd H2 q (.lst vs')) := by
 obtain ⟨ol, on, o0, oap, oh⟩ := rel.own x d hx
 obtain ⟨gn, gs⟩ := p.fresh rel hf nd
 have rel2 := (rel.ext p.same).ext s12
 have relk := rel2.weak (Qa6 r.M ρ)
 have apn : ∀ a ∈ Gn, a ∉ F x := λ a ha hax => by
  rcases (gs a ha).2 with z | ⟨k, d', hk, ek, hak⟩
  ·obtain ⟨vs, w⟩ := rel.mem hx hax
   rw [z] at w; cases w
  ·have : k ≠ x := λ z => hxM (z ▸ hk)
   exact oap k d' true this ek a hax hak
 have memF : ∀ a ∈ F', a ∈ F x ∨ a ∈ Gn := λ a ha => by
  have h1 := cF a
  have h2 : 0 < F'.count a := Zab.mpr ha
  by_cases h : a ∈ F x
  ·exact .inl h
  ·rw [ZC.mpr h] at h1
   exact .inr (Zab.mp (by omega))
 have apart : ∀ (j : Nat) d' b, j ≠ x -> (kill r.M ρ)[j]? = some (some (d', b)) -> ∀ a ∈ F', a ∉ F j := λ j d' b hj e a ha haj => by
  obtain ⟨b', e', _⟩ := (Qa6 r.M ρ).2 j d' b e
  rcases memF a ha with h | h
  ·exact oap j d' b' hj e' a h haj
  ·rcases (gs a h).2 with z | ⟨k, d'', hk, ek, hak⟩
   ·obtain ⟨vs, w⟩ := rel.mem e' haj
    rw [z] at w; cases w
   ·have hjk : j ≠ k := λ z => by subst z; exact Qd4 r.M ρ j d' b hk e
    exact (rel.own k d'' ek).2.2.2.1 j d' b' hjk e' a hak haj
 have apartH : ∀ t ∈ hs, ∀ a ∈ F', a ∉ t.2.2 := λ t ht a ha hat => by
  rcases memF a ha with h | h
  ·exact oh t ht a h hat
  ·rcases (gs a h).2 with z | ⟨k, d'', hk, ek, hak⟩
   ·obtain ⟨vs, w⟩ := (rel.held t ht).1.mem a hat
    rw [z] at w; cases w
   ·exact (rel.own k d'' ek).2.2.2.2 t ht a hak hat
 have nqj : ∀ (j : Nat) d' b, j ≠ x -> ρ[j]? = some (some (d', b)) -> q ∉ F j := λ j d' b hj e h => oap j d' b hj e q e5 h
 have nF' : F'.Nodup := Zad.mpr λ a => by
  have h1 := cF a
  have h2 := Zad.mp on a
  have h3 := Zad.mp gn a
  by_cases h : a ∈ Gn
  ·rw [ZC.mpr (apn a h)] at h1; omega
  ·rw [ZC.mpr h] at h1; omega
 have lt : ∀ {j : Nat} {z : Option (D × Bool)} {y : D × Bool}, ((kill r.M ρ).set j z)[j]? = some (some y) -> j < (kill r.M ρ).length := λ {j z y} e => by
  by_cases hl : j < (kill r.M ρ).length
  ·exact hl
  ·rw [Zu (by simp; omega)] at e; cases e
 refine ⟨λ j => if j = x then F' else F j, by simp [relk.len], λ j d' b e => ?_, λ j d' e => ?_, λ j d' b e a ha => ?_, λ t ht => ⟨(relk.held t ht).1.upd e1 λ h => oh t ht q e5 h, (relk.held t ht).2⟩, λ b o hb => ?_⟩
 ·by_cases hj : j = x
  ·subst hj
   have hl := lt e
   rw [Zk hl] at e
   cases e
   exact ⟨v0, hv0, by rw [if_pos rfl]; exact f1⟩
  ·rw [Ze (Ne.symm hj)] at e
   obtain ⟨w, h1, h2⟩ := relk.val j d' b e
   obtain ⟨b', e', _⟩ := (Qa6 r.M ρ).2 j d' b e
   exact ⟨w, h1, by rw [if_neg hj]; exact h2.upd e1 (nqj j d' b' hj e')⟩
 ·by_cases hj : j = x
  ·subst hj
   have hl := lt e
   rw [Zk hl] at e
   cases e
   rw [if_pos rfl]
   refine ⟨f2, nF', λ a ha => ?_, λ k d'' b hk ek a ha => ?_, apartH⟩
   ·rcases memF a ha with h | h
    ·exact o0 a h
    ·exact (gs a h).1
   ·rw [Ze (Ne.symm hk)] at ek
    rw [if_neg hk]
    exact apart k d'' b hk ek a ha
  ·rw [Ze (Ne.symm hj)] at e
   obtain ⟨h1, h2, h3, h4, h5⟩ := relk.own j d' e
   rw [if_neg hj]
   refine ⟨h1, h2, h3, λ k d'' b hk ek a ha => ?_, h5⟩
   by_cases hki : k = x
   ·subst hki
    rw [if_pos rfl]
    exact λ hG => apart j d' true hj e a hG ha
   ·rw [Ze (Ne.symm hki)] at ek
    rw [if_neg hki]
    exact h4 k d'' b hk ek a ha
 ·by_cases hj : j = x
  ·subst hj
   rw [if_pos rfl] at ha
   rcases memF a ha with h | h
   ·exact .inl (o0 a h)
   ·exact .inl (gs a h).1
  ·rw [Ze (Ne.symm hj)] at e
   rw [if_neg hj] at ha
   exact relk.src j d' b e a ha
 ·have hbq : b ≠ q := λ z => by rw [z, o0 q e5] at hb; cases hb
  rw [Qt hbq]
  exact relk.same b o hb
end
noncomputable abbrev DP := En -> Option (List Int)
noncomputable def Qbq : DP := λ _ => some []
noncomputable def QlR (p : DP) (fb : DE) : DP := λ ρ => (p ρ).bind λ is => (fb ρ).bind λ r => match r.d with
 | .int i => some (is ++ [i])
 | _ => none
noncomputable def tP (K : PySem.W.Frag) (H0 : Hp) (A0 : List Addr) (x : Nat) (pf : DP) : TE := λ σ H Q => ∃ ρ hs F d b is dm, Rel K H0 A0 hs ρ F σ H /\ ρ[x]? = some (some (d, b)) /\ pf ρ = some is /\ QbK d is = some dm ∧
 ∀ v0 v H' Gm, Qr H H' -> σ[x]? = some (some v0) -> Focus K H' is d v0 (F x) dm v Gm -> Q v H'
def SPa (X : Cx) (e : Expr) (x : Nat) (pf : DP) : Prop := ∀ H0 A0, PE X e (tP X.K H0 A0 x pf)
section
variable {X : Cx} {a b e : Expr} {fa fb : DE} {pf : DP} {x : Nat} {pos : Pos}
theorem Qlp {y : Str} (h : PE X (.Name y pos) (QeO x)) : SPa X (.Name y pos) x Qbq := λ H0 A0 => h.mono λ σ H Q ⟨ρ, hs, F, d, b, is, dm, rel, hx, hp, hd, q⟩ => by
 cases hp
 cases hd
 obtain ⟨v, h1, h2⟩ := rel.val x d b hx
 exact ⟨v, h1, q v v H (F x) (Qr.refl _) h1 ⟨rfl, rfl, rfl, h2⟩⟩
theorem QmO (ha : SPa X a x pf) (hb : SE X b fb) (hs : Qeb b) : SPa X (.Subscript a b pos) x (QlR pf fb) := λ H0 A0 =>
 (QlW (Qin.or Qkh) (ha H0 A0) (hb H0 A0) hs).mono λ σ H Q ⟨ρ, hs, F, d, b', is, dm, rel, hx, hp, hd, q⟩ => by
  obtain ⟨is', e1, hp⟩ := bind1 hp
  obtain ⟨r, e2, hp⟩ := bind1 hp
  cases hr : r.d with
  | int i =>
   rw [hr] at hp
   cases hp
   obtain ⟨dn, ds, g1, g2, g3⟩ := Qfi hd
   refine ⟨ρ, hs, F, d, b', is', dn, rel, hx, e1, g1, λ v0 w H1 Gm s1 hv fo => ⟨ρ, hs, F, r, rel.ext s1, e2, λ u H2 G p2 => ?_⟩⟩
   have rp := p2.rp
   rw [hr] at rp
   rw [rp.int_inv]
   have fo2 := fo.same p2.same
   obtain ⟨c, vs, v', G', rfl, hc, h3, h4⟩ := Focus.one fo2.rp g2 g3
   have fin := q v0 v' H2 G' (s1.trans p2.same) hv (fo2.snoc h4)
   rcases hc with ⟨_, hc⟩ | ⟨_, hc⟩
   ·exact .inl ⟨c, vs, i, v', rfl, rfl, hc, h3, fin⟩
   ·exact .inr ⟨c, vs, i, v', rfl, rfl, hc, h3, fin⟩
  | _ => rw [hr] at hp; cases hp
noncomputable def Qf5 (x : Nat) (pf : DP) (fi fa : DE) : DS := λ ρ => (fa ρ).bind λ r0 => match ρ[x]? with
 | some (some (d, true)) => (pf ρ).bind λ is => (fi ρ).bind λ ri => match ri.d, QbK d is with
  | .int k, some (.lst ds) => (ixN ds.length k).bind λ j => if r0.norm.fr && decide r0.norm.M.Nodup && !r0.norm.M.contains x then some (.nx ((kill r0.norm.M ρ).set x (some (QaK is d (.lst (ds.set j r0.d)), true)))) else
   if is.isEmpty && !r0.norm.M.contains x then some (.nx ((Qaa r0.norm.M ρ).set x (some (.lst (ds.set j r0.d), false)))) else
   none
  | _, _ => none
 | _ => none
theorem set_mk {K : PySem.W.Frag} {H2 : Hp} {q : Addr} {dsm : List D} {vsm : List V} {Gp Gn : List Addr} {j : Nat} {dn : D} {vn : V} (hq : H2 q = some (.lst vsm)) (rs : Rps K H2 dsm vsm Gp) (hl : Gp.length = nls dsm) (nq : q ∉ Gp) (nqn : q ∉ Gn) (hn : Rp K H2 dn vn Gn) (hnl : Gn.length = dn.nl) (hj : j < dsm.length) :
  ∃ G', Rps K (upd H2 q (.lst (vsm.set j vn))) (dsm.set j dn) (vsm.set j vn) G' /\ G'.length = nls (dsm.set j dn) /\ ∀ a, G'.count a <= Gp.count a + Gn.count a := by
 obtain ⟨F1, G, F2, v, e1, e2, h1, h2, h3⟩ := rs.split (j := j) (d := dsm[j]) (by simp [hj])
 subst e1
 have hjv : j < vsm.length := by rw [← rs.length]; exact hj
 have n1 : q ∉ F1 := λ h => nq (Zf _ h)
 have n2 : q ∉ F2 := λ h => nq (Zb _ (Zb _ h))
 refine ⟨F1 ++ (Gn ++ F2), Rps.QlZ (h1.upd hq n1) (hn.upd hq nqn) (h3.upd hq n2) hj hjv, ?_, λ a => ?_⟩
 ·have := Qej (ds := dsm) (j := j) (d := dsm[j]) (e := dn) (by simp [hj])
  have l1 := h1.Q3
  have l2 := h2.Q3
  have l3 := h3.Q3
  have e1 : nls (dsm.take j) + ((dsm[j]).nl + nls (dsm.drop (j + 1))) = nls dsm := by
   have e2 := congrArg nls (ZaG j dsm)
   rw [Qco, Zaa hj] at e2
   simpa only [nls] using e2
  simp only [Zs] at hl ⊢
  omega
 ·simp only [ZT]; omega
theorem QH.QgT {K : PySem.W.Frag} {ρ : En} {F : Nat -> List Addr} {H H1 H2 : Hp} {r : R} {v : V} {G : List Addr} (p : QH K ρ F H H1 r v G) (s : Qr H1 H2) : QH K ρ F H H2 r v G := ⟨p.same.trans s, p.rp.same s, p.src, p.cnt, p.own⟩
theorem QfL {K : PySem.W.Frag} {H2 : Hp} {q : Addr} {dsm : List D} {vsm : List V} {Gp Gn : List Addr} {j : Nat} {dn : D} {vn : V} (hq : H2 q = some (.lst vsm)) (rs : Rps K H2 dsm vsm Gp) (nq : q ∉ Gp) (nqn : q ∉ Gn) (hn : Rp K H2 dn vn Gn) (hj : j < dsm.length) :
  ∃ G', Rps K (upd H2 q (.lst (vsm.set j vn))) (dsm.set j dn) (vsm.set j vn) G' /\ ∀ a ∈ G', a ∈ Gp ∨ a ∈ Gn := by
 obtain ⟨F1, G, F2, v, e1, e2, h1, h2, h3⟩ := rs.split (j := j) (d := dsm[j]) (by simp [hj])
 subst e1
 have hjv : j < vsm.length := by rw [← rs.length]; exact hj
 have n1 : q ∉ F1 := λ h => nq (Zf _ h)
 have n2 : q ∉ F2 := λ h => nq (Zb _ (Zb _ h))
 refine ⟨F1 ++ (Gn ++ F2), Rps.QlZ (h1.upd hq n1) (hn.upd hq nqn) (h3.upd hq n2) hj hjv, λ a ha => ?_⟩
 rcases Zx.mp ha with h | h
 ·exact .inl (Zf _ h)
 ·rcases Zx.mp h with h | h
  ·exact .inr h
  ·exact .inl (Zb _ (Zb _ h))
theorem Qev : ∀ (M : List Nat) (ρ : En) (x : Nat), x ∉ M -> (Qaa M ρ)[x]? = ρ[x]?
 | [], ρ, x, _ => rfl
 | i :: M, ρ, x, h => by
  have hi : i ≠ x := λ e => h (e ▸ Zi)
  unfold Qaa
  rw [Qev M _ x λ e => h (Zd _ e)]
  split
  ·rw [Ze hi]
  ·rfl
theorem Rel.Qqy {K : PySem.W.Frag} {H0 H : Hp} {A0 : List Addr} {hs : List (V × D × List Addr)} {ρ : En} {F : Nat -> List Addr} {σ : L2.St} (rel : Rel K H0 A0 hs ρ F σ H) {x : Nat} {d : D} (hx : ρ[x]? = some (some (d, true))) {Gn : List Addr} (sh : Shr H0 A0 ρ F Gn) {v0 : V} (hv0 : σ[x]? = some (some v0))
  {dnew : D} {q : Addr} {G' : List Addr} {vsm vs' : List V} (e1 : H q = some (.lst vsm)) (e5 : q ∈ F x) (f1 : Rp K (upd H q (.lst vs')) dnew v0 G') (mem : ∀ a ∈ G', a ∈ F x ∨ a ∈ Gn) :
  ∃ F', Rel K H0 A0 hs (ρ.set x (some (dnew, false))) F' σ (upd H q (.lst vs')) := by
 obtain ⟨ol, on, o0, oap, oh⟩ := rel.own x d hx
 have lt : ∀ {j : Nat} {z : Option (D × Bool)} {y : D × Bool}, (ρ.set j z)[j]? = some (some y) -> j < ρ.length := λ {j z y} e => by
  by_cases hl : j < ρ.length
  ·exact hl
  ·rw [Zu (by simp; omega)] at e; cases e
 refine ⟨λ j => if j = x then G' else F j, by simp [rel.len], λ j d' b e => ?_, λ j d' e => ?_, λ j d' b e a ha => ?_, λ t ht => ⟨(rel.held t ht).1.upd e1 λ h => oh t ht q e5 h, (rel.held t ht).2⟩, λ b o hb => ?_⟩
 ·by_cases hj : j = x
  ·subst hj
   have hl := lt e
   rw [Zk hl] at e
   cases e
   exact ⟨v0, hv0, by rw [if_pos rfl]; exact f1⟩
  ·rw [Ze (Ne.symm hj)] at e
   obtain ⟨w, h1, h2⟩ := rel.val j d' b e
   exact ⟨w, h1, by rw [if_neg hj]; exact h2.upd e1 λ h => oap j d' b hj e q e5 h⟩
 ·by_cases hj : j = x
  ·subst hj
   have hl := lt e
   rw [Zk hl] at e
   cases e
  ·rw [Ze (Ne.symm hj)] at e
   obtain ⟨h1, h2, h3, h4, h5⟩ := rel.own j d' e
   rw [if_neg hj]
   refine ⟨h1, h2, h3, λ k d'' b hk ek a ha => ?_, h5⟩
   by_cases hki : k = x
   ·subst hki
    rw [if_pos rfl]
    intro hG
    rcases mem a hG with h | h
    ·exact h4 k d true (Ne.symm hj) hx a ha h
    ·exact (sh a h).2 j d' e ha
   ·rw [Ze (Ne.symm hki)] at ek
    rw [if_neg hki]
    exact h4 k d'' b hk ek a ha
 ·by_cases hj : j = x
  ·subst hj
   rw [if_pos rfl] at ha
   rcases mem a ha with h | h
   ·exact .inl (o0 a h)
   ·exact (sh a h).1
  ·rw [Ze (Ne.symm hj)] at e
   rw [if_neg hj] at ha
   exact rel.src j d' b e a ha
 ·have hbq : b ≠ q := λ z => by rw [z, o0 q e5] at hb; cases hb
  rw [Qt hbq]
  exact rel.same b o hb
theorem QnM {i : Expr} {pos' : Pos} {fi : DE} (hv : SE X e fa) (ho : SPa X a x pf) (hi : SE X i fi)
  (h : ∀ te to ti, PE X e te -> PE X a to -> PE X i ti -> PS X (.Assign [.Subscript a i pos'] e pos) (QdF te (L2.Qb9 to ti QgS))) : S1 X (.Assign [.Subscript a i pos'] e pos) (Qf5 x pf fi fa) := λ H0 A0 =>
 (h _ _ _ (hv H0 A0) (ho H0 A0) (hi H0 A0)).mono λ E σ H ⟨ρ, hs, F, o, rel, e, q⟩ => by
  obtain ⟨r0, e1, e⟩ := bind1 e
  split at e
  ·rename_i d hx
   obtain ⟨is, e2, e⟩ := bind1 e
   obtain ⟨ri, e3, e⟩ := bind1 e
   split at e
   ·rename_i k ds hk hp
    obtain ⟨j, e4, e⟩ := bind1 e
    split at e
    ·rename_i hc
     cases e
     simp only [Zg, decide_eq_true_eq, Zap] at hc
     obtain ⟨⟨c1, c2⟩, c3⟩ := hc
     have c3 : x ∉ r0.norm.M := λ h => by rw [ZaH.mpr h] at c3; cases c3
     refine ⟨ρ, hs, F, r0, rel, e1, λ vn H1 Gn p => ⟨ρ, hs, F, d, true, is, .lst ds, rel.ext p.same, hx, e2, hp, λ v0 w H2 Gm s2 hv0 fo => ⟨ρ, hs, F, ri, (rel.ext p.same).ext s2, e3, λ u H3 Gi pi => ?_⟩⟩⟩
     have p' := (p.norm.QgT s2).QgT pi.same
     have fo3 := fo.same pi.same
     have rpi := pi.rp
     rw [hk] at rpi
     rw [rpi.int_inv]
     obtain ⟨l, ws, L, rfl, _⟩ := fo3.rp.lst_inv
     obtain ⟨ol, on, _, oap, _⟩ := rel.own x d hx
     have hjl := (Qcu e4).2.1
     obtain ⟨gn, gs⟩ := p'.fresh rel c1 c2
     have rn := p'.rp
     rw [r0.Qbi] at rn
     have hnl := (p'.cnt c1).2
     rw [r0.Qbi] at hnl
     obtain ⟨vsm, _, f1, _⟩ := fo3.mut (vs' := []) (ds' := []) (G' := []) on ol
     obtain ⟨_, _, _, _, _, _, zl, _⟩ := fo3.rp.lst_inv
     have key : ∃ F', Rp X.K (upd H3 l (.lst (vsm.set j vn))) (QaK is d (.lst (ds.set j r0.d))) v0 F' /\ F'.length = (QaK is d (.lst (ds.set j r0.d))).nl /\ l ∈ F x /\ ds.length = vsm.length /\ ∀ a, F'.count a <= (F x).count a + Gn.count a := by
      have own5 : ∀ G', _ := λ G' => fo3.mut (vs' := vsm.set j vn) (ds' := ds.set j r0.d) (G' := G') on ol
      obtain ⟨vs1, Gp, g1, g2, g3, g4, g5, g6, g7, _⟩ := own5 []
      rw [f1] at g1; cases g1
      have hq : l ∉ Gn := λ h => by
       rcases (gs l h).2 with z | ⟨k', d', hk', ek, hak⟩
       ·obtain ⟨vs, w⟩ := rel.mem hx g5
        rw [z] at w; cases w
       ·exact oap k' d' true (λ z => c3 (z ▸ hk')) ek l g5 hak
      obtain ⟨G', m1, m2, m3⟩ := set_mk f1 g3 g4 g7 hq rn hnl hjl
      obtain ⟨vs2, Gp2, k1, k2, k3, k4, k5, k6, k7, k8⟩ := own5 G'
      have eG : Gp2 = Gp := by rw [g2] at k2; exact (List.cons.inj k2).2.symm
      subst eG
      obtain ⟨F', h1, h2, h3⟩ := k8 m1 (by rw [Zae]; exact zl) m2
      exact ⟨F', h1, h2, g5, g3.length, λ a => by have := h3 a; have := m3 a; omega⟩
     obtain ⟨F', k1, k2, k3, k4, k5⟩ := key
     refine ⟨l, vsm, k, j, rfl, rfl, f1, by rw [← k4]; exact e4, ?_⟩
     obtain ⟨F'', rel'⟩ := rel.mut p' c1 c2 (Qr.refl _) hx c3 hv0 f1 k3 k1 k2 k5
     exact q _ _ F'' rel'
    ·
     split at e
     ·rename_i hc
      cases e
      simp only [Zg, Zap, List.isEmpty_iff] at hc
      obtain ⟨rfl, c3⟩ := hc
      have c3 : x ∉ r0.norm.M := λ h => by rw [ZaH.mpr h] at c3; cases c3
      refine ⟨ρ, hs, F, r0, rel, e1, λ vn H1 Gn p => ⟨ρ, hs, F, d, true, [], .lst ds, rel.ext p.same, hx, e2, hp, λ v0 w H2 Gm s2 hv0 fo => ⟨ρ, hs, F, ri, (rel.ext p.same).ext s2, e3, λ u H3 Gi pi => ?_⟩⟩⟩
      have p' := (p.norm.QgT s2).QgT pi.same
      have fo3 := fo.same pi.same
      have rpi := pi.rp
      rw [hk] at rpi
      rw [rpi.int_inv]
      obtain ⟨l, ws, L, rfl, _⟩ := fo3.rp.lst_inv
      obtain ⟨ol, on, _, oap, _⟩ := rel.own x d hx
      have hjl := (Qcu e4).2.1
      have rn := p'.rp
      rw [r0.Qbi] at rn
      obtain ⟨vsm, Gp, f1, g2, g3, g4, g5, g6, g7, _⟩ := fo3.mut (vs' := []) (ds' := []) (G' := []) on ol
      obtain ⟨_, _, _, _, _, _, zl, _⟩ := fo3.rp.lst_inv
      have sh := Shr.of rel p'.src
      have relD := (rel.ext p'.same).weak (Q8 r0.norm.M ρ)
      have hxD : (Qaa r0.norm.M ρ)[x]? = some (some (d, true)) := by rw [Qev _ _ _ c3]; exact hx
      have hq : l ∉ Gn := λ h => (sh l h).2 x d hxD g5
      obtain ⟨G', m1, m3⟩ := QfL f1 g3 g7 hq rn hjl
      have e0 : v0 = .ref l := (fo3.2.1).symm
      subst e0
      refine ⟨l, vsm, k, j, rfl, rfl, f1, by rw [← g3.length]; exact e4, ?_⟩
      obtain ⟨F'', rel'⟩ := relD.Qqy (dnew := .lst (ds.set j r0.d)) (G' := l :: G') (vs' := vsm.set j vn) hxD sh hv0 f1 g5 (Rp.Qcc QQ m1 (by rw [Zae]; exact zl)) λ a ha => by
       rcases Zt.mp ha with h | h
       ·exact .inl (h ▸ g5)
       ·rcases m3 a h with h | h
        ·exact .inl (g6 a h)
        ·exact .inr h
      exact q _ _ F'' rel'
     ·
      cases e
   ·cases e
  ·cases e
end
end HS
namespace HS
open PySem PySem.Spec L2
section
variable {K : PySem.W.Frag} {H0 H H1 H2 H3 : Hp} {A0 : List Addr} {hs : List (V × D × List Addr)} {ρ : En} {F : Nat -> List Addr} {σ : L2.St}
theorem Rel.write (rel : Rel K H0 A0 hs ρ F σ H) {r : R} {vn : V} {Gn : List Addr} (p : QH K ρ F H H3 r vn Gn) (hf : r.fr = true) (nd : r.M.Nodup) {x : Nat} {d : D} (hx : ρ[x]? = some (some (d, true))) (hxM : x ∉ r.M) {v0 w : V} (hv0 : σ[x]? = some (some v0))
  {is : List Int} {ds : List D} {Gm : List Addr} (fo : Focus K H3 is d v0 (F x) (.lst ds) w Gm) :
  ∃ l vsm Gp, w = .ref l /\ H3 l = some (.lst vsm) /\ Rps K H3 ds vsm Gp /\ Gp.length = nls ds /\ l ∉ Gp /\ l ∉ Gn /\ ds.length <= sizeLine ∧
   ∀ ds' vs' G', Rps K (upd H3 l (.lst vs')) ds' vs' G' -> ds'.length <= sizeLine -> G'.length = nls ds' -> (∀ a, G'.count a <= Gp.count a + Gn.count a) →
    ∃ F', Rel K H0 A0 hs ((kill r.M ρ).set x (some (QaK is d (.lst ds'), true))) F' σ (upd H3 l (.lst vs')) := by
 obtain ⟨l, ws, L, rfl, _, _, zl, _⟩ := fo.rp.lst_inv
 obtain ⟨ol, on, _, oap, _⟩ := rel.own x d hx
 obtain ⟨gn, gs⟩ := p.fresh rel hf nd
 obtain ⟨vsm, Gp, g1, g2, g3, g4, g5, g6, g7, _⟩ := fo.mut (vs' := []) (ds' := []) (G' := []) on ol
 have hq : l ∉ Gn := λ h => by
  rcases (gs l h).2 with z | ⟨k', d', hk', ek, hak⟩
  ·obtain ⟨vs, w⟩ := rel.mem hx g5
   rw [z] at w; cases w
  ·exact oap k' d' true (λ z => hxM (z ▸ hk')) ek l g5 hak
 refine ⟨l, vsm, Gp, rfl, g1, g3, g4, g7, hq, zl, λ ds' vs' G' m1 m2 m3 m4 => ?_⟩
 obtain ⟨vs2, Gp2, k1, k2, k3, k4, k5, k6, k7, k8⟩ := fo.mut (vs' := vs') (ds' := ds') (G' := G') on ol
 have eG : Gp2 = Gp := by rw [g2] at k2; exact (List.cons.inj k2).2.symm
 subst eG
 obtain ⟨F', h1, h2, h3⟩ := k8 m1 m2 m3
 exact rel.mut p hf nd (Qr.refl _) hx hxM hv0 g1 g5 h1 h2 λ a => by have := h3 a; have := m4 a; omega
end
section
variable {X : Cx} {a b e : Expr} {fa fb : DE} {pf : DP} {x : Nat} {pos apos : Pos}
noncomputable def Qfd (r : R) (x : Nat) : Bool := r.norm.fr && decide r.norm.M.Nodup && !r.norm.M.contains x
theorem Qks {r : R} {x : Nat} (h : Qfd r x = true) : r.norm.fr = true /\ r.norm.M.Nodup /\ x ∉ r.norm.M := by
 unfold Qfd at h
 simp only [Zg, decide_eq_true_eq, Zap] at h
 exact ⟨h.1.1, h.1.2, λ z => by rw [ZaH.mpr z] at h; cases h.2⟩
noncomputable def QbE (x : Nat) (pf : DP) (fa : DE) : DS := λ ρ => match ρ[x]? with
 | some (some (d, true)) => (pf ρ).bind λ is => (fa ρ).bind λ r0 => match QbK d is with
  | some (.lst ds) => if Qfd r0 x && decide (ds.length < sizeLine) then some (.nx ((kill r0.norm.M ρ).set x (some (QaK is d (.lst (ds ++ [r0.d])), true)))) else none
  | _ => none
 | _ => none
theorem Qk7 {H0 : Hp} {A0 : List Addr} {E : Ends} {σ : L2.St} {H : Hp} : tS X.K H0 A0 (QbE x pf fa) E σ H -> QgV (tBM X.K "list" QiB (tP X.K H0 A0 x pf) (QiS (tV X.K H0 A0 fa) Qjg)) E σ H := λ ⟨ρ, hs, F, o, rel, e, q⟩ => by
 unfold QbE at e
 split at e
 ·rename_i d hx
  obtain ⟨is, e2, e⟩ := bind1 e
  obtain ⟨r0, e1, e⟩ := bind1 e
  split at e
  ·rename_i ds hp
   split at e
   ·rename_i hc
    simp only [Zg, decide_eq_true_eq] at hc
    obtain ⟨c1, c2, c3⟩ := Qks hc.1
    cases e
    refine ⟨ρ, hs, F, d, true, is, .lst ds, rel, hx, e2, hp, λ v0 w H2 Gm s2 hv0 fo => ?_⟩
    have ty : tyV X.K "list" w H2 := by
     obtain ⟨l, ws, L, rfl, hl, _⟩ := fo.rp.lst_inv
     exact .inl ⟨rfl, ws, QS hl⟩
    refine ⟨ty, ρ, hs, F, r0, rel.ext s2, e1, λ vn H3 Gn p => ?_⟩
    have p' := p.norm
    obtain ⟨l, vsm, Gp, rfl, g1, g2, g3, g4, g5, g6, g7⟩ := (rel.ext s2).write p' c1 c2 hx c3 hv0 (fo.same p.same)
    refine ⟨l, vsm, vn, rfl, rfl, g1, by rw [← g2.length]; exact hc.2, ?_⟩
    have rn := p'.rp
    rw [r0.Qbi] at rn
    have hnl := (p'.cnt c1).2
    rw [r0.Qbi] at hnl
    have rw1 : Rps X.K (upd H3 l (.lst (vsm ++ [vn]))) [r0.d] [vn] Gn := by
     simp only [Rps]
     exact ⟨vn, [], Gn, [], rfl, by simp, rn.upd g1 g5, rfl, rfl⟩
    obtain ⟨F', rel'⟩ := g7 (ds ++ [r0.d]) (vsm ++ [vn]) (Gp ++ Gn) ((g2.upd g1 g4).append rw1) (by rw [Zs, ZaF]; omega) (by rw [Zs, Qco, g3, hnl]; simp [nls]) (λ a => by rw [ZT]; omega)
    exact q _ _ F' rel'
   ·cases e
  ·cases e
 ·cases e
end
end HS
namespace HS
open PySem PySem.Spec L2 PyProof.Rows
noncomputable def D.QlT : D -> Option Int
 | .int i => some i
 | _ => none
noncomputable def Qdo : List D -> Option (List Int)
 | [] => some []
 | d :: ds => (d.QlT).bind λ i => (Qdo ds).map λ r => i :: r
theorem QdV : ∀ {ds : List D} {ns : List Int}, Qdo ds = some ns -> ds = ns.map .int
 | [], _, h => by cases h; rfl
 | d :: ds, ns, h => by
  unfold Qdo at h
  obtain ⟨i, h1, h⟩ := bind1 h
  obtain ⟨r, h2, rfl⟩ := Zc.mp h
  cases d with
  | int j => cases h1; rw [QdV h2]; rfl
  | _ => cases h1
theorem Qhj : ∀ (ns : List Int), Qdo (ns.map D.int) = some ns
 | [] => rfl
 | n :: ns => by simp [Qdo, Qhj ns, D.QlT]
theorem Rps.ints {K : PySem.W.Frag} {H : Hp} : ∀ {ns : List Int} {vs : List V} {F : List Addr}, Rps K H (ns.map .int) vs F -> vs = ns.map .int
 | [], _, _, h => by simp only [List.map_nil, Rps] at h; rw [h.1]; rfl
 | n :: ns, _, _, h => by
  simp only [Zv, Rps] at h
  obtain ⟨v, ws, F1, F2, rfl, rfl, r, q⟩ := h
  rw [r.int_inv, Rps.ints q]; rfl
theorem Qcd {ns : List Int} {us : List Value} (h : Qj (ns.map V.int) us) : IntsAre us ns := intsAre_of h
section
variable {X : Cx} {a b e : Expr} {es : List Expr} {fa fb : DE} {fs : DA} {pos p2 : Pos}
theorem Qfx {us : List Value} {ns : List Int} (hi : IntsAre us ns) : ∃ xs : Array (Int × Tok), us.toArray = intItems xs /\ ns = xs.toList.map (·.1) := by
 obtain ⟨xs, e⟩ := hi.allInts.items
 exact ⟨xs, e, by rw [← hi.numsOf, ← nums_intItems, ← e]⟩
theorem QhH {prog : Program} {w : World} {A : Around} {E : Value -> Shared -> Prop} {s : Shared} {l : Addr} {xs : Array (Int × Tok)} {Q : Value -> Shared -> Prop} (hh : A.handled = none) (hl : s.heap.IsTuple l (intItems xs))
  (h : ∀ h' tk t', (∀ b o, s.heap.get? b = some o -> h'.get? b = some o) -> Q (.int (preSum (numAt xs) xs.size) t') { s with heap := h', toks := tk }) :
  wpAny (model prog w) A (call (.builtin "sum") [.ref l]) Q E s := by
 have hlt : l < s.heap.objs.size := by obtain ⟨_, e, _⟩ := hl; exact Zp e
 refine call_sum_walkG (wpAny_pyIter_tuple hl ?_)
 refine ⟨_, [_, l], [_], _, _, _, numAt xs, rfl, Walks.tuple (A := A.in1) hh _ l (ZH hlt) (intItems xs), ⟨⟨_, Zy _ rfl, rfl, rfl⟩, hl.push _⟩, λ b hb => ?_, (λ _ _ => intItems_at), λ h' tk t' hk => ?_⟩
 ·show b < (s.heap.push _).objs.size
  rw [Zav]
  rcases Zt.mp hb with rfl | hb
  ·exact Zbb _
  ·rcases Zt.mp hb with rfl | hb
   ·exact ZaA hlt
   ·cases hb
 ·have := h h' tk t' λ b o e => by
   refine hk b o (λ hm => ?_) (Zm _ e)
   rcases Zt.mp hm with e1 | hm
   ·exact absurd (e1 ▸ Zp e) (ZG _)
   ·cases hm
  simpa [intItems] using this
noncomputable def QnH (K : PySem.W.Frag) : List V -> Hp -> VK -> Prop := λ xs H Q => ∃ (p : Addr) (ns : List Int), xs = [.ref p] /\ (SqL K H p (ns.map V.int) ∨ SqT K H p (ns.map V.int)) /\ Q (.int ns.sum) H
theorem QjY (hc : X.calm = true) : Qbn X (.builtin "sum") (QnH X.K) := by
 intro pins s σ H xs us Q I r h
 obtain ⟨p, ns, rfl, hq, q⟩ := h
 obtain ⟨u, rfl, rx⟩ := vals1 r
 cases rx
 rcases hq with hq | hq
 ·obtain ⟨its, r', pl, hz⟩ := I.list hq
  obtain ⟨ys, e, hns⟩ := Qfx (Qcd r')
  have hl := pl.isList
  rw [e] at hl
  refine sum_intListG (I.ok.hd hc) hl λ h' tk t' hk => ?_
  refine ⟨.int ns.sum, H, I.kept hk, ⟨t', ?_⟩, q⟩
  rw [preSum_eq, ZaD (by simp), hns]
 ·obtain ⟨its, r', pl, hz⟩ := I.tuple hq
  obtain ⟨ys, e, hns⟩ := Qfx (Qcd r')
  have hl := pl
  rw [e] at hl
  refine QhH (I.ok.hd hc) hl λ h' tk t' hk => ?_
  refine ⟨.int ns.sum, H, I.kept hk, ⟨t', ?_⟩, q⟩
  rw [preSum_eq, ZaD (by simp), hns]
noncomputable def Qei : List D -> Option D
 | [.lst xs] => (Qdo xs).map λ ns => .int ns.sum
 | [.tup xs] => (Qdo xs).map λ ns => .int ns.sum
 | _ => none
theorem Qmp {K : PySem.W.Frag} : QhK K Qei (QnH K) := λ ds d e => by
 unfold Qei at e
 split at e
 ·obtain ⟨ns, h1, rfl⟩ := Zc.mp e
  refine ⟨rfl, λ H vs F Q r q => ?_⟩
  obtain ⟨v, rfl, rp⟩ := r.one
  obtain ⟨l, ws, L, rfl, hl, rl, zl, el⟩ := rp.lst_inv
  rw [QdV h1] at rl
  rw [rl.ints] at hl
  exact ⟨l, ns, rfl, .inl (QS hl), q _ λ _ => .int_mk⟩
 ·obtain ⟨ns, h1, rfl⟩ := Zc.mp e
  refine ⟨rfl, λ H vs F Q r q => ?_⟩
  obtain ⟨v, rfl, rp⟩ := r.one
  obtain ⟨l, ws, rfl, hl, rl⟩ := rp.Qaf
  rw [QdV h1] at rl
  rw [rl.ints] at hl
  exact ⟨l, ns, rfl, .inr hl, q _ λ _ => .int_mk⟩
 ·cases e
theorem Qh3 : Qbn X (.builtin "divmod") (λ xs H Q => ∃ i j, xs = [.int i, .int j] /\ QaL j = true /\ ∀ p, H p = none -> Q (.ref p) (upd H p (.tup [.int (QbW i j), .int (QcH i j)]))) := by
 intro pins s σ H xs us Q I r h
 obtain ⟨i, j, rfl, hc, q⟩ := h
 obtain ⟨u, w', rfl, ⟨t, rfl⟩, ⟨t', rfl⟩⟩ := vals2 r
 unfold QaL at hc
 simp only [Zg, decide_eq_true_eq] at hc
 have h0 : j.natAbs ≠ 0 := by omega
 refine PyProof.Rows.divmod_int hc.1 ?_ (.inl (Zba (Nat.lt_trans ((Zbo h0).mpr hc.2) (by decide))))
 rw [← QfJ, ← QiC]
 have hn : H s.heap.objs.size = none := I.hok.fresh (Zj _)
 refine ⟨.ref s.heap.objs.size, _, ?_, rfl, q _ hn⟩
 refine I.laid (λ b o e => Zm _ e) (Zj _) ⟨by simp only [Zz, List.length_nil]; rw [sizeLine_eq]; decide, [.int (QbW i j) s.toks, .int (QcH i j) (s.toks + 1)], .cons ⟨_, rfl⟩ (.cons ⟨_, rfl⟩ .nil), ?_⟩
 exact ⟨_, Zy s.heap rfl, rfl, 0, rfl⟩
noncomputable def dDm (fs : DA) : DE := λ ρ => (fs ρ).bind λ r => match r.ds with
 | [.int i, .int j] => if QaL j = true then some ⟨.tup [.int (QbW i j), .int (QcH i j)], true, []⟩ else none
 | _ => none
theorem Qo3 {x : Str} {p : Pos} (hg : Gl X "divmod") (hm : X.mg "divmod" = none) (ha : SA X (e :: es) fs) (he : starEach (e :: es) X.env = (false, eval e X.env) :: starEach es X.env) (hpl : (backTo pos (starEach es X.env)).any (·.1) = false) :
  SE X (.Call (.Name "divmod" p) (e :: es) [] pos) (dDm fs) := λ H0 A0 =>
 (Qe4 Qh3 hg hm PyProof.Rows.boot_divmod (ha H0 A0) (by decide) (by decide) he hpl).mono λ σ H Q ⟨ρ, hs, F, r', rel, e, q⟩ => by
  obtain ⟨ra, e1, e⟩ := bind1 e
  refine ⟨ρ, hs, F, ra, rel, e1, λ vs H1 G p1 => ?_⟩
  split at e
  ·rename_i i j hds
   split at e
   ·rename_i hc
    cases e
    have rp := p1.rp
    rw [hds] at rp
    obtain ⟨v, w, F1, F2, rfl, r1, r2⟩ := rp.two
    refine ⟨i, j, by rw [r1.int_inv, r2.int_inv], hc, λ p hp => q _ _ [] (.flat (p1.same.trans (Qa2 hp)) (Rp.QhN QQ ?_) rfl)⟩
    simp only [Rps]
    exact ⟨_, _, [], [], rfl, rfl, .int_mk, _, _, [], [], rfl, rfl, .int_mk, rfl, rfl⟩
   ·cases e
  ·cases e
end
end HS
namespace HS
open PySem PySem.Spec L2 PyProof.Rows
theorem Qeu : ∀ {vs : List V} {us : List Value}, us.length = vs.length -> (∀ (k : Nat) (v : V), vs[k]? = some v -> ∃ u, us[k]? = some u /\ RelV v u) -> Qj vs us
 | [], [], _, _ => .nil
 | [], _ :: _, h, _ => by simp at h
 | _ :: _, [], h, _ => by simp at h
 | v :: vs, u :: us, h, g => by
  obtain ⟨u', e, r⟩ := g 0 v rfl
  cases e
  exact .cons r (Qeu (by simpa using h) λ k v hk => g (k + 1) v hk)
section
variable {X : Cx} {a b c e tg : Expr} {es : List Expr} {fa fb fc : DE} {fs : DA} {pos p2 : Pos}
theorem Qkt {pins : List (Addr × Obj)} {σ : L2.St} {H : Hp} {s : Shared} {Q : VK} {E : Value -> Shared -> Prop} {j : Int} {t u v : Tok} {tk : Nat} (I : Inv X pins σ H s) (hc : X.calm = true) (h0 : 0 <= j) (h1 : j <= 1000000)
  (q : ∀ l, H l = none -> Q (.ref l) (upd H l (.lst ((List.range j.toNat).map λ (k : Nat) => V.int (k : Int))))) :
  wpAny (model X.prog X.w) X.A (call (.type "list") [.ref s.heap.objs.size]) (EP X pins σ Q) E { s with heap := s.heap.push { cls := .type "range", data := .fields #[.int 0 t, .int j u, .int 1 v] }, toks := tk } := by
 have I2 : Inv X pins σ H { s with heap := s.heap.push { cls := .type "range", data := .fields #[.int 0 t, .int j u, .int 1 v] }, toks := tk } := I.kept λ b o e => Zm _ e
 refine call_list_range (n := j.toNat) (I.ok.hd hc) (IsRange.new ..) (small_one (by omega) (by omega) (by omega) (by omega)) (by rw [rangeSize_one]; split <;> omega) (by omega) λ h' tk' acc' c' hk hS hacc => ?_
 have hv : Qj ((List.range j.toNat).map λ (k : Nat) => V.int (k : Int)) acc'.toList := by
  have hl := hacc.1
  refine Qeu (by simp [hl]) λ k v hk => ?_
  rw [Zq] at hk
  have hkl : k < j.toNat := by
   by_cases z : k < j.toNat
   ·exact z
   ·rw [Zu (by simp; omega)] at hk; cases hk
  rw [ZL hkl] at hk
  cases hk
  obtain ⟨w, hw⟩ : ∃ w, acc'[k]? = some w := ⟨acc'[k]'(by omega), by rw [Array.getElem?_eq_getElem (by omega)]⟩
  obtain ⟨t', rfl⟩ := hacc.2 k w hw
  exact ⟨_, by rw [Array.getElem?_toList]; exact hw, ⟨t', by simp⟩⟩
 refine ⟨.ref _, _, I2.laid hk (Zj _) (show Qa1 X.prog X.w _ h' _ (.lst _) from ⟨by simp [Qel]; omega, acc'.toList, c', hv, by simpa using hS⟩), rfl, q _ (I2.hok.fresh (Zj _))⟩
theorem QkC {p p' pos' : Pos} {ta : TA} (hg : Gl X "list") (hm : X.mg "list" = none) (hg' : Gl X "range") (hm' : X.mg "range" = none) (hc : X.calm = true) (ha : PA X [a] ta) (hs : starEach [a] X.env = [(false, eval a X.env)]) :
  PE X (.Call (.Name "list" p) [.Call (.Name "range" p') [a] [] pos'] [] pos) (λ σ H Q => ta σ H λ vs H1 => ∃ j : Int, vs = [.int j] /\ 0 <= j /\ j <= 1000000 /\ ∀ l, H1 l = none -> Q (.ref l) (upd H1 l (.lst ((List.range j.toNat).map λ (k : Nat) => V.int (k : Int))))) := by
 intro pins s σ H Q I h
 refine wpAny_Call_Name_kw (Qce I hg hm boot_list ?_ (by decide) (by decide))
 refine ZN (Calls.spliced_cons ?_) rfl rfl
 refine Call_ (Qce I hg' hm' boot_range (ZN (thn (ha pos' pins s σ H _ I h) λ us s1 ⟨vs, H1, I1, r1, q1⟩ => ?_) hs rfl))
 obtain ⟨j, e, q1, q2, q⟩ := q1
 subst e
 cases r1 with
 | cons r rr =>
  cases rr
  obtain ⟨t, rfl⟩ := r
  exact call_range_1 (Calls.spliced_nil (Qkt I1 hc q1 q2 q))
noncomputable def QiO (fa : DE) : DE := λ ρ => (fa ρ).bind λ r => match r.d with
 | .int j => if 0 <= j /\ j <= 1000000 then some ⟨.lst ((List.range j.toNat).map λ (k : Nat) => .int (k : Int)), true, []⟩ else none
 | _ => none
theorem Rps.ofInts {K : PySem.W.Frag} {H : Hp} : ∀ ns : List Int, Rps K H (ns.map .int) (ns.map .int) []
 | [] => by simp [Rps]
 | n :: ns => by simp only [Zv, Rps]; exact ⟨_, _, [], [], rfl, rfl, .int_mk, Rps.ofInts ns⟩
theorem QjD : ∀ ns : List Int, QG (ns.map .int) = true
 | [] => rfl
 | n :: ns => by simp [QG, D.flat, QjD ns]
theorem QmK {p p' pos' : Pos} (hg : Gl X "list") (hm : X.mg "list" = none) (hg' : Gl X "range") (hm' : X.mg "range" = none) (hc : X.calm = true) (ha : SE X a fa) (hs : starEach [a] X.env = [(false, eval a X.env)]) :
  SE X (.Call (.Name "list" p) [.Call (.Name "range" p') [a] [] pos'] [] pos) (QiO fa) := λ H0 A0 =>
 (QkC hg hm hg' hm' hc (QaR (ha H0 A0) QcL hs) hs).mono λ σ H Q ⟨ρ, hs, F, r', rel, e, q⟩ => by
  obtain ⟨ra, e1, e⟩ := bind1 e
  refine ⟨ρ, hs, F, ra, rel, e1, λ v H1 G p1 => ?_⟩
  cases hd : ra.d with
  | int j =>
   rw [hd] at e
   dsimp only at e
   split at e
   ·rename_i hj
    cases e
    have rp := p1.rp
    rw [hd] at rp
    refine ⟨j, by rw [rp.int_inv], hj.1, hj.2, λ l hl => ?_⟩
    have e2 : ((List.range j.toNat).map λ (k : Nat) => D.int (k : Int)) = ((List.range j.toNat).map λ (k : Nat) => (k : Int)).map D.int := by rw [Zax]; rfl
    have e3 : ((List.range j.toNat).map λ (k : Nat) => V.int (k : Int)) = ((List.range j.toNat).map λ (k : Nat) => (k : Int)).map V.int := by rw [Zax]; rfl
    have := QH.QaN (M := []) (ρ := ρ) (F := F) p1.same hl (Rps.ofInts (K := X.K) (H := H1) ((List.range j.toNat).map λ (k : Nat) => (k : Int))) (by simp [Qel]; omega) Src.nil Qak.nil
    rw [← e2, ← e3] at this
    unfold QaN at this
    rw [if_pos (by rw [e2]; exact QjD _)] at this
    exact q _ _ _ this
   ·cases e
  | _ => rw [hd] at e; cases e
end
end HS
namespace HS
open PySem PySem.Spec PyProof.Rows L2
section
variable {X : Cx} {a b c : Expr} {fa fb fc : DE} {pos : Pos}
end
end HS
namespace HS
open PySem PySem.Spec L2
structure FnR where
 n : Nat
 dfl : List D
 den : Den
structure Th where
 N : List Str
 sc : List (Str × NameKind)
 Γ : List (Str × FnR)
 cs : List (Str × Int)
 tr : Stmt -> Option DS := λ _ => none
noncomputable def posOf (x : Str) : List Str -> Option Nat
 | [] => none
 | y :: ys => if x = y then some 0 else (posOf x ys).map (· + 1)
theorem QcT : ∀ {x : Str} {ys : List Str} {i : Nat}, posOf x ys = some i -> ys[i]? = some x
 | x, [], i, h => by cases h
 | x, y :: ys, i, h => by
  unfold posOf at h
  split at h
  ·rename_i e; cases h; subst e; rfl
  ·obtain ⟨j, hj, rfl⟩ := Zc.mp h
   simpa using QcT hj
noncomputable def look {α : Type} (x : Str) : List (Str × α) -> Option α
 | [] => none
 | (y, a) :: r => if x = y then some a else look x r
theorem Qar {α : Type} : ∀ {x : Str} {l : List (Str × α)}, look x l = l.lookup x
 | x, [] => rfl
 | x, (y, a) :: r => by
  unfold look
  rw [Zl]
  by_cases h : x = y
  ·subst h; simp
  ·rw [if_neg h, Qar]
   have : (x == y) = false := by simpa using h
   rw [this]
noncomputable def QlU : NameKind -> Bool
 | .local => true | .cell => true | .free => true | _ => false
noncomputable def QlP : NameKind -> Bool
 | .local => true | .cell => true | _ => false
noncomputable def Qqp : NameKind -> Bool
 | .globalImplicit => true | _ => false
noncomputable def isFree : NameKind -> Bool
 | .free => true | _ => false
noncomputable def odd (x : Str) : Bool := decide (x = "__debug__") || decide (x = "__classdict__") || decide (x = "__name__")
noncomputable def Th.slot (Θ : Th) (x : Str) : Option Nat := if ((look x Θ.sc).map QlU).getD false && !odd x then posOf x Θ.N else none
noncomputable def Th.QbH (Θ : Th) (x : Str) : Option Nat := if ((look x Θ.sc).map QlP).getD false && !odd x then posOf x Θ.N else none
noncomputable def Th.gl (Θ : Th) (x : Str) : Bool := ((look x Θ.sc).map Qqp).getD false && !odd x
def QmH (X : Cx) (x : Str) (r : FnR) : Prop := ∃ k f fd ps, Qa3 X.prog X.w X.K X.mg X.base CX0 k f fd ps (spV X.K r.n r.den) /\ QX k X.A /\ X.mg x = some (.ref f) /\ PySem.W.keepIn X.K (.ref f) = true ∧
 ∀ m, m <= r.dfl.length -> ∃ ds dvs, Binds X.K fd ps ds /\ Qj dvs ds /\ ∀ H, Rps X.K H (r.dfl.drop (r.dfl.length - m)) dvs []
noncomputable def Qg4 : List Str := ["range", "enumerate", "zip", "len", "list", "min", "max", "sum", "abs", "isinstance", "int", "bool", "tuple", "str", "divmod", "sorted", "any", "all"]
structure CtxB (X : Cx) (Θ : Th) : Prop where
 N : X.N = Θ.N
 nd : Θ.N.Nodup
 lc : ∀ x, look x Θ.sc = some .local -> X.env.scope.names.lookup x = some .local
 ce : ∀ x, look x Θ.sc = some .cell -> X.env.scope.names.lookup x = some .cell /\ X.fn x = true
 fe : ∀ x, look x Θ.sc = some .free -> X.env.scope.names.lookup x = some .cell ∨ X.env.scope.names.lookup x = some .free
 gl : ∀ x, look x Θ.sc = some .globalImplicit -> X.env.scope.names.lookup x = some .globalImplicit
 units : X.A.units + 64 < cLine
 mg : ∀ x ∈ Qg4, X.mg x = none
 cs : ∀ x i, look x Θ.cs = some i -> ∃ t, X.mg x = some (.int i t)
structure QR (X : Cx) (Θ : Th) : Prop extends CtxB X Θ where
 calm : X.calm = true
 pass : PassesOwn (model X.prog X.w) X.A X.env X.xe
 fns : ∀ x r, look x Θ.Γ = some r -> QmH X x r
 tr : ∀ st f, Θ.tr st = some f -> S1 X st f
section
variable {X : Cx} {Θ : Th}
theorem Qiw {x : Str} (h : odd x = false) : (x == ("__debug__" : Str)) = false /\ (x == ("__classdict__" : Str)) = false /\ x ≠ "__name__" := by
 unfold odd at h
 simp only [Bool.or_eq_false_iff, decide_eq_false_iff_not] at h
 exact ⟨by simpa using h.1.1, by simpa using h.1.2, h.2⟩
theorem Qed (ok : CtxB X Θ) {x : Str} {i : Nat} {pos : Pos} (h : Θ.slot x = some i) : PE X (.Name x pos) (QeO i) := by
 unfold Th.slot at h
 split at h
 ·rename_i hc
  simp only [Zg, Zap] at hc
  obtain ⟨h1, h2, _⟩ := Qiw hc.2
  refine QkB (by rw [ok.N]; exact QcT h) ?_ h1 h2
  cases q : look x Θ.sc with
  | none => rw [q] at hc; cases hc.1
  | some k =>
   rw [q] at hc
   cases k with
   | «local» => exact .inl (ok.lc x q)
   | cell => exact .inr (.inl (ok.ce x q).1)
   | free => exact .inr (ok.fe x q)
   | _ => cases hc.1
 ·cases h
theorem QcM (ok : CtxB X Θ) {x : Str} {i : Nat} (h : Θ.QbH x = some i) : X.N[i]? = some x /\ Loc X.env.scope x /\ (X.fn x = true ∨ X.env.scope.names.lookup x = some .local) := by
 unfold Th.QbH at h
 split at h
 ·rename_i hc
  simp only [Zg, Zap] at hc
  refine ⟨by rw [ok.N]; exact QcT h, ?_⟩
  cases q : look x Θ.sc with
  | none => rw [q] at hc; cases hc.1
  | some k =>
   rw [q] at hc
   cases k with
   | «local» => exact ⟨.inl (ok.lc x q), .inr (ok.lc x q)⟩
   | cell => exact ⟨.inr (ok.ce x q).1, .inl (ok.ce x q).2⟩
   | _ => cases hc.1
 ·cases h
theorem Qdu (ok : CtxB X Θ) {x : Str} (h : Θ.gl x = true) : Gl X x /\ (x == ("__debug__" : Str)) = false /\ x ≠ "__name__" := by
 unfold Th.gl at h
 simp only [Zg, Zap] at h
 obtain ⟨h1, h2, h3⟩ := Qiw h.2
 refine ⟨?_, h1, h3⟩
 cases q : look x Θ.sc with
 | none => rw [q] at h; cases h.1
 | some k =>
  rw [q] at h
  cases k with
  | globalImplicit => exact ok.gl x q
  | _ => cases h.1
end
noncomputable def isTup : Expr -> Bool
 | .Tuple .. => true
 | _ => false
noncomputable def QjZ : Expr -> Option Str
 | .Name x _ => some x
 | _ => none
noncomputable def Qc3 (Θ : Th) : Expr -> Option Tg
 | .Name x _ => (Θ.QbH x).map .nm
 | .Tuple es _ _ => ((es.mapM QjZ).bind λ xs => xs.mapM Θ.QbH).map .tp
 | _ => none
noncomputable def Qji : CmpOp -> Option (D -> D -> Option D)
 | .Eq => some gEq | .NotEq => some gNe | .Lt => some gLt | .LtE => some gLe | .Gt => some gGt | .GtE => some gGe
 | .Is => none | .IsNot => none
 | .In => some (gIn false) | .NotIn => some (gIn true)
noncomputable def Qlf (x : Str) : Option String :=
 if x = "int" then some "int" else if x = "bool" then some "bool" else if x = "list" then some "list" else if x = "tuple" then some "tuple" else if x = "str" then some "str" else none
noncomputable def inner (Θ : Th) (scope : Scope) : Th := { N := (scope.names.filter λ y => QlU y.2).map (·.1), sc := scope.names, Γ := Θ.Γ, cs := Θ.cs }
noncomputable def Qep (Θ : Th) (scope : Scope) : List (Option Nat) := (inner Θ scope).N.map λ x => if ((look x scope.names).map isFree).getD false then posOf x Θ.N else none
noncomputable def Qfa (Θ : Th) (scope : Scope) (t : Tg) : Bool := (scope.kind == .function) && decide (inner Θ scope).N.Nodup &&
 (scope.names.all λ y => match y.2 with
  | .cell => decide (look y.1 scope.names = some .cell)
  | .local => decide (look y.1 scope.names = some .local)
  | .free => match look y.1 Θ.sc with
   | some .cell => true
   | some .free => true
   | _ => false
  | _ => true) &&
 t.slots.all λ j => match (Qep Θ scope)[j]? with
  | some (some _) => false
  | _ => true
noncomputable def QeG (Θ : Th) (x : Str) (a : Expr) : Option Expr := match a with
 | .Call (.Name y _) [b] [] _ => if x = "list" /\ y = "range" /\ Θ.gl y = true /\ (look y Θ.Γ).isNone = true then some b else none
 | _ => none
noncomputable def QoV : List Expr -> Bool
 | [] => true | [_] => true | _ => false
noncomputable def bf1 (x : Str) (fa : DE) : Option DE :=
 if x = "len" then some (dBf Qax (Qb fa Qg)) else
 if x = "list" then some (dList (Qb fa Qg)) else
 if x = "sum" then some (dBf Qei (Qb fa Qg)) else
 none
noncomputable def bf2 (x : Str) (fa fb : DE) : Option DE :=
 if x = "divmod" then some (dDm (Qb fa (Qb fb Qg))) else
 none
mutual
noncomputable def Qf (n : Nat) (Θ : Th) (e : Expr) : Option DE := match n with
 | 0 => none
 | n + 1 => match e with
  | .Name x _ => match Θ.slot x with
   | some i => some (Qa i)
   | none => if Θ.gl x then (look x Θ.cs).map λ i => dC (.int i) else none
  | .Constant (.int i) _ _ => some (dC (.int i))
  | .Constant (.bool b) _ _ => some (dC (.bl b))
  | .Constant .none _ _ => some (dC .non)
  | .Constant (.str x) _ _ => some (dC (.str x))
  | .BinOp a op b _ => (Qf n Θ a).bind λ fa => (Qf n Θ b).bind λ fb => match op with
   | .Add => some (Q2 fa fb)
   | .Mult => some (Q6 fa fb)
   | .Sub => some (dOp Qb9 fa fb)
   | .FloorDiv => some (dOp QdX fa fb)
   | .Mod => some (dOp Qbf fa fb)
   | .Pow => some (dOp Qb2 fa fb)
   | _ => none
  | .UnaryOp .USub a _ => (Qf n Θ a).map QoI
  | .UnaryOp .Not a _ => (Qf n Θ a).map QlC
  | .BoolOp .And [a] _ => Qf n Θ a
  | .BoolOp .And (a :: b :: r) p => (Qf n Θ a).bind λ fa => (Qf n Θ (.BoolOp .And (b :: r) p)).map λ fb => QeJ fa fb
  | .BoolOp .Or [a] _ => Qf n Θ a
  | .BoolOp .Or (a :: b :: r) p => (Qf n Θ a).bind λ fa => (Qf n Θ (.BoolOp .Or (b :: r) p)).map λ fb => dOr fa fb
  | .Compare a [op] [b] _ => (Qf n Θ a).bind λ fa => (Qf n Θ b).bind λ fb => (Qji op).map λ g => dOp g fa fb
  | .Tuple es _ _ => (Qau n Θ es).map QfZ
  | .List es _ => (Qau n Θ es).map QaH
  | .Subscript a (.Slice lo hi none _) _ => (Qf n Θ a).bind λ fa => (Qd9 n Θ lo).bind λ fl => (Qd9 n Θ hi).map λ fh => QdT fa fl fh
  | .Subscript a b _ => (Qf n Θ a).bind λ fa => (Qf n Θ b).map λ fb => Qy fa fb
  | .Call (.Name x _) args [] _ => if Θ.gl x then (match look x Θ.Γ with
    | some r => if r.n <= args.length + r.dfl.length /\ args.length <= r.n then (Qau n Θ args).map λ fs => Qx r.n r.den (r.dfl.drop (r.dfl.length - (r.n - args.length))) fs else none
    | none => Qfm n Θ x args) else none
  | .ListComp elt [⟨tg, iter, ifs, 0⟩] scope _ => (Qc3 (inner Θ scope) tg).bind λ t => if Qfa Θ scope t && QoV ifs then
    (QcY n Θ tg iter).bind λ fi => (QcN n (inner Θ scope) ifs).bind λ ft => (Qf n (inner Θ scope) elt).map λ fe => Q9 fi t (Qep Θ scope) ft fe else none
  | _ => none
noncomputable def Qfm (n : Nat) (Θ : Th) (x : Str) (args : List Expr) : Option DE := match n with
  | 0 => none
  | n + 1 => match args with
    | [a] => match QeG Θ x a with
     | some b => (Qf n Θ b).map QiO
     | none => (Qf n Θ a).bind λ fa => bf1 x fa
    | [a, b] => if x = "isinstance" then (Qf n Θ a).bind λ fa => match b with
        | .Name y _ => if Θ.gl y then (Qlf y).map λ T => QeW T fa else none
        | _ => none
      else (Qf n Θ a).bind λ fa => (Qf n Θ b).bind λ fb => bf2 x fa fb
    | _ => none
noncomputable def Qan (n : Nat) (Θ : Th) (e : Expr) : Option DT := match n with
 | 0 => none
 | n + 1 => match e with
  | .UnaryOp .Not a _ => (Qan n Θ a).map Qb0
  | .BoolOp .And [a] _ => Qan n Θ a
  | .BoolOp .And (a :: b :: r) p => (Qan n Θ a).bind λ fa => (Qan n Θ (.BoolOp .And (b :: r) p)).map λ fb => QkY fa fb
  | .BoolOp .Or [a] _ => Qan n Θ a
  | .BoolOp .Or (a :: b :: r) p => (Qan n Θ a).bind λ fa => (Qan n Θ (.BoolOp .Or (b :: r) p)).map λ fb => bOr fa fb
  | .Compare a [op] [b] _ => (Qf n Θ a).bind λ fa => (Qf n Θ b).bind λ fb => (Qji op).map λ g => QP (dOp g fa fb)
  | .BoolOp _ _ _ => none
  | .IfExp _ _ _ _ => none
  | .Compare _ _ _ _ => none
  | e => (Qf n Θ e).map QP
noncomputable def QcN (n : Nat) (Θ : Th) (es : List Expr) : Option DT := match n with
 | 0 => none
 | n + 1 => match es with
  | [] => some QaM
  | [c] => Qan n Θ c
  | _ => none
noncomputable def Qau (n : Nat) (Θ : Th) (es : List Expr) : Option DA := match n with
 | 0 => none
 | n + 1 => match es with
  | [] => some Qg
  | e :: es => (Qf n Θ e).bind λ fa => (Qau n Θ es).map λ fs => Qb fa fs
noncomputable def Qd9 (n : Nat) (Θ : Th) (e : Option Expr) : Option DO := match n with
 | 0 => none
 | n + 1 => match e with
  | none => some QcV
  | some e => (Qf n Θ e).map QcZ
noncomputable def QcY (n : Nat) (Θ : Th) (tg e : Expr) : Option DI := match n with
 | 0 => none
 | n + 1 => match e with
  | .Call (.Name x _) args [] _ => if Θ.gl x && (look x Θ.Γ).isNone then (match args with
    | [a] => if x = "range" then (Qf n Θ a).map Qao else
     (Qf n Θ e).map Qay
    | [a, b, c] =>
     (Qf n Θ e).map Qay
    | [a, b] =>
     if x = "range" then (Qf n Θ a).bind λ fa => (Qf n Θ b).map λ fb => Qct fa fb else
     if x = "zip" then (if isTup tg then (Qf n Θ a).bind λ fa => (Qf n Θ b).map λ fb => Qd8 fa fb else none) else
     (Qf n Θ e).map Qay
    | _ => (Qf n Θ e).map Qay) else (Qf n Θ e).map Qay
  | e => (Qf n Θ e).map Qay
end
end HS
namespace HS
open PySem PySem.Spec L2
theorem QW {α β γ : Type} {x : Option α} {y : α -> Option β} {k : α -> β -> γ} {r : γ} (e : (x.bind λ a => (y a).map λ b => k a b) = some r) : ∃ a b, x = some a /\ y a = some b /\ k a b = r := by
 obtain ⟨a, h1, e⟩ := bind1 e
 obtain ⟨b, h2, e⟩ := Zc.mp e
 exact ⟨a, b, h1, h2, e⟩
theorem Qac {n : Nat} {Θ : Th} {e : Expr} {f : DE} (h : Qf n Θ e = some f) (es : List Expr) (env : Env) : starEach (e :: es) env = (false, eval e env) :: starEach es env := by
 cases n with
 | zero => exact nomatch (show (none : Option DE) = some _ from h)
 | succ n => cases e <;> first | rfl | (exact nomatch (show (none : Option DE) = some _ from h))
theorem Qim : ∀ {n : Nat} {Θ : Th} {es : List Expr} {f : DA}, Qau n Θ es = some f -> ∀ (pos : Pos) (env : Env), (backTo pos (starEach es env)).any (·.1) = false
 | 0, _, _, _, h, _, _ => by simp [Qau] at h
 | n + 1, _, [], _, h, _, _ => rfl
 | n + 1, _, e :: es, _, h, pos, env => by
  simp only [Qau] at h
  obtain ⟨fa, fs, h1, h2, _⟩ := QW h
  rw [Qac h1]
  have := Qim h2 pos env
  simpa [backTo] using this
theorem QiI {n : Nat} {Θ : Th} {b : Expr} {f : DE} (h : Qf n Θ b = some f) : Qeb b := by
 cases n with
 | zero => exact nomatch (show (none : Option DE) = some _ from h)
 | succ n => cases b <;> first | (intro o i; rfl) | (exact nomatch (show (none : Option DE) = some _ from h))
theorem QnD {n : Nat} {Θ : Th} {e : Expr} {f : DE} (h : Qf n Θ e = some f) (env : Env) : ∀ x, foldedSetIterable e env x = pure x := by
 cases n with
 | zero => exact nomatch (show (none : Option DE) = some _ from h)
 | succ n => cases e <;> first | (intro x; rfl) | (exact nomatch (show (none : Option DE) = some _ from h))
theorem Qj1 {n : Nat} {Θ : Th} {e : Expr} {f : DE} (h : Qf n Θ e = some f) (op : CmpOp) : behindInMarks op e = false := by
 cases n with
 | zero => exact nomatch (show (none : Option DE) = some _ from h)
 | succ n => cases e <;> first | rfl | (exact nomatch (show (none : Option DE) = some _ from h))
theorem QbM {env : Env} : ∀ {names : List (Str × NameKind)} {x : Str}, names.lookup x = some .cell →
  (names.map λ (n, k) => if (k == NameKind.free && env.scope.kind == .function && env.kindOf n == some .cell) then (n, NameKind.cell) else (n, k)).lookup x = some .cell
 | [], _, h => by simp at h
 | (n, k) :: r, x, h => by
  have ih := @QbM env r x
  rw [Zv]
  cases hx : x == n with
  | true =>
   simp only [Zl, hx] at h
   cases h
   dsimp only
   split <;> simp [Zl, hx]
  | false =>
   simp only [Zl, hx] at h
   dsimp only
   split <;> (simp only [Zl, hx]; exact ih h)
theorem Qha {X : Cx} {Θ : Th} {scope : Scope} {t : Tg} (ok : QR X Θ) (h : Qfa Θ scope t = true) : Qcf X (inner Θ scope).N scope /\ QgX X (inner Θ scope).N scope (Qep Θ scope) t.slots /\ ∀ cl C fp s3 H3, QR (cxc X (inner Θ scope).N scope cl C fp s3 H3) (inner Θ scope) := by
 unfold Qfa at h
 simp only [Zg, decide_eq_true_eq] at h
 obtain ⟨⟨⟨h1, h2⟩, h3⟩, h4⟩ := h
 have hk : scope.kind = .function := by simpa using h1
 have each : ∀ y ∈ scope.names, (y.2 = .cell -> scope.names.lookup y.1 = some .cell) /\ (y.2 = .local -> scope.names.lookup y.1 = some .local) /\ (y.2 = .free -> X.env.kindOf y.1 = some .cell ∨ X.env.kindOf y.1 = some .free) := λ y hy => by
  have := Zah.mp h3 y hy
  obtain ⟨y, k⟩ := y
  cases k with
  | cell => exact ⟨λ _ => (by rw [← Qar]; simpa using this), λ z => (by cases z), λ z => (by cases z)⟩
  | «local» => exact ⟨λ z => (by cases z), λ _ => by rw [← Qar]; simpa using this, λ z => by cases z⟩
  | free =>
   refine ⟨λ z => (by cases z), λ z => (by cases z), λ _ => ?_⟩
   dsimp only at this
   split at this
   ·rename_i q; exact .inl (ok.ce _ q).1
   ·rename_i q; exact ok.fe _ q
   ·cases this
  | _ => exact ⟨λ z => (by cases z), λ z => (by cases z), λ z => (by cases z)⟩
 have S : Qcf X (inner Θ scope).N scope := ⟨hk, λ y hy => (each y hy).1, λ y hy => (each y hy).2.1, λ y hy => (each y hy).2.2⟩
 refine ⟨S, ⟨by unfold Qep; simp, λ j i e => ?_, λ j i e hj => ?_⟩, λ cl C fp s3 H3 => ⟨⟨rfl, h2, λ x e => ?_, λ x e => ?_, λ x e => ?_, λ x e => ?_, ok.units, ok.mg, ok.cs⟩, ok.calm, PassesOwn.never, ok.fns, λ _ _ e => nomatch e⟩⟩
 ·unfold Qep at e
  rw [Zq] at e
  cases q : (inner Θ scope).N[j]? with
  | none => rw [q] at e; cases e
  | some x =>
   rw [q] at e
   simp only [ZV, Option.some.injEq] at e
   split at e
   ·rename_i hf
    cases hl : look x scope.names with
    | none => rw [hl] at hf; cases hf
    | some k =>
     rw [hl] at hf
     cases k with
     | free =>
      rw [Qar] at hl
      exact ⟨x, rfl, hl, by rw [ok.N]; exact QcT e, (each (x, .free) (ZJ hl)).2.2 rfl⟩
     | _ => cases hf
   ·cases e
 ·have := Zah.mp h4 j hj
  rw [e] at this
  cases this
 ·have e' : scope.names.lookup x = some .local := by rw [← Qar]; exact e
  exact lookup_relabel_local e'
 ·have e' : scope.names.lookup x = some .cell := by rw [← Qar]; exact e
  exact ⟨QbM e', decide_eq_true e'⟩
 ·have e' : scope.names.lookup x = some .free := by rw [← Qar]; exact e
  exact QaY e'
 ·have e' : scope.names.lookup x = some .globalImplicit := by rw [← Qar]; exact e
  show (relabel scope X.env).names.lookup x = some .globalImplicit
  unfold relabel
  have gen : ∀ {names : List (Str × NameKind)}, names.lookup x = some .globalImplicit →
    (names.map λ (n, k) => if (k == NameKind.free && X.env.scope.kind == .function && X.env.kindOf n == some .cell) then (n, NameKind.cell) else (n, k)).lookup x = some .globalImplicit := by
   intro names
   induction names with
   | nil => intro z; simp at z
   | cons y r ih =>
    intro z
    obtain ⟨n, k⟩ := y
    rw [Zv]
    cases hx : x == n with
    | true =>
     simp only [Zl, hx] at z
     cases z
     simp [Zl, hx]
    | false =>
     simp only [Zl, hx] at z
     dsimp only
     split <;> (simp only [Zl, hx]; exact ih z)
  exact gen e'
theorem QgQ {X : Cx} {Θ : Th} (ok : QR X Θ) {tg : Expr} {t : Tg} (h : Qc3 Θ tg = some t) : SG X tg t := by
 have hN : X.N.Nodup := by rw [ok.N]; exact ok.nd
 cases tg with
 | Name x pos =>
  simp only [Qc3] at h
  obtain ⟨i, hi, rfl⟩ := Zc.mp h
  obtain ⟨h1, h2, h3⟩ := QcM ok.toCtxB hi
  exact Qmk (Qio hN h1 h2 h3)
 | Tuple es k pos =>
  simp only [Qc3] at h
  obtain ⟨is, hi, rfl⟩ := Zc.mp h
  obtain ⟨xs, h1, h2⟩ := bind1 hi
  have key : ∀ (es : List Expr) (xs : List Str) (is : List Nat), es.mapM QjZ = some xs -> xs.mapM Θ.QbH = some is -> PGs X es (Qfg is) /\ (assignEach es X.env).length = is.length /\ (assignEach es X.env).findIdx? (·.1) = none := by
   intro es
   induction es with
   | nil =>
    intro xs is h1 h2
    cases h1
    cases h2
    exact ⟨Ql6, rfl, rfl⟩
   | cons e es ih =>
    intro xs is h1 h2
    rw [List.mapM_cons] at h1
    obtain ⟨x, hx, h1⟩ := bind1 h1
    obtain ⟨ys, hy, h1⟩ := bind1 h1
    cases h1
    rw [List.mapM_cons] at h2
    obtain ⟨i, hi, h2⟩ := bind1 h2
    obtain ⟨js, hj, h2⟩ := bind1 h2
    cases h2
    obtain ⟨a1, a2, a3⟩ := ih ys js hy hj
    cases e with
    | Name y p =>
     cases hx
     obtain ⟨g1, g2, g3⟩ := QcM ok.toCtxB hi
     refine ⟨Qlo (Qio hN g1 g2 g3) a1 rfl, ?_, ?_⟩
     ·show (assignEach es X.env).length + 1 = _
      rw [a2]; rfl
     ·show List.findIdx? (·.1) ((false, assign (.Name x p) X.env) :: assignEach es X.env) = none
      rw [List.findIdx?_cons]
      simp only [a3]; rfl
    | _ => cases hx
  obtain ⟨a1, a2, a3⟩ := key es xs is h1 h2
  exact Qn7 ok.calm a1 a2 a3
 | _ => simp only [Qc3] at h; cases h
theorem Qje {f : Int -> Int -> Bool} : ∀ a b d, gI (λ i j => some (.bl (f i j))) a b = some d -> ∃ k, d = .bl k := λ a b d h => by
 obtain ⟨i, j, _, _, e⟩ := QjO h
 cases e
 exact ⟨_, rfl⟩
theorem QjQ {X : Cx} {Θ : Th} (ok : QR X Θ) {op : CmpOp} {g : D -> D -> Option D} (h : Qji op = some g) : ∃ r, OpR X (compareOp op) r /\ Qbe X.K g r /\ ∀ a b d, g a b = some d -> ∃ k, d = .bl k := by
 cases op <;> cases h
 ·exact ⟨_, QnV ok.units, Qpk, λ a b d h => by unfold gEq at h; split at h <;> cases h; exact ⟨_, rfl⟩⟩
 ·exact ⟨_, QnX ok.units, QpE, λ a b d h => by unfold gNe at h; split at h <;> cases h; exact ⟨_, rfl⟩⟩
 ·exact ⟨_, QoS, Qo7, Qje⟩
 ·exact ⟨_, QoZ, Qpj, Qje⟩
 ·exact ⟨_, Qpb, Qo0, Qje⟩
 ·exact ⟨_, Qpp, Qpz, Qje⟩
 ·exact ⟨_, Qnv ok.units, QlO, λ a b d h => by unfold gIn at h; split at h <;> first | (split at h <;> cases h; exact ⟨_, rfl⟩) | cases h⟩
 ·exact ⟨_, Qkd ok.units, QlO, λ a b d h => by unfold gIn at h; split at h <;> first | (split at h <;> cases h; exact ⟨_, rfl⟩) | cases h⟩
structure QfC (n : Nat) : Prop where
 E : ∀ X Θ e f, QR X Θ -> Qf n Θ e = some f -> SE X e f
 B : ∀ X Θ x args f p pos, QR X Θ -> Θ.gl x = true -> Qfm n Θ x args = some f -> SE X (.Call (.Name x p) args [] pos) f
 T : ∀ X Θ e f, QR X Θ -> Qan n Θ e = some f -> ST X e f
 Ts : ∀ X Θ e f, QR X Θ -> QcN n Θ e = some f -> Qh4 X e f
 A : ∀ X Θ e f, QR X Θ -> Qau n Θ e = some f -> SA X e f
 O : ∀ X Θ e f, QR X Θ -> Qd9 n Θ e = some f -> SO X e f
 I : ∀ X Θ tg e f, QR X Θ -> QcY n Θ tg e = some f -> SI X tg e f /\ ∀ x, foldedSetIterable e X.env x = pure x
theorem callArgs {X : Cx} {n : Nat} {Θ : Th} {es : List Expr} {fs : DA} (h : Qau n Θ es = some fs) {e : Expr} {es' : List Expr} (he : es = e :: es') (pos : Pos) : starEach (e :: es') X.env = (false, eval e X.env) :: starEach es' X.env /\ (backTo pos (starEach es' X.env)).any (·.1) = false := by
 subst he
 cases n with
 | zero => simp [Qau] at h
 | succ n =>
  simp only [Qau] at h
  obtain ⟨fa, fs', h1, h2, _⟩ := QW h
  exact ⟨Qac h1 es' X.env, Qim h2 pos X.env⟩
theorem QoR {n : Nat} (ih : QfC n) : ∀ X Θ e f, QR X Θ -> Qf (n + 1) Θ e = some f -> SE X e f := by
  intro X Θ e f ok h
  cases e with
  | Name x pos =>
    (conv at h => lhs; whnf)
    cases q : Θ.slot x with
    | some i => rw [q] at h; cases h; exact Qnx (Qed ok.toCtxB q)
    | none =>
      rw [q] at h
      dsimp only at h
      split at h
      · rename_i hg
        obtain ⟨i, hi, rfl⟩ := Zc.mp h
        obtain ⟨g1, g2, g3⟩ := Qdu ok.toCtxB hg
        obtain ⟨t, hm⟩ := ok.cs x i hi
        exact Qhb (v := .int i) (Qm6 g1 hm ⟨t, rfl⟩ g2) (λ _ _ => .int_mk) rfl
      · cases h
  | Constant c k pos =>
    cases c with
    | int i => (conv at h => lhs; whnf); cases h; exact Qhb QnR (λ _ _ => .int_mk) rfl
    | bool b => (conv at h => lhs; whnf); cases h; exact Qhb QpD (λ _ _ => .QbF) rfl
    | none => (conv at h => lhs; whnf); cases h; exact Qhb QoP (λ _ _ => .Qfh) rfl
    | str x => (conv at h => lhs; whnf); cases h; exact Qhb Qnz (λ _ _ => .str_mk) rfl
    | _ => exact nomatch (show (none : Option DE) = some _ from h)
  | BinOp a op b pos =>
    (conv at h => lhs; whnf)
    obtain ⟨fa, h1, h⟩ := bind1 h
    obtain ⟨fb, h2, h⟩ := bind1 h
    have ha := ih.E X Θ a fa ok h1
    have hb := ih.E X Θ b fb ok h2
    cases op with
    | Add => cases h; exact QoA ha hb
    | Mult => cases h; exact QnJ ha hb
    | Sub => cases h; exact QgU Qn0 Qn4 ha hb
    | FloorDiv => cases h; exact QgU Qmq Qn2 ha hb
    | Mod => cases h; exact QgU QmG QnT ha hb
    | Pow => cases h; exact QgU Qmc Qnq ha hb
    | _ => cases h
  | UnaryOp op a pos =>
    cases op with
    | USub =>
      (conv at h => lhs; whnf)
      obtain ⟨fa, h1, rfl⟩ := Zc.mp h
      exact Qoq (ih.E X Θ a fa ok h1)
    | Not =>
      (conv at h => lhs; whnf)
      obtain ⟨fa, h1, rfl⟩ := Zc.mp h
      exact Qnu (ih.E X Θ a fa ok h1)
    | _ => exact nomatch (show (none : Option DE) = some _ from h)
  | BoolOp op es pos =>
    cases op with
    | And =>
      match es, h with
      | [], h => exact nomatch (show (none : Option DE) = some _ from h)
      | [a], h => (conv at h => lhs; whnf); exact Qkx (ih.E X Θ a f ok h)
      | a :: b :: r, h =>
        (conv at h => lhs; whnf)
        obtain ⟨fa, fb, h1, h2, rfl⟩ := QW h
        exact Qog (ih.E X Θ a fa ok h1) (ih.E X Θ _ fb ok h2)
    | Or =>
      match es, h with
      | [], h => exact nomatch (show (none : Option DE) = some _ from h)
      | [a], h => (conv at h => lhs; whnf); exact Qkx (ih.E X Θ a f ok h)
      | a :: b :: r, h =>
        (conv at h => lhs; whnf)
        obtain ⟨fa, fb, h1, h2, rfl⟩ := QW h
        exact Qpy (ih.E X Θ a fa ok h1) (ih.E X Θ _ fb ok h2)
  | Compare a ops bs pos =>
    match ops, bs, h with
    | [op], [b], h =>
      (conv at h => lhs; whnf)
      obtain ⟨fa, h1, h⟩ := bind1 h
      obtain ⟨fb, g, h2, h3, rfl⟩ := QW h
      obtain ⟨r, o1, o2, _⟩ := QjQ ok h3
      exact Qou o1 o2 (ih.E X Θ a fa ok h1) (ih.E X Θ b fb ok h2) (Qj1 h2 op)
    | [], _, h => exact nomatch (show (none : Option DE) = some _ from h)
    | [_], [], h => exact nomatch (show (none : Option DE) = some _ from h)
    | [_], _ :: _ :: _, h => exact nomatch (show (none : Option DE) = some _ from h)
    | _ :: _ :: _, _, h => exact nomatch (show (none : Option DE) = some _ from h)
  | Tuple es k pos =>
    (conv at h => lhs; whnf)
    obtain ⟨fs, h1, rfl⟩ := Zc.mp h
    exact Qov (ih.A X Θ es fs ok h1)
  | List es pos =>
    (conv at h => lhs; whnf)
    obtain ⟨fs, h1, rfl⟩ := Zc.mp h
    exact Qnw (ih.A X Θ es fs ok h1)
  | Subscript a b pos =>
    by_cases hb : ∃ lo hi p2, b = .Slice lo hi none p2
    · obtain ⟨lo, hi, p2, rfl⟩ := hb
      (conv at h => lhs; whnf)
      obtain ⟨fa, h1, h⟩ := bind1 h
      obtain ⟨fl, fh, h2, h3, rfl⟩ := QW h
      exact Qon (ih.E X Θ a fa ok h1) (ih.O X Θ lo fl ok h2) (ih.O X Θ hi fh ok h3)
    · have h' : ((Qf n Θ a).bind λ fa => (Qf n Θ b).map λ fb => Qy fa fb) = some f := by
        cases b <;> first
          | (exact h)
          | (rename_i lo hi st p2; cases lo <;> cases hi <;> cases st <;> first | (exact absurd ⟨_, _, _, rfl⟩ hb) | (exact h))
      obtain ⟨fa, fb, h1, h2, rfl⟩ := QW h'
      exact Qnn (ih.E X Θ a fa ok h1) (ih.E X Θ b fb ok h2) (QiI h2)
  | Call fn args kws pos =>
    cases fn with
    | Name x p =>
     cases kws with
     | cons k ks => exact nomatch (show (none : Option DE) = some _ from h)
     | nil =>
      have h : (if Θ.gl x then (match look x Θ.Γ with | some r => if r.n <= args.length + r.dfl.length /\ args.length <= r.n then (Qau n Θ args).map λ fs => Qx r.n r.den (r.dfl.drop (r.dfl.length - (r.n - args.length))) fs else none | none => Qfm n Θ x args) else none) = some f := h
      split at h
      · rename_i hg
        obtain ⟨g1, g2, g3⟩ := Qdu ok.toCtxB hg
        split at h
        · rename_i r hr
          split at h
          · rename_i hn
            obtain ⟨fs, h1, rfl⟩ := Zc.mp h
            obtain ⟨k, fa, fd, ps, F1, F2, F3, F4, F5⟩ := ok.fns x r hr
            obtain ⟨ds, dvs, b1, b2, b3⟩ := F5 (r.n - args.length) (by omega)
            cases args with
            | nil =>
              cases n with
              | zero => simp [Qau] at h1
              | succ n =>
                simp only [Qau] at h1
                cases h1
                exact QkV F1 F2 g1 F3 F4 b1 b2 b3 g2
            | cons e es =>
              obtain ⟨s1, s2⟩ := callArgs (X := X) h1 rfl pos
              exact QmE F1 F2 g1 F3 F4 b1 b2 b3 (ih.A X Θ _ fs ok h1) g2 s1 s2
          · cases h
        · exact ih.B X Θ x args f p pos ok hg h
      · cases h
    | _ => exact nomatch (show (none : Option DE) = some _ from h)
  | ListComp elt gens scope pos =>
    match gens, h with
    | [⟨tg, iter, ifs, k⟩], h =>
      by_cases hk : k = 0
      · subst hk
        (conv at h => lhs; whnf)
        obtain ⟨t, ht, h⟩ := bind1 h
        split at h
        · rename_i hc
          simp only [Zg] at hc
          obtain ⟨fi, h1, h⟩ := bind1 h
          obtain ⟨ft, fe, h2, h3, rfl⟩ := QW h
          obtain ⟨S, cap, inn⟩ := Qha ok hc.1
          obtain ⟨i1, i2⟩ := ih.I X Θ tg iter fi ok h1
          exact Qmb ok.calm S i1 cap (λ cl C fp s3 H3 => ⟨QgQ (inn cl C fp s3 H3) ht, ih.Ts _ _ ifs ft (inn cl C fp s3 H3) h2, ih.E _ _ elt fe (inn cl C fp s3 H3) h3⟩) i2
        · cases h
      · exfalso
        cases k with
        | ofNat k =>
          cases k with
          | zero => exact hk rfl
          | succ k => exact nomatch (show (none : Option DE) = some _ from h)
        | negSucc k => exact nomatch (show (none : Option DE) = some _ from h)
    | [], h => exact nomatch (show (none : Option DE) = some _ from h)
    | ⟨_, _, _, .ofNat 0⟩ :: _ :: _, h => exact nomatch (show (none : Option DE) = some _ from h)
    | ⟨_, _, _, .ofNat (k + 1)⟩ :: _ :: _, h => exact nomatch (show (none : Option DE) = some _ from h)
    | ⟨_, _, _, .negSucc k⟩ :: _ :: _, h => exact nomatch (show (none : Option DE) = some _ from h)
  | _ => exact nomatch (show (none : Option DE) = some _ from h)
theorem Qnt {X : Cx} {Θ : Th} {x : Str} {a : Expr} {fa f : DE} {p pos : Pos} (ok : QR X Θ) (g1 : Gl X x) (sa : SA X [a] (Qb fa Qg)) (st : starEach [a] X.env = (false, eval a X.env) :: starEach [] X.env) (h : bf1 x fa = some f) : SE X (.Call (.Name x p) [a] [] pos) f := by
 unfold bf1 at h
 by_cases e : x = "len"
 ·rw [if_pos e] at h; cases h; subst e; have hm := ok.mg "len" (by decide +kernel)
  exact QlX Qht Qny g1 hm PySem.boot_len sa (by decide) (by decide) st rfl
 rw [if_neg e] at h; clear e
 by_cases e : x = "list"
 ·rw [if_pos e] at h; cases h; subst e; have hm := ok.mg "list" (by decide +kernel)
  exact QmU g1 hm sa st rfl
 rw [if_neg e] at h; clear e
 by_cases e : x = "sum"
 ·rw [if_pos e] at h; cases h; subst e; have hm := ok.mg "sum" (by decide +kernel)
  exact QlX (QjY ok.calm) Qmp g1 hm PyProof.Rows.boot_sum sa (by decide) (by decide) st rfl
 rw [if_neg e] at h; clear e
 cases h
theorem QnL {X : Cx} {Θ : Th} {x : Str} {a b : Expr} {fa fb f : DE} {p pos : Pos} (ok : QR X Θ) (g1 : Gl X x) (sa : SA X [a, b] (Qb fa (Qb fb Qg))) (st : starEach [a, b] X.env = (false, eval a X.env) :: starEach [b] X.env) (pl : (backTo pos (starEach [b] X.env)).any (·.1) = false) (h : bf2 x fa fb = some f) : SE X (.Call (.Name x p) [a, b] [] pos) f := by
 unfold bf2 at h
 by_cases e : x = "divmod"
 ·rw [if_pos e] at h; cases h; subst e; have hm := ok.mg "divmod" (by decide +kernel)
  exact Qo3 (x := "divmod") g1 hm sa st pl
 rw [if_neg e] at h; clear e
 cases h
theorem QpI {n : Nat} (ih : QfC n) : ∀ X Θ x args f p pos, QR X Θ -> Θ.gl x = true -> Qfm (n + 1) Θ x args = some f -> SE X (.Call (.Name x p) args [] pos) f := by
 intro X Θ x args f p pos ok hg h
 obtain ⟨g1, g2, g3⟩ := Qdu ok.toCtxB hg
 match args, h with
 | [], h => exact nomatch (show (none : Option DE) = some _ from h)
 | [a], h =>
  change (match QeG Θ x a with | some b => (Qf n Θ b).map QiO | none => (Qf n Θ a).bind λ fa => bf1 x fa) = some f at h
  split at h
  ·rename_i b hr
   obtain ⟨fb, h1, rfl⟩ := Zc.mp h
   unfold QeG at hr
   split at hr
   ·rename_i y p' b' pos'
    split at hr
    ·rename_i hc
     cases hr
     obtain ⟨c1, c2, c3, _⟩ := hc
     subst c1
     subst c2
     obtain ⟨y1, y2, y3⟩ := Qdu ok.toCtxB c3
     exact QmK g1 (ok.mg _ (by decide +kernel)) y1 (ok.mg _ (by decide +kernel)) ok.calm (ih.E X Θ b fb ok h1) (Qac h1 [] X.env)
    ·cases hr
   ·cases hr
  obtain ⟨fa, h1, h⟩ := bind1 h
  have ha := ih.E X Θ a fa ok h1
  have st := Qac h1 [] X.env
  exact Qnt ok g1 (Qdg ha Qfn st) st h
 | [a, b], h =>
  change (if x = "isinstance" then (Qf n Θ a).bind λ fa => (match b with | .Name y _ => if Θ.gl y then (Qlf y).map λ T => QeW T fa else none | _ => none) else (Qf n Θ a).bind λ fa => (Qf n Θ b).bind λ fb => bf2 x fa fb) = some f at h
  split at h
  ·rename_i e
   obtain ⟨fa, h1, h⟩ := bind1 h
   have ha := ih.E X Θ a fa ok h1
   split at h
   ·rename_i y p2
    split at h
    ·rename_i hy
     obtain ⟨T, hT, rfl⟩ := Zc.mp h
     obtain ⟨y1, y2, y3⟩ := Qdu ok.toCtxB hy
     clear h
     subst e
     refine QoM g1 (ok.mg _ (by decide +kernel)) ha ?_ (Qac h1 _ X.env)
     unfold Qlf at hT
     split at hT
     ·rename_i e; cases hT; subst e
      exact Qda y1 (ok.mg _ (by decide +kernel)) PyProof.Rows.boot_int rfl
     ·split at hT
      ·rename_i e; cases hT; subst e
       exact Qda y1 (ok.mg _ (by decide +kernel)) PyProof.Rows.boot_bool rfl
      ·split at hT
       ·rename_i e; cases hT; subst e
        exact Qda y1 (ok.mg _ (by decide +kernel)) ZaB rfl
       ·split at hT
        ·rename_i e; cases hT; subst e
         exact Qda y1 (ok.mg _ (by decide +kernel)) PyProof.Rows.boot_tuple rfl
        ·split at hT
         ·rename_i e; cases hT; subst e
          exact Qda y1 (ok.mg _ (by decide +kernel)) PyProof.Rows.boot_str rfl
         ·cases hT
    ·cases h
   ·cases h
  ·obtain ⟨fa, h1, h⟩ := bind1 h
   obtain ⟨fb, h2, h⟩ := bind1 h
   have ha := ih.E X Θ a fa ok h1
   have hb := ih.E X Θ b fb ok h2
   have sb : SA X [b] (Qb fb Qg) := Qdg hb Qfn (Qac h2 [] X.env)
   have sa : SA X [a, b] (Qb fa (Qb fb Qg)) := Qdg ha sb (Qac h1 [b] X.env)
   have pl : (backTo pos (starEach [b] X.env)).any (·.1) = false := by rw [Qac h2 [] X.env]; rfl
   exact QnL ok g1 sa (Qac h1 [b] X.env) pl h
 | _ :: _ :: _ :: _, h => exact nomatch (show (none : Option DE) = some _ from h)
theorem Qo2 {n : Nat} (ih : QfC n) : ∀ X Θ e f, QR X Θ -> Qan (n + 1) Θ e = some f -> ST X e f := by
 intro X Θ e f ok h
 have dflt : (Qf n Θ e).map QP = some f -> (∀ whole, isTrue e X.env whole = (do let v ← whole; standAt e.pos; holding [v] (truthy v))) -> ST X e f := λ h he => by
  obtain ⟨fa, h1, rfl⟩ := Zc.mp h
  exact QoL (ih.E X Θ e fa ok h1) he
 cases e with
 | UnaryOp op a pos =>
  cases op with
  | Not =>
   change (Qan n Θ a).map Qb0 = some f at h
   obtain ⟨fa, h1, rfl⟩ := Zc.mp h
   exact Qod (ih.T X Θ a fa ok h1)
  | _ => exact dflt h λ _ => rfl
 | BoolOp op es pos =>
  cases op with
  | And =>
   match es, h with
   | [], h => exact nomatch (show (none : Option DT) = some _ from h)
   | [a], h => exact (QmD (ih.T X Θ a f ok h)).st
   | a :: b :: r, h =>
    change ((Qan n Θ a).bind λ fa => (Qan n Θ (.BoolOp .And (b :: r) pos)).map λ fb => QkY fa fb) = some f at h
    obtain ⟨fa, fb, h1, h2, rfl⟩ := QW h
    have hb := ih.T X Θ _ fb ok h2
    exact (Qoi (ih.T X Θ a fa ok h1) (λ H0 A0 wh pins s σ H Q I q => by have := hb H0 A0 pins s σ H Q I q; exact this)).st
  | Or =>
   match es, h with
   | [], h => exact nomatch (show (none : Option DT) = some _ from h)
   | [a], h => exact (Qnl (ih.T X Θ a f ok h)).st
   | a :: b :: r, h =>
    change ((Qan n Θ a).bind λ fa => (Qan n Θ (.BoolOp .Or (b :: r) pos)).map λ fb => bOr fa fb) = some f at h
    obtain ⟨fa, fb, h1, h2, rfl⟩ := QW h
    have hb := ih.T X Θ _ fb ok h2
    exact (QoW (ih.T X Θ a fa ok h1) (λ H0 A0 wh pins s σ H Q I q => by have := hb H0 A0 pins s σ H Q I q; exact this)).st
 | Compare a ops bs pos =>
  match ops, bs, h with
  | [op], [b], h =>
   change ((Qf n Θ a).bind λ fa => (Qf n Θ b).bind λ fb => (Qji op).map λ g => QP (dOp g fa fb)) = some f at h
   obtain ⟨fa, h1, h⟩ := bind1 h
   obtain ⟨fb, g, h2, h3, rfl⟩ := QW h
   obtain ⟨r, o1, o2, o3⟩ := QjQ ok h3
   exact Qn5 o1 o2 o3 (ih.E X Θ a fa ok h1) (ih.E X Θ b fb ok h2) (Qj1 h2 op)
  | [], _, h => exact nomatch (show (none : Option DT) = some _ from h)
  | [_], [], h => exact nomatch (show (none : Option DT) = some _ from h)
  | [_], _ :: _ :: _, h => exact nomatch (show (none : Option DT) = some _ from h)
  | _ :: _ :: _, _, h => exact nomatch (show (none : Option DT) = some _ from h)
 | IfExp c a b pos => exact nomatch (show (none : Option DT) = some _ from h)
 | _ => exact dflt h λ _ => rfl
theorem Qpr {n : Nat} (ih : QfC n) : ∀ X Θ tg e f, QR X Θ -> QcY (n + 1) Θ tg e = some f -> SI X tg e f /\ ∀ x, foldedSetIterable e X.env x = pure x := by
 intro X Θ tg e f ok h
 have dflt : (Qf n Θ e).map Qay = some f -> SI X tg e f /\ ∀ x, foldedSetIterable e X.env x = pure x := λ h => by
  obtain ⟨fa, h1, rfl⟩ := Zc.mp h
  exact ⟨Qoy (ih.E X Θ e fa ok h1), QnD h1 X.env⟩
 cases e with
 | Call fn args kws pos =>
  cases fn with
  | Name x p =>
   cases kws with
   | cons k ks => exact dflt h
   | nil =>
    simp only [QcY] at h
    split at h
    ·rename_i hg
     simp only [Zg] at hg
     obtain ⟨g1, g2, g3⟩ := Qdu ok.toCtxB hg.1
     match args, h with
     | [], h => exact dflt h
     | [a], h =>
      dsimp only at h
      by_cases er : x = "range"
      ·rw [if_pos er] at h
       obtain ⟨fa, h1, rfl⟩ := Zc.mp h
       subst er
       exact ⟨QjI g1 (ok.mg _ (by decide +kernel)) (ih.E X Θ a fa ok h1) (Qac h1 [] X.env), λ _ => rfl⟩
      rw [if_neg er] at h
      exact dflt h
     | [a, b], h =>
      dsimp only at h
      by_cases er : x = "range"
      ·rw [if_pos er] at h
       obtain ⟨fa, fb, h1, h2, rfl⟩ := QW h
       subst er
       exact ⟨Qka g1 (ok.mg _ (by decide +kernel)) (ih.E X Θ a fa ok h1) (ih.E X Θ b fb ok h2) (by rw [Qac h1 [b] X.env, Qac h2 [] X.env]; rfl) (Qac h2 [] X.env), λ _ => rfl⟩
      rw [if_neg er] at h
      by_cases ez : x = "zip"
      ·rw [if_pos ez] at h
       split at h
       ·rename_i ht
        obtain ⟨fa, fb, h1, h2, rfl⟩ := QW h
        subst ez
        cases tg with
        | Tuple es k tp => exact ⟨QoB g1 (ok.mg _ (by decide +kernel)) (ih.E X Θ a fa ok h1) (ih.E X Θ b fb ok h2) (by rw [Qac h1 [b] X.env, Qac h2 [] X.env]; rfl) (Qac h2 [] X.env), λ _ => rfl⟩
        | _ => exact nomatch (show false = true from ht)
       ·cases h
      rw [if_neg ez] at h
      exact dflt h
     | [a, b, c], h =>
      dsimp only at h
      exact dflt h
     | _ :: _ :: _ :: _ :: _, h => exact dflt h
    ·exact dflt h
  | _ => exact dflt h
 | _ => exact dflt h
theorem Qbj : ∀ n, QfC n
 | 0 => ⟨λ _ _ _ _ _ h => (nomatch (show (none : Option DE) = some _ from h)), λ _ _ _ _ _ _ _ _ _ h => by simp [Qfm] at h, λ _ _ _ _ _ h => by simp [Qan] at h, λ _ _ _ _ _ h => by simp [QcN] at h, λ _ _ _ _ _ h => by simp [Qau] at h, λ _ _ _ _ _ h => by simp [Qd9] at h, λ _ _ _ _ _ _ h => by simp [QcY] at h⟩
 | n + 1 => by
  have ih := Qbj n
  refine ⟨QoR ih, QpI ih, Qo2 ih, λ X Θ e f ok h => ?_, λ X Θ e f ok h => ?_, λ X Θ e f ok h => ?_, Qpr ih⟩
  ·match e, h with
   | [], h => simp only [QcN] at h; cases h; exact Qlh
   | [c], h => simp only [QcN] at h; exact Qk0 (ih.T X Θ c f ok h)
   | _ :: _ :: _, h => simp only [QcN] at h; cases h
  ·match e, h with
   | [], h => simp only [Qau] at h; cases h; exact Qfn
   | e :: es, h =>
    simp only [Qau] at h
    obtain ⟨fa, fs, h1, h2, rfl⟩ := QW h
    exact Qdg (ih.E X Θ e fa ok h1) (ih.A X Θ es fs ok h2) (Qac h1 es X.env)
  ·match e, h with
   | none, h => simp only [Qd9] at h; cases h; exact Qmd
   | some e, h =>
    simp only [Qd9] at h
    obtain ⟨fa, h1, rfl⟩ := Zc.mp h
    exact Qmi (ih.E X Θ e fa ok h1)
section
variable {X : Cx} {st : Stmt} {sts : List Stmt} {e : Expr} {fa : DE} {f g : DS} {gc : DT} {pos : Pos}
noncomputable def QO : DS := λ _ => none
theorem Qld : S1 X st QO := λ H0 A0 => QlI.mono λ E σ H ⟨ρ, hs, F, o, rel, e, q⟩ => by cases e
noncomputable def Qef (t : Tg) (fa : DE) : DS := λ ρ => (fa ρ).bind λ r => (Qa0 t r.d (Qaa r.norm.M ρ)).map .nx
theorem Qml {tg : Expr} {t : Tg} (he : SE X e fa) (hg : SG X tg t) (hs : swapsWithSole [tg] e pos.line X.env = pure false) (hw : swappedStores [tg] e X.env = pure none) (h1 : (assignEach [tg] X.env).map (·.2) = [assign tg X.env]) :
  S1 X (.Assign [tg] e pos) (Qef t fa) := λ H0 A0 => (Qfr (he H0 A0) (hg H0 A0) hs hw h1).mono λ E σ H ⟨ρ, hs, F, o, rel, e, q⟩ => by
 obtain ⟨r, e1, e⟩ := bind1 e
 obtain ⟨ρ', e2, rfl⟩ := Zc.mp e
 refine ⟨ρ, hs, F, r, rel, e1, λ v H' G p => ?_⟩
 have p' := p.norm
 have rp := p'.rp
 rw [r.Qbi] at rp
 exact ⟨Qaa r.norm.M ρ, hs, F, r.d, G, ρ', (rel.ext p'.same).weak (Q8 _ _), rp, Shr.of rel p'.src, e2, λ σ' F' rel' _ _ => q _ _ F' rel'⟩
theorem QmQ {tg iter elt : Expr} {ifs : List Expr} {scope : Scope} {N' : List Str} {fi : DI} {t : Tg} {cap : List (Option Nat)} {ft : DT} {fe : DE} {i : Nat} {x : Str} {pos' spos : Pos} (hN : X.N.Nodup) (hx1 : X.N[i]? = some x) (hx : Loc X.env.scope x) (hf : X.fn x = true ∨ X.env.scope.names.lookup x = some .local)
  (hcalm : X.calm = true) (S : Qcf X N' scope) (hi : SI X tg iter fi) (hcap : QgX X N' scope cap t.slots)
  (hin : ∀ cl C fp s3 H3, SG (cxc X N' scope cl C fp s3 H3) tg t /\ Qh4 (cxc X N' scope cl C fp s3 H3) ifs ft /\ SE (cxc X N' scope cl C fp s3 H3) elt fe) (hs : ∀ x, foldedSetIterable iter X.env x = pure x) :
  S1 X (.Assign [.Name x pos'] (.ListComp elt [⟨tg, iter, ifs, 0⟩] scope pos) spos) (QA i (Q9 fi t cap ft fe)) :=
 QhO λ H0 A0 => (QmM hN hx1 hx hf hcalm S (hi H0 A0) (λ cl C fp s3 H3 => ⟨(hin cl C fp s3 H3).1 _ _, (hin cl C fp s3 H3).2.1 _ _, (hin cl C fp s3 H3).2.2 _ _⟩) hs).mono λ E σ H h => Qgr hcap h
end
end HS
namespace HS
open PySem PySem.Spec L2 PyProof.Rows
section
variable {X : Cx} {a b e : Expr} {fa fb : DE} {pf : DP} {x : Nat} {pos apos : Pos}
theorem QmS {X : Cx} {H : Hp} {ds : List D} {w : V} {Gm : List Addr} (h : Rp X.K H (.lst ds) w Gm) : tyV X.K "list" w H := by
 obtain ⟨l, ws, L, rfl, hl, _⟩ := h.lst_inv
 exact .inl ⟨rfl, ws, QS hl⟩
theorem QH.unit {K : PySem.W.Frag} {ρ : En} {F : Nat -> List Addr} {H : Hp} : QH K ρ F H H ⟨.non, true, []⟩ .non [] := .flat (Qr.refl _) .Qfh
noncomputable def QlF (x : Nat) (pf : DP) : DS := λ ρ => match ρ[x]? with
 | some (some (d, true)) => (pf ρ).bind λ is => match QbK d is with
  | some (.lst _) => some (.nx (ρ.set x (some (QaK is d (.lst []), true))))
  | _ => none
 | _ => none
theorem Qlt {H0 : Hp} {A0 : List Addr} {E : Ends} {σ : L2.St} {H : Hp} : tS X.K H0 A0 (QlF x pf) E σ H -> QgV (Qow X.K "list" QjC (tP X.K H0 A0 x pf)) E σ H := λ ⟨ρ, hs, F, o, rel, e, q⟩ => by
 unfold QlF at e
 split at e
 ·rename_i d hx
  obtain ⟨is, e2, e⟩ := bind1 e
  split at e
  ·rename_i ds hp
   cases e
   refine ⟨ρ, hs, F, d, true, is, .lst ds, rel, hx, e2, hp, λ v0 w H2 Gm s2 hv0 fo => ⟨QmS fo.rp, ?_⟩⟩
   obtain ⟨l, vsm, Gp, rfl, g1, g2, g3, g4, g5, g6, g7⟩ := (rel.ext s2).write .unit rfl Zaw hx (by simp) hv0 fo
   refine ⟨l, vsm, rfl, rfl, g1, ?_⟩
   obtain ⟨F', rel'⟩ := g7 [] [] [] (by simp [Rps]) (ZI _) rfl (λ a => by simp)
   exact q _ _ F' rel'
  ·cases e
 ·cases e
end
noncomputable def Qc6 : Expr -> Bool
 | .ListComp .. => false
 | .SetComp .. => false
 | .DictComp .. => false
 | _ => true
theorem QcX {e : Expr} {t : Option Expr} {l : Nat} {env : Env} (h : Qc6 e = true) : swapsWith e t l env = pure false := by
 cases e <;> first | rfl | cases h
noncomputable def QjH : Expr -> Bool
 | .Tuple .. => true
 | _ => false
noncomputable def Qbk (n : Nat) (Θ : Th) (e : Expr) : Option (Nat × DP) := match n with
 | 0 => none
 | n + 1 => match e with
  | .Name x _ => (Θ.slot x).map λ i => (i, Qbq)
  | .Subscript a b _ => (Qbk n Θ a).bind λ q => (Qf n Θ b).map λ fb => (q.1, QlR q.2 fb)
  | _ => none
theorem Qe0 : ∀ (n : Nat) (X : Cx) (Θ : Th) (e : Expr) (q : Nat × DP), QR X Θ -> Qbk n Θ e = some q -> SPa X e q.1 q.2 /\ attributeBase e = λ _ env w => w
 | 0, _, _, _, _, _, h => by simp [Qbk] at h
 | n + 1, X, Θ, e, q, ok, h => by
  cases e with
  | Name x pos =>
   simp only [Qbk] at h
   obtain ⟨i, hi, rfl⟩ := Zc.mp h
   exact ⟨Qlp (Qed ok.toCtxB hi), by funext a b c; rfl⟩
  | Subscript a b pos =>
   simp only [Qbk] at h
   obtain ⟨q', fb, h1, h2, rfl⟩ := QW h
   exact ⟨QmO (Qe0 n X Θ a q' ok h1).1 ((Qbj n).E X Θ b fb ok h2) (QiI h2), by funext a b c; rfl⟩
  | _ => simp [Qbk] at h
noncomputable def QfI : Expr -> Bool
 | .Name .. => true
 | .Subscript _ (.Slice ..) _ => false
 | .Subscript (.Call ..) _ _ => false
 | .Subscript .. => true
 | _ => false
noncomputable def Qmv : Expr -> Bool
 | .Slice .. => true
 | _ => false
noncomputable def Qfw (n : Nat) (Θ : Th) (o : Expr) (m : Str) (args : List Expr) : Option DS := match args with
  | [] => (Qbk n Θ o).bind λ q => if m = "clear" then some (QlF q.1 q.2) else
    none
  | [e] => if m = "append" then
     ((Qbk n Θ o).bind λ q => (Qf n Θ e).map λ fa => QbE q.1 q.2 fa)
    else
    none
  | _ => none
theorem QlJ {n : Nat} {X : Cx} {Θ : Th} {o : Expr} {m : Str} {args : List Expr} {f : DS} {apos cpos pos : Pos} (ok : QR X Θ) (h : Qfw n Θ o m args = some f) (hl : (apos.endLine == cpos.line) = true) :
  S1 X (.Expr (.Call (.Attribute o m apos) args [] cpos) pos) f := by
 have base : ∀ {q : Nat × DP}, Qbk n Θ o = some q -> SPa X o q.1 q.2 /\ attributeBase o m X.env (eval o X.env) = eval o X.env := λ {q} h1 => by
  obtain ⟨sp, ab⟩ := Qe0 n X Θ o _ ok h1
  exact ⟨sp, by rw [ab]⟩
 have app : ∀ {e : Expr} {f : DS}, m = "append" -> ((Qbk n Θ o).bind λ q => (Qf n Θ e).map λ fa => QbE q.1 q.2 fa) = some f -> S1 X (.Expr (.Call (.Attribute o m apos) [e] [] cpos) pos) f := λ {e f} em h => by
  obtain ⟨q, fa, h1, h2, rfl⟩ := QW h
  obtain ⟨sp, hb⟩ := base h1
  subst em
  have he := (Qbj n).E X Θ e fa ok h2
  have st := Qac h2 [] X.env
  have sa : ∀ H0 A0, PA X [e] (QiS (tV X.K H0 A0 fa) Qjg) := λ H0 A0 => QaR (he H0 A0) QcL st
  exact λ H0 A0 => (QfU (QpB Zbg PySem.F.slot_list_append PySem.F.type_list_append Qgz (sp H0 A0) (sa H0 A0) hb (by rw [st]; rfl) hl st rfl) rfl).mono λ E σ H q => Qk7 q
 match args, h with
 | [], h =>
  unfold Qfw at h
  dsimp only at h
  obtain ⟨⟨x, pf⟩, h1, h⟩ := bind1 h
  obtain ⟨sp, hb⟩ := base h1
  by_cases e : m = "clear"
  ·rw [if_pos e] at h; cases h; subst e
   exact λ H0 A0 => (QfU (Qof Zbg PySem.F.slot_list_clear PySem.F.type_list_clear QkN (sp H0 A0) hb hl) rfl).mono λ E σ H q => Qlt q
  rw [if_neg e] at h
  cases h
 | [e], h =>
  unfold Qfw at h
  dsimp only at h
  by_cases em : m = "append"
  ·rw [if_pos em] at h
   exact app em h
  rw [if_neg em] at h
  clear em
  clear app
  cases h
 | _ :: _ :: _, h => exact nomatch (show (none : Option DS) = some _ from h)
end HS
namespace HS
open PySem PySem.Spec L2 PyProof.Rows
noncomputable def QiL (x : Nat) (fy f1 g1 f2 g2 : DE) (ρ : En) : Option Out := if x < ρ.length then (fy ρ).bind λ ry => match ry.d with
 | .lst ds => (g1 ρ).bind λ r1 => (f1 ρ).bind λ k1 => (g2 ρ).bind λ r2 => (f2 ρ).bind λ k2 => match k1.d, k2.d with
  | .int i1, .int i2 => (ixN ds.length i1).bind λ j1 => (ixN ds.length i2).bind λ j2 => some (.nx ((Qaa (ry.M ++ (r1.M ++ r2.M)) ρ).set x (some (.lst ((ds.set j1 r1.d).set j2 r2.d), false))))
  | _, _ => none
 | _ => none else none
noncomputable def Qe5 (x : Nat) (fy f1 g1 f2 g2 : DE) : DS := λ ρ => QiL x fy f1 g1 f2 g2 (ρ.set x none)
section
variable {K : PySem.W.Frag} {H0 H H' : Hp} {A0 : List Addr} {hs : List (V × D × List Addr)} {ρ : En} {F : Nat -> List Addr} {σ : L2.St}
theorem Rel.Qix (rel : Rel K H0 A0 hs ρ F σ H) {a : Addr} {zs ys : List V} (ha : H a = some (.lst zs)) (h0 : H0 a = none) (hn : ∀ (i : Nat) d b, ρ[i]? = some (some (d, b)) -> a ∉ F i) (hh : ∀ t ∈ hs, a ∉ t.2.2) : Rel K H0 A0 hs ρ F σ (upd H a (.lst ys)) where
 len := rel.len
 val := λ i d b e => by
  obtain ⟨v, h1, h2⟩ := rel.val i d b e
  exact ⟨v, h1, h2.upd ha (hn i d b e)⟩
 own := rel.own
 src := rel.src
 held := λ t ht => ⟨(rel.held t ht).1.upd ha (hh t ht), (rel.held t ht).2⟩
 same := λ b o hb => by
  have : b ≠ a := λ z => by rw [z, h0] at hb; cases hb
  rw [Qt this]
  exact rel.same b o hb
theorem Rel.put (rel : Rel K H0 A0 hs ρ F σ H) {i : Nat} {v : V} (hi : ∀ d b, ρ[i]? ≠ some (some (d, b))) : Rel K H0 A0 hs ρ F (σ.set i (some v)) H :=
 ⟨by simpa using rel.len, λ j d b e => by
  obtain ⟨w, h1, h2⟩ := rel.val j d b e
  have hj : i ≠ j := λ z => hi d b (z ▸ e)
  exact ⟨w, by rw [Ze hj]; exact h1, h2⟩, rel.own, rel.src, rel.held, rel.same⟩
theorem Src.more {M M' : List Nat} {G : List Addr} (s : Src ρ F H M G) (h : ∀ i ∈ M, i ∈ M') : Src ρ F H M' G := λ a ha => by
 rcases s a ha with z | ⟨i, d, b, e, m, w⟩
 ·exact .inl z
 ·exact .inr ⟨i, d, b, e, m, λ hb => h i (w hb)⟩
end
section
variable {X : Cx} {st1 st2 st3 : Stmt} {sts : List Stmt} {x : Nat} {fy f1 g1 f2 g2 : DE} {g : DS}
theorem Qnj (p1 : ∀ H0 A0, PS X st1 (QdF (λ σ H Q => tVA X.K H0 A0 (Qb fy Qg) σ H λ xs H1 => ∃ p ys, xs = [.ref p] /\ (SqL X.K H1 p ys ∨ SqT X.K H1 p ys) /\ ∀ l, H1 l = none -> Q (.ref l) (upd H1 l (.lst ys))) (Qdl x)))
  (p2 : ∀ H0 A0, PS X st2 (QdF (tV X.K H0 A0 g1) (L2.Qb9 (QeO x) (tV X.K H0 A0 f1) QgS))) (p3 : ∀ H0 A0, PS X st3 (QdF (tV X.K H0 A0 g2) (L2.Qb9 (QeO x) (tV X.K H0 A0 f2) QgS))) (h : SS X sts g) :
  SS X (st1 :: st2 :: st3 :: sts) (Qe (Qe5 x fy f1 g1 f2 g2) g) := λ H0 A0 =>
 (Qdw (p1 H0 A0) (Qdw (p2 H0 A0) (Qdw (p3 H0 A0) (h H0 A0)))).mono λ E σ H ⟨ρ, hs, F, o, rel, e, q⟩ => by
 obtain ⟨o1, e1, e⟩ := bind1 e
 unfold Qe5 QiL at e1
 split at e1
 case isFalse => cases e1
 rename_i hx
 have hr0 : ∀ d b, (ρ.set x none)[x]? ≠ some (some (d, b)) := λ d b z => by
  rw [Zk (by simpa using hx)] at z
  cases z
 have rel0 := rel.weak (Qge (ρ := ρ) x)
 generalize ρ.set x none = ρ0 at *
 obtain ⟨ry, ey, e1⟩ := bind1 e1
 split at e1
 case h_2 => cases e1
 rename_i ds hds
 obtain ⟨r1, eg1, e1⟩ := bind1 e1
 obtain ⟨k1, ef1, e1⟩ := bind1 e1
 obtain ⟨r2, eg2, e1⟩ := bind1 e1
 obtain ⟨k2, ef2, e1⟩ := bind1 e1
 split at e1
 case h_2 => cases e1
 rename_i i1 i2 hk1 hk2
 obtain ⟨j1, ej1, e1⟩ := bind1 e1
 obtain ⟨j2, ej2, e1⟩ := bind1 e1
 cases e1
 refine ⟨ρ0, hs, F, ⟨[ry.d], ry.fr && true, ry.M ++ []⟩, rel0, by simp [Qb, Qg, ey], λ vs H1 G q1 => ?_⟩
 have rp := q1.rp
 dsimp only at rp
 rw [hds] at rp
 obtain ⟨v, rfl, rq⟩ := rp.one
 obtain ⟨l, ws, L, rfl, hl, rl, zl, el⟩ := rq.lst_inv
 have memL : ∀ a ∈ L, a ∈ G := λ a ha => by
  rcases el with rfl | rfl
  ·exact Zd _ ha
  ·exact ha
 refine ⟨l, ws, rfl, .inl (QS hl), λ c hc => ?_⟩
 have relx := rel0.ext q1.same
 have nfr : ∀ (i : Nat) d b, ρ0[i]? = some (some (d, b)) -> c ∉ F i := λ i d b ei hci => by
  obtain ⟨zs, z⟩ := relx.mem ei hci
  rw [hc] at z; cases z
 have nhs : ∀ t ∈ hs, c ∉ t.2.2 := λ t ht hct => by
  obtain ⟨zs, z⟩ := (relx.held t ht).1.mem c hct
  rw [hc] at z; cases z
 have h0c : H0 c = none := relx.same.free hc
 have nL : c ∉ L := λ z => by
  obtain ⟨zs, y⟩ := rl.mem c z
  rw [hc] at y; cases y
 have sU : Qr H1 (upd H1 c (.lst ws)) := λ b o eb => by
  have : b ≠ c := λ z => by rw [z, hc] at eb; cases eb
  rw [Qt this]; exact eb
 have relA := (relx.ext sU).put (i := x) (v := .ref c) hr0
 have hσ : (σ.set x (some (.ref c)))[x]? = some (some (.ref c)) := Zk (by rw [← rel0.len]; exact hx)
 generalize hσ' : σ.set x (some (V.ref c)) = σ1 at relA hσ
 show QnA _ _ E (σ.set x (some (.ref c))) _
 rw [hσ']
 have hc2 : upd H1 c (.lst ws) c = some (.lst ws) := QQ
 have rl2 := rl.same sU
 generalize upd H1 c (.lst ws) = H2 at relA hc2 rl2
 refine ⟨ρ0, hs, F, r1, relA, eg1, λ v1 H3 G1 q2 => ⟨.ref c, hσ, ρ0, hs, F, k1, relA.ext q2.same, ef1, λ u1 H4 Gi q3 => ?_⟩⟩
 have hc4 := q3.same _ _ (q2.same _ _ hc2)
 have ru := q3.rp
 rw [hk1] at ru
 refine ⟨c, ws, i1, j1, rfl, ru.int_inv, hc4, by rw [← rl.length]; exact ej1, ?_⟩
 have nG1 : c ∉ G1 := λ z => by
  rcases q2.src c z with y | ⟨i, d, b, ei, m, _⟩
  ·rw [hc2] at y; cases y
  ·exact nfr i d b ei m
 have hj1 := (Qcu ej1).2.1
 obtain ⟨G', m1, m2⟩ := QfL hc4 ((rl2.same q2.same).same q3.same) nL nG1 (q2.rp.same q3.same) hj1
 have relB := ((relA.ext q2.same).ext q3.same).Qix (ys := ws.set j1 v1) hc4 h0c nfr nhs
 have hc5 : upd H4 c (.lst (ws.set j1 v1)) c = some (.lst (ws.set j1 v1)) := QQ
 generalize upd H4 c (.lst (ws.set j1 v1)) = H5 at relB hc5 m1
 refine ⟨ρ0, hs, F, r2, relB, eg2, λ v2 H6 G2 q4 => ⟨.ref c, hσ, ρ0, hs, F, k2, relB.ext q4.same, ef2, λ u2 H7 Gj q5 => ?_⟩⟩
 have hc7 := q5.same _ _ (q4.same _ _ hc5)
 have rw2 := q5.rp
 rw [hk2] at rw2
 refine ⟨c, ws.set j1 v1, i2, j2, rfl, rw2.int_inv, hc7, by rw [Zae, ← rl.length]; exact ej2, ?_⟩
 have nG2 : c ∉ G2 := λ z => by
  rcases q4.src c z with y | ⟨i, d, b, ei, m, _⟩
  ·rw [hc5] at y; cases y
  ·exact nfr i d b ei m
 have nG' : c ∉ G' := λ z => (m2 c z).elim nL nG1
 have hj2 := (Qcu ej2).2.1
 obtain ⟨G'', n1, n2⟩ := QfL hc7 ((m1.same q4.same).same q5.same) nG' nG2 (q4.rp.same q5.same) (by rw [Zae]; exact hj2)
 have relC := ((relB.ext q4.same).ext q5.same).Qix (ys := (ws.set j1 v1).set j2 v2) hc7 h0c nfr nhs
 have hc8 : upd H7 c (.lst ((ws.set j1 v1).set j2 v2)) c = some (.lst ((ws.set j1 v1).set j2 v2)) := QQ
 generalize upd H7 c (.lst ((ws.set j1 v1).set j2 v2)) = H8 at relC hc8 n1
 have sh0 := Shr.of rel0 (q1.src.more (M' := ry.M ++ (r1.M ++ r2.M)) λ i hi => by
  have hi : i ∈ ry.M ++ [] := hi
  rw [Zbl] at hi
  exact Zf _ hi)
 have sh1 := Shr.of relA (q2.src.more (M' := ry.M ++ (r1.M ++ r2.M)) λ i hi => Zb _ (Zf _ hi))
 have sh2 := Shr.of relB (q4.src.more (M' := ry.M ++ (r1.M ++ r2.M)) λ i hi => Zb _ (Zb _ hi))
 have sh : Shr H0 A0 (Qaa (ry.M ++ (r1.M ++ r2.M)) ρ0) F (c :: G'') := λ a ha => by
  rcases Zt.mp ha with rfl | ha
  ·refine ⟨.inl h0c, λ i d ei hm => ?_⟩
   obtain ⟨b', e', _⟩ := (Q8 _ ρ0).2 i d true ei
   exact nfr i d b' e' hm
  ·rcases n2 a ha with z | z
   ·rcases m2 a z with y | y
    ·exact sh0 a (memL a y)
    ·exact sh1 a y
   ·exact sh2 a z
 have relD := (relC.weak (Q8 (ry.M ++ (r1.M ++ r2.M)) ρ0)).Qjc (i := x) (d := .lst ((ds.set j1 r1.d).set j2 r2.d)) (v := .ref c) (Rp.Qcc hc8 n1 (by rw [Zae, Zae]; exact zl)) sh
 have hs1 : σ1.set x (some (.ref c)) = σ1 := by rw [← hσ', List.set_set]
 rw [hs1] at relD
 exact ⟨_, hs, _, o, relD, e, q⟩
end
structure Swp where
 x : Str
 y : Expr
 i1 : Expr
 e1 : Expr
 i2 : Expr
 e2 : Expr
 r : List Stmt
noncomputable def Qi0 : List Stmt -> Option Swp
 | .Assign [.Name x _] (.Call (.Name f _) [y] [] _) _ :: .Assign [.Subscript (.Name x1 _) i1 _] e1 _ :: .Assign [.Subscript (.Name x2 _) i2 _] e2 _ :: r => if f = "list" /\ x1 = x /\ x2 = x then some ⟨x, y, i1, e1, i2, e2, r⟩ else none
 | _ => none
theorem Qla {sts : List Stmt} {q : Swp} (h : Qi0 sts = some q) : ∃ p1 p2 p3 p4 a1 a2 a3 b1 b2 b3, sts = .Assign [.Name q.x p1] (.Call (.Name "list" p2) [q.y] [] p3) p4 :: .Assign [.Subscript (.Name q.x a1) q.i1 a2] q.e1 a3 :: .Assign [.Subscript (.Name q.x b1) q.i2 b2] q.e2 b3 :: q.r := by
 unfold Qi0 at h
 split at h
 ·split at h
  ·rename_i hc
   obtain ⟨rfl, rfl, rfl⟩ := hc
   cases h
   exact ⟨_, _, _, _, _, _, _, _, _, _, rfl⟩
  ·cases h
 ·cases h
end HS
namespace HS
open PySem PySem.Spec L2 PyProof.Rows
mutual
noncomputable def QgZ (n : Nat) (Θ : Th) (st : Stmt) : Option DS := match n with
 | 0 => none
 | n + 1 => match st with
  | .Pass _ => some Qp
  | .Break _ => some Qlr
  | .Continue _ => some QkG
  | .Raise _ _ _ => some QO
  | .Return none _ => some Qjm
  | .Return (some e) _ => (Qf n Θ e).map QN
  | .Expr (.Constant (.str _) _ _) _ => some Qp
  | .Expr (.Call (.Attribute o m apos) args [] cpos) _ => if (apos.endLine == cpos.line) = true then Qfw n Θ o m args else none
  | .Expr (.Call (.Name x p) args [] cpos) _ => (Qf n Θ (.Call (.Name x p) args [] cpos)).map Qjj
  | .Assign [.Name x _] e _ => (Θ.QbH x).bind λ i => (Qf n Θ e).map λ fa => QA i (if QfI e = true then QaC fa else fa)
  | .Assign [.Tuple es k p] e _ => if Qc6 e = true /\ QjH e = false then (Qc3 Θ (.Tuple es k p)).bind λ t => (Qf n Θ e).map λ fa => Qef t fa else none
  | .Assign [.Subscript a i _] e _ => (Qbk n Θ a).bind λ q => (Qf n Θ i).bind λ fi => (Qf n Θ e).map λ fa => Qf5 q.1 q.2 fi fa
  | .If c a b _ => (Qan n Θ c).bind λ g => (Qai n Θ a).bind λ f1 => (Qai n Θ b).map λ f2 => sIf g f1 f2
  | .For tg iter body [] _ => (Qc3 Θ tg).bind λ t => (QcY n Θ tg iter).bind λ fi => (Qai n Θ body).map λ fb => Qb1 fi t fb
  | .Try a b c d p => Θ.tr (.Try a b c d p)
  | _ => none
noncomputable def Qai (n : Nat) (Θ : Th) (sts : List Stmt) : Option DS := match n with
 | 0 => none
 | n + 1 => match sts with
  | [] => some Qp
  | st :: r => match Qi0 (st :: r) with
   | some q => if Θ.gl "list" = true then (Θ.QbH q.x).bind λ x => (Θ.slot q.x).bind λ x' => if x' = x then (Qf n Θ q.y).bind λ fy => (Qf n Θ q.i1).bind λ f1 => (Qf n Θ q.e1).bind λ g1 => (Qf n Θ q.i2).bind λ f2 => (Qf n Θ q.e2).bind λ g2 => (Qai n Θ q.r).map λ g => Qe (Qe5 x fy f1 g1 f2 g2) g else none else none
   | none => (QgZ n Θ st).bind λ f => (Qai n Θ r).map λ g => Qe f g
end
theorem Qga {n : Nat} {Θ : Th} {e : Expr} {f : DE} (h : Qf n Θ e = some f) : Qmv e = false := by
 cases n with
 | zero => exact nomatch (show (none : Option DE) = some _ from h)
 | succ n => cases e <;> first | rfl | (exact nomatch (show (none : Option DE) = some _ from h))
theorem QmI {n : Nat} {Θ : Th} {elt : Expr} {gens : List Comprehension} {scope : Scope} {pos : Pos} {f : DE} (h : Qf n Θ (.ListComp elt gens scope pos) = some f) : ∃ m tg iter ifs t fi ft fe, n = m + 1 /\ gens = [⟨tg, iter, ifs, 0⟩] /\ Qc3 (inner Θ scope) tg = some t /\ Qfa Θ scope t = true ∧
  QcY m Θ tg iter = some fi /\ QcN m (inner Θ scope) ifs = some ft /\ Qf m (inner Θ scope) elt = some fe /\ f = Q9 fi t (Qep Θ scope) ft fe := by
 cases n with
 | zero => exact nomatch (show (none : Option DE) = some _ from h)
 | succ n =>
  match gens, h with
  | [⟨tg, iter, ifs, k⟩], h =>
   by_cases hk : k = 0
   ·subst hk
    (conv at h => lhs; whnf)
    obtain ⟨t, ht, h⟩ := bind1 h
    split at h
    ·rename_i hc
     simp only [Zg] at hc
     obtain ⟨fi, h1, h⟩ := bind1 h
     obtain ⟨ft, fe, h2, h3, rfl⟩ := QW h
     exact ⟨n, tg, iter, ifs, t, fi, ft, fe, rfl, rfl, ht, hc.1, h1, h2, h3, rfl⟩
    ·cases h
   ·exfalso
    cases k with
    | ofNat k =>
     cases k with
     | zero => exact hk rfl
     | succ k => exact nomatch (show (none : Option DE) = some _ from h)
    | negSucc k => exact nomatch (show (none : Option DE) = some _ from h)
  | [], h => exact nomatch (show (none : Option DE) = some _ from h)
  | ⟨_, _, _, .ofNat 0⟩ :: _ :: _, h => exact nomatch (show (none : Option DE) = some _ from h)
  | ⟨_, _, _, .ofNat (k + 1)⟩ :: _ :: _, h => exact nomatch (show (none : Option DE) = some _ from h)
  | ⟨_, _, _, .negSucc k⟩ :: _ :: _, h => exact nomatch (show (none : Option DE) = some _ from h)
theorem Qmx {n : Nat} {X : Cx} {Θ : Th} {x : Str} {p pos : Pos} {e : Expr} {fa : DE} {i : Nat} (ok : QR X Θ) (hx : Θ.QbH x = some i) (h : Qf n Θ e = some fa) : S1 X (.Assign [.Name x p] e pos) (QA i fa) := by
 have hN : X.N.Nodup := by rw [ok.N]; exact ok.nd
 obtain ⟨h1, h2, h3⟩ := QcM ok.toCtxB hx
 by_cases hc : Qc6 e = true
 ·have he := (Qbj n).E X Θ e fa ok h
  exact QhO λ H0 A0 => QfG hN h1 h2 (he H0 A0) (QcX hc) h3
 ·cases e with
  | ListComp elt gens scope cpos =>
   obtain ⟨m, tg, iter, ifs, t, fi, ft, fe, rfl, rfl, ht, hco, g1, g2, g3, rfl⟩ := QmI h
   obtain ⟨S, cap, inn⟩ := Qha ok hco
   obtain ⟨i1, i2⟩ := (Qbj m).I X Θ tg iter fi ok g1
   exact QmQ hN h1 h2 h3 ok.calm S i1 cap (λ cl C fp s3 H3 => ⟨QgQ (inn cl C fp s3 H3) ht, (Qbj m).Ts _ _ ifs ft (inn cl C fp s3 H3) g2, (Qbj m).E _ _ elt fe (inn cl C fp s3 H3) g3⟩) i2
  | SetComp _ _ _ _ => cases n <;> exact nomatch (show (none : Option DE) = some _ from h)
  | DictComp _ _ _ _ _ => cases n <;> exact nomatch (show (none : Option DE) = some _ from h)
  | _ => exact absurd rfl hc
theorem Qlj {X : Cx} {x : Str} {p pos : Pos} {e : Expr} {fa : DE} {i : Nat} {n : Nat} {Θ : Th} (ok : QR X Θ) (hx : Θ.QbH x = some i) (h : Qf n Θ e = some fa) (ha : QfI e = true) : S1 X (.Assign [.Name x p] e pos) (QA i (QaC fa)) := by
 have hN : X.N.Nodup := by rw [ok.N]; exact ok.nd
 obtain ⟨h1, h2, h3⟩ := QcM ok.toCtxB hx
 have hc : Qc6 e = true := by cases e <;> first | rfl | cases ha
 have he := Qk6 ((Qbj n).E X Θ e fa ok h)
 exact QhO λ H0 A0 => QfG hN h1 h2 (he H0 A0) (QcX hc) h3
theorem QdY {a i e : Expr} {p : Pos} {l : Nat} {env : Env} : swapsWithSole [.Subscript a i p] e l env = pure false := by
 cases e <;> rfl
structure QnZ (n : Nat) : Prop where
 S : ∀ X Θ st f, QR X Θ -> QgZ n Θ st = some f -> S1 X st f
 Ss : ∀ X Θ sts f, QR X Θ -> Qai n Θ sts = some f -> SS X sts f
theorem Qol {n : Nat} (ih : QnZ n) : ∀ X Θ st f, QR X Θ -> QgZ (n + 1) Θ st = some f -> S1 X st f := by
 intro X Θ st f ok h
 have hN : X.N.Nodup := by rw [ok.N]; exact ok.nd
 have E := Qbj n
 cases st with
 | Pass pos => change some Qp = some f at h; cases h; exact Qm2
 | Break pos => change some Qlr = some f at h; cases h; exact QkP
 | Continue pos => change some QkG = some f at h; cases h; exact QmY
 | Raise a b pos => change some QO = some f at h; cases h; exact Qld
 | Return e pos =>
  cases e with
  | none => change some Qjm = some f at h; cases h; exact Qnb
  | some e =>
   change (Qf n Θ e).map QN = some f at h
   obtain ⟨fa, h1, rfl⟩ := Zc.mp h
   exact Qoc (E.E X Θ e fa ok h1)
 | Expr e pos =>
  cases e with
  | Constant c k p =>
   cases c with
   | str x =>
    change some Qp = some f at h
    cases h
    exact λ H0 A0 => Qno.mono λ E σ H ⟨ρ, hs, F, o, rel, e, q⟩ => by cases e; exact q σ H F rel
   | _ => exact nomatch (show (none : Option DS) = some _ from h)
  | Call fn args kws cpos =>
   cases fn with
   | Attribute o m apos =>
    cases kws with
    | nil =>
     change (if (apos.endLine == cpos.line) = true then Qfw n Θ o m args else none) = some f at h
     split at h
     ·rename_i hl
      exact QlJ ok h hl
     ·cases h
    | cons _ _ => exact nomatch (show (none : Option DS) = some _ from h)
   | Name x p =>
    cases kws with
    | nil =>
     change (Qf n Θ (.Call (.Name x p) args [] cpos)).map Qjj = some f at h
     obtain ⟨fa, h1, rfl⟩ := Zc.mp h
     exact λ H0 A0 => Qm1 (QfU (E.E X Θ _ fa ok h1 H0 A0) rfl)
    | cons _ _ => exact nomatch (show (none : Option DS) = some _ from h)
   | _ => exact nomatch (show (none : Option DS) = some _ from h)
  | _ => exact nomatch (show (none : Option DS) = some _ from h)
 | Assign ts e pos =>
  match ts, h with
  | [t], h =>
   cases t with
   | Name x p =>
    change ((Θ.QbH x).bind λ i => (Qf n Θ e).map λ fa => QA i (if QfI e = true then QaC fa else fa)) = some f at h
    obtain ⟨i, fa, h1, h2, rfl⟩ := QW h
    split
    ·rename_i ha; exact Qlj ok h1 h2 ha
    ·exact Qmx ok h1 h2
   | Tuple es k p =>
    change (if Qc6 e = true /\ QjH e = false then (Qc3 Θ (.Tuple es k p)).bind λ t => (Qf n Θ e).map λ fa => Qef t fa else none) = some f at h
    split at h
    ·rename_i hc
     obtain ⟨t, fa, h1, h2, rfl⟩ := QW h
     refine Qml (E.E X Θ e fa ok h2) (QgQ ok h1) (by show swapsWith e (some (.Tuple es k p)) pos.line X.env = pure false; exact QcX hc.1) ?_ rfl
     cases e <;> first | rfl | (cases hc.2)
    ·cases h
   | Subscript a i p =>
    change ((Qbk n Θ a).bind λ q => (Qf n Θ i).bind λ fi => (Qf n Θ e).map λ fa => Qf5 q.1 q.2 fi fa) = some f at h
    obtain ⟨q, h1, h⟩ := bind1 h
    obtain ⟨fi, fa, h2, h3, rfl⟩ := QW h
    obtain ⟨sp, _⟩ := Qe0 n X Θ a q ok h1
    have ns := Qga h2
    refine QnM (E.E X Θ e fa ok h3) sp (E.E X Θ i fi ok h2) λ te to ti he ho hi => Qfr he (Qh1 ho hi set_list ?_) QdY ?_ rfl
    ·intro v; cases i <;> first | rfl | (cases ns)
    ·cases e <;> rfl
   | _ => exact nomatch (show (none : Option DS) = some _ from h)
  | [], h => exact nomatch (show (none : Option DS) = some _ from h)
  | t :: _ :: _, h => cases t <;> exact nomatch (show (none : Option DS) = some _ from h)
 | AugAssign t op e pos =>
  cases t with
  | _ => exact nomatch (show (none : Option DS) = some _ from h)
 | If c a b pos =>
  change ((Qan n Θ c).bind λ g => (Qai n Θ a).bind λ f1 => (Qai n Θ b).map λ f2 => sIf g f1 f2) = some f at h
  obtain ⟨g, h1, h⟩ := bind1 h
  obtain ⟨f1, f2, h2, h3, rfl⟩ := QW h
  exact Qpw (E.T X Θ c g ok h1) (ih.Ss X Θ a f1 ok h2) (ih.Ss X Θ b f2 ok h3)
 | For tg iter body els pos =>
  cases els with
  | nil =>
   change ((Qc3 Θ tg).bind λ t => (QcY n Θ tg iter).bind λ fi => (Qai n Θ body).map λ fb => Qb1 fi t fb) = some f at h
   obtain ⟨t, h1, h⟩ := bind1 h
   obtain ⟨fi, fb, h2, h3, rfl⟩ := QW h
   obtain ⟨i1, i2⟩ := E.I X Θ tg iter fi ok h2
   exact Qox ok.pass ok.calm i1 (QgQ ok h1) (ih.Ss X Θ body fb ok h3) i2
  | cons _ _ => exact nomatch (show (none : Option DS) = some _ from h)
 | Try a b c d pos => exact ok.tr _ _ h
 | _ => exact nomatch (show (none : Option DS) = some _ from h)
theorem QlV : ∀ n, QnZ n
 | 0 => ⟨λ _ _ _ _ _ h => (nomatch (show (none : Option DS) = some _ from h)), λ _ _ _ _ _ h => (nomatch (show (none : Option DS) = some _ from h))⟩
 | n + 1 => by
  have ih := QlV n
  refine ⟨Qol ih, λ X Θ sts f ok h => ?_⟩
  match sts, h with
  | [], h => change some Qp = some f at h; cases h; exact QnN
  | st :: r, h =>
   change (match Qi0 (st :: r) with
    | some q => if Θ.gl "list" = true then (Θ.QbH q.x).bind λ x => (Θ.slot q.x).bind λ x' => if x' = x then (Qf n Θ q.y).bind λ fy => (Qf n Θ q.i1).bind λ f1 => (Qf n Θ q.e1).bind λ g1 => (Qf n Θ q.i2).bind λ f2 => (Qf n Θ q.e2).bind λ g2 => (Qai n Θ q.r).map λ g => Qe (Qe5 x fy f1 g1 f2 g2) g else none else none
    | none => (QgZ n Θ st).bind λ f => (Qai n Θ r).map λ g => Qe f g) = some f at h
   split at h
   ·rename_i q hq
    split at h
    case isFalse => cases h
    rename_i hg
    obtain ⟨x, hx, h⟩ := bind1 h
    obtain ⟨x', hx', h⟩ := bind1 h
    split at h
    case isFalse => cases h
    rename_i hxx
    subst hxx
    obtain ⟨fy, h1, h⟩ := bind1 h
    obtain ⟨f1, h2, h⟩ := bind1 h
    obtain ⟨g1, h3, h⟩ := bind1 h
    obtain ⟨f2, h4, h⟩ := bind1 h
    obtain ⟨g2, g, h5, h6, rfl⟩ := QW h
    obtain ⟨p1, p2, p3, p4, a1, a2, a3, b1, b2, b3, hs⟩ := Qla hq
    rw [hs]
    have E := Qbj n
    have hN : X.N.Nodup := by rw [ok.N]; exact ok.nd
    obtain ⟨g1', g2', g3'⟩ := Qdu ok.toCtxB hg
    obtain ⟨l1, l2, l3⟩ := QcM ok.toCtxB hx
    have n1 := Qga h2
    have n2 := Qga h4
    refine Qnj (λ H0 A0 => QfG hN l1 l2 (Qgd QdL g1' (ok.mg _ (by decide +kernel)) ZaB (Qdg (E.E X Θ q.y fy ok h1) Qfn (Qac h1 _ _) H0 A0) (by decide) (by decide) (Qac h1 _ _) rfl) (QcX rfl) l3) (λ H0 A0 => Qfr (E.E X Θ q.e1 g1 ok h3 H0 A0) (Qh1 (Qed ok.toCtxB hx') (E.E X Θ q.i1 f1 ok h2 H0 A0) set_list ?_) QdY ?_ rfl) (λ H0 A0 => Qfr (E.E X Θ q.e2 g2 ok h5 H0 A0) (Qh1 (Qed ok.toCtxB hx') (E.E X Θ q.i2 f2 ok h4 H0 A0) set_list ?_) QdY ?_ rfl) (ih.Ss X Θ q.r g ok h6)
    ·intro v; cases hi : q.i1 <;> first | rfl | (rw [hi] at n1; cases n1)
    ·cases q.e1 <;> rfl
    ·intro v; cases hi : q.i2 <;> first | rfl | (rw [hi] at n2; cases n2)
    ·cases q.e2 <;> rfl
   ·obtain ⟨fs, fr, h1, h2, rfl⟩ := QW h
    exact Qms (ih.S X Θ st fs ok h1) (ih.Ss X Θ r fr ok h2)
noncomputable def Qb7 (k : Nat) (ds : List D) : En := ds.map (λ d => some (d, d.flat)) ++ List.replicate (k - ds.length) none
noncomputable def outD : Out -> Option (D × Bool)
 | .rt d fr => some (d, fr)
 | .nx _ => some (.non, true)
 | _ => none
noncomputable def Qq (k : Nat) (f : DS) : Den := λ ds => (f (Qb7 k ds)).bind outD
theorem Rps.parts {K : PySem.W.Frag} {H : Hp} : ∀ {ds : List D} {vs : List V} {F : List Addr}, Rps K H ds vs F →
  ∃ Fs : List (List Addr), (∀ L ∈ Fs, ∀ a ∈ L, a ∈ F) /\ ∀ (i : Nat) (d : D), ds[i]? = some d -> ∃ v, vs[i]? = some v /\ Rp K H d v (Fs.getD i [])
 | [], _, _, h => ⟨[], λ L hL => by simp at hL, λ i d e => by simp at e⟩
 | d :: ds, _, _, h => by
  simp only [Rps] at h
  obtain ⟨v, ws, F1, F2, rfl, rfl, r, q⟩ := h
  obtain ⟨Fs, h1, h2⟩ := Rps.parts q
  refine ⟨F1 :: Fs, λ L hL a ha => ?_, λ i d' e => ?_⟩
  ·rcases Zt.mp hL with rfl | hL
   ·exact Zf _ ha
   ·exact Zb _ (h1 L hL a ha)
  ·cases i with
   | zero => simp at e; subst e; exact ⟨v, by simp, by simpa using r⟩
   | succ i => obtain ⟨w, hw, hr⟩ := h2 i d' (by simpa using e); exact ⟨w, by simpa using hw, by simpa using hr⟩
theorem QeB {k : Nat} {ds : List D} {i : Nat} {d : D} {b : Bool} (h : (Qb7 k ds)[i]? = some (some (d, b))) : ds[i]? = some d /\ b = d.flat := by
 unfold Qb7 at h
 by_cases hi : i < ds.length
 ·rw [ZZ (by simpa using hi), Zq] at h
  cases e : ds[i]? with
  | none => rw [e] at h; cases h
  | some a => rw [e] at h; cases h; exact ⟨rfl, rfl⟩
 ·rw [ZaQ (by simpa using hi), Zbd] at h
  split at h <;> cases h
theorem Qj0 {K : PySem.W.Frag} {H : Hp} {ds : List D} {vs : List V} {F : List Addr} {N : List Str} (r : Rps K H ds vs F) : ∃ F0, Rel K H F [] (Qb7 N.length ds) F0 (start N vs) H := by
 obtain ⟨Fs, h1, h2⟩ := r.parts
 have hl := r.length
 have src : ∀ i a, a ∈ Fs.getD i [] -> a ∈ F := λ i a ha => by
  by_cases hi : i < Fs.length
  ·have : Fs.getD i [] ∈ Fs := by rw [ZQ, ZU hi]; exact List.getElem_mem hi
   exact h1 _ this a ha
  ·rw [ZQ, Zu (by omega)] at ha; simp at ha
 refine ⟨λ i => Fs.getD i [], ?_, λ i d b e => ?_, λ i d e => ?_, λ i d b e a ha => .inr (src i a ha), λ t ht => absurd ht (by simp), Qr.refl _⟩
 ·unfold Qb7 L2.start; simp [hl]
 ·obtain ⟨e1, _⟩ := QeB e
  obtain ⟨v, hv, hr⟩ := h2 i d e1
  refine ⟨v, ?_, hr⟩
  have hi : i < vs.length := (Zh.mp hv).1
  unfold L2.start
  rw [ZZ (by simpa using hi), Zq, hv]; rfl
 ·obtain ⟨e1, e2⟩ := QeB e
  obtain ⟨v, hv, hr⟩ := h2 i d e1
  have z : Fs.getD i [] = [] := hr.QaZ e2.symm
  simp only [z]
  exact ⟨(Qcx d e2.symm).symm, Zaw, λ a ha => by simp at ha, λ _ _ _ _ _ a ha => by simp at ha, λ _ _ a ha => by simp at ha⟩
section
variable (P : Program) (w : World) (K : PySem.W.Frag) (mg : Str -> Option Value) (base : Heap)
def Known (k : Nat) (x : Str) (r : FnR) : Prop := ∃ f fd ps, Qa3 P w K mg base CX0 k f fd ps (spV K r.n r.den) /\ mg x = some (.ref f) /\ PySem.W.keepIn K (.ref f) = true ∧
 ∀ m, m <= r.dfl.length -> ∃ ds dvs, Binds K fd ps ds /\ Qj dvs ds /\ ∀ H, Rps K H (r.dfl.drop (r.dfl.length - m)) dvs []
def Qbm (k : Nat) (Γ : List (Str × FnR)) : Prop := ∀ x r, look x Γ = some r -> Known P w K mg base k x r
structure Qds (cs : List (Str × Int)) : Prop where
 bn : ∀ x ∈ Qg4, mg x = none
 cs : ∀ x i, look x cs = some i -> ∃ t, mg x = some (.int i t)
end
section
variable {P : Program} {w : World} {K : PySem.W.Frag} {mg : Str -> Option Value} {base : Heap}
theorem Qbm.nil {k : Nat} : Qbm P w K mg base k [] := λ x r h => by cases h
theorem Known.mono {j k : Nat} {x : Str} {r : FnR} (h : Known P w K mg base j x r) (hk : j <= k) : Known P w K mg base k x r := by
 obtain ⟨f, fd, ps, h1, h2⟩ := h
 exact ⟨f, fd, ps, h1.mono hk, h2⟩
theorem Qbm.cons {k : Nat} {Γ : List (Str × FnR)} {x : Str} {r : FnR} (t : Qbm P w K mg base k Γ) (h : Known P w K mg base (k + 1) x r) : Qbm P w K mg base (k + 1) ((x, r) :: Γ) := λ y q e => by
 unfold look at e
 split at e
 ·rename_i z; cases e; subst z; exact h
 ·exact (t y q e).mono (ZaW _)
noncomputable def namesOf (sc : Scope) : List Str := (sc.names.filter λ y => QlP y.2).map (·.1)
noncomputable def QfT (st : Stmt) (Γ : List (Str × FnR)) (cs : List (Str × Int)) : Th := ⟨namesOf (Qh st), (Qh st).names, Γ, cs, λ _ => none⟩
theorem Ql5 {CX : CXT} {xe : Value -> Shared -> Prop} {st : Stmt} {ps : List Str} {qual : Str} {f : Addr} {cdv : Value} {A : Around} {outer : List Env} {s : Shared} {H : Hp} {E : XK} {k : Nat} {Γ : List (Str × FnR)} {cs : List (Str × Int)} (S : Qa9 (namesOf (Qh st)) ps (Qh st)) (M : Qds mg cs) (tab : Qbm P w K mg base k Γ)
  (hr : QX k (A.deeper (envOfC qual (Qh st) s.heap.objs.size f cdv))) (hp : PassesOwn (model P w) (A.deeper (envOfC qual (Qh st) s.heap.objs.size f cdv)) (envOfC qual (Qh st) s.heap.objs.size f cdv) xe) :
  QR ((Qd1 CX P w K mg base (namesOf (Qh st)) qual (Qh st) f cdv A outer s H E).QbX xe) (QfT st Γ cs) where
 N := rfl
 nd := S.nd
 lc := λ x h => by rw [Qar] at h; exact h
 ce := λ x h => by rw [Qar] at h; exact ⟨h, rfl⟩
 fe := λ x h => by rw [Qar] at h; exact absurd rfl (S.nofree _ (ZJ h))
 gl := λ x h => by rw [Qar] at h; exact h
 calm := decide_eq_true hr.hd
 pass := hp
 tr := λ _ _ h => by cases h
 units := hr.units
 mg := M.bn
 fns := λ x r h => by
  obtain ⟨f', fd, ps', h1, h2, h3, h4⟩ := tab x r h
  exact ⟨k, f', fd, ps', h1, hr, h2, h3, h4⟩
 cs := M.cs
theorem Qns {st : Stmt} {ps : List Str} {qual : Str} {f : Addr} {cdv : Value} {A : Around} {outer : List Env} {s : Shared} {H : Hp} {E : XK} {k : Nat} {Γ : List (Str × FnR)} {cs : List (Str × Int)} (S : Qa9 (namesOf (Qh st)) ps (Qh st)) (M : Qds mg cs) (tab : Qbm P w K mg base k Γ)
  (hr : QX k (A.deeper (envOfC qual (Qh st) s.heap.objs.size f cdv))) : QR (Qd1 CX0 P w K mg base (namesOf (Qh st)) qual (Qh st) f cdv A outer s H E).nox (QfT st Γ cs) := Ql5 S M tab hr PassesOwn.never
theorem QjP {x qual : Str} {st : Stmt} {f : Addr} {fd : FuncData} {ps : List Str} {k n : Nat} {Γ : List (Str × FnR)} {cs : List (Str × Int)} {g : DS} (F : Fun K x qual st f fd) (S : Qa9 (namesOf (Qh st)) ps (Qh st)) (M : Qds mg cs) (tab : Qbm P w K mg base k Γ)
  (hc : Qai n (QfT st Γ cs) (QaB st) = some g) : Qa3 P w K mg base CX0 (k + 1) f fd ps (spV K ps.length (Qq (namesOf (Qh st)).length g)) := by
 refine F.ok S (QmN rfl) λ cdv A outer s H vs Q E hr h => ?_
 obtain ⟨ds, L, d, fr, rps, hl, hd, q⟩ := h
 refine ⟨_, (QlV n).Ss _ _ _ g (Qns S M tab hr) hc H L, ?_⟩
 obtain ⟨F0, rel⟩ := Qj0 (N := namesOf (Qh st)) rps
 unfold Qq at hd
 obtain ⟨o, ho, hd⟩ := bind1 hd
 refine ⟨_, [], F0, o, rel, ho, ?_⟩
 cases o with
 | nx ρ =>
  cases hd
  exact λ σ H' F' rel' => q .non H' [] ⟨rel'.same, .Qfh, λ a ha => by simp at ha, λ _ => ⟨Zaw, rfl, λ a ha => by simp at ha⟩⟩
 | bk ρ => cases hd
 | ct ρ => cases hd
 | rt d' fr' =>
  cases hd
  exact λ v H' G r => q v H' G r
structure Fact (K : PySem.W.Frag) (x : Str) (st : Stmt) : Prop where
 ex : ∃ f fd, Fun K x x st f fd /\ PySem.W.nsIn K mainGlobals x = some (some (.ref f))
theorem fact_mk {x : Str} {st : Stmt} {f : Addr} {oc : Value} {od an : Option Addr} {osl : Array (Option Value)} {kV doc pm cdv ct : Value} (a : PySem.W.nsIn K mainGlobals x = some (some (.ref f))) (l : K.lookup f = some ⟨oc, od, .func (PySem.W.fnOf x x (Qcw st) (QaB st) (Qh st) .none kV doc pm an cdv ct), osl⟩)
  (c : PySem.W.codeIn K cdv x = true) (k : PySem.W.keepIn K (.ref f) = true) : Fact K x st := ⟨f, _, Qop l c k, a⟩
def QD (x : Str) (st : Stmt) (ps : List Str) : Prop := ∀ (kV doc pm : Value) (an : Option Addr) (cdv ct : Value) (us : List Value), us.length = ps.length -> bindArgs (PySem.W.fnOf x x (Qcw st) (QaB st) (Qh st) .none kV doc pm an cdv ct) ⟨us, []⟩ = pure (ps.zip us)
theorem QK {h : Heap} {x : Str} {st : Stmt} {ps : List Str} {k n : Nat} {Γ : List (Str × FnR)} {cs : List (Str × Int)} {g : DS} (X : K.In h) (G : h.Ns mainGlobals mg) (F : Fact K x st) (S : Qa9 (namesOf (Qh st)) ps (Qh st)) (B : QD x st ps) (M : Qds mg cs) (tab : Qbm P w K mg base k Γ)
  (hc : Qai n (QfT st Γ cs) (QaB st) = some g) : Known P w K mg base (k + 1) x ⟨ps.length, [], Qq (namesOf (Qh st)).length g⟩ := by
 obtain ⟨f, fd, Fn, a⟩ := F.ex
 refine ⟨f, fd, ps, QjP Fn S M tab hc, PySem.W.mg_of X G a, Fn.kp, λ m hm => ⟨[], [], Fn.binds (B ·), .nil, λ H => by simp [Rps]⟩⟩
end
end HS
namespace HS
open PySem PySem.Spec L2 PyProof.Rows
theorem QlL {l : PySem.W.OpenLaw} {k : Nat} {q : Program} {loose : List Str} {XP : (Str -> Option Value) -> Heap -> Prop} {YP : World -> Heap -> Prop} {d : DefRec} {K : Params -> PySem.W.Frag} {den : Den} {x : Str}
  (hn : l.most = some 63) (hdf : d.params.defaults = []) (hr : QX k callerA) (hY : ∀ (w : World) (h : Heap), YP w h -> (K w.params).In h)
  (hden : ∀ ns : List Int, ns.length <= 63 -> ∃ fr, den [.lst (ns.map .int)] = some (.bl true, fr))
  (F : ∀ (w : World) (mg : Str -> Option Value) (fa : Addr) (h : Heap), (K w.params).In h -> h.Ns mainGlobals mg -> mg d.name = some (.ref fa) →
   ∃ fd : FuncData, (∀ (s : Shared) (u : Value), BindsTo s fd ⟨[u], []⟩ [(x, u)]) ∧
    ∀ base : Heap, (K w.params).In base -> base.Ns mainGlobals mg -> Qa3 l.prog w (K w.params) mg base CX0 k fa fd [x] (spV (K w.params) 1 den)) :
  PySem.W.WalkO q loose XP YP l.row.toRowW d [] (λ f vs => PySem.call f vs) := by
 refine Att.Qet hn hdf λ w s₀ s₁ mg mb fa o pm cd doc a vs ns G Y ho hd hcd hmg hobj hints hlen hg => ?_
 have KX := hY w _ Y
 obtain ⟨fd, hb, hF⟩ := F w mg fa _ KX G.T.g hmg
 have h63 : (63 : Nat) <= sizeLine := by decide
 refine Qh5 KX G.T.g G.T.b G.T.builtins G.T.nolimit hg hobj hints (Zr hlen h63) hr hF hb (λ H hO hS => ?_) λ H e s' z => z
 have fx : Fix (K w.params) H a (ns.map V.int) := by
  rcases hS with (h | ⟨o, h⟩) | ⟨o, its, n, hk, hc, hdn, hda, hz, rv⟩
  ·rcases hO a with z | ⟨o, xs, z⟩ <;> rw [h] at z <;> cases z
  ·exact .inl ⟨o, h⟩
  ·have e := KX a o hk
   rw [hobj] at e
   cases e
   cases hda
   exact .inr ⟨vs, _, hk, by rw [ZA]; exact Zr hlen h63, by simpa using rv⟩
 obtain ⟨fr, hfr⟩ := hden ns hlen
 have rp : Rp (K w.params) H (.lst (ns.map .int)) (.ref a) [] := by
  simp only [Rp]
  refine ⟨by rw [ZA]; exact Zr hlen h63, a, _, rfl, .inr ⟨fx, ?_⟩⟩
  have gen : ∀ ns : List Int, Rps (K w.params) H (ns.map .int) (ns.map .int) [] := by
   intro ns
   induction ns with
   | nil => simp [Rps]
   | cons n ns ih => simp only [Zv, Rps]; exact ⟨_, _, [], [], rfl, rfl, .int_mk, ih⟩
  exact gen ns
 refine ⟨[.lst (ns.map .int)], [], .bl true, fr, ?_, rfl, hfr, λ v H' G r => r.rp.Qd6⟩
 simp only [Rps]
 exact ⟨_, _, [], [], rfl, rfl, rp, rfl, rfl⟩
theorem Qpd {P : Program} {w : World} {K : PySem.W.Frag} {mg : Str -> Option Value} {h : Heap} {x y : Str} {st : Stmt} {fa : Addr} {k n : Nat} {Γ : List (Str × FnR)} {cs : List (Str × Int)} {g : DS} (X : K.In h) (G : h.Ns mainGlobals mg) (hmg : mg x = some (.ref fa))
  (F : Fact K x st) (S : Qa9 (namesOf (Qh st)) [y] (Qh st)) (B : QD x st [y]) (M : Qds mg cs) (tab : ∀ base : Heap, Qbm P w K mg base k Γ) (hc : Qai n (QfT st Γ cs) (QaB st) = some g) :
  ∃ fd : FuncData, (∀ (s : Shared) (u : Value), BindsTo s fd ⟨[u], []⟩ [(y, u)]) ∧
    ∀ base : Heap, K.In base -> base.Ns mainGlobals mg -> Qa3 P w K mg base CX0 (k + 1) fa fd [y] (spV K 1 (Qq (namesOf (Qh st)).length g)) := by
 obtain ⟨f, fd, Fn, a⟩ := F.ex
 have e := hmg.symm.trans (PySem.W.mg_of X G a)
 cases e
 refine ⟨fd, λ s u => ?_, λ base _ _ => QjP Fn S M (tab base) hc⟩
 obtain ⟨oc, od, kV, doc, pm, an, cdv, ct, osl, rfl, lk, hcd⟩ := Fn.ex
 exact .of_eq (B kV doc pm an cdv ct [u] rfl)
end HS
namespace HS
open PySem PySem.Spec PyProof.Rows L2
section
variable {P : Program} {w : World} {K : PySem.W.Frag} {mg : Str -> Option Value} {base : Heap}
end
end HS
namespace HS
open PySem L2
noncomputable def pairD (p : Int × Int) : D := .tup [.int p.1, .int p.2]
noncomputable def Qlm (p : Int × Int × Bool) : D := .tup [.int p.1, .int p.2.1, .bl p.2.2]
noncomputable def Qo (ns : List Int) : D := .lst (ns.map .int)
noncomputable def Qn6 (ps : List (Int × Int)) : D := .lst (ps.map pairD)
theorem QaI {α : Type} {f : α -> D} (h : ∀ a, (f a).flat = true) : ∀ l : List α, QG (l.map f) = true
 | [] => rfl
 | a :: l => by simp [QG, h a, QaI h l]
@[simp] theorem Qqs (i : Int) : (D.int i).flat = true := rfl
@[simp] theorem QqA (i : Bool) : (D.bl i).flat = true := rfl
@[simp] theorem QpV : D.non.flat = true := rfl
@[simp] theorem Qql (x : Str) : (D.str x).flat = true := rfl
@[simp] theorem Qp3 (xs : List D) : (D.lst xs).flat = false := rfl
@[simp] theorem QpX (xs : List D) : (D.tup xs).flat = QG xs := rfl
@[simp] theorem QpJ : QG [] = true := rfl
@[simp] theorem Qph (d : D) (ds : List D) : QG (d :: ds) = (d.flat && QG ds) := rfl
@[simp] theorem QpM (p : Int × Int) : (pairD p).flat = true := rfl
@[simp] theorem Qqm (p : Int × Int × Bool) : (Qlm p).flat = true := rfl
@[simp] theorem QpN (ns : List Int) : (Qo ns).flat = false := rfl
@[simp] theorem Qpx (ns : List (Int × Int)) : (Qn6 ns).flat = false := rfl
@[simp] theorem QoQ (ps : List (Int × Int)) : QG (ps.map pairD) = true := QaI (λ _ => rfl) _
@[simp] theorem QpC (ps : List (Int × Int × Bool)) : QG (ps.map Qlm) = true := QaI (λ _ => rfl) _
@[simp] theorem QiJ (ns : List Int) : QG (ns.map .int) = true := QaI (λ _ => rfl) _
@[simp] theorem QpK (xs ys : List D) : QG (xs ++ ys) = (QG xs && QG ys) := QbC xs ys
def Run (f : DS) (ρ : En) (Q : Out -> Prop) : Prop := ∃ o, f ρ = some o /\ Q o
noncomputable def Nx (Q : En -> Prop) : Out -> Prop
 | .nx ρ => Q ρ
 | _ => False
noncomputable def Rt (Q : D -> Bool -> Prop) : Out -> Prop
 | .rt d fr => Q d fr
 | _ => False
theorem Run.mono {f : DS} {ρ : En} {Q Q' : Out -> Prop} (h : Run f ρ Q) (m : ∀ o, Q o -> Q' o) : Run f ρ Q' := let ⟨o, h1, h2⟩ := h; ⟨o, h1, m o h2⟩
theorem QF {ρ : En} {Q : Out -> Prop} (h : Q (.nx ρ)) : Run Qp ρ Q := ⟨_, rfl, h⟩
theorem run_seq {f g : DS} {ρ : En} {Q : Out -> Prop} (h : Run f ρ (Nx λ ρ' => Run g ρ' Q)) : Run (Qe f g) ρ Q := by
 obtain ⟨o, h1, h2⟩ := h
 cases o with
 | nx ρ' =>
  obtain ⟨o', h3, h4⟩ := h2
  exact ⟨o', by simp [Qe, h1, h3], h4⟩
 | _ => exact False.elim h2
theorem QC {f g : DS} {ρ : En} {Q : Out -> Prop} (h : Run f ρ λ o => match o with | .nx ρ' => Run g ρ' Q | o => Q o) : Run (Qe f g) ρ Q := by
 obtain ⟨o, h1, h2⟩ := h
 cases o with
 | nx ρ' =>
  obtain ⟨o', h3, h4⟩ := h2
  exact ⟨o', by simp [Qe, h1, h3], h4⟩
 | bk ρ' => exact ⟨_, by simp [Qe, h1], h2⟩
 | ct ρ' => exact ⟨_, by simp [Qe, h1], h2⟩
 | rt d fr => exact ⟨_, by simp [Qe, h1], h2⟩
theorem Qn {i : Nat} {fa : DE} {r : R} {ρ : En} {Q : Out -> Prop} (h : fa ρ = some r) (q : Q (.nx (asg i r ρ))) : Run (QA i fa) ρ Q := ⟨_, by simp [QA, h], q⟩
theorem Qdi {fa : DE} {r : R} {ρ : En} {Q : Out -> Prop} (h : fa ρ = some r) (q : Q (.rt r.d (r.norm.fr && decide r.norm.M.Nodup))) : Run (QN fa) ρ Q := ⟨_, by simp [QN, h], q⟩
theorem Qam {g : DT} {f1 f2 : DS} {b : Bool} {ρ : En} {Q : Out -> Prop} (h : g ρ = some b) (q1 : b = true -> Run f1 ρ Q) (q2 : b = false -> Run f2 ρ Q) : Run (sIf g f1 f2) ρ Q := by
 cases b with
 | true => obtain ⟨o, h1, h2⟩ := q1 rfl; exact ⟨o, by simp [sIf, h, h1], h2⟩
 | false => obtain ⟨o, h1, h2⟩ := q2 rfl; exact ⟨o, by simp [sIf, h, h1], h2⟩
theorem QY {k : Nat} {f : DS} {ds : List D} {d : D} {fr : Bool} (h : Run f (Qb7 k ds) (Rt λ d' fr' => d' = d /\ fr' = fr)) : Qq k f ds = some (d, fr) := by
 obtain ⟨o, h1, h2⟩ := h
 unfold Qq
 cases o with
 | rt d' fr' => obtain ⟨rfl, rfl⟩ := h2; rw [h1]; rfl
 | _ => exact False.elim h2
theorem Qg1 {α : Type} {t : Tg} {fb : DS} {toD : α -> D} {Q : Out -> Prop} (I : Nat -> En -> Prop) : ∀ (xs ys : List α) (ρ : En), I ys.length ρ →
  (∀ i x ρ, (ys ++ xs)[i]? = some x -> ys.length <= i -> I i ρ -> ∃ ρ1, Qa0 t (toD x) ρ = some ρ1 /\ Run fb ρ1 λ o => match o with | .nx ρ2 => I (i + 1) ρ2 | .ct ρ2 => I (i + 1) ρ2 | .bk ρ2 => Q (.nx ρ2) | .rt d fr => Q (.rt d fr)) →
  (∀ ρ, I (ys ++ xs).length ρ -> Q (.nx ρ)) -> Run (Qbl t fb (xs.map toD)) ρ Q
 | [], ys, ρ, h0, _, fin => ⟨_, rfl, fin ρ (by simpa using h0)⟩
 | x :: xs, ys, ρ, h0, turn, fin => by
  obtain ⟨ρ1, h1, o, h2, h3⟩ := turn ys.length x ρ (by simp) (Zj _) h0
  have next : ∀ ρ2, I (ys.length + 1) ρ2 -> Run (Qbl t fb (xs.map toD)) ρ2 Q := λ ρ2 hi =>
   Qg1 I xs (ys ++ [x]) ρ2 (by simpa using hi) (λ i y ρ' e hl => turn i y ρ' (by simpa using e) (by simp at hl; omega)) (λ ρ' h => fin ρ' (by simpa using h))
  cases o with
  | nx ρ2 => obtain ⟨o', e1, e2⟩ := next ρ2 h3; exact ⟨o', by simp [Qbl, h1, h2, e1], e2⟩
  | ct ρ2 => obtain ⟨o', e1, e2⟩ := next ρ2 h3; exact ⟨o', by simp [Qbl, h1, h2, e1], e2⟩
  | bk ρ2 => exact ⟨_, by simp [Qbl, h1, h2], h3⟩
  | rt d fr => exact ⟨_, by simp [Qbl, h1, h2], h3⟩
theorem Qbz {α : Type} {fi : DI} {t : Tg} {fb : DS} {toD : α -> D} {ρ : En} {ir : IR} {Q : Out -> Prop} (xs : List α) (I : Nat -> En -> Prop) (h : fi ρ = some ir) (hx : ir.items = xs.map toD) (h0 : I 0 (Qaa ir.M ρ))
  (turn : ∀ i x ρ, xs[i]? = some x -> I i ρ -> ∃ ρ1, Qa0 t (toD x) ρ = some ρ1 /\ Run fb ρ1 λ o => match o with | .nx ρ2 => I (i + 1) ρ2 | .ct ρ2 => I (i + 1) ρ2 | .bk ρ2 => Q (.nx ρ2) | .rt d fr => Q (.rt d fr))
  (fin : ∀ ρ, I xs.length ρ -> Q (.nx ρ)) : Run (Qb1 fi t fb) ρ Q := by
 obtain ⟨o, h1, h2⟩ := Qg1 (t := t) (fb := fb) (toD := toD) (Q := Q) I xs [] (Qaa ir.M ρ) h0 (λ i x ρ e _ => turn i x ρ (by simpa using e)) (λ ρ h => fin ρ (by simpa using h))
 exact ⟨o, by simp [Qb1, h, hx, h1], h2⟩
theorem Qgm {α : Type} {t : Tg} {ft : DT} {fe : DE} {ρc : En} {toD : α -> D} {keep : α -> Bool} {out : α -> D} : ∀ (xs : List α) (acc : List D),
  (∀ x ∈ xs, ∃ ρ1, Qa0 t (toD x) ρc = some ρ1 /\ ft ρ1 = some (keep x) /\ (keep x = true -> ∃ r, fe ρ1 = some r /\ r.d = out x /\ r.norm.fr = true)) →
  (xs.map toD).foldlM (QcR t ft fe ρc) (acc, true) = some (acc ++ (xs.filter keep).map out, true)
 | [], acc, _ => by simp
 | x :: xs, acc, h => by
  obtain ⟨ρ1, h1, h2, h3⟩ := h x Zi
  have ih := λ acc => Qgm xs acc (λ y hy => h y (Zd _ hy))
  cases hk : keep x with
  | false =>
   have e : QcR t ft fe ρc (acc, true) (toD x) = some (acc, true) := by simp [QcR, h1, h2, hk]
   simp [Zbf, e, ih, hk]
  | true =>
   obtain ⟨r, h4, h5, h6⟩ := h3 hk
   have e : QcR t ft fe ρc (acc, true) (toD x) = some (acc ++ [out x], true) := by simp [QcR, h1, h2, hk, h4, h5, h6]
   simp [Zbf, e, ih, hk]
theorem QfQ {α : Type} {fi : DI} {t : Tg} {cap : List (Option Nat)} {ft : DT} {fe : DE} {ρ : En} {ir : IR} {toD : α -> D} {keep : α -> Bool} {out : α -> D} (xs : List α) (h : fi ρ = some ir) (hx : ir.items = xs.map toD)
  (turn : ∀ x ∈ xs, ∃ ρ1, Qa0 t (toD x) (Qcq cap ρ) = some ρ1 /\ ft ρ1 = some (keep x) /\ (keep x = true -> ∃ r, fe ρ1 = some r /\ r.d = out x /\ r.norm.fr = true)) :
  Q9 fi t cap ft fe ρ = some ⟨.lst ((xs.filter keep).map out), true, []⟩ := by
 unfold Q9
 rw [h, Za, hx, Qgm xs [] turn]
 simp
theorem Qal {α : Type} {fi : DI} {t : Tg} {cap : List (Option Nat)} {fe : DE} {ρ : En} {ir : IR} {toD : α -> D} {out : α -> D} (xs : List α) (h : fi ρ = some ir) (hx : ir.items = xs.map toD)
  (turn : ∀ x ∈ xs, ∃ ρ1, Qa0 t (toD x) (Qcq cap ρ) = some ρ1 /\ ∃ r, fe ρ1 = some r /\ r.d = out x /\ r.norm.fr = true) :
  Q9 fi t cap QaM fe ρ = some ⟨.lst (xs.map out), true, []⟩ := by
 have := QfQ (keep := λ _ => true) (ft := QaM) xs h hx (cap := cap) (t := t) (fe := fe) (out := out) λ x hx => by
  obtain ⟨ρ1, h1, h2⟩ := turn x hx
  exact ⟨ρ1, h1, rfl, λ _ => h2⟩
 rw [this, List.filter_eq_self.mpr λ _ _ => rfl]
@[simp] theorem QpW (d : D) : R.norm ⟨d, true, []⟩ = ⟨d, true, []⟩ := by unfold R.norm; split <;> rfl
@[simp] theorem Qs (i : Nat) (d : D) (ρ : En) : asg i ⟨d, true, []⟩ ρ = ρ.set i (some (d, true)) := by unfold asg; simp [kill]
theorem Qdr {i : Nat} {d : D} {fr : Bool} {M : List Nat} {ρ : En} (h : d.flat = true) : asg i ⟨d, fr, M⟩ ρ = ρ.set i (some (d, true)) := by
 unfold asg R.norm; simp [h, kill]
theorem QhR {i : Nat} {ρ : En} {d : D} {b : Bool} (h : ρ[i]? = some (some (d, b))) : Qa i ρ = some (if d.flat then ⟨d, true, []⟩ else if b then ⟨d, true, [i]⟩ else ⟨d, false, []⟩) := by
 unfold Qa
 rw [h]
 dsimp only
 split
 ·simp_all
 ·split <;> simp_all
@[simp] theorem QnP (d : D) (ρ : En) : dC d ρ = some ⟨d, true, []⟩ := rfl
theorem Qcp {g : D -> D -> Option D} {fa fb : DE} {ρ : En} {ra rb : R} {d : D} (ha : fa ρ = some ra) (hb : fb ρ = some rb) (h : g ra.d rb.d = some d) : dOp g fa fb ρ = some ⟨d, true, []⟩ := by simp [dOp, ha, hb, h]
theorem QI {fa : DE} {fs : DA} {ρ : En} {r : R} {rs : RA} (ha : fa ρ = some r) (hs : fs ρ = some rs) : Qb fa fs ρ = some ⟨r.d :: rs.ds, r.fr && rs.fr, r.M ++ rs.M⟩ := by simp [Qb, ha, hs]
@[simp] theorem QaQ (ρ : En) : Qg ρ = some ⟨[], true, []⟩ := rfl
noncomputable def vf (d : D) (b : Bool) (i : Nat) : R := if d.flat then ⟨d, true, []⟩ else if b then ⟨d, true, [i]⟩ else ⟨d, false, []⟩
@[simp] theorem QqD (d : D) (b : Bool) (i : Nat) : (vf d b i).d = d := by unfold vf; split; rfl; split <;> rfl
@[simp] theorem Qhq (i j : Int) (h : 0 <= j) : QcH i j = i % j := by unfold QcH; rw [if_pos h]
@[simp] theorem Qhn (i j : Int) (h : 0 <= j) : QbW i j = i / j := by unfold QbW; rw [if_pos h]
theorem Qbc {i j : Int} (h : i.natAbs < 2 ^ 64) : QbJ i j = true := by unfold QbJ; simp [h]
theorem Qem {i j : Int} (h : j.natAbs < 2 ^ 64) : QbJ i j = true := by unfold QbJ; simp [h]
theorem Qdf {i j : Int} (h1 : Builtin.Int.intBits i <= 2 ^ 20) (h2 : Builtin.Int.intBits j <= 2 ^ 20) : QbJ i j = true := by
 unfold QbJ
 rw [decide_eq_true h1, decide_eq_true h2, Bool.and_self, Bool.or_true]
theorem QgY : (sizeLine : Nat) = 16777216 := sizeLine_eq
noncomputable def Qd (m : Nat) (f : Nat -> Int) : D := .lst ((List.range m).map λ i => .int (f i))
noncomputable def Qc (m n : Nat) (f : Nat -> Nat -> Int) : D := .lst ((List.range m).map λ i => Qd n (f i))
@[simp] theorem Qqn (m : Nat) (f : Nat -> Int) : (Qd m f).flat = false := rfl
@[simp] theorem Qqa (m n : Nat) (f : Nat -> Nat -> Int) : (Qc m n f).flat = false := rfl
@[simp] theorem Qkc (m : Nat) (f : Nat -> Int) : QG ((List.range m).map λ i => D.int (f i)) = true := QaI (f := λ i => D.int (f i)) (λ _ => rfl) _
noncomputable def up (f : Nat -> Int) (i : Nat) (v : Int) : Nat -> Int := λ j => if j = i then v else f j
noncomputable def up2 (f : Nat -> Nat -> Int) (i j : Nat) (v : Int) : Nat -> Nat -> Int := λ k => if k = i then up (f k) j v else f k
theorem Qea {n : Nat} {i : Int} (h0 : 0 <= i) (h : i < n) : ixN n i = some i.toNat := by
 unfold ixN; rw [if_pos (by omega), if_pos (by omega)]
theorem Qen {α : Type} {xs : List α} {i : Int} (h0 : 0 <= i) (h : i < xs.length) : atI xs i = xs[i.toNat]? := by
 unfold atI; rw [Qea h0 h]; rfl
theorem QmJ {m : Nat} {f : Nat -> Int} {i : Int} (h0 : 0 <= i) (h : i < m) : atI ((List.range m).map λ j => D.int (f j)) i = some (.int (f i.toNat)) := by
 rw [Qen h0 (by simpa using h), Zq, ZL (by omega)]; rfl
theorem QmZ {m n : Nat} {f : Nat -> Nat -> Int} {i : Int} (h0 : 0 <= i) (h : i < m) : atI ((List.range m).map λ j => Qd n (f j)) i = some (Qd n (f i.toNat)) := by
 rw [Qen h0 (by simpa using h), Zq, ZL (by omega)]; rfl
theorem Qa5 {fa : DE} {ρ : En} {r : R} {n : Nat} (h : fa ρ = some r) (e : r.d = .int n) (hn : n <= 16777216) : Qao fa ρ = some ⟨(List.range n).map λ (k : Nat) => .int (k : Int), []⟩ := by
 unfold Qao
 rw [h, Za, e]
 dsimp only
 rw [if_pos ⟨by omega, by omega⟩]
 simp [QdK]
theorem Qil {α : Type} (x : α) : ∀ n : Nat, (List.replicate n [x]).flatten = (List.range n).map λ _ => x
 | 0 => rfl
 | n + 1 => by
  rw [ZK, ZS, Qil x n, Zbj, Zv, Zax]; rfl
theorem QoN {fb : DE} {ρ : En} {r : R} {n : Nat} {z : Int} (h : fb ρ = some r) (e : r.d = .int n) (hn : n <= 16777216) : Q6 (QaH (Qb (dC (.int z)) Qg)) fb ρ = some ⟨Qd n (λ _ => z), true, []⟩ := by
 have h1 : QaH (Qb (dC (.int z)) Qg) ρ = some ⟨.lst [.int z], true, []⟩ := rfl
 unfold Q6
 rw [h1, Za, h, Za, e]
 dsimp only
 rw [if_pos ⟨by simp [QgY]; omega, by omega, by omega, rfl⟩]
 simp only [ZD, Qil]
 rfl
theorem QL {fa : DE} {r : R} {g : DS} {ρ : En} {Q : D -> Bool -> Prop} (h : fa ρ = some r) (q : Q r.d (r.norm.fr && decide r.norm.M.Nodup)) : Run (Qe (QN fa) g) ρ (Rt Q) := QC (Qdi h q)
theorem Qv {n : Nat} {den : Den} {dfl : List D} {fs : DA} {ρ : En} {r : RA} {d : D} (h : fs ρ = some r) (hd : den (r.ds ++ dfl) = some (d, true)) (hl : r.ds.length + dfl.length = n) : Qx n den dfl fs ρ = some ⟨d, true, []⟩ := by
 unfold Qx
 rw [h, Za, if_pos hl, hd]
 simp
theorem Qbt {fa : DE} {ρ : En} {r : R} {xs : List D} (h : fa ρ = some r) (e : r.d = .lst xs) : Qay fa ρ = some ⟨xs, r.M⟩ := by
 unfold Qay
 rw [h, Za, e]
noncomputable def stepT (m : Nat) (f : Nat -> Nat -> Int) (s : Int × Int) : Nat -> Nat -> Int :=
 let f1 := if s.1 < m then up2 f s.1.toNat s.1.toNat (f s.1.toNat s.1.toNat - 1) else f
 if s.1 < m /\ s.2 < m then up2 f1 s.1.toNat s.2.toNat (f1 s.1.toNat s.2.toNat + 1) else f1
noncomputable def QbD (m : Nat) (S : List (Int × Int)) : Nat -> Nat -> Int := S.foldl (stepT m) λ _ _ => 0
noncomputable def hit (i j : Nat) (s : Int × Int) : Int := (if s.1 = i /\ s.2 = j then 1 else 0) - (if s.1 = i /\ i = j then 1 else 0)
theorem QiE {f : Nat -> Nat -> Int} {a b : Nat} {v : Int} {i j : Nat} : up2 f a b v i j = if i = a /\ j = b then v else f i j := by
 unfold up2 up
 by_cases h1 : i = a
 ·by_cases h2 : j = b
  ·simp [h1, h2]
  ·simp [h1, h2]
 ·simp [h1]
theorem QjE {m : Nat} {f : Nat -> Nat -> Int} {s : Int × Int} {i j : Nat} (hi : i < m) (hj : j < m) (h1 : 0 <= s.1) (h2 : 0 <= s.2) : stepT m f s i j = f i j + hit i j s := by
 unfold stepT hit
 have e1 : (s.1 = (i : Int)) ↔ (i = s.1.toNat) := by omega
 have e2 : (s.2 = (j : Int)) ↔ (j = s.2.toNat) := by omega
 simp only [e1, e2]
 by_cases c1 : s.1 < (m : Int)
 ·by_cases c2 : s.2 < (m : Int)
  ·simp only [c1, c2, and_self, if_true, QiE]
   generalize s.1.toNat = a
   generalize s.2.toNat = b
   by_cases d1 : i = a
   ·subst d1
    by_cases d2 : j = b
    ·subst d2
     by_cases d3 : i = j
     ·subst d3; simp
     ·have d4 : ¬ j = i := λ z => d3 z.symm
      simp [d3, d4]
    ·by_cases d3 : i = j
     ·subst d3; simp [d2]; omega
     ·have d4 : ¬ j = i := λ z => d3 z.symm
      simp [d2, d3, d4]
   ·simp [d1]
  ·have d2 : ¬ (j = s.2.toNat) := by omega
   simp only [c1, c2, and_false, if_false, if_true, QiE, d2]
   generalize s.1.toNat = a
   by_cases d1 : i = a
   ·subst d1
    by_cases d3 : i = j
    ·subst d3; simp; omega
    ·have d4 : ¬ j = i := λ z => d3 z.symm
     simp [d3, d4]
   ·simp [d1]
 ·have d1 : ¬ (i = s.1.toNat) := by omega
  simp [c1, d1]
theorem QgB {m : Nat} {i j : Nat} (hi : i < m) (hj : j < m) : ∀ (S : List (Int × Int)) (f : Nat -> Nat -> Int), (∀ s ∈ S, 0 <= s.1 /\ 0 <= s.2) -> S.foldl (stepT m) f i j = f i j + (S.map (hit i j)).sum
 | [], f, _ => by simp
 | s :: S, f, h => by
  obtain ⟨h1, h2⟩ := h s Zi
  rw [List.foldl_cons, QgB hi hj S _ (λ t ht => h t (Zd _ ht)), QjE hi hj h1 h2, Zv, Zac]
  omega
theorem QdC {m : Nat} {S : List (Int × Int)} {i j : Nat} (hi : i < m) (hj : j < m) (h : ∀ s ∈ S, 0 <= s.1 /\ 0 <= s.2) : QbD m S i j = (S.map (hit i j)).sum := by
 unfold QbD
 rw [QgB hi hj S _ h]; simp
noncomputable def isI (i : Nat) (a : Int) : Int := if a = i then 1 else 0
noncomputable def QiR (R L : List (Int × Int)) (i : Nat) : Int := (R.map λ r => isI i r.1 + isI i r.2).sum + (L.map λ l => isI i l.1).sum
theorem sum_neg (S : List (Int × Int)) (i : Nat) (h : ∀ s ∈ S, s.1 ≠ s.2) : (S.map (hit i i)).sum = - (S.map λ s => isI i s.1).sum := by
 induction S with
 | nil => rfl
 | cons s S ih =>
  rw [Zv, Zac, ih λ t ht => h t (Zd _ ht), Zv, Zac]
  have hn := h s Zi
  unfold hit isI
  by_cases e : s.1 = (i : Int)
  ·have : ¬ (s.2 = (i : Int)) := λ z => hn (e.trans z.symm)
   simp [e, this]; omega
  ·simp [e]
noncomputable def QbG (R L : List (Int × Int)) : List (Int × Int) := R ++ R.map Prod.swap ++ L
theorem Qj9 (R L : List (Int × Int)) (i : Nat) : ((QbG R L).map λ s => isI i s.1).sum = QiR R L i := by
 unfold QbG QiR
 rw [Zam, Zam, ZaP, ZaP]
 have : (R.map λ r => isI i r.1 + isI i r.2).sum = (R.map λ s => isI i s.1).sum + ((R.map Prod.swap).map λ s => isI i s.1).sum := by
  induction R with
  | nil => rfl
  | cons r R ih => simp only [Zv, Zac, ih, Prod.fst_swap]; omega
 omega
def Good (m : Nat) (s : Int × Int) : Prop := 0 <= s.1 /\ 0 <= s.2 /\ s.1 <= m /\ s.2 <= m /\ s.1 ≠ s.2
theorem QfH {m : Nat} {R L : List (Int × Int)} (hR : ∀ s ∈ R, Good m s) (hL : ∀ s ∈ L, Good m s) : ∀ s ∈ QbG R L, Good m s := λ s hs => by
 unfold QbG at hs
 rcases Zx.mp hs with hs | hs
 ·rcases Zx.mp hs with hs | hs
  ·exact hR s hs
  ·obtain ⟨t, ht, rfl⟩ := Zag.mp hs
   obtain ⟨h1, h2, h3, h4, h5⟩ := hR t ht
   exact ⟨h2, h1, h4, h3, λ z => h5 z.symm⟩
 ·exact hL s hs
theorem Qiv (a b : Int) : deq (.int a) (.int b) = decide (a = b) := by
 show PyData.eqv (.int a) (.int b) = _
 unfold PyData.eqv
 exact Bool.beq_eq_decide_eq a b
theorem Qdd {fa fb : DE} {ρ : En} {ra rb : R} {a b : Int} (ha : fa ρ = some ra) (ea : ra.d = .int a) (hb : fb ρ = some rb) (eb : rb.d = .int b) : dOp gEq fa fb ρ = some ⟨.bl (decide (a = b)), true, []⟩ := by
 refine Qcp ha hb ?_
 rw [ea, eb]
 show some (D.bl (deq (.int a) (.int b))) = _
 rw [Qiv]
theorem Qfc {fa fb : DE} {ρ : En} {ra rb : R} {a b : Int} (ha : fa ρ = some ra) (ea : ra.d = .int a) (hb : fb ρ = some rb) (eb : rb.d = .int b) : dOp gNe fa fb ρ = some ⟨.bl (!decide (a = b)), true, []⟩ := by
 refine Qcp ha hb ?_
 rw [ea, eb]
 show some (D.bl (!deq (.int a) (.int b))) = _
 rw [Qiv]
theorem Qkw {fa fb : DE} {ρ : En} {a b : Bool} (ha : fa ρ = some ⟨.bl a, true, []⟩) (hb : fb ρ = some ⟨.bl b, true, []⟩) : QeJ fa fb ρ = some ⟨.bl (a && b), true, []⟩ := by
 unfold QeJ
 rw [ha]
 cases a <;> simp [D.tru, hb]
theorem Q4 {fa : DE} {ρ : En} {r : R} {b : Bool} (ha : fa ρ = some r) (e : r.d = .bl b) : QP fa ρ = some b := by
 unfold QP
 rw [ha, Za, e]; rfl
theorem Qbh {g : DT} {ρ : En} {b : Bool} (h : g ρ = some b) : Qb0 g ρ = some (!b) := by unfold Qb0; rw [h]; rfl
theorem Qd5 {g1 g2 : DT} {ρ : En} {a b : Bool} (ha : g1 ρ = some a) (hb : g2 ρ = some b) : bOr g1 g2 ρ = some (a || b) := by
 unfold bOr; rw [ha]; cases a <;> simp [hb]
theorem Q5 {fa fb : DE} {ρ : En} {ra rb : R} {a b : Int} (ha : fa ρ = some ra) (ea : ra.d = .int a) (hb : fb ρ = some rb) (eb : rb.d = .int b) (h : QbJ a b = true) : Q6 fa fb ρ = some ⟨.int (a * b), true, []⟩ := by
 unfold Q6
 rw [ha, Za, hb, Za, ea, eb]
 simp [h]
theorem Qah {fa fb : DE} {ρ : En} {ra rb : R} {a b : Int} (ha : fa ρ = some ra) (ea : ra.d = .int a) (hb : fb ρ = some rb) (eb : rb.d = .int b) : Q2 fa fb ρ = some ⟨.int (a + b), true, []⟩ := by
 unfold Q2
 rw [ha, Za, hb, Za, ea, eb]
theorem QaP {fa fb : DE} {ρ : En} {ra rb : R} {a b : Int} (ha : fa ρ = some ra) (ea : ra.d = .int a) (hb : fb ρ = some rb) (eb : rb.d = .int b) (h : 0 < b) : dOp Qbf fa fb ρ = some ⟨.int (a % b), true, []⟩ := by
 refine Qcp ha hb ?_
 rw [ea, eb]
 show (if b ≠ 0 then some (D.int (QcH a b)) else none) = _
 rw [if_pos (by omega), Qhq _ _ (by omega)]
theorem Qg2 {fa fb : DE} {ρ : En} {ra rb : R} {a b : Int} (ha : fa ρ = some ra) (ea : ra.d = .int a) (hb : fb ρ = some rb) (eb : rb.d = .int b) (h : 0 < b) (h2 : b < 2 ^ 64) : dOp QdX fa fb ρ = some ⟨.int (a / b), true, []⟩ := by
 refine Qcp ha hb ?_
 rw [ea, eb]
 have : QaL b = true := by
  unfold QaL
  have h3 : b.natAbs < 2 ^ 8000 := Zn (by omega : b.natAbs < 2 ^ 64) (Zaq (by decide) (by decide))
  simp only [Zg, decide_eq_true_eq]
  exact ⟨by omega, h3⟩
 show (if QaL b = true then some (D.int (QbW a b)) else none) = _
 rw [if_pos this, Qhn _ _ (by omega)]
theorem Qcz {fa : DE} {ρ : En} {r : R} (h : fa ρ = some r) : QaC fa ρ = some ⟨r.d, false, r.M⟩ := by unfold QaC; rw [h]; rfl
theorem Qm3 {fa fb : DE} {ρ : En} {ra rb : R} {m : Nat} {f : Nat -> Int} {i : Int} (ha : fa ρ = some ra) (ea : ra.d = Qd m f) (hb : fb ρ = some rb) (eb : rb.d = .int i) (h0 : 0 <= i) (h : i < m) : Qy fa fb ρ = some ⟨.int (f i.toNat), true, []⟩ := by
 unfold Qy
 rw [ha, Za, hb, Za, ea, eb]
 simp only [Qd, D.items, Za, QmJ h0 h, ZV]
 rfl
theorem QbN {fa fb : DE} {ρ : En} {ra rb : R} {ns : List Int} {i : Int} {v : Int} (ha : fa ρ = some ra) (ea : ra.d = .lst (ns.map .int)) (hb : fb ρ = some rb) (eb : rb.d = .int i) (h0 : 0 <= i) (h : ns[i.toNat]? = some v) : Qy fa fb ρ = some ⟨.int v, true, []⟩ := by
 have hl : i < ns.length := by have := (Zh.mp h).1; omega
 unfold Qy
 rw [ha, Za, hb, Za, ea, eb]
 simp only [D.items, Za]
 rw [Qen h0 (by simpa using hl), Zq, h]
 rfl
theorem Qj5 {m n : Nat} {f : Nat -> Int} (h : n <= m) : cutD ((List.range m).map λ i => D.int (f i)) none (some (n : Int)) = (List.range n).map λ i => D.int (f i) := by
 unfold cutD
 simp only [ZA, ZO, HT.Qg5, HT.Qik, List.drop_zero, Nat.sub_zero, Zbn h]
 rw [← List.map_take, List.take_range, Zbn h]
theorem Qmy {fa fb : DE} {ρ : En} {ra rb : R} {m n : Nat} {f : Nat -> Int} (ha : fa ρ = some ra) (ea : ra.d = Qd m f) (hb : fb ρ = some rb) (eb : rb.d = .int n) (h : n <= m) : QdT fa QcV (QcZ fb) ρ = some ⟨Qd n f, true, []⟩ := by
 unfold QdT QcV QcZ
 rw [ha, Za, hb, ea]
 simp only [Za, eb, Qd, Qj5 h, QaN, Qkc, if_true]
noncomputable def QdQ : DS := (Qe (QN (QeJ (QeW "int" (Qa 0)) (QlC (QeW "bool" (Qa 0))))) Qp)
def Qc9 (d : Den) : Prop := ∀ i : Int, d [.int i] = some (.bl true, true)
theorem QkI : Qc9 (Qq 1 QdQ) := λ i => rfl
noncomputable def Qlg (t k : Int) : Int := (t + 17) * (k * k + 7 * k + 11) * 69621 % 2147483647
noncomputable def Qp9 (m t k : Int) : Int := if Qlg t k % (k + 1) < k then (Qlg t k % (k + 1) + t) % m else m
noncomputable def Qqt (m t kind : Int) (k : Int) : Int × Int × Bool := ((k + t) % m, Qp9 m t k, decide (kind = 2) || (decide (kind = 3) && decide (Qlg t k / 64 % 2 = 1)))
noncomputable def Qo9 (m : Nat) (t kind : Int) : List (Int × Int × Bool) := (List.range m).map λ (k : Nat) => Qqt m t kind k
def GoodW (m : Nat) (w : Int × Int × Bool) : Prop := Good m (w.1, w.2.1) /\ (w.2.2 = true -> w.1 < m)
noncomputable def QoX (W : List (Int × Int × Bool)) : D := .lst (W.map Qlm)
@[simp] theorem QpF (W : List (Int × Int × Bool)) : (QoX W).flat = false := rfl
theorem Qme {x : Nat} {fa : DE} {ρ : En} {r : R} {xs : List D} {Q : Out -> Prop} (hx : ρ[x]? = some (some (.lst xs, true))) (ha : fa ρ = some r) (hf : r.d.flat = true) (hl : xs.length < 16777216) (q : Q (.nx (ρ.set x (some (.lst (xs ++ [r.d]), true))))) : Run (QbE x Qbq fa) ρ Q := by
 refine ⟨_, ?_, q⟩
 have hn : r.norm = ⟨r.d, true, []⟩ := by unfold HS.R.norm; rw [if_pos hf]
 unfold QbE
 rw [hx]
 simp only [Qbq, Za, ha, QbK, Qfd, hn, QaK, kill, QgY]
 simp [hl]
theorem Run.nx {f : DS} {ρ : En} {Q Q' : En -> Prop} (h : Run f ρ (Nx Q)) (m : ∀ ρ, Q ρ -> Q' ρ) : Run f ρ (Nx Q') := h.mono λ o ho => by
 cases o with
 | nx ρ => exact m ρ ho
 | _ => exact ho.elim
theorem Qa4 {f g : DS} {ρ : En} {P : En -> Prop} {Q : Out -> Prop} (h : Run f ρ (Nx P)) (k : ∀ ρ', P ρ' -> Run g ρ' Q) : Run (Qe f g) ρ Q := run_seq (h.nx k)
noncomputable def QcB (w : Int × Int × Bool) : Int × Int := (if w.2.1 < w.1 then w.2.1 else w.1, if w.2.1 > w.1 then w.2.1 else w.1)
noncomputable def QnK (w : Int × Int × Bool) : Int × Int := (w.1, w.2.1)
noncomputable def Qb3 (W : List (Int × Int × Bool)) : List (Int × Int) := (W.filter λ w => !w.2.2).map QcB
noncomputable def Qcr (W : List (Int × Int × Bool)) : List (Int × Int) := (W.filter λ w => w.2.2).map QnK
theorem Qdz {m : Nat} {W : List (Int × Int × Bool)} (h : ∀ w ∈ W, GoodW m w) : ∀ s ∈ Qb3 W, Good m s /\ s.1 < s.2 := λ s hs => by
 obtain ⟨w, hw, rfl⟩ := Zag.mp hs
 obtain ⟨⟨h1, h2, h3, h4, h5⟩, _⟩ := h w (Zak.mp hw).1
 simp only at h1 h2 h3 h4 h5
 unfold QcB Good
 simp only
 split <;> split <;> omega
theorem QdA {m : Nat} {W : List (Int × Int × Bool)} (h : ∀ w ∈ W, GoodW m w) : ∀ s ∈ Qcr W, Good m s /\ s.1 < m := λ s hs => by
 obtain ⟨w, hw, rfl⟩ := Zag.mp hs
 obtain ⟨h1, h2⟩ := h w (Zak.mp hw).1
 exact ⟨h1, h2 (by simpa using (Zak.mp hw).2)⟩
theorem Qgp (W : List (Int × Int × Bool)) : (Qb3 W).length <= W.length := by unfold Qb3; rw [ZA]; exact List.length_filter_le _ _
theorem Qgo (W : List (Int × Int × Bool)) : (Qcr W).length <= W.length := by unfold Qcr; rw [ZA]; exact List.length_filter_le _ _
structure QnS (m : Nat) (t kind : Int) (R L : List (Int × Int)) : Prop where
 ex : ∃ W, (∀ w ∈ Qo9 m t kind, w ∈ W) /\ (∀ w ∈ W, GoodW m w) /\ W.length <= 100 /\ R = Qb3 W /\ L = Qcr W
theorem QnS.good {m : Nat} {t kind : Int} {R L : List (Int × Int)} (h : QnS m t kind R L) : (∀ s ∈ R, Good m s) /\ (∀ s ∈ L, Good m s) /\ R.length <= 100 /\ L.length <= 100 := by
 obtain ⟨W, _, h2, h3, rfl, rfl⟩ := h.ex
 exact ⟨λ s hs => (Qdz h2 s hs).1, λ s hs => (QdA h2 s hs).1, Zr (Qgp W) h3, Zr (Qgo W) h3⟩
theorem Qe9 {fa : DE} {ρ : En} {r : R} {xs : List D} (h : fa ρ = some r) (e : r.d = .lst xs) : dBf Qax (Qb fa Qg) ρ = some ⟨.int xs.length, true, []⟩ := by
 unfold dBf
 rw [QI h (QaQ _), Za]
 simp [e, Qax]
theorem QjM {b : Int} (h : 0 < b) (h2 : b < 2 ^ 200) : QaL b = true := by
 unfold QaL
 have h3 : b.natAbs < 2 ^ 8000 := Zn (by omega : b.natAbs < 2 ^ 200) (Zaq (by decide) (by decide))
 simp only [Zg, decide_eq_true_eq]
 exact ⟨by omega, h3⟩
theorem Qoo {i j : Nat} {fa fb : DE} {ρ : En} {ra rb : R} {a b : Int} {Q : Out -> Prop} (ha : fa ρ = some ra) (ea : ra.d = .int a) (hb : fb ρ = some rb) (eb : rb.d = .int b) (h : 0 < b) (h2 : b < 2 ^ 200)
  (q : Q (.nx ((ρ.set i (some (.int (a / b), true))).set j (some (.int (a % b), true))))) : Run (Qef (.tp [i, j]) (dDm (Qb fa (Qb fb Qg)))) ρ Q := by
 have e : dDm (Qb fa (Qb fb Qg)) ρ = some ⟨.tup [.int (a / b), .int (a % b)], true, []⟩ := by
  unfold dDm
  rw [QI ha (QI hb (QaQ _)), Za]
  simp only [ea, eb]
  rw [if_pos (QjM h h2), Qhn _ _ (by omega), Qhq _ _ (by omega)]
 refine ⟨_, ?_, q⟩
 unfold Qef
 rw [e]
 rfl
theorem Qp2 (xs : List D) : deq (.lst xs) (.lst []) = xs.isEmpty := by cases xs <;> rfl
theorem Qqv (n : Nat) (ns : List Int) : (Qo ns).sim (n + 1) = true := by
 unfold Qo
 simp only [D.sim, List.all_map, Zah]
 intro p _
 cases n <;> rfl
theorem QhU {fa : DE} {ρ : En} {r : R} {ns : List Int} (ha : fa ρ = some r) (e : r.d = .lst (ns.map .int)) : QP (dOp gNe fa (QaH Qg)) ρ = some (!ns.isEmpty) := by
 refine Q4 (Qcp ha (rb := ⟨.lst [], true, []⟩) rfl (d := .bl (!ns.isEmpty)) ?_) rfl
 rw [e]
 unfold gNe
 have : (D.lst (ns.map .int)).sim 8 = true := Qqv 7 ns
 rw [this]
 show some (D.bl (!deq (.lst (ns.map .int)) (.lst []))) = _
 rw [Qp2]; simp
theorem Qkg {fa fb : DE} {ρ : En} {ra rb : R} {a b : Int} (ha : fa ρ = some ra) (ea : ra.d = .int a) (hb : fb ρ = some rb) (eb : rb.d = .int b) (h : 0 <= b /\ b <= 1000 /\ a.natAbs < 2 ^ 200) : dOp Qb2 fa fb ρ = some ⟨.int (a ^ b.toNat), true, []⟩ := by
 refine Qcp ha hb ?_
 rw [ea, eb]
 show (if 0 <= b /\ b <= 1000 /\ a.natAbs < 2 ^ 200 then some (D.int (a ^ b.toNat)) else none) = _
 rw [if_pos h]
theorem Qhv {x : Nat} {fa : DE} {ρ : En} {r : R} {A : List Int} {n : Int} {Q : Out -> Prop} (hx : ρ[x]? = some (some (Qo A, true))) (ha : fa ρ = some r) (hf : r.d = .int n) (hl : A.length < 16777216) (q : Q (.nx (ρ.set x (some (Qo (A ++ [n]), true))))) : Run (QbE x Qbq fa) ρ Q := by
 refine Qme (xs := A.map .int) hx ha (by rw [hf]; rfl) (by simpa using hl) ?_
 rw [hf]
 unfold Qo at q
 rw [Zam] at q
 exact q
noncomputable abbrev B40 : Int := 10000000000000000000000000000000000000000
noncomputable def QcJ : DS := (Qe (QA 2 (dOp Qb2 (dC (.int 10)) (dC (.int 40)))) (Qe (QA 3 (dC (.int 0))) (Qe (sIf (QP (dOp gNe (Qa 0) (QaH Qg))) (Qe (QA 3 (QaC (Qy (Qa 0) (dC (.int 0))))) Qp) Qp) (Qe (QA 4 (QaH Qg)) (Qe (Qb1 (Qao (Qa 1)) (.nm 5) (Qe (Qef (.tp [3, 6]) (dDm (Qb (Qa 3) (Qb (Qa 2) Qg)))) (Qe (QbE 4 Qbq (Qa 6)) Qp))) (Qe (sIf (QP (dOp gGt (Qa 3) (dC (.int 0)))) (Qe (QN (Qa 4)) Qp) Qp) (Qe (QA 7 (QaH Qg)) (Qe (Qb1 (Qao (Qa 1)) (.nm 5) (Qe (QA 8 (dC (.int 7919))) (Qe (sIf (QP (dOp gNe (Qa 0) (QaH Qg))) (Qe (QA 8 (QaC (Qy (Qa 0) (dOp Qbf (Qa 5) (dBf Qax (Qb (Qa 0) Qg)))))) Qp) Qp) (Qe (QA 8 (dOp Qbf (Q6 (Q2 (Q2 (Q2 (Qa 8) (Q6 (Q6 (Qa 5) (Qa 5)) (dC (.int 7919)))) (Q6 (Qa 5) (dC (.int 104729)))) (dC (.int 31))) (dC (.int 48271))) (dC (.int 2147483647)))) (Qe (QA 8 (dOp Qbf (Q6 (dOp Qbf (Q6 (Qa 8) (Qa 8)) (dC (.int 2147483629))) (Q2 (Q6 (dC (.int 2)) (Qa 5)) (dC (.int 69621)))) (dC (.int 2147483587)))) (Qe (QbE 7 Qbq (dOp Qbf (Q6 (Qa 8) (dOp Qb2 (dC (.int 618970019642690137449562111)) (dC (.int 2)))) (Qa 2))) Qp)))))) (Qe (QN (Qa 7)) Qp)))))))))
def CellsOk (d : Den) : Prop := ∀ (ns : List Int) (n : Nat), ns.length <= 63 -> n <= 200 -> ∃ cs : List Int, d [.lst (ns.map .int), .int n] = some (Qo cs, true) /\ cs.length = n /\ ∀ c ∈ cs, 0 <= c /\ c < B40
theorem QkU : CellsOk (Qq 9 QcJ) := λ ns n hl hn => by
 have key : Run QcJ (Qb7 9 [.lst (ns.map .int), .int n]) (Rt λ d fr => ∃ cs : List Int, d = Qo cs /\ fr = true /\ cs.length = n /\ ∀ c ∈ cs, 0 <= c /\ c < B40) := by
  refine run_seq (Qn (r := ⟨.int B40, true, []⟩) ?_ ?_)
  ·exact Qkg (a := 10) (b := 40) rfl rfl rfl rfl (by decide)
  rw [Qs]
  refine run_seq (Qn (r := ⟨.int 0, true, []⟩) rfl ?_)
  rw [Qs]
  refine Qa4 (P := λ ρ => ∃ z : Int, ρ = [some (.lst (ns.map .int), false), some (.int n, true), some (.int B40, true), some (.int z, true), none, none, none, none, none]) ?_ ?_
  ·refine Qam (QhU (ns := ns) (r := ⟨.lst (ns.map .int), false, []⟩) rfl rfl) (λ h => ?_) (λ _ => QF ⟨0, rfl⟩)
   cases ns with
   | nil => cases h
   | cons a r => exact run_seq (Qn (r := ⟨.int a, false, []⟩) (Qcz (QbN (ns := a :: r) (i := 0) rfl rfl rfl rfl (by decide) rfl)) (QF ⟨a, by rw [Qdr rfl]; rfl⟩))
  rintro ρ ⟨z, rfl⟩
  refine run_seq (Qn (r := ⟨Qo [], true, []⟩) rfl ?_)
  rw [Qs]
  refine Qa4 (P := λ ρ => ∃ (z : Int) (cs : List Int) (j5 j6 : Option (D × Bool)), cs.length = n /\ (∀ c ∈ cs, 0 <= c /\ c < B40) /\ ρ = [some (.lst (ns.map .int), false), some (.int n, true), some (.int B40, true), some (.int z, true), some (Qo cs, true), j5, j6, none, none]) ?_ ?_
  ·refine Qbz (List.range n) (λ i ρ => ∃ (z : Int) (cs : List Int) (j5 j6 : Option (D × Bool)), cs.length = i /\ (∀ c ∈ cs, 0 <= c /\ c < B40) /\ ρ = [some (.lst (ns.map .int), false), some (.int n, true), some (.int B40, true), some (.int z, true), some (Qo cs, true), j5, j6, none, none]) (Qa5 (n := n) (r := ⟨.int n, true, []⟩) rfl rfl (by omega)) rfl ⟨z, [], none, none, rfl, by simp, rfl⟩ ?_ ?_
   ·rintro i k ρ hi ⟨z, cs, j5, j6, h1, h2, rfl⟩
    have hin : i < n := by have := (Zh.mp hi).1; simpa using this
    refine ⟨_, rfl, ?_⟩
    refine run_seq (Qoo (a := z) (b := B40) rfl rfl rfl rfl (by decide) (by decide) ?_)
    refine run_seq (Qhv (A := cs) (n := z % B40) rfl rfl rfl (by omega) (QF ⟨z / B40, cs ++ [z % B40], _, _, by simp [h1], λ c hc => ?_, rfl⟩))
    rcases Zx.mp hc with hc | hc
    ·exact h2 c hc
    ·rw [Zw.mp hc]; exact ⟨ZR _ (by decide), ZE _ (by decide)⟩
   ·rintro ρ ⟨z, cs, j5, j6, h1, h2, rfl⟩
    exact ⟨z, cs, j5, j6, by simpa using h1, h2, rfl⟩
  rintro ρ ⟨z, cs, j5, j6, h1, h2, rfl⟩
  refine QC (Qam (b := decide (0 < z)) (Q4 (b := decide (0 < z)) rfl rfl) (λ _ => QL (Q := λ d fr => ∃ cs : List Int, d = Qo cs /\ fr = true /\ cs.length = n /\ ∀ c ∈ cs, 0 <= c /\ c < B40) (r := ⟨Qo cs, true, [4]⟩) rfl ⟨cs, rfl, rfl, h1, h2⟩ |> λ h => h.mono λ o ho => by cases o <;> first | exact ho | exact ho.elim) (λ _ => QF ?_))
  refine run_seq (Qn (r := ⟨Qo [], true, []⟩) rfl ?_)
  rw [Qs]
  refine Qa4 (P := λ ρ => ∃ (cs' : List Int) (j5 j8 : Option (D × Bool)), cs'.length = n /\ (∀ c ∈ cs', 0 <= c /\ c < B40) /\ ρ = [some (.lst (ns.map .int), false), some (.int n, true), some (.int B40, true), some (.int z, true), some (Qo cs, true), j5, j6, some (Qo cs', true), j8]) ?_ ?_
  ·refine Qbz (List.range n) (λ i ρ => ∃ (cs' : List Int) (j5 j8 : Option (D × Bool)), cs'.length = i /\ (∀ c ∈ cs', 0 <= c /\ c < B40) /\ ρ = [some (.lst (ns.map .int), false), some (.int n, true), some (.int B40, true), some (.int z, true), some (Qo cs, true), j5, j6, some (Qo cs', true), j8]) (Qa5 (n := n) (r := ⟨.int n, true, []⟩) rfl rfl (by omega)) rfl ⟨[], _, none, rfl, by simp, rfl⟩ ?_ ?_
   ·rintro i k ρ hi ⟨cs', j5, j8, h3, h4, rfl⟩
    have hin : i < n := by have := (Zh.mp hi).1; simpa using this
    have hk : k < n := by have := Zao hi; simpa using this
    refine ⟨_, rfl, ?_⟩
    refine run_seq (Qn (r := ⟨.int 7919, true, []⟩) rfl ?_)
    rw [Qs]
    refine Qa4 (P := λ ρ => ∃ y : Int, ρ = [some (.lst (ns.map .int), false), some (.int n, true), some (.int B40, true), some (.int z, true), some (Qo cs, true), some (.int k, true), j6, some (Qo cs', true), some (.int y, true)]) ?_ ?_
    ·refine Qam (QhU (ns := ns) (r := ⟨.lst (ns.map .int), false, []⟩) rfl rfl) (λ h => ?_) (λ _ => QF ⟨7919, rfl⟩)
     have hne : 0 < ns.length := by cases ns with
      | nil => cases h
      | cons a r => simp
     have m1 := ZR (k : Int) (by omega : (ns.length : Int) ≠ 0)
     have m2 := ZE (k : Int) (by omega : (0 : Int) < ns.length)
     have hg : ns[((k : Int) % ns.length).toNat]? = some (ns[((k : Int) % ns.length).toNat]'(by omega)) := ZU _
     have elen : dBf Qax (Qb (Qa 0) Qg) [some (.lst (ns.map .int), false), some (.int n, true), some (.int B40, true), some (.int z, true), some (Qo cs, true), some (.int k, true), j6, some (Qo cs', true), some (.int 7919, true)] = some ⟨.int ns.length, true, []⟩ := by
      rw [Qe9 (r := ⟨.lst (ns.map .int), false, []⟩) (xs := ns.map D.int) rfl rfl, ZA]
     exact run_seq (Qn (Qcz (QbN (ns := ns) (i := (k : Int) % ns.length) rfl rfl (QaP (a := (k : Int)) (b := ns.length) rfl rfl elen rfl (by omega)) rfl m1 hg)) (QF ⟨_, by rw [Qdr rfl]; rfl⟩))
    rintro ρ ⟨y, rfl⟩
    refine run_seq (Qn (QaP (b := 2147483647) (Q5 (b := 48271) (Qah (b := 31) (Qah (Qah (a := y) rfl rfl (Q5 (b := 7919) (Q5 (a := (k : Int)) (b := k) rfl rfl rfl rfl (Qbc (by omega))) rfl rfl rfl (Qem (by decide))) rfl) rfl (Q5 (a := (k : Int)) (b := 104729) rfl rfl rfl rfl (Qem (by decide))) rfl) rfl rfl rfl) rfl rfl rfl (Qem (by decide))) rfl rfl rfl (by decide)) ?_)
    rw [Qs]
    generalize ew : (y + (k : Int) * k * 7919 + (k : Int) * 104729 + 31) * 48271 % 2147483647 = w
    have w1 : 0 <= w := by rw [← ew]; exact ZR _ (by decide)
    have w2 : w < 2147483647 := by rw [← ew]; exact ZE _ (by decide)
    refine run_seq (Qn (QaP (b := 2147483587) (Q5 (QaP (b := 2147483629) (Q5 (a := w) (b := w) rfl rfl rfl rfl (Qbc (by omega))) rfl rfl rfl (by decide)) rfl (Qah (b := 69621) (Q5 (a := 2) (b := (k : Int)) rfl rfl rfl rfl (Qbc (by decide))) rfl rfl rfl) rfl (Qem (by omega))) rfl rfl rfl (by decide)) ?_)
    rw [Qs]
    generalize eu : w * w % 2147483629 * (2 * (k : Int) + 69621) % 2147483587 = u
    have u1 : 0 <= u := by rw [← eu]; exact ZR _ (by decide)
    have u2 : u < 2147483587 := by rw [← eu]; exact ZE _ (by decide)
    have epow : dOp Qb2 (dC (.int 618970019642690137449562111)) (dC (.int 2)) [some (.lst (ns.map .int), false), some (.int n, true), some (.int B40, true), some (.int z, true), some (Qo cs, true), some (.int k, true), j6, some (Qo cs', true), some (.int u, true)] = some ⟨.int (618970019642690137449562111 ^ 2), true, []⟩ := Qkg (a := 618970019642690137449562111) (b := 2) rfl rfl rfl rfl (by decide)
    refine run_seq (Qhv (A := cs') rfl (QaP (b := B40) (Q5 (a := u) rfl rfl epow rfl (Qbc (by omega))) rfl rfl rfl (by decide)) rfl (by omega) (QF ⟨_, _, _, ?_, λ c hc => ?_, rfl⟩))
    ·simp [h3]
    ·rcases Zx.mp hc with hc | hc
     ·exact h4 c hc
     ·rw [Zw.mp hc]; exact ⟨ZR _ (by decide), ZE _ (by decide)⟩
   ·rintro ρ ⟨cs', j5, j8, h3, h4, rfl⟩
    exact ⟨cs', j5, j8, by simpa using h3, h4, rfl⟩
  rintro ρ ⟨cs', j5, j8, h3, h4, rfl⟩
  exact QL (r := ⟨Qo cs', true, [7]⟩) rfl ⟨cs', rfl, rfl, h3, h4⟩
 obtain ⟨o, h1, h2⟩ := key
 cases o with
 | rt d fr =>
  obtain ⟨cs, rfl, rfl, h3, h4⟩ := h2
  exact ⟨cs, by unfold Qq; rw [h1]; rfl, h3, h4⟩
 | _ => exact h2.elim
def Esc (m : Nat) (W : List (Int × Int × Bool)) : Prop := ∀ A : Nat -> Prop, (∃ p, p < m /\ A p) -> ∃ w ∈ W, w.1 < m /\ A w.1.toNat /\ (w.2.1 = m ∨ ¬ A w.2.1.toNat)
theorem Esc.mono {m : Nat} {W W' : List (Int × Int × Bool)} (h : Esc m W) (s : ∀ w ∈ W, w ∈ W') : Esc m W' := λ A hA => let ⟨w, hw, r⟩ := h A hA; ⟨w, s w hw, r⟩
def Qlz (m : Nat) (O : List Int) (w : Int × Int × Bool) (j : Nat) : Prop := O[j]? = some w.1 /\ (w.2.1 = m ∨ ∃ i, i < j /\ O[i]? = some w.2.1)
theorem Qlz.app {m : Nat} {O O' : List Int} {w : Int × Int × Bool} {j : Nat} (h : Qlz m O w j) : Qlz m (O ++ O') w j := by
 obtain ⟨h1, h2⟩ := h
 have hj : j < O.length := (Zh.mp h1).1
 refine ⟨by rw [ZZ hj]; exact h1, ?_⟩
 rcases h2 with h2 | ⟨i, hi, h2⟩
 ·exact .inl h2
 ·exact .inr ⟨i, hi, by rw [ZZ (by omega)]; exact h2⟩
noncomputable def QJ (m : Nat) (g : Nat -> Int) : Int := ((List.range m).map g).sum
theorem QaJ (m : Nat) (g : Nat -> Int) : QJ (m + 1) g = QJ m g + g m := by
 unfold QJ; rw [List.range_succ, Zam, ZaP]; simp
theorem Qav {m : Nat} {f g : Nat -> Int} (h : ∀ i, i < m -> f i = g i) : QJ m f = QJ m g := by
 unfold QJ; rw [Zaf λ i hi => h i (ZF.mp hi)]
theorem Qb5 (m : Nat) (f g : Nat -> Int) : QJ m (λ i => f i + g i) = QJ m f + QJ m g := by
 induction m with
 | zero => rfl
 | succ m ih => rw [QaJ, QaJ, QaJ, ih]; omega
theorem Qa8 (m : Nat) : QJ m (λ _ => 0) = 0 := by
 induction m with
 | zero => rfl
 | succ m ih => rw [QaJ, ih]; rfl
theorem Qc1 {m : Nat} {p : Nat} (hp : p < m) (v : Int) (f : Nat -> Int) : QJ m (λ i => (if i = p then v else 0) * f i) = v * f p := by
 induction m with
 | zero => omega
 | succ m ih =>
  rw [QaJ]
  by_cases h : p = m
  ·subst h
   rw [if_pos rfl, Qav (g := λ _ => 0) λ i hi => by rw [if_neg (by omega)]; simp, Qa8]; simp
  ·rw [ih (by omega), if_neg (λ z => h z.symm)]; simp
noncomputable def Qm (m : Nat) (T : Nat -> Nat -> Int) (f c : Nat -> Int) : Nat -> Int := λ j => f j + QJ m λ i => c i * T i j
theorem Qf6 {m : Nat} {f g : Nat -> Int} (h : ∀ i, i < m -> f i = g i) : Qd m f = Qd m g := by
 unfold Qd
 congr 1
 refine Zaf λ i hi => ?_
 rw [h i (ZF.mp hi)]
theorem QiP {m : Nat} (f g : Nat -> D) : QdR ((List.range m).map f) ((List.range m).map g) = (List.range m).map λ i => .tup [f i, g i] := by
 generalize List.range m = l
 induction l with
 | nil => rfl
 | cons n ns ih => unfold QdR at ih ⊢; simp only [Zv, List.zip_cons_cons, ih]
theorem Qiu {fa fb : DE} {ρ : En} {ra rb : R} {m : Nat} {f g : Nat -> D} (ha : fa ρ = some ra) (ea : ra.d = .lst ((List.range m).map f)) (hb : fb ρ = some rb) (eb : rb.d = .lst ((List.range m).map g)) : Qd8 fa fb ρ = some ⟨(List.range m).map λ i => .tup [f i, g i], ra.M ++ rb.M⟩ := by
 unfold Qd8
 rw [ha, Za, hb, Za, ea, eb]
 simp only [QiP]
theorem QmT (i j : Nat) (s : Int × Int) : (hit i j s).natAbs <= 1 := by unfold hit; split <;> split <;> decide
theorem Qey (i j : Nat) : ∀ S : List (Int × Int), ((S.map (hit i j)).sum).natAbs <= S.length
 | [] => by simp
 | s :: S => by
  have := Qey i j S
  have := QmT i j s
  rw [Zv, Zac, Zz]
  omega
structure Qf8 (m : Nat) (R L : List (Int × Int)) : Prop where
 ex : ∃ W, Esc m W /\ (∀ w ∈ W, GoodW m w) /\ W.length <= 200 /\ R = Qb3 W /\ L = Qcr W
theorem Qf8.good {m : Nat} {R L : List (Int × Int)} (h : Qf8 m R L) : (∀ s ∈ R, Good m s) /\ (∀ s ∈ L, Good m s) /\ R.length <= 200 /\ L.length <= 200 /\ (∀ s ∈ R, s.1 < s.2) /\ ∀ s ∈ L, s.1 < m := by
 obtain ⟨W, _, h2, h3, rfl, rfl⟩ := h.ex
 exact ⟨λ s hs => (Qdz h2 s hs).1, λ s hs => (QdA h2 s hs).1, Zr (Qgp W) h3, Zr (Qgo W) h3, λ s hs => (Qdz h2 s hs).2, λ s hs => (QdA h2 s hs).2⟩
theorem Qgh {α : Type} (m : Nat) (g : Nat -> α -> Int) : ∀ S : List α, QJ m (λ j => (S.map (g j)).sum) = (S.map λ s => QJ m λ j => g j s).sum
 | [] => by simp [Qa8]
 | s :: S => by
  simp only [Zv, Zac]
  rw [Qb5, Qgh m g S]
theorem Qij {α : Type} (c : Int) (f : α -> Int) : ∀ S : List α, c * (S.map f).sum = (S.map λ s => c * f s).sum
 | [] => by simp
 | s :: S => by simp only [Zv, Zac, ZaX, Qij c f S]
theorem Qmg {fa : DE} {ρ : En} {r : R} {m : Nat} {f : Nat -> Int} (h : fa ρ = some r) (e : r.d = Qd m f) : dBf Qei (Qb fa Qg) ρ = some ⟨.int (QJ m f), true, []⟩ := by
 unfold dBf
 rw [QI h (QaQ _), Za]
 have : Qd m f = .lst (((List.range m).map f).map .int) := by unfold Qd; rw [Zax]; rfl
 simp only [e, this, Qei, Qhj, ZV]
 rfl
structure TP (m : Nat) (T : Nat -> Nat -> Int) : Prop where
 neg : ∀ p, p < m -> T p p < 0
 pos : ∀ i j, i < m -> j < m -> i ≠ j -> 0 <= T i j
 bnd : ∀ i j, i < m -> j < m -> (T i j).natAbs < 2 ^ 64
 wt : ∃ w : Nat -> Int, (∀ j, 0 <= w j) /\ ∀ i, i < m -> QJ m (λ j => T i j * w j) <= -1
inductive Leg (m : Nat) (T : Nat -> Nat -> Int) (f : Nat -> Int) : (Nat -> Int) -> Prop where
 | nil : Leg m T f λ _ => 0
 | step {c : Nat -> Int} {p : Nat} {t : Int} : Leg m T f c -> p < m -> 0 <= t -> t * (0 - T p p) <= Qm m T f c p -> Leg m T f (up c p (c p + t))
def Stb (m : Nat) (T : Nat -> Nat -> Int) (g : Nat -> Int) : Prop := ∀ p, p < m -> g p < 0 - T p p
theorem Leg.nonneg {m : Nat} {T : Nat -> Nat -> Int} {f c : Nat -> Int} (h : Leg m T f c) : ∀ i, 0 <= c i := by
 induction h with
 | nil => intro i; exact Zbp _
 | step _ _ ht _ ih =>
  intro i
  unfold up
  split
  ·have := ih ‹Nat›; rename_i p _ _ _ _ _; have := ih p; omega
  ·exact ih i
theorem QfM {m : Nat} {f g : Nat -> Int} (h : ∀ i, i < m -> f i <= g i) : QJ m f <= QJ m g := by
 induction m with
 | zero => exact Zbp _
 | succ m ih =>
  rw [QaJ, QaJ]
  have := ih λ i hi => h i (by omega)
  have := h m (by omega)
  omega
theorem Leg.least {m : Nat} {T : Nat -> Nat -> Int} (tp : TP m T) {f c : Nat -> Int} (h : Leg m T f c) {c' : Nat -> Int} (h0 : ∀ i, i < m -> 0 <= c' i) (hs : Stb m T (Qm m T f c')) : ∀ i, i < m -> c i <= c' i := by
 induction h with
 | nil => exact h0
 | @step c p t _ hp ht hle ih =>
  intro i hi
  unfold up
  split
  ·rename_i e
   subst e
   have key : Qm m T f c i + (c' i - c i) * T i i <= Qm m T f c' i := by
    unfold Qm
    have e1 : QJ m (λ k => c k * T k i) + (c' i - c i) * T i i = QJ m (λ k => c k * T k i + (if k = i then c' i - c i else 0) * T k i) := by rw [Qb5, Qc1 hi]
    have e2 : QJ m (λ k => c k * T k i + (if k = i then c' i - c i else 0) * T k i) <= QJ m (λ k => c' k * T k i) := by
     refine QfM λ k hk => ?_
     by_cases hki : k = i
     ·subst hki; rw [if_pos rfl, ← ZY]; rw [show c k + (c' k - c k) = c' k by omega]; exact Zbp _
     ·rw [if_neg hki, ZP, Zbk]
      exact ZaK (ih k hk) (tp.pos k i hk hi hki)
    omega
   have h1 := hs i hi
   have h2 := tp.neg i hi
   by_cases hlt : c i + t <= c' i
   ·exact hlt
   ·exfalso
    have h3 : (c' i - c i + 1) <= t := by omega
    have h4 : (c' i - c i + 1) * (0 - T i i) <= t * (0 - T i i) := ZaK h3 (by omega)
    have h5 : (c' i - c i + 1) * (0 - T i i) = (0 - T i i) - (c' i - c i) * T i i := by rw [ZY, ZM, Int.mul_sub, ZW]; omega
    omega
  ·exact ih i hi
theorem Leg.unique {m : Nat} {T : Nat -> Nat -> Int} (tp : TP m T) {f c d : Nat -> Int} (hc : Leg m T f c) (hd : Leg m T f d) (sc : Stb m T (Qm m T f c)) (sd : Stb m T (Qm m T f d)) : ∀ i, i < m -> c i = d i := λ i hi => by
 have h1 := hc.least tp (λ i _ => hd.nonneg i) sd i hi
 have h2 := hd.least tp (λ i _ => hc.nonneg i) sc i hi
 omega
theorem QbA {m : Nat} {T : Nat -> Nat -> Int} {f g c d : Nat -> Int} (j : Nat) (h1 : f j = g j) (h2 : ∀ i, i < m -> c i = d i) : Qm m T f c j = Qm m T g d j := by
 unfold Qm
 rw [h1, Qav λ i hi => by rw [h2 i hi]]
theorem Leg.cast {m : Nat} {T : Nat -> Nat -> Int} {f c d : Nat -> Int} (h : Leg m T f c) (e : ∀ i, c i = d i) : Leg m T f d := by
 have : c = d := funext e
 rw [← this]; exact h
theorem Leg.Ql3 {m : Nat} {T : Nat -> Nat -> Int} {f g c : Nat -> Int} (h : Leg m T f c) (e : ∀ i, i < m -> f i = g i) : Leg m T g c := by
 induction h with
 | nil => exact .nil
 | @step c p t _ hp ht hle ih => exact .step ih hp ht (by rw [← QbA (f := f) (g := g) p (e p hp) (λ _ _ => rfl)]; exact hle)
theorem QbS {fa fb : DE} {ρ : En} {ra rb : R} {m : Nat} {f : Nat -> Int} {i : Nat} (ha : fa ρ = some ra) (ea : ra.d = Qd m f) (hb : fb ρ = some rb) (eb : rb.d = .int i) (h : i < m) : Qy fa fb ρ = some ⟨.int (f i), true, []⟩ := by
 have := Qm3 ha ea hb eb (by omega) (by omega)
 rw [ZD] at this
 exact this
def Qi3 (m : Nat) (S : List (Int × Int)) : Prop := ∀ A : Nat -> Prop, (∃ p, p < m /\ A p) -> ∃ s ∈ S, s.1 < m /\ A s.1.toNat /\ (s.2 = m ∨ ¬ A s.2.toNat)
theorem Qj6 {m : Nat} {W : List (Int × Int × Bool)} (h : Esc m W) : Qi3 m (QbG (Qb3 W) (Qcr W)) := λ A hA => by
 obtain ⟨w, hw, h1, h2, h3⟩ := h A hA
 refine ⟨(w.1, w.2.1), ?_, h1, h2, h3⟩
 unfold QbG
 cases e : w.2.2 with
 | true => exact Zb _ (Zag.mpr ⟨w, Zak.mpr ⟨hw, e⟩, rfl⟩)
 | false =>
  have hr : QcB w ∈ Qb3 W := Zag.mpr ⟨w, Zak.mpr ⟨hw, by simp [e]⟩, rfl⟩
  by_cases hlt : w.2.1 < w.1
  ·refine Zf _ (Zb _ (Zag.mpr ⟨QcB w, hr, ?_⟩))
   unfold QcB
   rw [if_pos hlt, if_neg (by omega)]; rfl
  ·refine Zf _ (Zf _ ?_)
   have : QcB w = (w.1, w.2.1) := by
    unfold QcB
    rw [if_neg hlt]
    by_cases hgt : w.2.1 > w.1
    ·rw [if_pos hgt]
    ·rw [if_neg hgt]; rw [show w.2.1 = w.1 by omega]
   rw [← this]; exact hr
inductive Rk (m : Nat) (S : List (Int × Int)) : Nat -> Nat -> Prop where
 | pit {s : Int × Int} {n : Nat} : s ∈ S -> s.2 = m -> Rk m S (n + 1) s.1.toNat
 | step {s : Int × Int} {k n : Nat} : s ∈ S -> s.2 ≠ m -> Rk m S k s.2.toNat -> k < n -> Rk m S n s.1.toNat
theorem QkH {P : Nat -> Prop} (h : ∃ n, P n) : ∃ n, P n /\ ∀ k, k < n -> ¬ P k := by
 obtain ⟨n, hn⟩ := h
 induction n using Nat.strongRecOn with
 | _ n ih =>
  by_cases h : ∃ k, k < n /\ P k
  ·obtain ⟨k, hk, h⟩ := h; exact ih k hk h
  ·exact ⟨n, hn, λ k hk hx => h ⟨k, hk, hx⟩⟩
theorem QoT {m : Nat} {S : List (Int × Int)} (he : Qi3 m S) : ∀ p, p < m -> ∃ n, Rk m S n p := λ p hp => by
 by_cases h : ∃ n, Rk m S n p
 ·exact h
 ·exfalso
  obtain ⟨s, hs, h1, h2, h3⟩ := he (λ p => ¬ ∃ n, Rk m S n p) ⟨p, hp, h⟩
  by_cases e : s.2 = m
  ·exact h2 ⟨1, .pit hs e⟩
  ·rcases h3 with h3 | h3
   ·exact e h3
   ·have : ∃ n, Rk m S n s.2.toNat := ZaU λ z => h3 z
    obtain ⟨k, hk⟩ := this
    exact h2 ⟨k + 1, .step hs e hk (by omega)⟩
theorem Qm9 {m : Nat} {S : List (Int × Int)} (hg : ∀ s ∈ S, Good m s) (he : Qi3 m S) : ∃ r : Nat -> Nat, r m = 0 /\ ∀ p, p < m -> ∃ s ∈ S, s.1 = p /\ r s.2.toNat < r p := by
 have h : ∀ p, ∃ n, (p < m -> Rk m S n p /\ ∀ k, k < n -> ¬ Rk m S k p) /\ (p = m -> n = 0) := λ p => by
  by_cases hp : p < m
  ·obtain ⟨n, hn⟩ := QkH (QoT he p hp)
   exact ⟨n, λ _ => hn, λ z => by omega⟩
  ·exact ⟨0, λ z => absurd z hp, λ _ => rfl⟩
 obtain ⟨r, hr⟩ := Classical.axiomOfChoice h
 refine ⟨r, (hr m).2 rfl, λ p hp => ?_⟩
 have h1 := ((hr p).1 hp).1
 generalize r p = n at h1
 cases h1 with
 | @pit s n hs e =>
  obtain ⟨g1, g2, g3, g4, g5⟩ := hg s hs
  exact ⟨s, hs, by omega, by rw [e, ZD, (hr m).2 rfl]; omega⟩
 | @step s k n hs e hk hkn =>
  obtain ⟨g1, g2, g3, g4, g5⟩ := hg s hs
  refine ⟨s, hs, by omega, ?_⟩
  have hl : s.2.toNat < m := by omega
  have := ((hr s.2.toNat).1 hl).2 k
  have : ¬ k < r s.2.toNat := λ z => this z hk
  omega
theorem Qh0 (r : Nat -> Nat) : ∀ m : Nat, ∃ N, ∀ p, p <= m -> r p <= N
 | 0 => ⟨r 0, λ p hp => by rw [show p = 0 by omega]; exact Zj _⟩
 | m + 1 => by
  obtain ⟨N, hN⟩ := Qh0 r m
  refine ⟨N + r (m + 1), λ p hp => ?_⟩
  by_cases e : p = m + 1
  ·subst e; omega
  ·have := hN p (by omega); omega
theorem Qkz {m : Nat} {i : Nat} {s : Int × Int} (hi : i < m) (g : Good m s) (w : Nat -> Int) (hw : w m = 0) : QJ m (λ j => hit i j s * w j) = if s.1 = i then w s.2.toNat - w i else 0 := by
 obtain ⟨g1, g2, g3, g4, g5⟩ := g
 by_cases h : s.1 = i
 ·rw [if_pos h]
  have e : QJ m (λ j => hit i j s * w j) = QJ m (λ j => (if j = s.2.toNat then 1 else 0) * w j + (if j = i then -1 else 0) * w j) := Qav λ j _ => by
   have : hit i j s = (if j = s.2.toNat then 1 else 0) + (if j = i then -1 else 0) := by
    unfold hit
    by_cases a : s.2 = j
    ·by_cases b : i = j
     ·rw [if_pos ⟨h, a⟩, if_pos ⟨h, b⟩, if_pos (by omega), if_pos b.symm]; omega
     ·rw [if_pos ⟨h, a⟩, if_neg (λ z => b z.2), if_pos (by omega), if_neg (λ z => b z.symm)]; omega
    ·by_cases b : i = j
     ·rw [if_neg (λ z => a z.2), if_pos ⟨h, b⟩, if_neg (by omega), if_pos b.symm]; omega
     ·rw [if_neg (λ z => a z.2), if_neg (λ z => b z.2), if_neg (by omega), if_neg (λ z => b z.symm)]; omega
   rw [this, ZY]
  rw [e, Qb5, Qc1 hi]
  by_cases hm : s.2.toNat < m
  ·rw [Qc1 hm]; omega
  ·have e2 : QJ m (λ j => (if j = s.2.toNat then 1 else 0) * w j) = 0 := by
    rw [Qav (g := λ _ => 0) λ j hj => by rw [if_neg (by omega), ZP], Qa8]
   rw [e2, show s.2.toNat = m by omega, hw]; omega
 ·rw [if_neg h]
  rw [Qav (g := λ _ => 0) λ j hj => by
   unfold hit
   rw [if_neg (λ z => h z.1), if_neg (λ z => h z.1)]; rw [Int.sub_self, ZP], Qa8]
theorem Qff {α : Type} {g : α -> Int} {X : Int} : ∀ S : List α, (∀ s ∈ S, g s <= X) -> (S.map g).sum <= S.length * X
 | [], _ => by simp
 | a :: S, h => by
  have h1 := h a (by simp)
  have h2 := Qff S λ s hs => h s (by simp [hs])
  simp only [Zv, Zac, Zz, ZaN, ZY]
  rw [show ((1 : Nat) : Int) * X = X by simp]
  omega
theorem Qfp {α : Type} {g : α -> Int} {X Y : Int} : ∀ (S : List α), (∀ s ∈ S, g s <= X) -> (∃ s ∈ S, g s <= Y) -> (S.map g).sum <= S.length * X - X + Y
 | [], _, h => by obtain ⟨s, hs, _⟩ := h; exact absurd hs (by simp)
 | a :: S, h, h2 => by
  obtain ⟨s, hs, hy⟩ := h2
  have hb : ∀ s ∈ S, g s <= X := λ s hs => h s (by simp [hs])
  simp only [Zv, Zac, Zz, ZaN, ZY]
  rw [show ((1 : Nat) : Int) * X = X by simp]
  rcases Zt.mp hs with e | hs
  ·subst e
   have := Qff S hb
   omega
  ·have := Qfp S hb ⟨s, hs, hy⟩
   have := h a (by simp)
   omega
theorem QfA {α : Type} {g : α -> Int} : ∀ S : List α, (∀ s ∈ S, 0 <= g s) -> 0 <= (S.map g).sum
 | [], _ => by simp
 | a :: S, h => by
  have h1 := h a (by simp)
  have h2 := QfA S λ s hs => h s (by simp [hs])
  simp only [Zv, Zac]
  omega
theorem Qln {m : Nat} {S : List (Int × Int)} (hg : ∀ s ∈ S, Good m s) (he : Qi3 m S) (hl : S.length < 2 ^ 60) : TP m (QbD m S) := by
 have hn : ∀ s ∈ S, 0 <= s.1 /\ 0 <= s.2 := λ s hs => ⟨(hg s hs).1, (hg s hs).2.1⟩
 have pos : ∀ i j, i < m -> j < m -> i ≠ j -> 0 <= QbD m S i j := λ i j hi hj hij => by
  rw [QdC hi hj hn]
  refine QfA S λ s _ => ?_
  unfold hit
  rw [if_neg (λ z => hij z.2) (c := s.1 = i /\ i = j)]
  split <;> omega
 obtain ⟨r, r0, hr⟩ := Qm9 hg he
 obtain ⟨N, hN⟩ := Qh0 r m
 have M1 : 1 <= S.length + 1 := by omega
 have wt : ∃ w : Nat -> Int, (∀ j, 0 <= w j) /\ ∀ i, i < m -> QJ m (λ j => QbD m S i j * w j) <= -1 := by
  refine ⟨λ v => (((S.length + 1) ^ N : Nat) : Int) - (((S.length + 1) ^ (N - r v) : Nat) : Int), λ j => ?_, λ i hi => ?_⟩
  ·have := Zaq M1 (Nat.sub_le N (r j))
   show (0 : Int) <= (((S.length + 1) ^ N : Nat) : Int) - (((S.length + 1) ^ (N - r j) : Nat) : Int)
   omega
  ·generalize hw : (λ v => (((S.length + 1) ^ N : Nat) : Int) - (((S.length + 1) ^ (N - r v) : Nat) : Int)) = w
   have hw' : ∀ v, w v = (((S.length + 1) ^ N : Nat) : Int) - (((S.length + 1) ^ (N - r v) : Nat) : Int) := λ v => by rw [← hw]
   have wm : w m = 0 := by rw [hw', r0, Nat.sub_zero]; omega
   have e : QJ m (λ j => QbD m S i j * w j) = (S.map λ s => if s.1 = (i : Int) then w s.2.toNat - w i else 0).sum := by
    rw [Qav (g := λ j => (S.map λ s => hit i j s * w j).sum) λ j hj => by
     rw [QdC hi hj hn, Zar, Qij]
     congr 1
     exact Zaf λ s _ => Zar _ _]
    rw [Qgh m (λ j s => hit i j s * w j) S]
    congr 1
    exact Zaf λ s hs => Qkz hi (hg s hs) w wm
   rw [e]
   obtain ⟨s0, hs0, e0, hlt⟩ := hr i hi
   generalize hX : (((S.length + 1) ^ (N - r i) : Nat) : Int) = X
   have X1 : 1 <= X := by
    have : 0 < (S.length + 1) ^ (N - r i) := Nat.pow_pos (by omega)
    omega
   have key := Qfp (g := λ s : Int × Int => if s.1 = i then w s.2.toNat - w i else 0) (X := X) (Y := X - (S.length + 1) * X) S (λ s _ => by
    show (if s.1 = i then w s.2.toNat - w i else 0) <= X
    split
    ·rw [hw', hw' i, hX]
     have : 0 <= (((S.length + 1) ^ (N - r s.2.toNat) : Nat) : Int) := Int.natCast_nonneg _
     omega
    ·omega) ⟨s0, hs0, by
    show (if s0.1 = i then w s0.2.toNat - w i else 0) <= _
    rw [if_pos e0, hw', hw' i, hX]
    have hb := hN i (by omega)
    have h1 : (S.length + 1) ^ (N - r i + 1) <= (S.length + 1) ^ (N - r s0.2.toNat) := Zaq M1 (by omega)
    rw [Nat.pow_succ] at h1
    have h2 : ((((S.length + 1) ^ (N - r i) * (S.length + 1) : Nat)) : Int) <= (((S.length + 1) ^ (N - r s0.2.toNat) : Nat) : Int) := by exact_mod_cast h1
    rw [Int.natCast_mul, hX, Zar] at h2
    rw [show ((S.length + 1 : Nat) : Int) = (S.length : Int) + 1 by omega] at h2
    omega⟩
   have : ((S.length : Int) + 1) * X = S.length * X + X := by rw [ZY, ZM]
   omega
 refine ⟨λ p hp => ?_, pos, λ i j hi hj => ?_, wt⟩
 ·obtain ⟨w, w0, hw⟩ := wt
  have h1 := hw p hp
  by_cases hneg : QbD m S p p < 0
  ·exact hneg
  ·exfalso
   have : 0 <= QJ m (λ j => QbD m S p j * w j) := by
    have := QfM (m := m) (f := λ _ => 0) (g := λ j => QbD m S p j * w j) λ j hj => by
     by_cases e : p = j
     ·subst e; exact ZaR (by omega) (w0 _)
     ·exact ZaR (pos p j hp hj e) (w0 _)
    rw [Qa8] at this
    exact this
   omega
 ·rw [QdC hi hj hn]
  have := Qey i j S
  omega
theorem Qf8.tp {m : Nat} {R L : List (Int × Int)} (h : Qf8 m R L) : TP m (QbD m (QbG R L)) := by
 have hg := h.good
 refine Qln (QfH hg.1 hg.2.1) ?_ ?_
 ·obtain ⟨W, h1, _, _, rfl, rfl⟩ := h.ex
  exact Qj6 h1
 ·unfold QbG
  simp only [Zs, ZA]
  omega
theorem Qf8.neg {m : Nat} {R L : List (Int × Int)} (h : Qf8 m R L) {i : Nat} (hi : i < m) : 0 - QbD m (QbG R L) i i = QiR R L i := by
 have hg := h.good
 have hs := QfH hg.1 hg.2.1
 rw [QdC hi hi (λ s z => ⟨(hs s z).1, (hs s z).2.1⟩), sum_neg _ _ (λ s z => (hs s z).2.2.2.2), Qj9]
 omega
structure Told (m : Nat) (T : Nat -> Nat -> Int) (f c : Nat -> Int) : Prop where
 leg : Leg m T f c
 pos : ∀ j, j < m -> 0 <= Qm m T f c j
 stb : Stb m T (Qm m T f c)
theorem QiD {a : Int} {k : Nat} {ρ : En} (h1 : a.natAbs < 2 ^ 200) (h2 : k <= 1000) : dOp Qb2 (dC (.int a)) (dC (.int k)) ρ = some ⟨.int (a ^ k), true, []⟩ := by
 refine Qcp (ra := ⟨.int a, true, []⟩) (rb := ⟨.int k, true, []⟩) rfl rfl ?_
 show (if 0 <= (k : Int) /\ (k : Int) <= 1000 /\ a.natAbs < 2 ^ 200 then some (D.int (a ^ (k : Int).toNat)) else none) = _
 rw [if_pos ⟨by omega, by omega, h1⟩, ZD]
theorem Qmr {fa : DE} {ρ : En} {r : R} {m : Nat} {f : Nat -> Int} (h : fa ρ = some r) (e : r.d = Qd m f) : dBf Qax (Qb fa Qg) ρ = some ⟨.int m, true, []⟩ := by
 rw [Qe9 h e]; simp
theorem Qg3 {fs : DA} {ρ : En} {rs : RA} (h : fs ρ = some rs) (hl : rs.ds.length <= 64) : QaH fs ρ = some ⟨.lst rs.ds, rs.fr, rs.M⟩ := by
 unfold QaH
 rw [h, Za, if_pos hl]
theorem Qdb {fa fb : DE} {ρ : En} {ra rb : R} {m n : Nat} {f : Nat -> Nat -> Int} {i : Int} (ha : fa ρ = some ra) (ea : ra.d = Qc m n f) (hb : fb ρ = some rb) (eb : rb.d = .int i) (h0 : 0 <= i) (h : i < m) : Qy fa fb ρ = some ⟨Qd n (f i.toNat), ra.fr, ra.M⟩ := by
 unfold Qy
 rw [ha, Za, hb, Za, ea, eb]
 simp only [Qc, D.items, Za, QmZ h0 h, ZV]
 rfl
noncomputable def Qi1 : Option Int -> D
 | none => .non
 | some i => .int i
@[simp] theorem Qlw (o : Option Int) : (Qi1 o).flat = true := by cases o <;> rfl
noncomputable def QpT (m : Nat) (F : Nat -> Option Int) : D := .lst ((List.range m).map λ i => Qi1 (F i))
@[simp] theorem Qqh (m : Nat) (F : Nat -> Option Int) : (QpT m F).flat = false := rfl
@[simp] theorem QpL (m : Nat) (F : Nat -> Option Int) : QG ((List.range m).map λ i => Qi1 (F i)) = true := QaI (f := λ i => Qi1 (F i)) (λ _ => Qlw _) _
theorem Qkl {fa fb : DE} {ρ : En} {ra rb : R} {i j : Int} {n : Nat} (ha : fa ρ = some ra) (ea : ra.d = .int i) (hb : fb ρ = some rb) (eb : rb.d = .int j) (hn : (n : Int) = j - i) (hl : n <= 16777216) (h1 : -(2 ^ 62) <= i) (h2 : i < 2 ^ 61) : Qct fa fb ρ = some ⟨(List.range n).map λ (k : Nat) => .int (i + k), []⟩ := by
 unfold Qct
 rw [ha, Za, hb, Za, ea, eb]
 show (if j - i <= 16777216 /\ _ then _ else _) = _
 rw [if_pos ⟨by omega, by omega, by omega, by omega, by omega⟩]
 rw [show (j - i).toNat = n by omega]
 rfl
theorem Leg.mono {m : Nat} {T : Nat -> Nat -> Int} {f g c : Nat -> Int} (h : Leg m T f c) (e : ∀ i, i < m -> f i <= g i) : Leg m T g c := by
 induction h with
 | nil => exact .nil
 | @step c p t _ hp ht hle ih =>
  refine .step ih hp ht ?_
  have := e p hp
  unfold Qm at hle ⊢
  omega
theorem Qe3 {m : Nat} {T : Nat -> Nat -> Int} {f c d : Nat -> Int} (j : Nat) : Qm m T (Qm m T f c) d j = Qm m T f (λ i => c i + d i) j := by
 unfold Qm
 have e : (λ i => (c i + d i) * T i j) = λ i => c i * T i j + d i * T i j := by funext i; rw [ZY]
 rw [e, Qb5]
 show f j + QJ m (λ i => c i * T i j) + _ = _
 omega
theorem QmX {m : Nat} {T : Nat -> Nat -> Int} {f g c d : Nat -> Int} (j : Nat) : Qm m T (λ i => f i + g i) (λ i => c i + d i) j = Qm m T f c j + Qm m T g d j := by
 unfold Qm
 have e : (λ i => (c i + d i) * T i j) = λ i => c i * T i j + d i * T i j := by funext i; rw [ZY]
 rw [e, Qb5]
 show f j + g j + _ = _
 omega
theorem Leg.trans {m : Nat} {T : Nat -> Nat -> Int} {f c d : Nat -> Int} (h : Leg m T f c) (h2 : Leg m T (Qm m T f c) d) : Leg m T f (λ i => c i + d i) := by
 induction h2 with
 | nil => exact h.cast λ i => by simp
 | @step d p t _ hp ht hle ih =>
  rw [Qe3] at hle
  refine (Leg.step ih hp ht hle).cast λ i => ?_
  unfold up
  split
  ·rename_i e; subst e; show c i + d i + t = c i + (d i + t); omega
  ·rfl
theorem Told.lay {m : Nat} {T : Nat -> Nat -> Int} {F C F' h c : Nat -> Int} (hC : Told m T F C) (hF : ∀ j, j < m -> F j <= F' j) (hh : ∀ j, j < m -> h j = Qm m T F C j + (F' j - F j)) (hc : Told m T h c) : Told m T F' (λ i => C i + c i) /\ ∀ j, j < m -> Qm m T h c j = Qm m T F' (λ i => C i + c i) j := by
 have e1 : ∀ j, j < m -> h j = Qm m T F' C j := λ j hj => by
  rw [hh j hj]
  unfold Qm
  omega
 have e2 : ∀ j, j < m -> Qm m T h c j = Qm m T F' (λ i => C i + c i) j := λ j hj => by
  rw [← Qe3]
  exact QbA j (e1 j hj) λ _ _ => rfl
 exact ⟨⟨(hC.leg.mono hF).trans (hc.leg.Ql3 e1), λ j hj => by rw [← e2 j hj]; exact hc.pos j hj, λ j hj => by rw [← e2 j hj]; exact hc.stb j hj⟩, e2⟩
theorem Told.both {m : Nat} {T : Nat -> Nat -> Int} {f g c d e : Nat -> Int} (hf : Told m T f c) (hg : Told m T g d) (g0 : ∀ j, j < m -> 0 <= g j) (he : Told m T (λ j => Qm m T f c j + Qm m T g d j) e) : Told m T (λ j => f j + g j) (λ i => c i + d i + e i) /\ ∀ j, j < m -> Qm m T (λ j => Qm m T f c j + Qm m T g d j) e j = Qm m T (λ j => f j + g j) (λ i => c i + d i + e i) j := by
 have l1 : Leg m T (λ j => f j + g j) c := hf.leg.mono λ j hj => by have := g0 j hj; show f j <= f j + g j; omega
 have a1 : ∀ j, Qm m T (λ j => f j + g j) c j = Qm m T f c j + g j := λ j => by unfold Qm; show f j + g j + _ = _; omega
 have l2 : Leg m T (Qm m T (λ j => f j + g j) c) d := hg.leg.mono λ j hj => by rw [a1]; have := hf.pos j hj; omega
 have l3 : Leg m T (λ j => f j + g j) (λ i => c i + d i) := l1.trans l2
 have a3 : ∀ j, j < m -> Qm m T f c j + Qm m T g d j = Qm m T (λ j => f j + g j) (λ i => c i + d i) j := λ j _ => (QmX j).symm
 have e2 : ∀ j, j < m -> Qm m T (λ j => Qm m T f c j + Qm m T g d j) e j = Qm m T (λ j => f j + g j) (λ i => c i + d i + e i) j := λ j hj => by
  rw [← Qe3 (c := λ i => c i + d i) (d := e)]
  exact QbA j (a3 j hj) λ _ _ => rfl
 exact ⟨⟨l3.trans (he.leg.Ql3 a3), λ j hj => by rw [← e2 j hj]; exact he.pos j hj, λ j hj => by rw [← e2 j hj]; exact he.stb j hj⟩, e2⟩
theorem Told.one {m : Nat} {T : Nat -> Nat -> Int} (tp : TP m T) {f c d : Nat -> Int} (h : Told m T f c) (g : Told m T f d) : ∀ i, i < m -> c i = d i := h.leg.unique tp g.leg h.stb g.stb
abbrev QbL (i : Int) : Prop := Builtin.Int.intBits i <= 2 ^ 20
noncomputable def Qhy : DS := (Qe (QN (Q9 (Qay (Qa 0)) (.nm 1) [none, none, some 1] QaM (Qy (Qa 1) (Qa 2)))) Qp)
def QeS (d : Den) : Prop := ∀ (n m : Nat) (f : Nat -> Nat -> Int) (j : Nat), j < m -> d [Qc n m f, .int j] = some (Qd n (λ i => f i j), true)
theorem QjW : QeS (Qq 2 Qhy) := λ n m f j hj =>
 QY (QL (Qal (toD := λ (i : Nat) => Qd m (f i)) (out := λ (i : Nat) => .int (f i j)) (List.range n) (Qbt (r := ⟨Qc n m f, false, []⟩) rfl rfl) rfl λ i _ => ⟨_, rfl, ⟨.int (f i j), true, []⟩, QbS (m := m) (f := f i) (i := j) (ra := ⟨Qd m (f i), false, []⟩) (rb := ⟨.int j, true, []⟩) rfl rfl rfl rfl hj, rfl, rfl⟩) ⟨rfl, rfl⟩)
noncomputable def Qhr (Qca : Den) : DS := (Qe (QN (Q9 (Qao (dBf Qax (Qb (Qa 0) Qg))) (.nm 1) [none, none, some 0] QaM (Qx 2 Qca [] (Qb (Qa 2) (Qb (Qa 1) Qg))))) Qp)
theorem Qb4 {fa : DE} {ρ : En} {r : R} {n m : Nat} {f : Nat -> Nat -> Int} (h : fa ρ = some r) (e : r.d = Qc n m f) : dBf Qax (Qb fa Qg) ρ = some ⟨.int n, true, []⟩ := by
 rw [Qe9 h e]; simp
def QeH (d : Den) : Prop := ∀ (n : Nat) (f : Nat -> Nat -> Int), n <= 1000 -> d [Qc n n f] = some (Qc n n (λ j i => f i j), true)
theorem QjB {dc : Den} (hc : QeS dc) : QeH (Qq 1 (Qhr dc)) := λ n f hn =>
 QY (QL (Qal (toD := λ (k : Nat) => .int (k : Int)) (out := λ (j : Nat) => Qd n (λ i => f i j)) (List.range n) (Qa5 (n := n) (Qb4 (n := n) (m := n) (f := f) (r := ⟨Qc n n f, false, []⟩) rfl rfl) rfl (by omega)) rfl λ j hj => ⟨[none, some (.int j, true), some (Qc n n f, false)], rfl, ⟨Qd n (λ i => f i j), true, []⟩, Qv (r := ⟨[Qc n n f, .int j], false, []⟩) rfl (hc n n f j (ZF.mp hj)) rfl, rfl, rfl⟩) ⟨rfl, rfl⟩)
noncomputable def Qhk : DS := (Qe (QN (dBf Qei (Qb (Q9 (Qd8 (Qa 0) (Qa 1)) (.tp [1, 2]) [none, none, none] QaM (Q6 (Qa 1) (Qa 2))) Qg))) Qp)
def Qe2 (d : Den) : Prop := ∀ (n : Nat) (a b : Nat -> Int), (∀ i, i < n -> QbL (a i) /\ QbL (b i)) -> d [Qd n a, Qd n b] = some (.int (QJ n λ i => a i * b i), true)
theorem Qkk : Qe2 (Qq 2 Qhk) := λ n a b hb =>
 QY (QL (Qmg (m := n) (f := λ i => a i * b i) (Qal (toD := λ (i : Nat) => .tup [.int (a i), .int (b i)]) (out := λ (i : Nat) => .int (a i * b i)) (List.range n) (Qiu (ra := ⟨Qd n a, false, []⟩) (rb := ⟨Qd n b, false, []⟩) rfl rfl rfl rfl) rfl λ i hi => ⟨[none, some (.int (a i), true), some (.int (b i), true)], rfl, ⟨.int (a i * b i), true, []⟩, Q5 (a := a i) (b := b i) rfl rfl rfl rfl (Qdf (hb i (ZF.mp hi)).1 (hb i (ZF.mp hi)).2), rfl, rfl⟩) rfl) ⟨rfl, rfl⟩)
noncomputable def Qgj (QbZ : Den) : DS := (Qe (QN (Q9 (Qay (Qa 1)) (.nm 1) [none, none, some 0] QaM (Qx 2 QbZ [] (Qb (Qa 2) (Qb (Qa 1) Qg))))) Qp)
def Qe6 (d : Den) : Prop := ∀ (n k : Nat) (a : Nat -> Int) (f : Nat -> Nat -> Int), (∀ i, i < n -> QbL (a i)) -> (∀ j i, j < k -> i < n -> QbL (f j i)) -> d [Qd n a, Qc k n f] = some (Qd k (λ j => QJ n λ i => a i * f j i), true)
theorem Qkq {ds : Den} (hs : Qe2 ds) : Qe6 (Qq 2 (Qgj ds)) := λ n k a f ha hf =>
 QY (QL (Qal (toD := λ (j : Nat) => Qd n (f j)) (out := λ (j : Nat) => .int (QJ n λ i => a i * f j i)) (List.range k) (Qbt (r := ⟨Qc k n f, false, []⟩) rfl rfl) rfl λ j hj => ⟨_, rfl, ⟨.int (QJ n λ i => a i * f j i), true, []⟩, Qv (r := ⟨[Qd n a, Qd n (f j)], false, []⟩) rfl (hs n a (f j) λ i hi => ⟨ha i hi, hf j i (ZF.mp hj) hi⟩) rfl, rfl, rfl⟩) ⟨rfl, rfl⟩)
noncomputable def Qgt (Qb6 : Den) (Qbx : Den) : DS := (Qe (QA 2 (Qx 1 Qb6 [] (Qb (Qa 1) Qg))) (Qe (QN (Q9 (Qay (Qa 0)) (.nm 1) [none, none, some 2] QaM (Qx 2 Qbx [] (Qb (Qa 1) (Qb (Qa 2) Qg))))) Qp))
noncomputable def prodF (n : Nat) (f g : Nat -> Nat -> Int) : Nat -> Nat -> Int := λ i j => QJ n λ k => f i k * g k j
def QgR (n : Nat) (f : Nat -> Nat -> Int) : Prop := ∀ i j, i < n -> j < n -> QbL (f i j)
def QdS (d : Den) : Prop := ∀ (n : Nat) (f g : Nat -> Nat -> Int), n <= 1000 -> QgR n f -> QgR n g -> d [Qc n n f, Qc n n g] = some (Qc n n (prodF n f g), true)
theorem QiM {dt dl : Den} (ht : QeH dt) (hl : Qe6 dl) : QdS (Qq 3 (Qgt dt dl)) := λ n f g hn hf hg => by
 refine QY ?_
 refine run_seq (Qn (Qv (r := ⟨[Qc n n g], false, []⟩) rfl (ht n g hn) rfl) ?_)
 rw [Qs]
 refine QL (r := ⟨Qc n n (prodF n f g), true, []⟩) (Qal (toD := λ (i : Nat) => Qd n (f i)) (out := λ (i : Nat) => Qd n (prodF n f g i)) (List.range n) (Qbt (r := ⟨Qc n n f, false, []⟩) rfl rfl) rfl λ i hi => ⟨_, rfl, ⟨Qd n (prodF n f g i), true, []⟩, Qv (r := ⟨[Qd n (f i), Qc n n (λ j i => g i j)], false, []⟩) rfl (hl n n (f i) (λ j i => g i j) (λ k hk => hf i k (ZF.mp hi) hk) (λ j k hj hk => hg k j hk hj)) rfl, rfl, rfl⟩) ⟨rfl, rfl⟩
theorem QeN {x : Nat} {fa : DE} {ρ : En} {d : D} {xs : List D} {Q : Out -> Prop} (hx : ρ[x]? = some (some (.lst xs, true))) (ha : fa ρ = some ⟨d, true, []⟩) (hl : xs.length < 16777216) (q : Q (.nx (ρ.set x (some (.lst (xs ++ [d]), true))))) : Run (QbE x Qbq fa) ρ Q := by
 refine ⟨_, ?_, q⟩
 have hn : (HS.R.mk d true []).norm = ⟨d, true, []⟩ := by unfold R.norm; split <;> rfl
 unfold QbE
 rw [hx]
 simp only [Qbq, Za, ha, QbK, Qfd, hn, QgY]
 simp [hl, kill, QaK]
theorem QeD {i n : Nat} {f : Nat -> Nat -> Int} : ((List.range i).map λ k => Qd n (f k)) ++ [Qd n (f i)] = (List.range (i + 1)).map λ k => Qd n (f k) := by
 rw [List.range_succ, Zam]; rfl
noncomputable def QcI (QM : Den) : DS := (Qe (sIf (bOr (Qb0 (QP (QeW "list" (Qa 0)))) (QP (dOp gNe (dBf Qax (Qb (Qa 0) Qg)) (Qa 1)))) (Qe (QN (dC (.bl false))) Qp) Qp) (Qe (QN (dOp gEq (dBf Qax (Qb (Q9 (Qay (Qa 0)) (.nm 1) [none, none] (QP (Qx 1 QM [] (Qb (Qa 1) Qg))) (Qa 1)) Qg)) (Qa 1))) Qp))
def Qd2 (d : Den) : Prop := ∀ (n : Nat) (a : Nat -> Int), d [Qd n a, .int n] = some (.bl true, true)
theorem Qmw {dw : Den} (hw : Qc9 dw) : Qd2 (Qq 2 (QcI dw)) := λ n a => by
 refine QY ?_
 refine QC (Qam (b := false) (Qd5 (a := false) (b := false) (Qbh (b := true) (Q4 (b := true) rfl rfl)) (Q4 (b := false) (r := ⟨.bl false, true, []⟩) ((Qfc (a := n) (b := n) (Qmr (m := n) (f := a) (r := ⟨Qd n a, false, []⟩) rfl rfl) rfl (rb := ⟨.int n, true, []⟩) rfl rfl).trans (by simp)) rfl)) (λ h => by cases h) (λ _ => QF ?_))
 have ec := QfQ (fi := Qay (Qa 0)) (t := .nm 1) (cap := [none, none]) (ft := QP (Qx 1 dw [] (Qb (Qa 1) Qg))) (fe := Qa 1) (ρ := [some (Qd n a, false), some (.int n, true)]) (toD := λ (i : Nat) => .int (a i)) (keep := λ _ => true) (out := λ (i : Nat) => .int (a i)) (List.range n) (Qbt (r := ⟨Qd n a, false, []⟩) rfl rfl) rfl λ i _ => ⟨[none, some (.int (a i), true)], rfl, Q4 (b := true) (Qv (r := ⟨[.int (a i)], true, []⟩) rfl (hw (a i)) rfl) rfl, λ _ => ⟨⟨.int (a i), true, []⟩, rfl, rfl, rfl⟩⟩
 have el := Qe9 ec rfl
 rw [ZA, List.filter_eq_self.mpr λ _ _ => rfl, ZO] at el
 exact QL (r := ⟨.bl true, true, []⟩) ((Qdd (a := n) (b := n) el rfl (rb := ⟨.int n, true, []⟩) rfl rfl).trans (by simp)) ⟨rfl, rfl⟩
noncomputable def QcS (QE : Den) : DS := (Qe (sIf (bOr (Qb0 (QP (QeW "list" (Qa 0)))) (QP (dOp gNe (dBf Qax (Qb (Qa 0) Qg)) (Qa 1)))) (Qe (QN (dC (.bl false))) Qp) Qp) (Qe (Qb1 (Qay (Qa 0)) (.nm 2) (Qe (sIf (Qb0 (QP (Qx 2 QE [] (Qb (Qa 2) (Qb (Qa 1) Qg))))) (Qe (QN (dC (.bl false))) Qp) Qp) Qp)) (Qe (QN (dC (.bl true))) Qp)))
def QfX (d : Den) : Prop := ∀ (n : Nat) (f : Nat -> Nat -> Int), d [Qc n n f, .int n] = some (.bl true, true)
theorem Qly {dn : Den} (hn : Qd2 dn) : QfX (Qq 3 (QcS dn)) := λ n f => by
 refine QY ?_
 refine QC (Qam (b := false) (Qd5 (a := false) (b := false) (Qbh (b := true) (Q4 (b := true) rfl rfl)) (Q4 (b := false) (r := ⟨.bl false, true, []⟩) ((Qfc (a := n) (b := n) (Qb4 (n := n) (m := n) (f := f) (r := ⟨Qc n n f, false, []⟩) rfl rfl) rfl (rb := ⟨.int n, true, []⟩) rfl rfl).trans (by simp)) rfl)) (λ h => by cases h) (λ _ => QF ?_))
 refine QC (Qbz (toD := λ (i : Nat) => Qd n (f i)) (List.range n) (λ _ ρ => ∃ j2, ρ = [some (Qc n n f, false), some (.int n, true), j2]) (ir := ⟨(List.range n).map λ i => Qd n (f i), []⟩) rfl rfl ⟨none, rfl⟩ ?_ ?_)
 ·rintro i i' ρ hi ⟨j2, rfl⟩
  refine ⟨[some (Qc n n f, false), some (.int n, true), some (Qd n (f i'), false)], rfl, ?_⟩
  exact QC (Qam (b := false) (Qbh (b := true) (Q4 (b := true) (Qv (r := ⟨[Qd n (f i'), .int n], false, []⟩) rfl (hn n (f i')) rfl) rfl)) (λ h => by cases h) (λ _ => QF (QF ⟨_, rfl⟩)))
 ·rintro ρ ⟨j2, rfl⟩
  exact QL (r := ⟨.bl true, true, []⟩) rfl ⟨rfl, rfl⟩
def InT (n : Nat) (far : Int) (f : Nat -> Nat -> Int) : Prop := ∀ i j, i < n -> j < n -> -far <= f i j /\ f i j <= far
theorem QeU {fa fb : DE} {ρ : En} {ra rb : R} {m k : Nat} {f g : Nat -> Int} (ha : fa ρ = some ra) (ea : ra.d = Qd m f) (hb : fb ρ = some rb) (eb : rb.d = Qd k g) (hl : m + k <= 1000) : Q2 fa fb ρ = some ⟨Qd (m + k) (λ i => if i < m then f i else g (i - m)), true, []⟩ := by
 have e : Qd (m + k) (λ i => if i < m then f i else g (i - m)) = .lst (((List.range m).map λ i => D.int (f i)) ++ ((List.range k).map λ i => D.int (g i))) := by
  unfold Qd
  rw [List.range_add, Zam, Zax]
  congr 2
  ·refine Zaf λ i hi => ?_
   show D.int (if i < m then f i else g (i - m)) = _
   rw [if_pos (ZF.mp hi)]
  ·refine Zaf λ i hi => ?_
   show D.int (if m + i < m then f (m + i) else g (m + i - m)) = _
   rw [if_neg (by omega), Nat.add_sub_cancel_left]
 rw [e]
 unfold Q2
 rw [ha, Za, hb, Za, ea, eb]
 simp only [Qd, ZA, ZO, QgY]
 rw [if_pos (by omega)]
 unfold QaN
 rw [if_pos]
 rw [QbC, Zg]
 exact ⟨QaI (λ _ => rfl) _, QaI (λ _ => rfl) _⟩
noncomputable def sm : Nat -> (Nat -> Int) -> Int
 | 0, _ => 0
 | n + 1, f => sm n f + f n
theorem Qaj {f g : Nat -> Int} : ∀ {n : Nat}, (∀ i, i < n -> f i = g i) -> sm n f = sm n g
 | 0, _ => rfl
 | n + 1, h => by unfold sm; rw [Qaj λ i hi => h i (by omega), h n (by omega)]
theorem Qfl (x y : Int) (f g : Nat -> Int) : ∀ n, sm n (λ i => x * f i + y * g i) = x * sm n f + y * sm n g
 | 0 => by simp [sm]
 | n + 1 => by
  unfold sm
  rw [Qfl x y f g n, ZaX, ZaX]
  show _ + (x * f n + y * g n) = _
  omega
theorem Qeh {f : Nat -> Int} : ∀ {n : Nat}, (∀ i, i < n -> f i = 0) -> sm n f = 0
 | 0, _ => rfl
 | n + 1, h => by unfold sm; rw [Qeh λ i hi => h i (by omega), h n (by omega)]; rfl
theorem QbB {f : Nat -> Int} {c : Nat} : ∀ {n : Nat}, c < n -> (∀ i, i < n -> i ≠ c -> f i = 0) -> sm n f = f c
 | 0, hc, _ => by omega
 | n + 1, hc, h => by
  unfold sm
  by_cases e : c = n
  ·rw [Qeh λ i hi => h i (by omega) (by omega), e]; omega
  ·rw [QbB (c := c) (by omega) λ i hi => h i (by omega), h n (by omega) (Ne.symm e)]; omega
theorem Qe8 {f : Nat -> Int} {c d : Nat} : ∀ {n : Nat}, c < d -> d < n -> (∀ i, i < n -> i ≠ c -> i ≠ d -> f i = 0) -> sm n f = f c + f d
 | 0, _, hc, _ => by omega
 | n + 1, hcd, hd, h => by
  unfold sm
  by_cases e : d = n
  ·rw [QbB (c := c) (by omega) λ i hi ne => h i (by omega) ne (by omega), e]
  ·rw [Qe8 (c := c) (d := d) hcd (by omega) λ i hi => h i (by omega), h n (by omega) (by omega) (by omega)]; omega
theorem QiH (x : Int) (f : Nat -> Int) : ∀ n, sm n (λ i => f i * x) = sm n f * x
 | 0 => by simp [sm]
 | n + 1 => by unfold sm; rw [QiH x f n, ZY]
noncomputable def skp (j c : Nat) : Nat := if c < j then c else c + 1
noncomputable def sgn (j : Nat) : Int := if j % 2 = 0 then 1 else -1
theorem QeF (j : Nat) : sgn (j + 1) = - sgn j := by
 unfold sgn
 by_cases h : j % 2 = 0
 ·rw [if_pos h, if_neg (by omega)]
 ·rw [if_neg h, if_pos (by omega)]; rfl
noncomputable def det : Nat -> (Nat -> Nat -> Int) -> Int
 | 0, _ => 1
 | n + 1, m => sm (n + 1) λ j => sgn j * m j 0 * det n λ c r => m (skp j c) (r + 1)
noncomputable def cup (m : Nat -> Nat -> Int) (c : Nat) (a : Nat -> Int) : Nat -> Nat -> Int := λ j => if j = c then a else m j
theorem Ql (m : Nat -> Nat -> Int) (c : Nat) (a : Nat -> Int) : cup m c a c = a := by unfold cup; rw [if_pos rfl]
theorem Qi (m : Nat -> Nat -> Int) {c j : Nat} (a : Nat -> Int) (h : j ≠ c) : cup m c a j = m j := by unfold cup; rw [if_neg h]
theorem QB (m : Nat -> Nat -> Int) (c : Nat) : cup m c (m c) = m := by
 funext j
 by_cases h : j = c
 ·rw [h, Ql]
 ·rw [Qi _ _ h]
theorem Qde (m : Nat -> Nat -> Int) (c : Nat) (a b : Nat -> Int) : cup (cup m c a) c b = cup m c b := by
 funext j
 by_cases h : j = c
 ·rw [h, Ql, Ql]
 ·rw [Qi _ _ h, Qi _ _ h, Qi _ _ h]
theorem Qw (m : Nat -> Nat -> Int) {c d : Nat} (a b : Nat -> Int) (h : c ≠ d) : cup (cup m c a) d b = cup (cup m d b) c a := by
 funext j
 by_cases h1 : j = c
 ·subst h1; rw [Qi _ _ h, Ql, Ql]
 ·by_cases h2 : j = d
  ·subst h2; rw [Ql, Qi _ _ h1, Ql]
  ·rw [Qi _ _ h2, Qi _ _ h1, Qi _ _ h1, Qi _ _ h2]
theorem Qz : ∀ {n : Nat} {m k : Nat -> Nat -> Int}, (∀ j, j < n -> ∀ r, r < n -> m j r = k j r) -> det n m = det n k
 | 0, _, _, _ => rfl
 | n + 1, m, k, h => by
  unfold det
  refine Qaj λ j hj => ?_
  rw [h j hj 0 (by omega), Qz (n := n) (m := λ c r => m (skp j c) (r + 1)) (k := λ c r => k (skp j c) (r + 1)) λ c hc r hr => h _ (by unfold skp; split <;> omega) _ (by omega)]
theorem QdG (m : Nat -> Nat -> Int) (c : Nat) (v : Nat -> Int) : (λ c' r => cup m c v (skp c c') (r + 1)) = λ c' r => m (skp c c') (r + 1) := by
 funext c' r
 rw [Qi _ _ (by unfold skp; split <;> omega)]
theorem Qdv (m : Nat -> Nat -> Int) {c j : Nat} (v : Nat -> Int) (h : c ≠ j) : (λ c' r => cup m c v (skp j c') (r + 1)) = cup (λ c' r => m (skp j c') (r + 1)) (if c < j then c else c - 1) (λ r => v (r + 1)) := by
 funext c' r
 by_cases e : c' = if c < j then c else c - 1
 ·rw [e, Ql]
  have : skp j (if c < j then c else c - 1) = c := by
   unfold skp
   by_cases q : c < j
   ·rw [if_pos q, if_pos q]
   ·rw [if_neg q, if_neg (by omega)]; omega
  rw [this, Ql]
 ·rw [Qi _ _ e, Qi]
  intro z
  refine e ?_
  unfold skp at z
  by_cases q : c' < j
  ·rw [if_pos q] at z; rw [if_pos (by omega)]; omega
  ·rw [if_neg q] at z; rw [if_neg (by omega)]; omega
theorem Qcv (x y : Int) (a b : Nat -> Int) : ∀ (n : Nat) (m : Nat -> Nat -> Int) (c : Nat), c < n -> ∀ (a b : Nat -> Int), det n (cup m c λ r => x * a r + y * b r) = x * det n (cup m c a) + y * det n (cup m c b)
 | 0, _, _, h, _, _ => by omega
 | n + 1, m, c, h, a, b => by
  unfold det
  rw [← Qfl]
  refine Qaj λ j hj => ?_
  by_cases e : j = c
  ·subst e
   rw [QdG, QdG, QdG, Ql, Ql, Ql]
   generalize det n _ = q
   generalize sgn j = s
   simp only [ZaX, ZY, Zas, ZaY]
  ·rw [Qdv m _ (Ne.symm e), Qdv m _ (Ne.symm e), Qdv m _ (Ne.symm e), Qi _ _ e, Qi _ _ e, Qi _ _ e]
   rw [Qcv x y a b n _ _ (by split <;> omega)]
   generalize det n _ = q
   generalize det n _ = q'
   generalize sgn j * m j 0 = s
   simp only [ZaX, ZaY]
theorem Qeg {n : Nat} {m : Nat -> Nat -> Int} {c : Nat} (h : c < n) (a b : Nat -> Int) : det n (cup m c λ r => a r + b r) = det n (cup m c a) + det n (cup m c b) := by
 have := Qcv 1 1 a b n m c h a b
 simpa only [ZM] using this
theorem QbO {n : Nat} {m : Nat -> Nat -> Int} {c : Nat} (h : c < n) (x : Int) (a : Nat -> Int) : det n (cup m c λ r => x * a r) = x * det n (cup m c a) := by
 have := Qcv x 0 a a n m c h a a
 simpa only [ZP, Zbk] using this
theorem Qee : ∀ (n : Nat) (m : Nat -> Nat -> Int) (c : Nat), c + 1 < n -> m c = m (c + 1) -> det n m = 0
 | 0, _, _, h, _ => by omega
 | n + 1, m, c, h, e => by
  unfold det
  rw [Qe8 (c := c) (d := c + 1) (by omega) h]
  ·have : (λ c' r => m (skp c c') (r + 1)) = λ c' r => m (skp (c + 1) c') (r + 1) := by
    funext c' r
    unfold skp
    by_cases q : c' < c
    ·rw [if_pos q, if_pos (by omega)]
    ·rw [if_neg q]
     by_cases q2 : c' = c
     ·rw [if_pos (by omega), q2, e]
     ·rw [if_neg (by omega)]
   rw [this, QeF, e]
   generalize det n _ = q
   rw [Zat, Zat]; omega
  ·intro j hj h1 h2
   have : det n (λ c' r => m (skp j c') (r + 1)) = 0 := by
    by_cases q : c < j
    ·refine Qee n _ c (by omega) ?_
     funext r
     show m (skp j c) (r + 1) = m (skp j (c + 1)) (r + 1)
     unfold skp
     rw [if_pos q, if_pos (by omega), e]
    ·refine Qee n _ (c - 1) (by omega) ?_
     funext r
     show m (skp j (c - 1)) (r + 1) = m (skp j (c - 1 + 1)) (r + 1)
     unfold skp
     rw [if_neg (by omega), if_neg (by omega), show c - 1 + 1 = c by omega, e]
   rw [this, ZW]
theorem Qez {n : Nat} {m : Nat -> Nat -> Int} {c d : Nat} (hc : c < n) (hd : d < n) (hcd : c ≠ d) (hz : ∀ k : Nat -> Nat -> Int, k c = k d -> det n k = 0) (a b : Nat -> Int) : det n (cup (cup m c a) d b) = - det n (cup (cup m c b) d a) := by
 have z := hz (cup (cup m c λ r => a r + b r) d λ r => a r + b r) (by rw [Ql, Qi _ _ hcd, Ql])
 have za := hz (cup (cup m c a) d a) (by rw [Ql, Qi _ _ hcd, Ql])
 have zb := hz (cup (cup m c b) d b) (by rw [Ql, Qi _ _ hcd, Ql])
 rw [Qeg hd, Qw _ _ _ hcd, Qeg hc, Qw _ _ _ hcd, Qeg hc, Qw _ _ _ (Ne.symm hcd), Qw _ _ _ (Ne.symm hcd), Qw _ _ _ (Ne.symm hcd), Qw _ _ _ (Ne.symm hcd), za, zb] at z
 omega
theorem QfW : ∀ (g n : Nat) (m : Nat -> Nat -> Int) (i : Nat), i + g + 1 < n -> m i = m (i + g + 1) -> det n m = 0
 | 0, n, m, i, h, e => Qee n m i h e
 | g + 1, n, m, i, h, e => by
  have := Qez (m := m) (c := i + g + 1) (d := i + g + 1 + 1) (by omega) (by omega) (by omega) (λ k hk => Qee n k _ (by omega) hk) (m (i + g + 1)) (m (i + g + 1 + 1))
  rw [QB, QB] at this
  rw [this, QfW g n _ i (by omega)]
  ·rfl
  ·rw [Qi _ _ (by omega), Qi _ _ (by omega), Qi _ _ (by omega), Ql]
   exact e
theorem QcC {n : Nat} {m : Nat -> Nat -> Int} {i j : Nat} (hi : i < n) (hj : j < n) (hij : i ≠ j) (e : m i = m j) : det n m = 0 := by
 rcases Nat.lt_or_gt_of_ne hij with h | h
 ·exact QfW (j - i - 1) n m i (by omega) (by rw [show i + (j - i - 1) + 1 = j by omega]; exact e)
 ·exact QfW (i - j - 1) n m j (by omega) (by rw [show j + (i - j - 1) + 1 = i by omega]; exact e.symm)
theorem Qaw {n : Nat} {m : Nat -> Nat -> Int} {c d : Nat} (hc : c < n) (hd : d < n) (hcd : c ≠ d) (a b : Nat -> Int) : det n (cup (cup m c a) d b) = - det n (cup (cup m c b) d a) := Qez hc hd hcd (λ k hk => QcC hc hd hcd hk) a b
theorem Qc8 {n : Nat} {m : Nat -> Nat -> Int} {c : Nat} (h : c < n) (x : Nat -> Int) (E : Nat -> Nat -> Int) : ∀ k, det n (cup m c λ r => sm k λ s => x s * E s r) = sm k λ s => x s * det n (cup m c (E s))
 | 0 => by
  have := QbO (m := m) h 0 λ _ => 0
  rw [ZP] at this
  unfold sm
  simpa using this
 | k + 1 => by
  unfold sm
  rw [Qeg h, Qc8 h x E k, QbO h]
theorem Qg8 : ∀ {n : Nat} (σ : Nat -> Nat), (∀ j, j < n + 1 -> σ j < n) -> ∃ i j, i < n + 1 /\ j < n + 1 /\ i ≠ j /\ σ i = σ j
 | 0, σ, h => absurd (h 0 (by omega)) (by omega)
 | n + 1, σ, h => by
  by_cases q : ∃ i, i < n + 1 /\ σ i = σ (n + 1)
  ·obtain ⟨i, hi, e⟩ := q
   exact ⟨i, n + 1, by omega, by omega, by omega, e⟩
  ·have ne : ∀ i, i < n + 1 -> σ i ≠ σ (n + 1) := λ i hi e => q ⟨i, hi, e⟩
   have hv := h (n + 1) (by omega)
   obtain ⟨i, j, hi, hj, hij, e⟩ := Qg8 (n := n) (λ j => if σ (n + 1) < σ j then σ j - 1 else σ j) λ j hj => by
    have := h j (by omega)
    have := ne j hj
    show (if σ (n + 1) < σ j then σ j - 1 else σ j) < n
    by_cases c : σ (n + 1) < σ j
    ·rw [if_pos c]; omega
    ·rw [if_neg c]; omega
   refine ⟨i, j, by omega, by omega, hij, ?_⟩
   have a := ne i hi
   have b := ne j hj
   have e : (if σ (n + 1) < σ i then σ i - 1 else σ i) = (if σ (n + 1) < σ j then σ j - 1 else σ j) := e
   by_cases c : σ (n + 1) < σ i
   ·rw [if_pos c] at e
    by_cases d : σ (n + 1) < σ j
    ·rw [if_pos d] at e; omega
    ·rw [if_neg d] at e; omega
   ·rw [if_neg c] at e
    by_cases d : σ (n + 1) < σ j
    ·rw [if_pos d] at e; omega
    ·rw [if_neg d] at e; omega
theorem Qhw {n : Nat} {E : Nat -> Nat -> Int} {x : Nat -> Nat -> Int} : ∀ (k : Nat) (W : Nat -> Nat -> Int) (σ : Nat -> Nat), k <= n + 1 -> (∀ j, j < n + 1 -> σ j < n) -> (∀ j, j < k -> W j = λ r => sm n λ s => x j s * E s r) -> (∀ j, k <= j -> j < n + 1 -> W j = E (σ j)) -> det (n + 1) W = 0
 | 0, W, σ, hk, hσ, _, h2 => by
  obtain ⟨i, j, hi, hj, hij, e⟩ := Qg8 σ hσ
  exact QcC hi hj hij (by rw [h2 i (by omega) hi, h2 j (by omega) hj, e])
 | k + 1, W, σ, hk, hσ, h1, h2 => by
  have := Qc8 (n := n + 1) (m := W) (c := k) (by omega) (x k) E n
  rw [← h1 k (by omega), QB] at this
  rw [this]
  refine Qeh λ s hs => ?_
  rw [Qhw k (cup W k (E s)) (λ j => if j = k then s else σ j) (by omega) (λ j hj => by show (if j = k then s else σ j) < n; by_cases e : j = k; (rw [if_pos e]; exact hs); (rw [if_neg e]; exact hσ j hj)) (λ j hj => by rw [Qi _ _ (by omega)]; exact h1 j (by omega)) λ j h3 h4 => ?_, ZW]
  show cup W k (E s) j = E (if j = k then s else σ j)
  by_cases e : j = k
  ·rw [e, Ql, if_pos rfl]
  ·rw [Qi _ _ e, if_neg e]; exact h2 j (by omega) h4
noncomputable def cyc (m : Nat -> Nat -> Int) (a : Nat -> Int) (l k : Nat) : Nat -> Nat -> Int := λ c => if c < k then m c else if c = k then a else if c <= l then m (c - 1) else m c
theorem QlA {n : Nat} (m : Nat -> Nat -> Int) (a : Nat -> Int) {l k : Nat} (hk : k < l) (hl : l < n) : det n (cyc m a l k) = - det n (cyc m a l (k + 1)) := by
 have h := Qaw (n := n) (m := cyc m a l k) (c := k) (d := k + 1) (by omega) (by omega) (by omega) a (m k)
 have e1 : cup (cup (cyc m a l k) k a) (k + 1) (m k) = cyc m a l k := by
  have q1 : cyc m a l k k = a := by unfold cyc; rw [if_neg (by omega), if_pos rfl]
  have q2 : cyc m a l k (k + 1) = m k := by unfold cyc; rw [if_neg (by omega), if_neg (by omega), if_pos (by omega), ZaS]
  have := QB (cyc m a l k) k
  rw [q1] at this
  rw [this, ← q2, QB]
 have e2 : cup (cup (cyc m a l k) k (m k)) (k + 1) a = cyc m a l (k + 1) := by
  funext c
  by_cases h1 : c = k + 1
  ·subst h1; rw [Ql]; unfold cyc; rw [if_neg (by omega), if_pos rfl]
  ·rw [Qi _ _ h1]
   by_cases h2 : c = k
   ·subst h2; rw [Ql]; unfold cyc; rw [if_pos (by omega)]
   ·rw [Qi _ _ h2]
    unfold cyc
    by_cases h3 : c < k
    ·rw [if_pos h3, if_pos (by omega)]
    ·rw [if_neg h3, if_neg h2, if_neg (show ¬ c < k + 1 by omega), if_neg h1]
 rw [e1, e2] at h
 exact h
theorem Qf7 {n : Nat} (m : Nat -> Nat -> Int) (a : Nat -> Int) {l : Nat} (hl : l < n) : ∀ g k, k + g = l -> det n (cyc m a l k) = sgn g * det n (cup m l a)
 | 0, k, h => by
  have : cyc m a l k = cup m l a := by
   funext c
   unfold cyc cup
   by_cases h1 : c = l
   ·rw [if_neg (by omega), if_pos (by omega), if_pos h1]
   ·rw [if_neg h1]
    by_cases h2 : c < k
    ·rw [if_pos h2]
    ·rw [if_neg h2, if_neg (by omega), if_neg (by omega)]
  rw [this]; unfold sgn; simp
 | g + 1, k, h => by
  rw [QlA m a (by omega) hl, Qf7 m a hl g (k + 1) (by omega), QeF, Zat]
theorem QkD (j : Nat) : sgn j * sgn j = 1 := by unfold sgn; split <;> rfl
noncomputable def bE (r s q : Nat) : Int := if q = 0 then (if s = r then 1 else 0) else if s = q - 1 then 1 else 0
theorem QhY {n : Nat} (m : Nat -> Nat -> Int) (a : Nat -> Int) {r : Nat} (hr : r < n) : det n m * a r = sm n λ l => det n (cup m l a) * m l r := by
 have v0 : ∃ v : Nat -> Nat -> Int, v = λ j => if j = 0 then a else m (j - 1) := ⟨_, rfl⟩
 obtain ⟨v, hv⟩ := v0
 have hv0 : v 0 = a := by rw [hv]; rfl
 have hvs : ∀ j, v (j + 1) = m j := λ j => by rw [hv]; show (if j + 1 = 0 then a else m (j + 1 - 1)) = _; rw [if_neg (by omega), ZaS]
 have z : det (n + 1) (λ j s => if s = 0 then v j r else v j (s - 1)) = 0 := by
  have key : det (n + 1) (λ j q => sm n λ s => v j s * bE r s q) = 0 :=
   Qhw (E := bE r) (x := v) (n + 1) _ (λ _ => r) (by omega) (λ _ _ => hr) (λ j _ => rfl) (λ j h1 h2 => by omega)
  rw [← key]
  refine Qz λ j hj s hs => ?_
  by_cases e : s = 0
  ·subst e
   rw [if_pos rfl, QbB (c := r) hr]
   ·unfold bE; rw [if_pos rfl, if_pos rfl, ZaV]
   ·intro i _ ne; unfold bE; rw [if_pos rfl, if_neg ne, ZW]
  ·rw [if_neg e, QbB (c := s - 1) (by omega)]
   ·unfold bE; rw [if_neg e, if_pos rfl, ZaV]
   ·intro i _ ne; unfold bE; rw [if_neg e, if_neg ne, ZW]
 unfold det at z
 have term : ∀ j, (sgn j * (if (0 : Nat) = 0 then v j r else v j (0 - 1)) * det n λ c q => if q + 1 = 0 then v (skp j c) r else v (skp j c) (q + 1 - 1)) = sgn j * v j r * det n λ c => v (skp j c) := λ j => by
  rw [if_pos rfl]
  congr 1
 have first : ∀ (k : Nat) (f : Nat -> Int), sm (k + 1) f = f 0 + sm k λ i => f (i + 1) := λ k f => by
  induction k with
  | zero => show 0 + f 0 = f 0 + 0; omega
  | succ k ih => show sm (k + 1) f + f (k + 1) = _; rw [ih]; show _ = f 0 + (sm k (λ i => f (i + 1)) + f (k + 1)); omega
 rw [Qaj λ j _ => term j, first] at z
 have t0 : (λ c => v (skp 0 c)) = m := by funext c; unfold skp; rw [if_neg (by omega), hvs]
 have tl : ∀ l, l < n -> sgn (l + 1) * v (l + 1) r * det n (λ c => v (skp (l + 1) c)) = - (det n (cup m l a) * m l r) := λ l hl => by
  have : (λ c => v (skp (l + 1) c)) = cyc m a l 0 := by
   funext c
   unfold skp cyc
   by_cases h0 : c = 0
   ·subst h0; rw [if_pos (show 0 < l + 1 by omega), if_neg (show ¬ 0 < 0 by omega), if_pos rfl, hv0]
   ·obtain ⟨c', rfl⟩ : ∃ c', c = c' + 1 := ⟨c - 1, by omega⟩
    rw [if_neg (show ¬ c' + 1 < 0 by omega), if_neg h0]
    by_cases h1 : c' + 1 <= l
    ·rw [if_pos (show c' + 1 < l + 1 by omega), if_pos h1, hvs, ZaS]
    ·rw [if_neg (show ¬ c' + 1 < l + 1 by omega), if_neg h1, hvs]
  rw [this, Qf7 m a hl l 0 (by omega), hvs, QeF]
  have q := QkD l
  generalize det n (cup m l a) = d at *
  generalize m l r = x at *
  have : - sgn l * x * (sgn l * d) = - (sgn l * sgn l * (d * x)) := by
   rw [Zat, Zat, Zas, ZaY x, ← Zas, Zar x d]
  rw [this, q, ZM]
 rw [t0, hv0] at z
 have neg := Qfl (-1) 0 (λ l => det n (cup m l a) * m l r) (λ _ => 0) n
 rw [Qaj (g := λ l => -1 * (det n (cup m l a) * m l r) + 0 * 0) λ l hl => by rw [tl l hl]; omega] at z
 have s0 : sgn 0 = 1 := rfl
 rw [neg, s0, ZM] at z
 rw [Zar]
 omega
theorem QkL {n : Nat} (m : Nat -> Nat -> Int) (u a : Nat -> Int) {k i : Nat} (hk : k < n) (hi : i < n) (hki : k ≠ i) : det n m * det n (cup (cup m k u) i a) = det n (cup m k u) * det n (cup m i a) - det n (cup m i u) * det n (cup m k a) := by
 have h1 : det n m * det n (cup (cup m k u) i a) = det n (cup (cup m i a) k λ r => det n m * u r) := by
  rw [QbO hk, Qw _ _ _ hki]
 have h2 : det n (cup (cup m i a) k λ r => det n m * u r) = det n (cup (cup m i a) k λ r => sm n λ l => det n (cup m l u) * m l r) := by
  refine Qz λ j hj r hr => ?_
  by_cases e : j = k
  ·subst e; rw [Ql, Ql]; exact QhY m u hr
  ·rw [Qi _ _ e, Qi _ _ e]
 rw [h1, h2, Qc8 hk (λ l => det n (cup m l u)) m n]
 have tk : det n (cup (cup m i a) k (m k)) = det n (cup m i a) := by rw [Qw _ _ _ (Ne.symm hki), QB]
 have ti : det n (cup (cup m i a) k (m i)) = - det n (cup m k a) := by
  rw [Qaw hi hk (Ne.symm hki), QB]
 have tn : ∀ l, l < n -> l ≠ k -> l ≠ i -> det n (cup (cup m i a) k (m l)) = 0 := λ l hl h1 h2 => QcC hk hl (Ne.symm h1) (by rw [Ql, Qi _ _ h1, Qi _ _ h2])
 rcases Nat.lt_or_gt_of_ne hki with h | h
 ·rw [Qe8 (c := k) (d := i) h hi λ l hl a b => by rw [tn l hl a b, ZW], tk, ti, Int.mul_neg]; omega
 ·rw [Qe8 (c := i) (d := k) h hk λ l hl a b => by rw [tn l hl b a, ZW], tk, ti, Int.mul_neg]; omega
noncomputable def Qk (j r : Nat) : Int := if j = r then 1 else 0
theorem QdB : ∀ n, det n Qk = 1
 | 0 => rfl
 | n + 1 => by
  unfold det
  rw [QbB (c := 0) (by omega) λ i _ ne => by unfold Qk; rw [if_neg ne, ZW, ZP]]
  have : (λ c r => Qk (skp 0 c) (r + 1)) = Qk := by
   funext c r
   have e : skp 0 c = c + 1 := by unfold skp; rw [if_neg (by omega)]
   rw [e]
   unfold Qk
   by_cases h : c = r
   ·rw [if_pos h, if_pos (by omega)]
   ·rw [if_neg h, if_neg (by omega)]
  rw [this, QdB n]
  unfold Qk sgn
  simp
theorem QhT {n : Nat} (a : Nat -> Int) {i : Nat} (hi : i < n) : det n (cup Qk i a) = a i := by
 have := QhY Qk a hi
 rw [QdB, ZM, QbB (c := i) hi λ l _ ne => by rw [show Qk l i = 0 by unfold Qk; rw [if_neg ne], ZW]] at this
 rw [this, show Qk i i = 1 by unfold Qk; rw [if_pos rfl], ZaV]
structure Clr (n N k : Nat) (A m R : Nat -> Nat -> Int) (d : Int) : Prop where
 le : k <= n
 det : HS.det n m = d
 nz : d ≠ 0
 ent : ∀ i j, i < n -> j < N -> R i j = HS.det n (cup m i (A j))
 own : ∀ j, j < k -> m j = A j
theorem Clr.start (n N : Nat) (A : Nat -> Nat -> Int) : Clr n N 0 A Qk (λ i j => A j i) 1 := ⟨by omega, QdB n, by decide, λ i j hi _ => (QhT (A j) hi).symm, λ j hj => by omega⟩
theorem Clr.exact {n N k : Nat} {A m R : Nat -> Nat -> Int} {d : Int} (h : Clr n N k A m R d) (hk : k < n) (kN : k < N) {i j : Nat} (hi : i < n) (hj : j < N) (ne : i ≠ k) : R k k * R i j - R i k * R k j = d * HS.det n (cup (cup m k (A k)) i (A j)) := by
 rw [h.ent k k hk kN, h.ent i j hi hj, h.ent i k hi kN, h.ent k j hk hj, ← QkL m (A k) (A j) hk hi (Ne.symm ne), h.det]
theorem Clr.step {n N k : Nat} {A m R R' : Nat -> Nat -> Int} {d : Int} (h : Clr n N k A m R d) (hk : k < n) (kN : k < N) (hp : R k k ≠ 0) (h1 : ∀ j, j < N -> R' k j = R k j) (h2 : ∀ i j, i < n -> i ≠ k -> j < N -> ∀ q, R k k * R i j - R i k * R k j = d * q -> R' i j = q) : Clr n N (k + 1) A (cup m k (A k)) R' (R k k) := by
 refine ⟨hk, (h.ent k k hk kN).symm, hp, λ i j hi hj => ?_, λ j hj => ?_⟩
 ·by_cases e : i = k
  ·subst e
   rw [h1 j hj, h.ent i j hi hj, Qde]
  ·exact h2 i j hi e hj _ (h.exact hk kN hi hj e)
 ·by_cases e : j = k
  ·subst e; rw [Ql]
  ·rw [Qi _ _ e]; exact h.own j (by omega)
theorem Clr.swap {n N k : Nat} {A m R R' : Nat -> Nat -> Int} {d : Int} (h : Clr n N k A m R d) {i : Nat} (hk : k < n) (hi : i < n) (hki : k < i) (h1 : ∀ j, j < N -> R' k j = R i j) (h2 : ∀ j, j < N -> R' i j = - R k j) (h3 : ∀ l j, l < n -> l ≠ k -> l ≠ i -> j < N -> R' l j = R l j) : ∃ m', Clr n N k A m' R' d := by
 have ne : k ≠ i := by omega
 have neg : ∀ (c : Nat), c < n -> ∀ (M : Nat -> Nat -> Int) (a : Nat -> Int), HS.det n (cup M c λ r => - a r) = - HS.det n (cup M c a) := λ c hc M a => by
  have := QbO (m := M) hc (-1) a
  simpa only [Zat, ZM] using this
 refine ⟨cup (cup m k (m i)) i λ r => - m k r, h.le, ?_, h.nz, λ l j hl hj => ?_, λ j hj => ?_⟩
 ·rw [neg i hi, Qaw hk hi ne, ZaM, QB, QB]; exact h.det
 ·by_cases e1 : l = k
  ·subst e1
   rw [h1 j hj, h.ent i j hi hj, Qw _ _ _ (Ne.symm ne), Qde, neg i hi, Qaw hl hi ne, ZaM, QB]
  ·by_cases e2 : l = i
   ·subst e2
    rw [h2 j hj, h.ent k j hk hj, Qde, Qaw hk hl ne, Qw _ _ _ ne]
    have := QB m l
    rw [this]
   ·rw [h3 l j hl e1 e2 hj, h.ent l j hl hj, Qw _ _ _ (Ne.symm e2), neg i hi, Qw _ _ _ (Ne.symm e1), Qaw hk hi ne, ZaM]
    rw [Qw _ _ _ e1, QB, Qw _ _ _ e2, QB]
 ·rw [Qi _ _ (by omega), Qi _ _ (by omega)]; exact h.own j hj
theorem Clr.tell {n N k : Nat} {A m R : Nat -> Nat -> Int} {d : Int} (h : Clr n N k A m R d) {j r : Nat} (hj : j < N) (hr : r < n) : d * A j r = sm n λ l => R l j * m l r := by
 have := QhY m (A j) hr
 rw [h.det] at this
 rw [this]
 exact Qaj λ l hl => by rw [h.ent l j hl hj]
noncomputable def bnd (B : Nat) : Nat -> Nat
 | 0 => 1
 | n + 1 => (n + 1) * (B * bnd B n)
theorem Qhh {f : Nat -> Int} {C : Nat} : ∀ {n : Nat}, (∀ i, i < n -> (f i).natAbs <= C) -> (sm n f).natAbs <= n * C
 | 0, _ => by simp [sm]
 | n + 1, h => by
  unfold sm
  have h1 := Qhh (n := n) λ i hi => h i (by omega)
  have h2 := h n (by omega)
  have := Int.natAbs_add_le (sm n f) (f n)
  rw [Zbi]
  omega
theorem Ql7 (j : Nat) : (sgn j).natAbs = 1 := by unfold sgn; split <;> rfl
theorem Qcs {B : Nat} : ∀ {n : Nat} {m : Nat -> Nat -> Int}, (∀ j, j < n -> ∀ r, r < n -> (m j r).natAbs <= B) -> (det n m).natAbs <= bnd B n
 | 0, _, _ => by show (1 : Int).natAbs <= 1; decide
 | n + 1, m, h => by
  unfold det bnd
  refine Qhh λ j hj => ?_
  rw [Zbq, Zbq, Ql7, Nat.one_mul]
  refine ZaE (h j hj 0 (by omega)) (Qcs λ c hc r hr => h _ ?_ _ (by omega))
  unfold skp
  split <;> omega
theorem Qjz {n : Nat} (hn : n <= 8) : bnd (2 ^ 200) n < 2 ^ 2000 := by
 have h : ∀ k, k < 9 -> bnd (2 ^ 200) k < 2 ^ 2000 := by decide +kernel
 exact h n (by omega)
def Qi8 (n : Nat) (m : Nat -> Nat -> Int) : Prop := ∀ j, j < n -> ∀ r, r < n -> (m j r).natAbs <= 2 ^ 200
structure QeM (n N k : Nat) (A m R : Nat -> Nat -> Int) (d : Int) : Prop where
 clr : Clr n N k A m R d
 unit : ∀ l, k <= l -> l < n -> m l = Qk l
 col : Qi8 n m
theorem Qi8.put {n : Nat} {m : Nat -> Nat -> Int} (h : Qi8 n m) {i : Nat} {a : Nat -> Int} (ha : ∀ r, r < n -> (a r).natAbs <= 2 ^ 200) : Qi8 n (cup m i a) := λ j hj r hr => by
 by_cases e : j = i
 ·subst e; rw [Ql]; exact ha r hr
 ·rw [Qi _ _ e]; exact h j hj r hr
theorem QeM.start (n N : Nat) (A : Nat -> Nat -> Int) : QeM n N 0 A Qk (λ i j => A j i) 1 := ⟨Clr.start n N A, λ _ _ _ => rfl, λ j _ r _ => by unfold Qk; split <;> decide⟩
theorem QeM.small {n N k : Nat} {A m R : Nat -> Nat -> Int} {d : Int} (h : QeM n N k A m R d) (hn : n <= 8) (hA : ∀ j, j < N -> ∀ r, r < n -> (A j r).natAbs <= 2 ^ 200) : d.natAbs < 2 ^ 2000 /\ ∀ i j, i < n -> j < N -> (R i j).natAbs < 2 ^ 2000 := by
 have b := Qjz hn
 refine ⟨?_, λ i j hi hj => ?_⟩
 ·rw [← h.clr.det]; exact ZX (Qcs h.col) b
 ·rw [h.clr.ent i j hi hj]; exact ZX (Qcs (h.col.put (hA j hj))) b
theorem QhB {f : Nat -> Int} {k : Nat} : ∀ {n : Nat}, k <= n -> (∀ i, k <= i -> i < n -> f i = 0) -> sm n f = sm k f
 | 0, h, _ => by rw [Nat.le_zero.mp h]
 | n + 1, h, z => by
  by_cases e : k = n + 1
  ·rw [e]
  ·show sm n f + f n = sm k f
   rw [QhB (n := n) (by omega) λ i h1 h2 => z i h1 (by omega), z n (by omega) (by omega), Zbk]
theorem QeM.step {n N k : Nat} {A m R R' : Nat -> Nat -> Int} {d : Int} (h : QeM n N k A m R d) (hk : k < n) (kN : k < N) (hA : ∀ j, j < N -> ∀ r, r < n -> (A j r).natAbs <= 2 ^ 200) (hp : R k k ≠ 0) (h1 : ∀ j, j < N -> R' k j = R k j) (h2 : ∀ i j, i < n -> i ≠ k -> j < N -> ∀ q, R k k * R i j - R i k * R k j = d * q -> R' i j = q) : QeM n N (k + 1) A (cup m k (A k)) R' (R k k) :=
 ⟨h.clr.step hk kN hp h1 h2, λ l h3 h4 => by rw [Qi _ _ (by omega)]; exact h.unit l (by omega) h4, h.col.put (hA k kN)⟩
theorem Qbo {i : Int} (h : i.natAbs < 2 ^ 2000) : QbL i := Zr (PyProof.Rows.intBits_le h) (by decide)
theorem Qjs {a d q : Int} (hd : d ≠ 0) (h : a = d * q) : QbW a d = q := by
 rw [QfJ, h, Int.mul_fdiv_cancel_left q hd]
theorem Qfu {fa fb : DE} {ρ : En} {ra rb : R} {a b : Int} (ha : fa ρ = some ra) (ea : ra.d = .int a) (hb : fb ρ = some rb) (eb : rb.d = .int b) : dOp Qb9 fa fb ρ = some ⟨.int (a - b), true, []⟩ := by
 refine Qcp ha hb ?_
 rw [ea, eb]; rfl
theorem QmP {fa fb : DE} {ρ : En} {ra rb : R} {a b q : Int} (ha : fa ρ = some ra) (ea : ra.d = .int a) (hb : fb ρ = some rb) (eb : rb.d = .int b) (hz : b ≠ 0) (h2 : b.natAbs < 2 ^ 2000) (h : a = b * q) : dOp QdX fa fb ρ = some ⟨.int q, true, []⟩ := by
 refine Qcp ha hb ?_
 rw [ea, eb]
 show (if QaL b = true then some (D.int (QbW a b)) else none) = _
 have : QaL b = true := by
  unfold QaL
  simp only [Zg, decide_eq_true_eq]
  exact ⟨hz, Zn h2 (Zaq (by decide) (by decide))⟩
 rw [if_pos this, Qjs hz h]
noncomputable def Qex : DS := (Qe (QN (Q9 (Qd8 (Qa 0) (Qa 1)) (.tp [1, 2]) [none, none, none, some 2, some 3, some 0, some 1] QaM (dOp QdX (dOp Qb9 (Q6 (Qy (Qa 6) (Qa 3)) (Qa 1)) (Q6 (Qy (Qa 5) (Qa 3)) (Qa 2))) (Qa 4)))) Qp)
def QfK (d : Den) : Prop := ∀ (N k : Nat) (a p q : Nat -> Int) (b : Int), k < N -> b ≠ 0 -> b.natAbs < 2 ^ 2000 -> (∀ j, j < N -> (a j).natAbs < 2 ^ 2000 /\ (p j).natAbs < 2 ^ 2000) -> (∀ j, j < N -> p k * a j - a k * p j = b * q j) -> d [Qd N a, Qd N p, .int k, .int b] = some (Qd N q, true)
theorem QkX : QfK (Qq 4 Qex) := λ N k a p q b hk hb hb2 hs hq =>
 QY (QL (r := ⟨Qd N q, true, []⟩) (Qal (toD := λ (i : Nat) => .tup [.int (a i), .int (p i)]) (out := λ (i : Nat) => .int (q i)) (List.range N) (Qiu (f := λ i => .int (a i)) (g := λ i => .int (p i)) (ra := ⟨Qd N a, false, []⟩) (rb := ⟨Qd N p, false, []⟩) rfl rfl rfl rfl) rfl λ i hi => ⟨[none, some (.int (a i), true), some (.int (p i), true), some (.int k, true), some (.int b, true), some (Qd N a, false), some (Qd N p, false)], rfl, ⟨.int (q i), true, []⟩, by
  have hi' := ZF.mp hi
  refine QmP (Qfu (a := p k * a i) (b := a k * p i) (Q5 (a := p k) (b := a i) (QbS (m := N) (f := p) (ra := ⟨Qd N p, false, []⟩) (rb := ⟨.int k, true, []⟩) rfl rfl rfl rfl hk) rfl (rb := ⟨.int (a i), true, []⟩) rfl rfl (Qdf (Qbo (hs k hk).2) (Qbo (hs i hi').1))) rfl (Q5 (a := a k) (b := p i) (QbS (m := N) (f := a) (ra := ⟨Qd N a, false, []⟩) (rb := ⟨.int k, true, []⟩) rfl rfl rfl rfl hk) rfl (rb := ⟨.int (p i), true, []⟩) rfl rfl (Qdf (Qbo (hs k hk).1) (Qbo (hs i hi').2))) rfl) rfl (rb := ⟨.int b, true, []⟩) rfl rfl hb hb2 (hq i hi'), rfl, rfl⟩) ⟨rfl, rfl⟩)
noncomputable def QcW (QaF : Den) (QaU : Den) : DS := (Qe (QA 1 (QaC (Qa 0))) (Qe (QA 2 (dC (.int 1))) (Qe (Qb1 (Qao (dBf Qax (Qb (Qa 0) Qg))) (.nm 3) (Qe (QA 1 (Qx 2 QaF [] (Qb (Qa 1) (Qb (Qa 3) Qg)))) (Qe (QA 4 (QaC (Qy (Qa 1) (Qa 3)))) (Qe (sIf (QP (dOp gEq (Qy (Qa 4) (Qa 3)) (dC (.int 0)))) (Qe (QN (QfZ (Qb (Qa 1) (Qb (dC (.int 0)) Qg)))) Qp) Qp) (Qe (QA 1 (Q9 (Qay (Qa 1)) (.nm 1) [none, none, some 3, some 2, some 4] QaM (Qx 4 QaU [] (Qb (Qa 1) (Qb (Qa 4) (Qb (Qa 2) (Qb (Qa 3) Qg))))))) (Qe (Qf5 1 Qbq (Qa 3) (Qa 4)) (Qe (QA 2 (QaC (Qy (Qa 4) (Qa 3)))) Qp))))))) (Qe (QN (QfZ (Qb (Qa 1) (Qb (Qa 2) Qg)))) Qp))))
theorem Qhz {n : Nat} {den : Den} {dfl : List D} {fs : DA} {ρ : En} {r : RA} {d : D} (h : fs ρ = some r) (e : den (r.ds ++ dfl) = some (d, false)) (hn : r.ds.length + dfl.length = n) : Qx n den dfl fs ρ = some (R.norm ⟨d, false, r.M⟩) := by
 unfold Qx
 rw [h, Za, if_pos hn, e]
 rfl
theorem QjS {x n N k : Nat} {g : Nat -> Nat -> Int} {p : Nat -> Int} {fi fa : DE} {ρ : En} {Q : Out -> Prop} (hx : ρ[x]? = some (some (Qc n N g, true))) (hi : fi ρ = some ⟨.int k, true, []⟩) (ha : fa ρ = some ⟨Qd N p, false, []⟩) (hk : k < n)
  (q : Q (.nx (ρ.set x (some (Qc n N (λ i j => if i = k then p j else g i j), false))))) : Run (Qf5 x Qbq fi fa) ρ Q := by
 refine ⟨_, ?_, q⟩
 unfold Qf5
 rw [ha, Za, hx]
 have hn : (HS.R.mk (Qd N p) false []).norm = ⟨Qd N p, false, []⟩ := by unfold R.norm Qd; rfl
 simp only [Qbq, Za, hi, Qc, QbK, ZA, ZO, hn]
 rw [Qea (show (0 : Int) <= k by omega) (by omega)]
 simp only [Za, ZD]
 have e : ((List.range n).map λ i => Qd N (g i)).set k (Qd N p) = (List.range n).map λ i => Qd N (λ j => if i = k then p j else g i j) := by
  refine ZaZ λ i => ?_
  rw [List.getElem?_set]
  by_cases h : k = i
  ·subst h
   rw [if_pos rfl, if_pos (by simpa using hk), Zq, ZL hk]
   simp
  ·rw [if_neg h, Zq, Zq]
   by_cases h2 : i < n
   ·rw [ZL h2]
    simp only [ZV, if_neg (Ne.symm h)]
   ·rw [Zu (by simpa using h2)]; rfl
 rw [e]
 rfl
theorem Qgc (f : Nat -> Int) : ∀ n, sm n f = QJ n f
 | 0 => rfl
 | n + 1 => by rw [QaJ, ← Qgc f n]; rfl
theorem Qma {m : Nat} {f : Nat -> Int} (h : ∀ i, i < m -> 0 <= f i) : 0 <= QJ m f := by
 have := QfM (m := m) (f := λ _ => 0) (g := f) h
 rw [Qa8] at this
 exact this
noncomputable def Qfq : DS := (Qe (QN (Q9 (Qay (Qa 0)) (.nm 1) [none, none] QaM (dOp Qb9 (dC (.int 0)) (Qa 1)))) Qp)
def Qi6 (d : Den) : Prop := ∀ (n : Nat) (a : Nat -> Int), d [Qd n a] = some (Qd n λ i => 0 - a i, true)
theorem Qob : Qi6 (Qq 1 Qfq) := λ n a => QY (QL (r := ⟨Qd n λ i => 0 - a i, true, []⟩) (Qal (toD := λ (i : Nat) => .int (a i)) (out := λ (i : Nat) => .int (0 - a i)) (List.range n) (Qbt (r := ⟨Qd n a, false, []⟩) rfl rfl) rfl λ i _ => ⟨[none, some (.int (a i), true)], rfl, ⟨.int (0 - a i), true, []⟩, rfl, rfl, rfl⟩) ⟨rfl, rfl⟩)
noncomputable def Qu (m : Nat) (T : Nat -> Nat -> Int) (v : Nat -> Int) : Nat -> Int := λ j => 2 * (0 - T j j) - Qm m T (λ j => 2 * (0 - T j j)) v j
theorem Qgv {m : Nat} {T : Nat -> Nat -> Int} {v : Nat -> Int} (j : Nat) : Qu m T v j = - QJ m λ i => v i * T i j := by
 unfold Qu Qm; show 2 * (0 - T j j) - (2 * (0 - T j j) + _) = _; omega
def Rec (m : Nat) (T : Nat -> Nat -> Int) (v x : Nat -> Int) : Prop := ∃ (y u : Nat -> Int), (∀ j, j < m -> 0 <= y j) /\ Told m T (λ j => y j + Qu m T v j) u /\ ∀ j, j < m -> x j = Qm m T (λ j => y j + Qu m T v j) u j
structure Dbl (m : Nat) (T : Nat -> Nat -> Int) (v : Nat -> Int) : Prop where
 told : Told m T (λ j => 2 * (0 - T j j)) v
theorem Dbl.big {m : Nat} {T : Nat -> Nat -> Int} {v : Nat -> Int} (h : Dbl m T v) {j : Nat} (hj : j < m) : (0 - T j j) + 1 <= Qu m T v j /\ Qu m T v j <= 2 * (0 - T j j) := by
 have h1 := h.told.stb j hj
 have h2 := h.told.pos j hj
 unfold Qu
 omega
theorem Dbl.round {m : Nat} {T : Nat -> Nat -> Int} {v : Nat -> Int} (h : Dbl m T v) (tp : TP m T) {y u : Nat -> Int} (y0 : ∀ j, j < m -> 0 <= y j) (hu : Told m T (λ j => y j + Qu m T v j) u) : Told m T (λ j => y j + Qu m T v j + Qu m T v j) (λ i => v i + u i) /\ ∀ j, j < m -> Qm m T (λ j => y j + Qu m T v j) u j = Qm m T (λ j => y j + Qu m T v j + Qu m T v j) (λ i => v i + u i) j := by
 refine h.told.lay (λ j hj => ?_) (λ j hj => ?_) hu
 ·have b := h.big hj
  have := h.told.stb j hj
  have e : Qu m T v j = 2 * (0 - T j j) - Qm m T (λ j => 2 * (0 - T j j)) v j := rfl
  have := y0 j hj
  omega
 ·have e : Qu m T v j = 2 * (0 - T j j) - Qm m T (λ j => 2 * (0 - T j j)) v j := rfl
  omega
theorem Rec.comes {m : Nat} {T : Nat -> Nat -> Int} {v x w : Nat -> Int} (tp : TP m T) (h : Dbl m T v) (hr : Rec m T v x) (hw : Told m T (λ j => x j + Qu m T v j) w) : ∀ j, j < m -> Qm m T (λ j => x j + Qu m T v j) w j = x j := λ j hj => by
 obtain ⟨y, u, y0, hu, ex⟩ := hr
 obtain ⟨t2, e2⟩ := h.round tp y0 hu
 obtain ⟨t1, e1⟩ := hu.lay (F' := λ j => y j + Qu m T v j + Qu m T v j) (h := λ j => x j + Qu m T v j) (c := w) (λ j hj => by have := h.big hj; have := tp.neg j hj; show _ <= y j + Qu m T v j + Qu m T v j; omega) (λ j hj => by show x j + _ = _; rw [ex j hj]; omega) hw
 have one := t1.one tp t2
 rw [e1 j hj, ex j hj, e2 j hj]
 exact QbA j rfl one
theorem Dbl.pos {m : Nat} {T : Nat -> Nat -> Int} {v : Nat -> Int} (tp : TP m T) (h : Dbl m T v) {j : Nat} (hj : j < m) : 1 <= v j := by
 refine ZaU λ z => ?_
 have v0 : v j = 0 := by have := h.told.leg.nonneg j; omega
 have s := h.told.stb j hj
 have : 0 <= QJ m λ i => v i * T i j := Qma λ i hi => by
  by_cases e : i = j
  ·rw [e, v0, ZP]; exact Zbp _
  ·exact ZaR (h.told.leg.nonneg i) (tp.pos i j hi hj e)
 have e : Qm m T (λ j => 2 * (0 - T j j)) v j = 2 * (0 - T j j) + QJ m λ i => v i * T i j := rfl
 have := tp.neg j hj
 omega
theorem Rec.Ql1 {m : Nat} {T : Nat -> Nat -> Int} {v y u : Nat -> Int} (tp : TP m T) (h : Dbl m T v) (y0 : ∀ j, j < m -> 0 <= y j) (hu : Told m T (λ j => y j + Qu m T v j) u) : ∀ N : Nat, Told m T (λ j => (y j + N * Qu m T v j) + Qu m T v j) (λ i => u i + N * v i) /\ ∀ j, j < m -> Qm m T (λ j => (y j + N * Qu m T v j) + Qu m T v j) (λ i => u i + N * v i) j = Qm m T (λ j => y j + Qu m T v j) u j
 | 0 => by
  have e1 : (λ j => (y j + ((0 : Nat) : Int) * Qu m T v j) + Qu m T v j) = λ j => y j + Qu m T v j := by funext j; simp
  have e2 : (λ i => u i + ((0 : Nat) : Int) * v i) = u := by funext i; simp
  rw [e1, e2]
  exact ⟨hu, λ _ _ => rfl⟩
 | N + 1 => by
  obtain ⟨t, e⟩ := Rec.Ql1 tp h y0 hu N
  obtain ⟨t2, e2⟩ := h.round tp (y := λ j => y j + N * Qu m T v j) (λ j hj => by
   have := h.big hj
   have := tp.neg j hj
   have := ZaR (show (0 : Int) <= N by omega) (show 0 <= Qu m T v j by omega)
   have := y0 j hj
   show 0 <= y j + N * Qu m T v j
   omega) t
  have e3 : (λ j => (y j + ((N + 1 : Nat) : Int) * Qu m T v j) + Qu m T v j) = λ j => y j + N * Qu m T v j + Qu m T v j + Qu m T v j := by
   funext j; rw [ZaN, ZY]; simp; omega
  have e4 : (λ i => u i + ((N + 1 : Nat) : Int) * v i) = λ i => v i + (u i + N * v i) := by
   funext i; rw [ZaN, ZY]; simp; omega
  rw [e3, e4]
  exact ⟨t2, λ j hj => by rw [← e2 j hj, e j hj]⟩
theorem QiG {m : Nat} {T : Nat -> Nat -> Int} {f c d : Nat -> Int} (j : Nat) : Qm m T (Qm m T f c) d j = Qm m T f (λ i => c i + d i) j := by
 unfold Qm
 have : (λ i => (c i + d i) * T i j) = λ i => c i * T i j + d i * T i j := by funext i; rw [ZY]
 rw [this, Qb5]
 omega
theorem Qll {m : Nat} (d : Nat -> Int) : ∃ N : Nat, ∀ i, i < m -> -(N : Int) <= d i := by
 induction m with
 | zero => exact ⟨0, λ i hi => by omega⟩
 | succ m ih =>
  obtain ⟨N, h⟩ := ih
  refine ⟨N + (d m).natAbs, λ i hi => ?_⟩
  by_cases e : i = m
  ·subst e; omega
  ·have := h i (by omega); omega
theorem Rec.least {m : Nat} {T : Nat -> Nat -> Int} {v x d : Nat -> Int} (tp : TP m T) (h : Dbl m T v) (hr : Rec m T v x) (hs : Stb m T (Qm m T x d)) : ∀ i, i < m -> 0 <= d i := by
 obtain ⟨y, u, y0, hu, ex⟩ := hr
 obtain ⟨N, hN⟩ := Qll (m := m) d
 obtain ⟨t, e⟩ := Rec.Ql1 tp h y0 hu N
 have := t.leg.least tp (c' := λ i => (u i + N * v i) + d i) (λ i hi => by
  have h1 := h.pos tp hi
  have h2 := hu.leg.nonneg i
  have h3 := hN i hi
  have h4 := Int.mul_le_mul_of_nonneg_left h1 (show (0 : Int) <= N by omega)
  show 0 <= u i + N * v i + d i
  omega) (λ p hp => by
  have := hs p hp
  rw [← QiG]
  have e2 : Qm m T (Qm m T (λ j => (y j + N * Qu m T v j) + Qu m T v j) λ i => u i + N * v i) d p = Qm m T x d p := QbA p (by rw [e p hp, ex p hp]) λ _ _ => rfl
  rw [e2]; exact this)
 intro i hi
 have := this i hi
 omega
theorem Rec.one {m : Nat} {T : Nat -> Nat -> Int} {v v' x x' d : Nat -> Int} (tp : TP m T) (h : Dbl m T v) (h' : Dbl m T v') (hr : Rec m T v x) (hr' : Rec m T v' x') (sx : Stb m T x) (sx' : Stb m T x') (e : ∀ j, j < m -> x' j = Qm m T x d j) : ∀ i, i < m -> d i = 0 := λ i hi => by
 have a := hr.least tp h (d := d) (λ p hp => by rw [← e p hp]; exact sx' p hp) i hi
 have b := hr'.least tp h' (d := λ i => - d i) (λ p hp => by
  have : Qm m T x' (λ i => - d i) p = x p := by
   have q : Qm m T x' (λ i => - d i) p = Qm m T (Qm m T x d) (λ i => - d i) p := QbA p (e p hp) λ _ _ => rfl
   rw [q, QiG]
   unfold Qm
   rw [Qav (g := λ _ => 0) λ i _ => by show (d i + - d i) * T i p = 0; rw [Int.add_right_neg, ZP], Qa8]
   omega
  rw [this]; exact sx p hp) i hi
 omega
theorem Rec.of {m : Nat} {T : Nat -> Nat -> Int} {v v' x : Nat -> Int} (tp : TP m T) (h : Dbl m T v) (h' : Dbl m T v') : ∀ j, Qu m T v' j = Qu m T v j := λ j => by
 have e := h.told.one tp h'.told
 rw [Qgv, Qgv]
 exact congrArg (λ z => - z) (Qav λ i hi => by rw [e i hi])
structure QqE (m : Nat) (T : Nat -> Nat -> Int) (f k : Nat -> Int) : Prop where
 ex : ∃ v, Dbl m T v /\ Rec m T v (Qm m T f k)
 stb : Stb m T (Qm m T f k)
 nn : ∀ j, j < m -> 0 <= Qm m T f k j
theorem QkK {fa fb : DE} {ρ : En} {ra rb : R} {m n : Nat} {f : Nat -> Int} (ha : fa ρ = some ra) (ea : ra.d = Qd m f) (hb : fb ρ = some rb) (eb : rb.d = .int n) (h : n <= m) : QdT fa (QcZ fb) QcV ρ = some ⟨Qd (m - n) λ i => f (n + i), true, []⟩ := by
 have cut : cutD ((List.range m).map λ i => D.int (f i)) (some (n : Int)) none = (List.range (m - n)).map λ i => D.int (f (n + i)) := by
  unfold cutD
  simp only [ZA, ZO, HT.Qg5, HT.Qik]
  rw [Zbn h, ← List.map_drop, ← List.map_take]
  have e : ((List.range m).drop n).take (m - n) = (List.range (m - n)).map λ i => n + i := by
   rw [ZaD (by simp)]
   refine ZaZ λ i => ?_
   rw [List.getElem?_drop, Zq]
   by_cases hi : i < m - n
   ·rw [ZL (by omega), ZL hi]; rfl
   ·rw [Zu (by simp; omega), Zu (by simp; omega)]; rfl
  rw [e, Zax]
  rfl
 unfold QdT QcV QcZ
 simp only [ha, hb, Za, ea, eb, Qd, cut, QaN]
 have : QG ((List.range (m - n)).map λ i => D.int (f (n + i))) = true := by
  have := QiJ ((List.range (m - n)).map λ i => f (n + i))
  rw [Zax] at this
  exact this
 rw [if_pos this]
structure Alt (n : Nat) (φ : (Nat -> Nat -> Int) -> Int) : Prop where
 congr : ∀ {m k : Nat -> Nat -> Int}, (∀ j, j < n -> ∀ r, r < n -> m j r = k j r) -> φ m = φ k
 lin : ∀ (m : Nat -> Nat -> Int) (c : Nat), c < n -> ∀ (x y : Int) (a b : Nat -> Int), φ (cup m c λ r => x * a r + y * b r) = x * φ (cup m c a) + y * φ (cup m c b)
 alt : ∀ {m : Nat -> Nat -> Int} {i j : Nat}, i < n -> j < n -> i ≠ j -> m i = m j -> φ m = 0
section
variable {n : Nat} {φ : (Nat -> Nat -> Int) -> Int} {m : Nat -> Nat -> Int}
theorem Alt.add (h : Alt n φ) {c : Nat} (hc : c < n) (a b : Nat -> Int) : φ (cup m c λ r => a r + b r) = φ (cup m c a) + φ (cup m c b) := by
 have := h.lin m c hc 1 1 a b
 simpa only [ZM] using this
theorem Alt.mul (h : Alt n φ) {c : Nat} (hc : c < n) (x : Int) (a : Nat -> Int) : φ (cup m c λ r => x * a r) = x * φ (cup m c a) := by
 have := h.lin m c hc x 0 a a
 simpa only [ZP, Zbk] using this
theorem Alt.swap (h : Alt n φ) {c d : Nat} (hc : c < n) (hd : d < n) (hcd : c ≠ d) (a b : Nat -> Int) : φ (cup (cup m c a) d b) = - φ (cup (cup m c b) d a) := by
 have z := h.alt (m := cup (cup m c λ r => a r + b r) d λ r => a r + b r) hc hd hcd (by rw [Ql, Qi _ _ hcd, Ql])
 have za := h.alt (m := cup (cup m c a) d a) hc hd hcd (by rw [Ql, Qi _ _ hcd, Ql])
 have zb := h.alt (m := cup (cup m c b) d b) hc hd hcd (by rw [Ql, Qi _ _ hcd, Ql])
 rw [h.add hd, Qw _ _ _ hcd, h.add hc, Qw _ _ _ hcd, h.add hc, Qw _ _ _ (Ne.symm hcd), Qw _ _ _ (Ne.symm hcd), Qw _ _ _ (Ne.symm hcd), Qw _ _ _ (Ne.symm hcd), za, zb] at z
 omega
theorem Alt.sum (h : Alt n φ) {c : Nat} (hc : c < n) (x : Nat -> Int) (E : Nat -> Nat -> Int) : ∀ k, φ (cup m c λ r => sm k λ s => x s * E s r) = sm k λ s => x s * φ (cup m c (E s))
 | 0 => by
  have := h.mul (m := m) hc 0 λ _ => 0
  rw [ZP] at this
  unfold sm
  simpa using this
 | k + 1 => by
  unfold sm
  rw [h.add hc, h.sum hc x E k, h.mul hc]
theorem QiA (n : Nat) : Alt n (det n) := ⟨Qz, λ m c hc x y a b => Qcv x y a b n m c hc a b, λ hi hj hij e => QcC hi hj hij e⟩
theorem QeE (h : Alt n φ) : ∀ (g t : Nat) (σ : Nat -> Nat), t + g = n -> (∀ j, j < t -> σ j = j) -> (∀ j, j < n -> σ j < n) -> φ (λ j => Qk (σ j)) = det n (λ j => Qk (σ j)) * φ Qk
 | 0, t, σ, e, hp, hn => by
  have h1 : ∀ j, j < n -> ∀ r, r < n -> Qk (σ j) r = Qk j r := λ j hj r _ => by rw [hp j (by omega)]
  rw [h.congr h1, Qz h1, QdB, ZM]
 | g + 1, t, σ, e, hp, hn => by
  by_cases ht : σ t = t
  ·exact QeE h g (t + 1) σ (by omega) (λ j hj => by
    by_cases z : j = t
    ·rw [z]; exact ht
    ·exact hp j (by omega)) hn
  ·by_cases ex : ∃ i, i < n /\ σ i = t
   ·obtain ⟨i, hi, hs⟩ := ex
    have hti : t < i := by
     rcases Nat.lt_trichotomy i t with z | z | z
     ·have := hp i z; omega
     ·subst z; exact absurd hs ht
     ·exact z
    have hne : t ≠ i := by omega
    have sw : ∀ {ψ : (Nat -> Nat -> Int) -> Int}, Alt n ψ -> ψ (λ j => Qk (σ j)) = - ψ (λ j => Qk (if j = t then σ i else if j = i then σ t else σ j)) := λ {ψ} hψ => by
     have := hψ.swap (m := λ j => Qk (σ j)) (c := t) (d := i) (by omega) hi hne (Qk (σ t)) (Qk (σ i))
     have e1 : cup (cup (λ j => Qk (σ j)) t (Qk (σ t))) i (Qk (σ i)) = λ j => Qk (σ j) := by
      rw [QB (λ j => Qk (σ j)) t, QB (λ j => Qk (σ j)) i]
     have e2 : cup (cup (λ j => Qk (σ j)) t (Qk (σ i))) i (Qk (σ t)) = λ j => Qk (if j = t then σ i else if j = i then σ t else σ j) := by
      funext j
      by_cases z1 : j = i
      ·subst z1; rw [Ql, if_neg (Ne.symm hne), if_pos rfl]
      ·rw [Qi _ _ z1]
       by_cases z2 : j = t
       ·subst z2; rw [Ql, if_pos rfl]
       ·rw [Qi _ _ z2, if_neg z2, if_neg z1]
     rw [e1, e2] at this
     exact this
    rw [sw h, sw (QiA n), Zat]
    congr 1
    refine QeE h g (t + 1) _ (by omega) (λ j hj => ?_) (λ j hj => ?_)
    ·by_cases z : j = t
     ·rw [if_pos z, hs, z]
     ·rw [if_neg z, if_neg (by omega)]; exact hp j (by omega)
    ·split
     ·exact hn i hi
     ·split
      ·exact hn t (by omega)
      ·exact hn j hj
   ·obtain ⟨k, hk⟩ : ∃ k, n = k + 1 := ⟨n - 1, by omega⟩
    obtain ⟨i, j, hi, hj, hij, he⟩ := Qg8 (n := k) (λ j => if σ j < t then σ j else σ j - 1) λ j hj => by
     have h1 := hn j (by omega)
     have h2 : σ j ≠ t := λ z => ex ⟨j, by omega, z⟩
     split <;> omega
    have hs : σ i = σ j := by
     have h1 : σ i ≠ t := λ z => ex ⟨i, by omega, z⟩
     have h2 : σ j ≠ t := λ z => ex ⟨j, by omega, z⟩
     split at he <;> split at he <;> omega
    have e1 : (λ j => Qk (σ j)) i = (λ j => Qk (σ j)) j := by show Qk (σ i) = Qk (σ j); rw [hs]
    rw [h.alt (by omega) (by omega) hij e1, (QiA n).alt (by omega) (by omega) hij e1, ZP]
theorem QfE (h : Alt n φ) (m : Nat -> Nat -> Int) : φ m = det n m * φ Qk := by
 have key : ∀ k, k <= n -> ∀ m : Nat -> Nat -> Int, (∃ σ : Nat -> Nat, ∀ j, k <= j -> j < n -> σ j < n /\ m j = Qk (σ j)) -> φ m = det n m * φ Qk := by
  intro k
  induction k with
  | zero =>
   rintro _ m ⟨σ, hσ⟩
   have h1 : ∀ j, j < n -> ∀ r, r < n -> m j r = (λ j => Qk (σ j)) j r := λ j hj r _ => by rw [(hσ j (by omega) hj).2]
   rw [h.congr h1, Qz h1]
   exact QeE h n 0 σ (by omega) (λ j hj => by omega) λ j hj => (hσ j (by omega) hj).1
  | succ k ih =>
   rintro hk m ⟨σ, hσ⟩
   have hcol : ∀ j, j < n -> ∀ r, r < n -> m j r = cup m k (λ r => sm n λ s => m k s * Qk s r) j r := λ j hj r hr => by
    by_cases z : j = k
    ·subst z
     rw [Ql, QbB (c := r) hr λ i _ ne => by rw [show Qk i r = 0 by unfold Qk; rw [if_neg ne], ZW], show Qk r r = 1 by unfold Qk; rw [if_pos rfl], ZaV]
    ·rw [Qi _ _ z]
   rw [h.congr hcol, Qz hcol, h.sum (by omega), Qc8 (by omega), ← QiH]
   refine Qaj λ s hs => ?_
   rw [Zas]
   congr 1
   refine ih (by omega) _ ⟨λ j => if j = k then s else σ j, λ j h1 h2 => ?_⟩
   show (if j = k then s else σ j) < n /\ cup m k (Qk s) j = Qk (if j = k then s else σ j)
   by_cases z : j = k
   ·subst z; rw [if_pos rfl, Ql]; exact ⟨hs, rfl⟩
   ·rw [if_neg z, Qi _ _ z]; exact hσ j (by omega) h2
 exact key n (Zj n) m ⟨id, λ j h1 h2 => by omega⟩
end
theorem QkM (n : Nat) (x E : Nat -> Nat -> Int) : det n (λ j r => sm n λ s => x j s * E s r) = det n x * det n E := by
 have h : Alt n λ x => det n λ j r => sm n λ s => x j s * E s r := by
  have hcup : ∀ (m : Nat -> Nat -> Int) (c : Nat) (a : Nat -> Int), (λ j r => sm n λ s => cup m c a j s * E s r) = cup (λ j r => sm n λ s => m j s * E s r) c λ r => sm n λ s => a s * E s r := λ m c a => by
   funext j r
   by_cases z : j = c
   ·subst z; rw [Ql, Ql]
   ·rw [Qi _ _ z, Qi _ _ z]
  refine ⟨λ hm => Qz λ j hj r hr => Qaj λ s hs => by rw [hm j hj s hs], λ m c hc x y a b => ?_, λ {m i j} hi hj hij e => QcC hi hj hij (by funext r; rw [e])⟩
  rw [hcup, hcup, hcup, ← Qcv x y (λ r => sm n λ s => a s * E s r) (λ r => sm n λ s => b s * E s r) n _ c hc]
  congr 2
  funext r
  rw [← Qfl]
  exact Qaj λ s hs => by rw [ZY, Zas, Zas]
 have := QfE h x
 rw [this]
 congr 1
 refine Qz λ j hj r hr => ?_
 rw [QbB (c := j) hj λ s _ ne => by rw [show Qk j s = 0 by unfold Qk; rw [if_neg (Ne.symm ne)], ZP], show Qk j j = 1 by unfold Qk; rw [if_pos rfl], ZM]
end HS
namespace HS
open PySem L2
theorem QkF {n : Nat} {m : Nat -> Nat -> Int} {c : Nat} (hc : c < n) (h : ∀ r, r < n -> m c r = 0) : det n m = 0 := by
 have e : det n m = det n (cup m c λ r => 0 * m c r) := Qz λ j hj r hr => by
  by_cases z : j = c
  ·subst z; rw [Ql, h r hr, ZP]
  ·rw [Qi _ _ z]
 rw [e, QbO hc, ZP]
theorem Qor {n : Nat} {m : Nat -> Nat -> Int} (h0 : m 0 0 = 1) (h : ∀ r, r < n -> m 0 (r + 1) = 0) : det (n + 1) m = det n λ c r => m (c + 1) (r + 1) := by
 show (sm (n + 1) λ j => sgn j * m j 0 * det n λ c r => m (skp j c) (r + 1)) = _
 rw [QbB (c := 0) (by omega) λ j hj ne => by
  rw [QkF (c := 0) (by omega) λ r hr => ?_, ZW]
  show m (skp j 0) (r + 1) = 0
  unfold skp
  rw [if_pos (by omega)]
  exact h r hr]
 have e : (λ c r => m (skp 0 c) (r + 1)) = λ c r => m (c + 1) (r + 1) := by
  funext c r
  unfold skp
  rw [if_neg (by omega)]
 rw [e, h0, show sgn 0 = 1 by unfold sgn; simp, ZM, ZM]
noncomputable def QaX (n : Nat) (a b c : Nat -> Nat -> Int) : Nat -> Nat -> Int := λ j r => if j < n then (if r < n then a j r else 0) else if r < n then b (j - n) r else c (j - n) (r - n)
theorem QhE (k : Nat) : ∀ (n : Nat) (b c : Nat -> Nat -> Int), det (n + k) (QaX n Qk b c) = det k c
 | 0, b, c => by
  rw [Nat.zero_add]
  refine Qz λ j hj r hr => ?_
  unfold QaX
  rw [if_neg (by omega), if_neg (by omega)]; rfl
 | n + 1, b, c => by
  rw [show n + 1 + k = (n + k) + 1 by omega, Qor (by unfold QaX Qk; rw [if_pos (by omega), if_pos (by omega), if_pos rfl]) λ r hr => ?_]
  ·rw [← QhE k n (λ j r => b j (r + 1)) c]
   refine Qz λ j hj r hr => ?_
   unfold QaX
   by_cases q : j < n
   ·rw [if_pos (by omega), if_pos q]
    by_cases p : r < n
    ·rw [if_pos (by omega), if_pos p]
     unfold Qk
     by_cases z : j = r
     ·rw [if_pos (by omega), if_pos z]
     ·rw [if_neg (by omega), if_neg z]
    ·rw [if_neg (by omega), if_neg p]
   ·rw [if_neg (by omega), if_neg q, show j + 1 - (n + 1) = j - n by omega]
    by_cases p : r < n
    ·rw [if_pos (by omega), if_pos p]
    ·rw [if_neg (by omega), if_neg p, show r + 1 - (n + 1) = r - n by omega]
  ·unfold QaX Qk
   rw [if_pos (by omega)]
   by_cases p : r + 1 < n + 1
   ·rw [if_pos p, if_neg (by omega)]
   ·rw [if_neg p]
theorem QmB (n k : Nat) (a b c : Nat -> Nat -> Int) : det (n + k) (QaX n a b c) = det n a * det k c := by
 have h : Alt n λ a => det (n + k) (QaX n a b c) := by
  have hcup : ∀ (m : Nat -> Nat -> Int) (i : Nat) (v : Nat -> Int), i < n -> QaX n (cup m i v) b c = cup (QaX n m b c) i λ r => if r < n then v r else 0 := λ m i v hi => by
   funext j r
   by_cases z : j = i
   ·subst z
    rw [Ql]
    unfold QaX
    rw [if_pos hi, Ql]
   ·rw [Qi _ _ z]
    unfold QaX
    rw [Qi _ _ z]
  refine ⟨λ hm => Qz λ j hj r hr => ?_, λ m i hi x y v w => ?_, λ {m i j} hi hj hij e => QcC (show i < n + k by omega) (show j < n + k by omega) hij ?_⟩
  ·unfold QaX
   by_cases q : j < n
   ·rw [if_pos q, if_pos q]
    by_cases p : r < n
    ·rw [if_pos p, if_pos p]; exact hm j q r p
    ·rw [if_neg p, if_neg p]
   ·rw [if_neg q, if_neg q]
  ·rw [hcup _ _ _ hi, hcup _ _ _ hi, hcup _ _ _ hi, ← Qcv x y (λ r => if r < n then v r else 0) (λ r => if r < n then w r else 0) (n + k) _ i (by omega)]
   congr 2
   funext r
   split
   ·rfl
   ·omega
  ·funext r
   unfold QaX
   rw [if_pos hi, if_pos hj, e]
 rw [QfE h a, QhE]
noncomputable def QbY (N : Nat) (m : Nat -> Nat -> Int) (b : Nat) : Nat -> Nat -> Int := λ j => m ((j + b) % N)
theorem Qm7 {N : Nat} (hN : 0 < N) (m : Nat -> Nat -> Int) : det N (QbY N m 1) = sgn (N - 1) * det N m := by
 have e := Qf7 (n := N) (QbY N m 1) (m 0) (l := N - 1) (by omega) (N - 1) 0 (by omega)
 have e1 : det N (cyc (QbY N m 1) (m 0) (N - 1) 0) = det N m := Qz λ j hj r hr => by
  unfold cyc
  rw [if_neg (by omega)]
  by_cases q : j = 0
  ·rw [if_pos q, q]
  ·rw [if_neg q, if_pos (by omega)]
   unfold QbY
   rw [show j - 1 + 1 = j by omega, Nat.mod_eq_of_lt hj]
 have e2 : det N (cup (QbY N m 1) (N - 1) (m 0)) = det N (QbY N m 1) := Qz λ j hj r hr => by
  by_cases q : j = N - 1
  ·subst q
   rw [Ql]
   unfold QbY
   rw [show N - 1 + 1 = N by omega, Nat.mod_self]
  ·rw [Qi _ _ q]
 rw [e1, e2] at e
 rw [e, ← Zas, QkD, ZM]
theorem Qmo (a b : Nat) : sgn (a + b) = sgn a * sgn b := by
 unfold sgn
 by_cases h1 : a % 2 = 0
 ·by_cases h2 : b % 2 = 0
  ·rw [if_pos h1, if_pos h2, if_pos (by omega)]; rfl
  ·rw [if_pos h1, if_neg h2, if_neg (by omega)]; rfl
 ·by_cases h2 : b % 2 = 0
  ·rw [if_neg h1, if_pos h2, if_neg (by omega)]; rfl
  ·rw [if_neg h1, if_neg h2, if_pos (by omega)]; rfl
theorem Qiy {N : Nat} (hN : 0 < N) (m : Nat -> Nat -> Int) : ∀ b, det N (QbY N m b) = sgn (b * (N - 1)) * det N m
 | 0 => by
  rw [Nat.zero_mul, show sgn 0 = 1 by unfold sgn; simp, ZM]
  refine Qz λ j hj r hr => ?_
  unfold QbY
  rw [Nat.add_zero, Nat.mod_eq_of_lt hj]
 | b + 1 => by
  have e : det N (QbY N m (b + 1)) = det N (QbY N (QbY N m b) 1) := Qz λ j hj r hr => by
   unfold QbY
   rw [Nat.mod_add_mod, show j + 1 + b = j + (b + 1) by omega]
  rw [e, Qm7 hN, Qiy hN m b, Zbi, Qmo, ← Zas, Zar (sgn (N - 1))]
theorem Qpu {g1 g2 : DT} {ρ : En} (h : g1 ρ = some true) : bOr g1 g2 ρ = some true := by unfold bOr; rw [h]; rfl
theorem Qok {fa : DE} {ρ : En} {a b : D} {fr : Bool} {M : List Nat} (h : fa ρ = some ⟨.tup [a, b], fr, M⟩) : Qy fa (dC (.int 1)) ρ = some (HS.R.norm ⟨b, fr, M⟩) := by
 unfold Qy
 rw [h]; rfl
noncomputable def Qeo (f : Nat -> Nat -> Int) (k : Nat) (p : Nat -> Int) (i : Nat) (q : Nat -> Int) : Nat -> Nat -> Int := λ l j => if l = i then q j else if l = k then p j else f l j
theorem QiF {n N k : Nat} {g : Nat -> Nat -> Int} {p : Nat -> Int} (hk : k < n) : ((List.range n).map λ i => Qd N (g i)).set k (Qd N p) = (List.range n).map λ i => Qd N (λ j => if i = k then p j else g i j) := by
 refine ZaZ λ i => ?_
 rw [List.getElem?_set]
 by_cases h : k = i
 ·subst h
  rw [if_pos rfl, if_pos (by simpa using hk), Zq, ZL hk]
  simp
 ·rw [if_neg h, Zq, Zq]
  by_cases h2 : i < n
  ·rw [ZL h2]
   simp only [ZV, if_neg (Ne.symm h)]
  ·rw [Zu (by simpa using h2)]; rfl
theorem QmA {x n N k i : Nat} {f : Nat -> Nat -> Int} {p q : Nat -> Int} {fy f1 g1 f2 g2 : DE} {ρ : En} {by' b1 b2 : Bool} {Q : Out -> Prop} (hx : x < ρ.length) (ey : fy (ρ.set x none) = some ⟨Qc n N f, by', []⟩) (e1 : f1 (ρ.set x none) = some ⟨.int k, true, []⟩) (e2 : g1 (ρ.set x none) = some ⟨Qd N p, b1, []⟩) (e3 : f2 (ρ.set x none) = some ⟨.int i, true, []⟩) (e4 : g2 (ρ.set x none) = some ⟨Qd N q, b2, []⟩) (hk : k < n) (hi : i < n)
  (h : Q (.nx ((ρ.set x none).set x (some (Qc n N (Qeo f k p i q), false))))) : Run (Qe5 x fy f1 g1 f2 g2) ρ Q := by
 refine ⟨_, ?_, h⟩
 unfold Qe5 QiL
 rw [if_pos (by simpa using hx), ey, Za]
 simp only [Qc, e1, e2, e3, e4, Za, ZA, ZO]
 rw [Qea (show (0 : Int) <= k by omega) (by omega), Qea (show (0 : Int) <= i by omega) (by omega)]
 simp only [Za, ZD, QiF hk]
 rw [QiF (g := λ l j => if l = k then p j else f l j) hi]
 rfl
noncomputable def Qdh (Qbd : Den) : DS := (Qe (QA 2 (Q9 (Qct (Qa 1) (dBf Qax (Qb (Qa 0) Qg))) (.nm 1) [none, none, some 1, some 0] (QP (dOp gNe (Qy (Qy (Qa 3) (Qa 1)) (Qa 2)) (dC (.int 0)))) (Qa 1))) (Qe (sIf (bOr (Qb0 (QP (Qa 2))) (QP (dOp gEq (Qy (Qa 2) (dC (.int 0))) (Qa 1)))) (Qe (QN (Qa 0)) Qp) Qp) (Qe (Qe5 3 (Qa 0) (Qa 1) (Qy (Qa 0) (Qy (Qa 2) (dC (.int 0)))) (Qy (Qa 2) (dC (.int 0))) (Qx 1 Qbd [] (Qb (Qy (Qa 0) (Qa 1)) Qg))) (Qe (QN (Qa 3)) Qp))))
def QeI (d : Den) : Prop := ∀ (n N k : Nat) (f : Nat -> Nat -> Int), k < n -> n <= 1000 -> k < N -> ∃ g, d [Qc n N f, .int k] = some (Qc n N g, false) ∧
 ((g = f /\ (f k k = 0 -> ∀ i, k <= i -> i < n -> f i k = 0)) ∨ ∃ i, k < i /\ i < n /\ f i k ≠ 0 /\ g = Qeo f k (f i) i λ j => 0 - f k j)
theorem Qkj {dop : Den} (ho : Qi6 dop) : QeI (Qq 4 (Qdh dop)) := λ n N k f hk hn kN => by
 have eI := QfQ (fi := Qct (Qa 1) (dBf Qax (Qb (Qa 0) Qg))) (t := .nm 1) (cap := [none, none, some 1, some 0]) (ft := QP (dOp gNe (Qy (Qy (Qa 3) (Qa 1)) (Qa 2)) (dC (.int 0)))) (fe := Qa 1) (ρ := [some (Qc n N f, false), some (.int k, true), none, none])
  (toD := λ (i : Nat) => .int ((k : Int) + i)) (keep := λ i => !decide (f (k + i) k = 0)) (out := λ (i : Nat) => .int ((k : Int) + i)) (List.range (n - k)) (Qkl (i := k) (j := n) (n := n - k) (ra := ⟨.int k, true, []⟩) rfl rfl (Qb4 (n := n) (m := N) (f := f) (r := ⟨Qc n N f, false, []⟩) rfl rfl) rfl (by omega) (by omega) (by omega) (by omega)) rfl λ i hi => ⟨[none, some (.int ((k : Int) + i), true), some (.int k, true), some (Qc n N f, false)], rfl, by
   have hi' := ZF.mp hi
   refine Q4 (Qfc (a := f (k + i) k) (b := 0) (QbS (m := N) (f := f (k + i)) (i := k) ((Qdb (m := n) (n := N) (f := f) (i := (k : Int) + i) (ra := ⟨Qc n N f, false, []⟩) (rb := ⟨.int ((k : Int) + i), true, []⟩) rfl rfl rfl rfl (by omega) (by omega)).trans (by rw [show ((k : Int) + i).toNat = k + i by omega])) rfl (rb := ⟨.int k, true, []⟩) rfl rfl kN) rfl rfl rfl) rfl, λ _ => ⟨⟨.int ((k : Int) + i), true, []⟩, rfl, rfl, rfl⟩⟩
 have hmem : ∀ i, i ∈ (List.range (n - k)).filter (λ i => !decide (f (k + i) k = 0)) ↔ i < n - k /\ f (k + i) k ≠ 0 := λ i => by simp
 have hfst : ∀ i, f (k + i) k ≠ 0 -> i < n - k -> ∀ a l, (List.range (n - k)).filter (λ i => !decide (f (k + i) k = 0)) = a :: l -> f k k ≠ 0 -> a = 0 := λ i _ hi a l e h0 => by
  have hr : List.range (n - k) = 0 :: (List.range (n - k - 1)).map (· + 1) := by
   rw [show n - k = (n - k - 1) + 1 by omega, Zbj]; rfl
  rw [hr, List.filter_cons, if_pos (by show (!decide (f (k + 0) k = 0)) = true; rw [Nat.add_zero, decide_eq_false h0]; rfl)] at e
  exact (List.cons.inj e).1.symm
 generalize (List.range (n - k)).filter (λ i => !decide (f (k + i) k = 0)) = xs at eI hmem hfst
 cases xs with
 | nil =>
  refine ⟨f, ?_, .inl ⟨rfl, λ _ i h1 h2 => ?_⟩⟩
  ·refine QY ?_
   refine run_seq (Qn eI ?_)
   rw [Qs]
   refine QC (Qam (b := true) ((Qpu (Qbh (b := false) (show QP (Qa 2) _ = some false from rfl)))) (λ _ => ?_) (λ h => by cases h))
   exact QC (Qdi (r := ⟨Qc n N f, false, []⟩) rfl ⟨rfl, rfl⟩)
  ·by_cases z : f i k = 0
   ·exact z
   ·have := (hmem (i - k)).mpr ⟨by omega, by rw [show k + (i - k) = i by omega]; exact z⟩
    simp at this
 | cons a l =>
  obtain ⟨ha, hz⟩ := (hmem a).mp Zi
  have eidx : ∀ ρ : En, ρ[2]? = some (some (.lst ((a :: l).map λ (i : Nat) => D.int ((k : Int) + i)), true)) -> Qy (Qa 2) (dC (.int 0)) ρ = some ⟨.int ((k : Int) + a), true, []⟩ := λ ρ hρ => by
   unfold Qy
   rw [show Qa 2 ρ = some ⟨.lst ((a :: l).map λ (i : Nat) => D.int ((k : Int) + i)), true, [2]⟩ by unfold Qa; rw [hρ]; rfl, Za, show dC (.int 0) ρ = some ⟨.int 0, true, []⟩ from rfl, Za]
   dsimp only
   simp only [D.items, Zv, Za]
   rw [Qen (show (0 : Int) <= 0 by decide) (by simp)]
   rfl
  by_cases h0 : a = 0
  ·subst h0
   refine ⟨f, ?_, .inl ⟨rfl, λ z => absurd z (by simpa using hz)⟩⟩
   refine QY ?_
   refine run_seq (Qn eI ?_)
   rw [Qs]
   refine QC (Qam (b := true) ((Qd5 (a := false) (b := true) (Qbh (b := true) (show QP (Qa 2) _ = some true from rfl)) (Q4 (b := true) (Qdd (a := k) (b := k) (ra := ⟨.int k, true, []⟩) ?_ rfl (rb := ⟨.int k, true, []⟩) rfl rfl) (by simp))).trans rfl) (λ _ => ?_) (λ h => by cases h))
   ·rw [eidx _ rfl]
    show some (HS.R.mk (.int ((k : Int) + (0 : Nat))) true []) = _
    rw [show (k : Int) + (0 : Nat) = k by omega]
   ·exact QC (Qdi (r := ⟨Qc n N f, false, []⟩) rfl ⟨rfl, rfl⟩)
  ·have hkk : f k k = 0 := by
    by_cases z : f k k = 0
    ·exact z
    ·exact absurd (hfst a hz ha a l rfl z) h0
   refine ⟨_, ?_, .inr ⟨k + a, by omega, by omega, hz, rfl⟩⟩
   refine QY ?_
   refine run_seq (Qn eI ?_)
   rw [Qs]
   refine QC (Qam (b := false) ((Qd5 (a := false) (b := false) (Qbh (b := true) (show QP (Qa 2) _ = some true from rfl)) (Q4 (b := false) (Qdd (a := (k : Int) + a) (b := k) (eidx _ rfl) rfl (rb := ⟨.int k, true, []⟩) rfl rfl) ?_)).trans rfl) (λ h => by cases h) (λ _ => QF ?_))
   ·show D.bl _ = _
    rw [decide_eq_false (by omega)]
   refine run_seq (QmA (n := n) (N := N) (k := k) (i := k + a) (f := f) (p := f (k + a)) (q := λ j => 0 - f k j) (by'  := false) (b1 := false) (b2 := true) (show 3 < 4 by decide) rfl rfl ?_ ?_ ?_ hk (by omega) ?_)
   ·exact (Qdb (m := n) (n := N) (f := f) (i := (k : Int) + a) (ra := ⟨Qc n N f, false, []⟩) rfl rfl (eidx _ rfl) rfl (by omega) (by omega)).trans (by rw [show ((k : Int) + a).toNat = k + a by omega])
   ·exact (eidx _ rfl).trans (by rw [show ((k + a : Nat) : Int) = (k : Int) + a by simp])
   ·exact Qv (r := ⟨[Qd N (f k)], false, []⟩) (QI ((Qdb (m := n) (n := N) (f := f) (i := k) (ra := ⟨Qc n N f, false, []⟩) (rb := ⟨.int k, true, []⟩) rfl rfl rfl rfl (by omega) (by omega)).trans (by rw [ZD])) (QaQ _)) (ho N (f k)) rfl
   ·exact QC (Qdi (r := ⟨Qc n N (Qeo f k (f (k + a)) (k + a) λ j => 0 - f k j), false, []⟩) rfl ⟨rfl, rfl⟩)
def Qjr (n : Nat) (m : Nat -> Nat -> Int) : Prop := ∀ j, j < n -> ∀ r, r < n -> (m j r).natAbs <= 2 ^ 240
theorem Qfy {n : Nat} (hn : n <= 8) : bnd (2 ^ 240) n < 2 ^ 2000 := by
 have h : ∀ k, k < 9 -> bnd (2 ^ 240) k < 2 ^ 2000 := by decide +kernel
 exact h n (by omega)
theorem Qjr.put {n : Nat} {m : Nat -> Nat -> Int} (h : Qjr n m) {i : Nat} {a : Nat -> Int} (ha : ∀ r, r < n -> (a r).natAbs <= 2 ^ 240) : Qjr n (cup m i a) := λ j hj r hr => by
 by_cases e : j = i
 ·subst e; rw [Ql]; exact ha r hr
 ·rw [Qi _ _ e]; exact h j hj r hr
structure Qbp (n N k : Nat) (A m R : Nat -> Nat -> Int) (d : Int) : Prop where
 clr : Clr n N k A m R d
 col : Qjr n m
theorem Qbp.start (n N : Nat) (A : Nat -> Nat -> Int) : Qbp n N 0 A Qk (λ i j => A j i) 1 := ⟨Clr.start n N A, λ j _ r _ => by unfold Qk; split <;> decide⟩
theorem Qbp.small {n N k : Nat} {A m R : Nat -> Nat -> Int} {d : Int} (h : Qbp n N k A m R d) (hn : n <= 8) (hA : ∀ j, j < N -> ∀ r, r < n -> (A j r).natAbs <= 2 ^ 240) : d.natAbs < 2 ^ 2000 /\ ∀ i j, i < n -> j < N -> (R i j).natAbs < 2 ^ 2000 := by
 have b := Qfy hn
 refine ⟨?_, λ i j hi hj => ?_⟩
 ·rw [← h.clr.det]; exact ZX (Qcs h.col) b
 ·rw [h.clr.ent i j hi hj]; exact ZX (Qcs (h.col.put (hA j hj))) b
theorem Qbp.step {n N k : Nat} {A m R R' : Nat -> Nat -> Int} {d : Int} (h : Qbp n N k A m R d) (hk : k < n) (kN : k < N) (hA : ∀ j, j < N -> ∀ r, r < n -> (A j r).natAbs <= 2 ^ 240) (hp : R k k ≠ 0) (h1 : ∀ j, j < N -> R' k j = R k j) (h2 : ∀ i j, i < n -> i ≠ k -> j < N -> ∀ q, R k k * R i j - R i k * R k j = d * q -> R' i j = q) : Qbp n N (k + 1) A (cup m k (A k)) R' (R k k) :=
 ⟨h.clr.step hk kN hp h1 h2, h.col.put (hA k kN)⟩
theorem Qbp.swap {n N k : Nat} {A m R : Nat -> Nat -> Int} {d : Int} (h : Qbp n N k A m R d) {i : Nat} (hk : k < n) (hi : i < n) (hki : k < i) : ∃ m', Qbp n N k A m' (Qeo R k (R i) i λ j => 0 - R k j) d := by
 have ne : k ≠ i := by omega
 have neg : ∀ (c : Nat), c < n -> ∀ (M : Nat -> Nat -> Int) (a : Nat -> Int), HS.det n (cup M c λ r => - a r) = - HS.det n (cup M c a) := λ c hc M a => by
  have := QbO (m := M) hc (-1) a
  simpa only [Zat, ZM] using this
 obtain ⟨c1, c2⟩ := h
 refine ⟨cup (cup m k (m i)) i λ r => - m k r, ⟨c1.le, ?_, c1.nz, λ l j hl hj => ?_, λ j hj => ?_⟩, λ j hj r hr => ?_⟩
 ·rw [neg i hi, Qaw hk hi ne, ZaM, QB, QB]; exact c1.det
 ·unfold Qeo
  by_cases e2 : l = i
  ·subst e2
   rw [if_pos rfl]
   show 0 - R k j = _
   rw [c1.ent k j hk hj, Qde, Qaw hk hl ne, Qw _ _ _ ne]
   have := QB m l
   rw [this]; omega
  ·rw [if_neg e2]
   by_cases e1 : l = k
   ·subst e1
    rw [if_pos rfl, c1.ent i j hi hj, Qw _ _ _ (Ne.symm ne), Qde, neg i hi, Qaw hl hi ne, ZaM, QB]
   ·rw [if_neg e1, c1.ent l j hl hj, Qw _ _ _ (Ne.symm e2), neg i hi, Qw _ _ _ (Ne.symm e1), Qaw hk hi ne, ZaM]
    rw [Qw _ _ _ e1, QB, Qw _ _ _ e2, QB]
 ·rw [Qi _ _ (by omega), Qi _ _ (by omega)]; exact c1.own j hj
 ·by_cases e1 : j = i
  ·subst e1; rw [Ql, Int.natAbs_neg]; exact c2 k hk r hr
  ·rw [Qi _ _ e1]
   by_cases e2 : j = k
   ·subst e2; rw [Ql]; exact c2 i hi r hr
   ·rw [Qi _ _ e2]; exact c2 j hj r hr
theorem Clr.stuck {n N k : Nat} {A m R : Nat -> Nat -> Int} {d : Int} (h : Clr n N k A m R d) (hk : k < n) (kN : k < N) (hz : ∀ i, k <= i -> i < n -> R i k = 0) : HS.det n A = 0 := by
 have t : ∀ r, r < n -> d * A k r = sm k λ l => R l k * A l r := λ r hr => by
  rw [h.tell kN hr, QhB (k := k) (by omega) λ l h1 h2 => by rw [hz l h1 h2, ZP]]
  exact Qaj λ l hl => by rw [h.own l hl]
 have e : d * HS.det n A = 0 := by
  have e1 : HS.det n (cup A k λ r => d * A k r) = d * HS.det n A := by rw [QbO hk, QB]
  rw [← e1]
  have e2 : HS.det n (cup A k λ r => d * A k r) = HS.det n (cup A k λ r => sm k λ l => R l k * A l r) := Qz λ j hj r hr => by
   by_cases q : j = k
   ·subst q; rw [Ql, Ql]; exact t r hr
   ·rw [Qi _ _ q, Qi _ _ q]
  rw [e2, Qc8 hk (λ l => R l k) A k]
  exact Qeh λ i hi => by rw [QcC (show i < n by omega) hk (by omega) (by rw [Ql, Qi _ _ (by omega)]), ZW]
 rcases Int.mul_eq_zero.mp e with z | z
 ·exact absurd z h.nz
 ·exact z
theorem Clr.all {n N : Nat} {A m R : Nat -> Nat -> Int} {d : Int} (h : Clr n N n A m R d) : d = HS.det n A := by
 rw [← h.det]
 exact Qz λ j hj r _ => by rw [h.own j hj]
def Qdq (d : Den) : Prop := ∀ (n N : Nat) (A : Nat -> Nat -> Int), n <= 8 -> n <= N -> (∀ j, j < N -> ∀ r, r < n -> (A j r).natAbs <= 2 ^ 240) -> ∃ R, d [Qc n N (λ i j => A j i)] = some (.tup [Qc n N R, .int (det n A)], false) /\ (det n A ≠ 0 -> ∃ m, Qbp n N n A m R (det n A))
theorem Qh9 {dp dt : Den} (hp : QeI dp) (ht : QfK dt) : Qdq (Qq 5 (QcW dp dt)) := λ n N A n8 hN hA => by
 have key : Run (QcW dp dt) [some (Qc n N (λ i j => A j i), false), none, none, none, none] λ o => match o with | .rt d fr => fr = false /\ ∃ R, d = .tup [Qc n N R, .int (det n A)] /\ (det n A ≠ 0 -> ∃ m, Qbp n N n A m R (det n A)) | _ => False := by
  refine run_seq (Qn (Qcz (r := ⟨Qc n N (λ i j => A j i), false, []⟩) rfl) ?_)
  refine run_seq (Qn (r := ⟨.int 1, true, []⟩) rfl ?_)
  rw [Qs]
  refine QC (Qbz (toD := λ (k : Nat) => .int (k : Int)) (List.range n) (λ k ρ => ∃ m R b j3 j4, Qbp n N k A m R b /\ ρ = [some (Qc n N (λ i j => A j i), false), some (Qc n N R, false), some (.int b, true), j3, j4]) (Qa5 (n := n) (Qb4 (n := n) (m := N) (f := λ i j => A j i) (r := ⟨Qc n N (λ i j => A j i), false, []⟩) rfl rfl) rfl (by omega)) rfl ⟨_, _, _, none, none, Qbp.start n N A, rfl⟩ ?_ ?_)
  ·rintro k k' ρ hk ⟨m0, R0, b, j3, j4, C0, rfl⟩
   have hk' : k < n /\ k = k' := by
    obtain ⟨h1, h2⟩ := Zh.mp hk
    simp at h1 h2; exact ⟨h1, h2⟩
   obtain ⟨hkn, rfl⟩ := hk'
   have kN : k < N := by omega
   obtain ⟨R, ep, hR⟩ := hp n N k R0 hkn (by omega) kN
   have hC : ∃ m, Qbp n N k A m R b /\ (R k k = 0 -> det n A = 0) := by
    rcases hR with ⟨rfl, hz⟩ | ⟨i, h1, h2, h3, rfl⟩
    ·exact ⟨m0, C0, λ z => C0.clr.stuck hkn kN (hz z)⟩
    ·obtain ⟨m', C'⟩ := C0.swap hkn h2 h1
     refine ⟨m', C', λ z => absurd z ?_⟩
     unfold Qeo
     rw [if_neg (by omega), if_pos rfl]
     exact h3
   obtain ⟨m, C, hzero⟩ := hC
   obtain ⟨sb, sR⟩ := C.small n8 hA
   refine ⟨[some (Qc n N (λ i j => A j i), false), some (Qc n N R0, false), some (.int b, true), some (.int k, true), j4], rfl, ?_⟩
   refine run_seq (Qn (r := ⟨Qc n N R, false, []⟩) ((Qhz (r := ⟨[Qc n N R0, .int k], false, []⟩) rfl ep rfl).trans rfl) ?_)
   refine run_seq (Qn (r := ⟨Qd N (R k), false, []⟩) ((Qcz (Qdb (m := n) (n := N) (f := R) (i := k) (ra := ⟨Qc n N R, false, []⟩) (rb := ⟨.int k, true, []⟩) rfl rfl rfl rfl (by omega) (by omega))).trans rfl) ?_)
   refine QC (Qam (b := decide (R k k = 0)) (Q4 (Qdd (a := R k k) (b := 0) (QbS (m := N) (f := R k) (i := k) (ra := ⟨Qd N (R k), false, []⟩) (rb := ⟨.int k, true, []⟩) rfl rfl rfl rfl kN) rfl rfl rfl) rfl) (λ h => ?_) (λ h => QF ?_))
   ·have dz := hzero (of_decide_eq_true h)
    refine QC (Qdi (r := ⟨.tup [Qc n N R, .int 0], false, []⟩) rfl ?_)
    exact ⟨rfl, R, by rw [dz], λ z => absurd dz z⟩
   have pv : R k k ≠ 0 := of_decide_eq_false h
   have ex : ∀ i j, ∃ q, i < n -> i ≠ k -> j < N -> R k k * R i j - R i k * R k j = b * q := λ i j => by
    by_cases h : i < n /\ i ≠ k /\ j < N
    ·exact ⟨_, λ h1 h2 h3 => C.clr.exact hkn kN h1 h3 h2⟩
    ·exact ⟨0, λ h1 h2 h3 => absurd ⟨h1, h2, h3⟩ h⟩
   have zz : ∀ j, R k k * R k j - R k k * R k j = b * 0 := λ j => by rw [Int.sub_self, ZW]
   have eT : ∀ i, i < n -> dt [Qd N (R i), Qd N (R k), .int k, .int b] = some (Qd N (λ j => if i = k then 0 else (ex i j).choose), true) := λ i hi =>
    ht N k (R i) (R k) _ b kN C.clr.nz sb (λ j hj => ⟨sR i j hi hj, sR k j hkn hj⟩) λ j hj => by
     by_cases e : i = k
     ·rw [if_pos e, e]; exact zz j
     ·rw [if_neg e]; exact (ex i j).choose_spec hi e hj
   refine run_seq (Qn (r := ⟨Qc n N (λ i j => if i = k then 0 else (ex i j).choose), true, []⟩) (Qal (toD := λ (i : Nat) => Qd N (R i)) (out := λ (i : Nat) => Qd N (λ j => if i = k then 0 else (ex i j).choose)) (List.range n) (Qbt (r := ⟨Qc n N R, false, []⟩) rfl rfl) rfl λ i hi => ⟨[none, some (Qd N (R i), false), some (.int k, true), some (.int b, true), some (Qd N (R k), false)], rfl, ⟨Qd N (λ j => if i = k then 0 else (ex i j).choose), true, []⟩, Qv (r := ⟨[Qd N (R i), Qd N (R k), .int k, .int b], false, []⟩) rfl (eT i (ZF.mp hi)) rfl, rfl, rfl⟩) ?_)
   rw [Qs]
   refine run_seq (QjS (n := n) (N := N) (k := k) (p := R k) (g := λ i j => if i = k then 0 else (ex i j).choose) rfl rfl rfl hkn ?_)
   refine run_seq (Qn (r := ⟨.int (R k k), false, []⟩) ((Qcz (QbS (m := N) (f := R k) (i := k) (ra := ⟨Qd N (R k), false, []⟩) (rb := ⟨.int k, true, []⟩) rfl rfl rfl rfl kN)).trans rfl) (QF ?_))
   rw [Qdr rfl]
   refine ⟨_, _, _, _, _, C.step (R' := λ i j => if i = k then R k j else (λ i j => if i = k then 0 else (ex i j).choose) i j) hkn kN hA pv (λ j _ => by show (if k = k then R k j else _) = _; rw [if_pos rfl]) (λ i j hi ne hj q hq => ?_), rfl⟩
   show (if i = k then R k j else if i = k then 0 else (ex i j).choose) = q
   rw [if_neg ne, if_neg ne]
   exact Int.eq_of_mul_eq_mul_left C.clr.nz (((ex i j).choose_spec hi ne hj).symm.trans hq)
  ·rintro ρ ⟨m, R, b, j3, j4, C, rfl⟩
   rw [ZO] at C
   have hb := C.clr.all
   subst hb
   exact QL (r := ⟨.tup [Qc n N R, .int (det n A)], false, []⟩) rfl ⟨rfl, R, rfl, λ _ => ⟨m, C⟩⟩
 obtain ⟨o, h1, h2⟩ := key
 cases o with
 | rt d fr =>
  obtain ⟨rfl, R, rfl, C⟩ := h2
  exact ⟨R, by show Option.bind (QcW dp dt [some (Qc n N (λ i j => A j i), false), none, none, none, none]) outD = _; rw [h1]; rfl, C⟩
 | _ => exact h2.elim
noncomputable def Qgw (Qbw : Den) : DS := (Qe (QN (Qy (Qx 1 Qbw [] (Qb (Qa 0) Qg)) (dC (.int 1)))) Qp)
def QcQ (d : Den) : Prop := ∀ (n : Nat) (f : Nat -> Nat -> Int), n <= 8 -> (∀ i, i < n -> ∀ j, j < n -> (f i j).natAbs <= 2 ^ 240) -> d [Qc n n f] = some (.int (det n λ j i => f i j), true)
theorem Qjp {dc : Den} (hc : Qdq dc) : QcQ (Qq 1 (Qgw dc)) := λ n f n8 hf => by
 obtain ⟨R, e, _⟩ := hc n n (λ j i => f i j) n8 (Zj n) (λ j hj r hr => hf r hr j hj)
 refine QY ?_
 refine QL (r := ⟨.int (det n λ j i => f i j), true, []⟩) ?_ ⟨rfl, rfl⟩
 have e1 := Qhz (n := 1) (dfl := []) (fs := Qb (Qa 0) Qg) (ρ := [some (Qc n n f, false)]) (r := ⟨[Qc n n f], false, []⟩) rfl e rfl
 exact (Qok (e1.trans rfl)).trans rfl
noncomputable def Qck : DS := (Qe (QN (dOp Qb9 (dOp Qbf (Qa 0) (Q2 (Q6 (dC (.int 2)) (Qa 1)) (dC (.int 1)))) (Qa 1))) Qp)
def Qek (d : Den) : Prop := ∀ c far : Int, 0 <= far -> d [.int c, .int far] = some (.int (c % (2 * far + 1) - far), true)
theorem Qk3 : Qek (Qq 2 Qck) := λ c far h0 => by
 refine QY (QL (Qfu (a := c % (2 * far + 1)) (b := far) (QaP (a := c) (b := 2 * far + 1) (ra := ⟨.int c, true, []⟩) rfl rfl (Qah (a := 2 * far) (b := 1) (Q5 (a := 2) (b := far) rfl rfl (rb := ⟨.int far, true, []⟩) rfl rfl (Qbc (by decide))) rfl rfl rfl) rfl (by omega)) rfl (rb := ⟨.int far, true, []⟩) rfl rfl) ⟨rfl, rfl⟩)
theorem Qku {c far : Int} (h0 : 0 <= far) : -far <= c % (2 * far + 1) - far /\ c % (2 * far + 1) - far <= far := by
 have h1 := ZR c (by omega : 2 * far + 1 ≠ 0)
 have h2 := ZE c (by omega : 0 < 2 * far + 1)
 omega
noncomputable def QcK (QT : Den) : DS := (Qe (QA 4 (QaH Qg)) (Qe (Qb1 (Qao (Qa 2)) (.nm 5) (Qe (QbE 4 Qbq (Q9 (Qao (Qa 2)) (.nm 1) [none, none, some 0, some 3, some 5, some 2, some 1] QaM (Qx 2 QT [] (Qb (Qy (Qa 2) (Q2 (Q2 (Qa 6) (Q6 (Qa 4) (Qa 5))) (Qa 1))) (Qb (Qa 3) Qg))))) Qp)) (Qe (QN (Qa 4)) Qp)))
def QdJ (d : Den) : Prop := ∀ (cs : List Int) (a n : Nat) (far : Int), a + n * n <= cs.length -> a <= 100 -> n <= 5 -> 0 <= far -> ∃ f, d [Qo cs, .int a, .int n, .int far] = some (Qc n n f, true) /\ InT n far f
theorem QiT {dn : Den} (hn : Qek dn) : QdJ (Qq 6 (QcK dn)) := λ cs a n far hl ha hn8 h0 => by
 refine ⟨λ i j => cs.getD (a + i * n + j) 0 % (2 * far + 1) - far, QY ?_, λ i j hi hj => Qku h0⟩
 generalize hf : (λ i j => cs.getD (a + i * n + j) 0 % (2 * far + 1) - far) = f
 refine run_seq (Qn (r := ⟨Qc 0 n f, true, []⟩) rfl ?_)
 rw [Qs]
 refine Qa4 (P := λ ρ => ∃ j5, ρ = [some (Qo cs, false), some (.int a, true), some (.int n, true), some (.int far, true), some (Qc n n f, true), j5]) ?_ ?_
 ·refine Qbz (toD := λ (k : Nat) => .int (k : Int)) (List.range n) (λ i ρ => ∃ j5, ρ = [some (Qo cs, false), some (.int a, true), some (.int n, true), some (.int far, true), some (Qc i n f, true), j5]) (Qa5 (n := n) (r := ⟨.int n, true, []⟩) rfl rfl (by omega)) rfl ⟨none, rfl⟩ ?_ ?_
  ·rintro i i' ρ hi ⟨j5, rfl⟩
   have hi' : i < n /\ i = i' := by
    obtain ⟨h1, h2⟩ := Zh.mp hi
    simp at h1 h2; exact ⟨h1, h2⟩
   obtain ⟨him, rfl⟩ := hi'
   refine ⟨[some (Qo cs, false), some (.int a, true), some (.int n, true), some (.int far, true), some (Qc i n f, true), some (.int i, true)], rfl, ?_⟩
   refine run_seq (QeN (xs := (List.range i).map λ k => Qd n (f k)) (d := Qd n (f i)) rfl ?_ (by simp; omega) (QF ⟨some (.int i, true), ?_⟩))
   ·refine Qal (toD := λ (k : Nat) => .int (k : Int)) (out := λ (j : Nat) => .int (f i j)) (List.range n) (Qa5 (n := n) (r := ⟨.int n, true, []⟩) rfl rfl (by omega)) rfl λ j hj => ⟨[none, some (.int j, true), some (Qo cs, false), some (.int far, true), some (.int i, true), some (.int n, true), some (.int a, true)], rfl, ⟨.int (f i j), true, []⟩, ?_, rfl, rfl⟩
    have hj := ZF.mp hj
    have hin : i * n + j < n * n := by
     have h1 : (i + 1) * n <= n * n := Nat.mul_le_mul_right n (by omega)
     rw [Zbi] at h1
     omega
    have hk : a + i * n + j < cs.length := by omega
    have ei : Q2 (Q2 (Qa 6) (Q6 (Qa 4) (Qa 5))) (Qa 1) [none, some (.int j, true), some (Qo cs, false), some (.int far, true), some (.int i, true), some (.int n, true), some (.int a, true)] = some ⟨.int ((a + i * n + j : Nat) : Int), true, []⟩ := by
     refine (Qah (a := a + i * n) (b := j) (Qah (a := a) (b := i * n) rfl rfl (Q5 (a := i) (b := n) rfl rfl rfl rfl (Qbc (by omega))) rfl) rfl rfl rfl).trans ?_
     rw [show ((a + i * n + j : Nat) : Int) = (a : Int) + i * n + j by simp]
    have e1 := QbN (ns := cs) (i := ((a + i * n + j : Nat) : Int)) (v := cs.getD (a + i * n + j) 0) (fa := Qa 2) (ρ := [none, some (.int j, true), some (Qo cs, false), some (.int far, true), some (.int i, true), some (.int n, true), some (.int a, true)]) (ra := ⟨Qo cs, false, []⟩) rfl rfl ei rfl (by omega) (by rw [ZD, ZQ, ZU hk]; rfl)
    refine (Qv (QI e1 (QI (r := ⟨.int far, true, []⟩) rfl (QaQ _))) (hn _ far h0) rfl).trans ?_
    rw [← hf]
   ·rw [QeD]; rfl
  ·rintro ρ ⟨j5, rfl⟩
   rw [ZO]
   exact ⟨_, rfl⟩
 rintro ρ ⟨j5, rfl⟩
 exact QL (r := ⟨Qc n n f, true, [4]⟩) rfl ⟨rfl, rfl⟩
noncomputable def Qew (QT : Den) : DS := (Qe (QA 4 (QaH Qg)) (Qe (Qb1 (Qao (dBf Qax (Qb (Qa 0) Qg))) (.nm 5) (Qe (QA 6 (Q9 (Qao (dBf Qax (Qb (Qa 1) Qg))) (.nm 1) [none, none, some 2, some 3, some 5] QaM (Qx 2 QT [] (Qb (Qy (Qa 2) (Q2 (Q2 (dC (.int 66)) (Q6 (dC (.int 2)) (Qa 4))) (Qa 1))) (Qb (Qa 3) Qg))))) (Qe (QbE 4 Qbq (Q2 (Qy (Qa 0) (Qa 5)) (Qa 6))) Qp))) (Qe (Qb1 (Qay (Qa 1)) (.nm 7) (Qe (QbE 4 Qbq (Q2 (Q6 (QaH (Qb (dC (.int 0)) Qg)) (dBf Qax (Qb (Qa 0) Qg))) (Qa 7))) Qp)) (Qe (QN (Qa 4)) Qp))))
noncomputable def Qcb (n : Nat) (f h g : Nat -> Nat -> Int) : Nat -> Nat -> Int := λ i j => QaX n (λ j i => f i j) (λ j i => h i j) (λ j i => g i j) j i
def Qg9 (d : Den) : Prop := ∀ (cs : List Int) (n k : Nat) (f g : Nat -> Nat -> Int) (far : Int), cs.length = 72 -> n <= 3 -> k <= 2 -> 0 <= far -> ∃ h, d [Qc n n f, Qc k k g, Qo cs, .int far] = some (Qc (n + k) (n + k) (Qcb n f h g), true) /\ ∀ i j, -far <= h i j /\ h i j <= far
theorem Qmu {dn : Den} (hn : Qek dn) : Qg9 (Qq 8 (Qew dn)) := λ cs n k f g far hl n3 k2 h0 => by
 refine ⟨λ i j => cs.getD (66 + 2 * i + j) 0 % (2 * far + 1) - far, QY ?_, λ i j => Qku h0⟩
 generalize hh : (λ i j => cs.getD (66 + 2 * i + j) 0 % (2 * far + 1) - far) = h
 have lenT : ∀ {ρ : En}, ρ[0]? = some (some (Qc n n f, false)) -> dBf Qax (Qb (Qa 0) Qg) ρ = some ⟨.int n, true, []⟩ := λ {ρ} h => Qb4 (n := n) (m := n) (f := f) (QhR h) rfl
 have up1 : ∀ i, i < n -> Qd (n + k) (λ j => if j < n then f i j else h i (j - n)) = Qd (n + k) (Qcb n f h g i) := λ i hi => Qf6 λ j _ => by
  unfold Qcb QaX
  by_cases q : j < n
  ·rw [if_pos q, if_pos q, if_pos hi]
  ·rw [if_neg q, if_neg q, if_pos hi]
 have dn1 : ∀ i, Qd (n + k) (λ j => if j < n then 0 else g i (j - n)) = Qd (n + k) (Qcb n f h g (n + i)) := λ i => Qf6 λ j _ => by
  unfold Qcb QaX
  by_cases q : j < n
  ·rw [if_pos q, if_pos q, if_neg (by omega)]
  ·rw [if_neg q, if_neg q, if_neg (by omega), show n + i - n = i by omega]
 generalize Qcb n f h g = L at up1 dn1
 refine run_seq (Qn (r := ⟨Qc 0 (n + k) L, true, []⟩) rfl ?_)
 rw [Qs]
 refine Qa4 (P := λ ρ => ∃ j5 j6, ρ = [some (Qc n n f, false), some (Qc k k g, false), some (Qo cs, false), some (.int far, true), some (Qc n (n + k) L, true), j5, j6, none]) ?_ ?_
 ·refine Qbz (toD := λ (k : Nat) => .int (k : Int)) (List.range n) (λ i ρ => ∃ j5 j6, ρ = [some (Qc n n f, false), some (Qc k k g, false), some (Qo cs, false), some (.int far, true), some (Qc i (n + k) L, true), j5, j6, none]) (Qa5 (n := n) (lenT rfl) rfl (by omega)) rfl ⟨none, none, rfl⟩ ?_ ?_
  ·rintro i i' ρ hi ⟨j5, j6, rfl⟩
   have hi' : i < n /\ i = i' := by
    obtain ⟨h1, h2⟩ := Zh.mp hi
    simp at h1 h2; exact ⟨h1, h2⟩
   obtain ⟨him, rfl⟩ := hi'
   refine ⟨[some (Qc n n f, false), some (Qc k k g, false), some (Qo cs, false), some (.int far, true), some (Qc i (n + k) L, true), some (.int i, true), j6, none], rfl, ?_⟩
   refine run_seq (Qn (r := ⟨Qd k (h i), true, []⟩) (Qal (toD := λ (j : Nat) => .int (j : Int)) (out := λ (j : Nat) => .int (h i j)) (List.range k) (Qa5 (n := k) (Qb4 (n := k) (m := k) (f := g) (r := ⟨Qc k k g, false, []⟩) rfl rfl) rfl (by omega)) rfl λ j hj => ⟨[none, some (.int j, true), some (Qo cs, false), some (.int far, true), some (.int i, true)], rfl, ⟨.int (h i j), true, []⟩, ?_, rfl, rfl⟩) ?_)
   ·have hj := ZF.mp hj
    have hk : 66 + 2 * i + j < cs.length := by omega
    have ei : Q2 (Q2 (dC (.int 66)) (Q6 (dC (.int 2)) (Qa 4))) (Qa 1) [none, some (.int j, true), some (Qo cs, false), some (.int far, true), some (.int i, true)] = some ⟨.int ((66 + 2 * i + j : Nat) : Int), true, []⟩ := by
     refine (Qah (a := 66 + 2 * (i : Int)) (b := j) (Qah (a := 66) (b := 2 * (i : Int)) rfl rfl (Q5 (a := 2) (b := i) rfl rfl rfl rfl (Qbc (by decide))) rfl) rfl rfl rfl).trans ?_
     rw [show ((66 + 2 * i + j : Nat) : Int) = 66 + 2 * (i : Int) + j by simp]
    have e1 := QbN (ns := cs) (i := ((66 + 2 * i + j : Nat) : Int)) (v := cs.getD (66 + 2 * i + j) 0) (fa := Qa 2) (ρ := [none, some (.int j, true), some (Qo cs, false), some (.int far, true), some (.int i, true)]) (ra := ⟨Qo cs, false, []⟩) rfl rfl ei rfl (by omega) (by rw [ZD, ZQ, ZU hk]; rfl)
    refine (Qv (QI e1 (QI (r := ⟨.int far, true, []⟩) rfl (QaQ _))) (hn _ far h0) rfl).trans ?_
    rw [← hh]
   rw [Qs]
   refine run_seq (QeN (xs := (List.range i).map λ q => Qd (n + k) (L q)) (d := Qd (n + k) (L i)) rfl ?_ (by simp; omega) (QF ⟨some (.int i, true), some (Qd k (h i), true), ?_⟩))
   ·refine (QeU (m := n) (k := k) (f := f i) (g := h i) ((Qdb (m := n) (n := n) (f := f) (i := i) (ra := ⟨Qc n n f, false, []⟩) (rb := ⟨.int i, true, []⟩) rfl rfl rfl rfl (by omega) (by omega)).trans (by rw [ZD])) rfl (rb := ⟨Qd k (h i), true, [6]⟩) rfl rfl (by omega)).trans ?_
    rw [up1 i him]
   ·rw [QeD]; rfl
  ·rintro ρ ⟨j5, j6, rfl⟩
   rw [ZO]
   exact ⟨_, _, rfl⟩
 rintro ρ ⟨j5, j6, rfl⟩
 refine Qa4 (P := λ ρ => ∃ j7, ρ = [some (Qc n n f, false), some (Qc k k g, false), some (Qo cs, false), some (.int far, true), some (Qc (n + k) (n + k) L, true), j5, j6, j7]) ?_ ?_
 ·refine Qbz (toD := λ (i : Nat) => Qd k (g i)) (List.range k) (λ i ρ => ∃ j7, ρ = [some (Qc n n f, false), some (Qc k k g, false), some (Qo cs, false), some (.int far, true), some (Qc (n + i) (n + k) L, true), j5, j6, j7]) (Qbt (r := ⟨Qc k k g, false, []⟩) rfl rfl) rfl ⟨none, rfl⟩ ?_ ?_
  ·rintro i i' ρ hi ⟨j7, rfl⟩
   have hi' : i < k /\ i = i' := by
    obtain ⟨h1, h2⟩ := Zh.mp hi
    simp at h1 h2; exact ⟨h1, h2⟩
   obtain ⟨him, rfl⟩ := hi'
   refine ⟨[some (Qc n n f, false), some (Qc k k g, false), some (Qo cs, false), some (.int far, true), some (Qc (n + i) (n + k) L, true), j5, j6, some (Qd k (g i), false)], rfl, ?_⟩
   refine run_seq (QeN (xs := (List.range (n + i)).map λ q => Qd (n + k) (L q)) (d := Qd (n + k) (L (n + i))) rfl ?_ (by simp; omega) (QF ⟨some (Qd k (g i), false), ?_⟩))
   ·refine (QeU (m := n) (k := k) (f := λ _ => 0) (g := g i) (QoN (n := n) (z := 0) (lenT rfl) rfl (by omega)) rfl (rb := ⟨Qd k (g i), false, []⟩) rfl rfl (by omega)).trans ?_
    rw [dn1 i]
   ·rw [QeD]; rfl
  ·rintro ρ ⟨j7, rfl⟩
   rw [ZO]
   exact ⟨_, rfl⟩
 rintro ρ ⟨j7, rfl⟩
 exact QL (r := ⟨Qc (n + k) (n + k) L, true, [4]⟩) rfl ⟨rfl, rfl⟩
noncomputable def Qcj : DS := (Qe (QN (Q9 (Qay (Qa 0)) (.nm 1) [none, none, some 1] QaM (Q2 (QdT (Qa 1) (QcZ (Qa 2)) QcV) (QdT (Qa 1) QcV (QcZ (Qa 2)))))) Qp)
def QeZ (d : Den) : Prop := ∀ (N b : Nat) (L : Nat -> Nat -> Int), b < N -> N <= 100 -> d [Qc N N L, .int b] = some (Qc N N (λ i j => L i ((j + b) % N)), true)
theorem Qjw : QeZ (Qq 2 Qcj) := λ N b L hb hN => by
 refine QY (QL (r := ⟨Qc N N (λ i j => L i ((j + b) % N)), true, []⟩) (Qal (toD := λ (i : Nat) => Qd N (L i)) (out := λ (i : Nat) => Qd N λ j => L i ((j + b) % N)) (List.range N) (Qbt (r := ⟨Qc N N L, false, []⟩) rfl rfl) rfl λ i _ => ⟨[none, some (Qd N (L i), false), some (.int b, true)], rfl, ⟨Qd N λ j => L i ((j + b) % N), true, []⟩, ?_, rfl, rfl⟩) ⟨rfl, rfl⟩)
 refine (QeU (m := N - b) (k := b) (f := λ j => L i (b + j)) (g := L i) (QkK (m := N) (n := b) (f := L i) (ra := ⟨Qd N (L i), false, []⟩) rfl rfl (rb := ⟨.int b, true, []⟩) rfl rfl (by omega)) rfl (Qmy (m := N) (n := b) (f := L i) (ra := ⟨Qd N (L i), false, []⟩) rfl rfl (rb := ⟨.int b, true, []⟩) rfl rfl (by omega)) rfl (by omega)).trans ?_
 rw [show N - b + b = N by omega]
 congr 2
 refine Qf6 λ j hj => ?_
 by_cases q : j < N - b
 ·rw [if_pos q, Nat.mod_eq_of_lt (by omega), Nat.add_comm]
 ·rw [if_neg q, show (j + b) % N = j - (N - b) by
   rw [show j + b = (j - (N - b)) + N by omega, Nat.add_mod_right, Nat.mod_eq_of_lt (by omega)]]
noncomputable def Qcm (QU : Den) (QE : Den) (Qbs : Den) (Qab : Den) (QM : Den) : DS := (Qe (QA 2 (dBf Qax (Qb (Qa 0) Qg))) (Qe (QA 3 (QaH (Qb (Qx 1 QU [] (Qb (Qa 0) Qg)) (Qb (Qx 1 QU [] (Qb (Qa 1) Qg)) Qg)))) (Qe (sIf (Qb0 (QP (Qx 2 QE [] (Qb (Qa 3) (Qb (dC (.int 2)) Qg))))) (Qe (QN (dC (.bl false))) Qp) Qp) (Qe (Qb1 (Qay (QaH (Qb (QfZ (Qb (Qa 0) (Qb (Qa 1) Qg))) (Qb (QfZ (Qb (Qa 1) (Qb (Qa 0) Qg))) Qg)))) (.nm 4) (Qe (QA 5 (Qx 2 Qbs [] (Qb (Qy (Qa 4) (dC (.int 0))) (Qb (Qy (Qa 4) (dC (.int 1))) Qg)))) (Qe (sIf (Qb0 (QP (Qx 2 Qab [] (Qb (Qa 5) (Qb (Qa 2) Qg))))) (Qe (QN (dC (.bl false))) Qp) Qp) (Qe (QA 6 (Qx 1 QU [] (Qb (Qa 5) Qg))) (Qe (sIf (bOr (Qb0 (QP (Qx 1 QM [] (Qb (Qa 6) Qg)))) (QP (dOp gNe (Qa 6) (Q6 (Qy (Qa 3) (dC (.int 0))) (Qy (Qa 3) (dC (.int 1))))))) (Qe (QN (dC (.bl false))) Qp) Qp) Qp))))) (Qe (QN (dC (.bl true))) Qp)))))
def Qh8 (d : Den) : Prop := ∀ (n : Nat) (f g : Nat -> Nat -> Int) (far : Int), n <= 5 -> InT n far f -> InT n far g -> 0 <= far -> far <= 10 ^ 34 -> d [Qc n n f, Qc n n g] = some (.bl true, true)
theorem Qdt {n : Nat} {m : Nat -> Nat -> Int} (hn : n <= 8) (h : ∀ j, j < n -> ∀ r, r < n -> (m j r).natAbs <= 2 ^ 240) : QbL (det n m) := Qbo (ZX (Qcs h) (Qfy hn))
set_option exponentiation.threshold 400 in
theorem Qcy {n : Nat} {far : Int} {f : Nat -> Nat -> Int} (h : InT n far f) (hf : far <= 10 ^ 34) : ∀ i, i < n -> ∀ j, j < n -> (f i j).natAbs <= 2 ^ 115 := λ i hi j hj => by
 have h1 := h i j hi hj
 have h4 : (((10 : Nat) ^ 34 : Nat) : Int) = (10 : Int) ^ 34 := by decide +kernel
 have h5 : (10 : Nat) ^ 34 <= 2 ^ 115 := by decide +kernel
 rw [← h4] at hf
 generalize (10 : Nat) ^ 34 = t at hf h5
 generalize (2 : Nat) ^ 115 = u at h5
 omega
theorem Qgf (n : Nat) (f g : Nat -> Nat -> Int) : (det n λ j i => prodF n f g i j) = (det n λ j i => f i j) * det n λ j i => g i j := by
 rw [Zar, ← QkM n (λ j i => g i j) λ j i => f i j]
 refine Qz λ j _ i _ => ?_
 unfold prodF
 rw [← Qgc]
 exact Qaj λ s _ => by rw [Zar]
set_option exponentiation.threshold 400 in
theorem Qm5 {dm dn dp di dw : Den} (hm : QcQ dm) (hn : Qd2 dn) (hp : QdS dp) (hi : QfX di) (hw : Qc9 dw) : Qh8 (Qq 7 (Qcm dm dn dp di dw)) := λ n f g far n5 hf hg h0 hfar => by
 have sf := Qcy hf hfar
 have sg := Qcy hg hfar
 have up : ∀ {x : Int}, x.natAbs <= 2 ^ 115 -> x.natAbs <= 2 ^ 240 := λ {x} h => Zr h (by decide +kernel)
 have prs : ∀ p q : Nat -> Nat -> Int, (∀ i, i < n -> ∀ j, j < n -> (p i j).natAbs <= 2 ^ 115) -> (∀ i, i < n -> ∀ j, j < n -> (q i j).natAbs <= 2 ^ 115) -> ∀ i, i < n -> ∀ j, j < n -> (prodF n p q i j).natAbs <= 2 ^ 240 := λ p q hp hq i hi j hj => by
  unfold prodF
  rw [← Qgc]
  refine Zr (Qhh (C := 2 ^ 115 * 2 ^ 115) λ k hk => ?_) (Zr (Nat.mul_le_mul_right _ n5) (by decide +kernel))
  rw [Zbq]
  exact ZaE (hp i hi k hk) (hq k hk j hj)
 have mf := hm n f (by omega) λ i hi j hj => up (sf i hi j hj)
 have mg := hm n g (by omega) λ i hi j hj => up (sg i hi j hj)
 have ba : QbL (det n λ j i => f i j) := Qdt (by omega) λ j hj r hr => up (sf r hr j hj)
 have bb : QbL (det n λ j i => g i j) := Qdt (by omega) λ j hj r hr => up (sg r hr j hj)
 have both : ∀ p : (Nat -> Nat -> Int) × (Nat -> Nat -> Int), p ∈ [(f, g), (g, f)] -> dp [Qc n n p.1, Qc n n p.2] = some (Qc n n (prodF n p.1 p.2), true) /\ dm [Qc n n (prodF n p.1 p.2)] = some (.int ((det n λ j i => f i j) * det n λ j i => g i j), true) := λ p hp' => by
  have bf : QgR n f := λ i j hi hj => Qbo (ZX (up (sf i hi j hj)) (Nat.pow_lt_pow_right (by decide) (by decide)))
  have bg : QgR n g := λ i j hi hj => Qbo (ZX (up (sg i hi j hj)) (Nat.pow_lt_pow_right (by decide) (by decide)))
  rcases Zt.mp hp' with rfl | hp'
  ·exact ⟨hp n f g (by omega) bf bg, by rw [hm n _ (by omega) (prs f g sf sg), Qgf]⟩
  ·cases Zw.mp hp'
   exact ⟨hp n g f (by omega) bg bf, by rw [hm n _ (by omega) (prs g f sg sf), Qgf, Zar]⟩
 generalize (det n λ j i => f i j) = a at *
 generalize (det n λ j i => g i j) = b at *
 have hnum : dn [.lst [.int a, .int b], .int 2] = some (.bl true, true) := hn 2 λ k => if k = 0 then a else b
 refine QY ?_
 refine run_seq (Qn (Qb4 (n := n) (m := n) (f := f) (r := ⟨Qc n n f, false, []⟩) rfl rfl) ?_)
 rw [Qs]
 refine run_seq (Qn (r := ⟨.lst [.int a, .int b], true, []⟩) ((Qg3 (QI (Qv (r := ⟨[Qc n n f], false, []⟩) rfl mf rfl) (QI (Qv (r := ⟨[Qc n n g], false, []⟩) rfl mg rfl) (QaQ _))) (by simp)).trans rfl) ?_)
 rw [Qs]
 change Run _ [some (Qc n n f, false), some (Qc n n g, false), some (.int n, true), some (.lst [.int a, .int b], true), none, none, none] _
 refine QC (Qam (b := false) (Qbh (b := true) (Q4 (b := true) (Qv (r := ⟨[.lst [.int a, .int b], .int 2], true, [3]⟩) rfl hnum rfl) rfl)) (λ h => by cases h) (λ _ => QF ?_))
 refine QC (Qbz (toD := λ (p : (Nat -> Nat -> Int) × (Nat -> Nat -> Int)) => .tup [Qc n n p.1, Qc n n p.2]) [(f, g), (g, f)] (λ _ ρ => ∃ j4 j5 j6, ρ = [some (Qc n n f, false), some (Qc n n g, false), some (.int n, true), some (.lst [.int a, .int b], true), j4, j5, j6]) (ir := ⟨[.tup [Qc n n f, Qc n n g], .tup [Qc n n g, Qc n n f]], []⟩) rfl rfl ⟨none, none, none, rfl⟩ ?_ ?_)
 ·rintro i p ρ hi' ⟨j4, j5, j6, rfl⟩
  obtain ⟨e1, e2⟩ := both p (Zao hi')
  refine ⟨[some (Qc n n f, false), some (Qc n n g, false), some (.int n, true), some (.lst [.int a, .int b], true), some (.tup [Qc n n p.1, Qc n n p.2], false), j5, j6], rfl, ?_⟩
  refine QC (Qn (Qv (r := ⟨[Qc n n p.1, Qc n n p.2], false, []⟩) rfl e1 rfl) ?_)
  rw [Qs]
  refine QC (Qam (b := false) (Qbh (b := true) (Q4 (b := true) (Qv (r := ⟨[Qc n n (prodF n p.1 p.2), .int n], true, [5]⟩) rfl (hi n _) rfl) rfl)) (λ h => by cases h) (λ _ => QF ?_))
  refine QC (Qn (Qv (r := ⟨[Qc n n (prodF n p.1 p.2)], true, [5]⟩) rfl e2 rfl) ?_)
  rw [Qs]
  refine QC (Qam (b := false) (Qd5 (a := false) (b := false) (Qbh (b := true) (Q4 (b := true) (Qv (r := ⟨[.int (a * b)], true, []⟩) rfl (hw _) rfl) rfl)) (Q4 (b := false) (Qfc (a := a * b) (b := a * b) (ra := ⟨.int (a * b), true, []⟩) rfl rfl (Q5 (a := a) (b := b) (ra := ⟨.int a, true, []⟩) rfl rfl (rb := ⟨.int b, true, []⟩) rfl rfl (Qdf ba bb)) rfl) (by simp))) (λ h => by cases h) (λ _ => QF (QF ⟨_, _, _, rfl⟩)))
 ·rintro ρ ⟨j4, j5, j6, rfl⟩
  exact QL (r := ⟨.bl true, true, []⟩) rfl ⟨rfl, rfl⟩
noncomputable def Qgy (QaD : Den) (QZ : Den) (Q1 : Den) (QU : Den) (QaW : Den) (Qap : Den) (QE : Den) (QM : Den) : DS := (Qe (QA 1 (Qx 2 QaD [] (Qb (Qa 0) (Qb (dC (.int 72)) Qg)))) (Qe (QA 2 (Q2 (dC (.int 1)) (dOp Qbf (Qy (Qa 1) (dC (.int 0))) (dC (.int 5))))) (Qe (QA 3 (QaC (Qy (QaH (Qb (dC (.int 3)) (Qb (dOp Qb2 (dC (.int 10)) (dC (.int 9))) (Qb (dOp Qb2 (dC (.int 10)) (dC (.int 34))) Qg)))) (dOp Qbf (Qy (Qa 1) (dC (.int 1))) (dC (.int 3)))))) (Qe (QA 4 (Qx 4 QZ [] (Qb (Qa 1) (Qb (dC (.int 2)) (Qb (Qa 2) (Qb (Qa 3) Qg)))))) (Qe (QA 5 (Qx 4 QZ [] (Qb (Qa 1) (Qb (Q2 (dC (.int 2)) (Q6 (Qa 2) (Qa 2))) (Qb (Qa 2) (Qb (Qa 3) Qg)))))) (Qe (sIf (Qb0 (QP (Qx 2 Q1 [] (Qb (Qa 4) (Qb (Qa 5) Qg))))) (Qe (QN (dC (.bl false))) Qp) Qp) (Qe (QA 2 (Q2 (dC (.int 1)) (dOp Qbf (dOp QdX (Qy (Qa 1) (dC (.int 0))) (dC (.int 5))) (dC (.int 3))))) (Qe (QA 6 (Q2 (dC (.int 1)) (dOp Qbf (dOp QdX (Qy (Qa 1) (dC (.int 0))) (dC (.int 15))) (dC (.int 2))))) (Qe (QA 4 (Qx 4 QZ [] (Qb (Qa 1) (Qb (dC (.int 53)) (Qb (Qa 2) (Qb (Qa 3) Qg)))))) (Qe (QA 5 (Qx 4 QZ [] (Qb (Qa 1) (Qb (dC (.int 62)) (Qb (Qa 6) (Qb (Qa 3) Qg)))))) (Qe (QA 7 (dOp Qbf (dOp QdX (Qy (Qa 1) (dC (.int 1))) (dC (.int 3))) (Q2 (Qa 2) (Qa 6)))) (Qe (QA 8 (QaH (Qb (Qx 1 QU [] (Qb (Qa 4) Qg)) (Qb (Qx 1 QU [] (Qb (Qa 5) Qg)) Qg)))) (Qe (QA 9 (Qx 1 QU [] (Qb (Qx 2 Qap [] (Qb (Qx 4 QaW [] (Qb (Qa 4) (Qb (Qa 5) (Qb (Qa 1) (Qb (Qa 3) Qg))))) (Qb (Qa 7) Qg))) Qg))) (Qe (QA 10 (Q6 (Qy (Qa 8) (dC (.int 0))) (Qy (Qa 8) (dC (.int 1))))) (Qe (sIf (QP (dOp gEq (dOp Qbf (Q6 (Qa 7) (dOp Qb9 (Q2 (Qa 2) (Qa 6)) (dC (.int 1)))) (dC (.int 2))) (dC (.int 1)))) (Qe (QA 10 (dOp Qb9 (dC (.int 0)) (Qa 10))) Qp) Qp) (Qe (QN (QeJ (Qx 2 QE [] (Qb (Qa 8) (Qb (dC (.int 2)) Qg))) (QeJ (Qx 1 QM [] (Qb (Qa 9) Qg)) (dOp gEq (Qa 9) (Qa 10))))) Qp))))))))))))))))
set_option maxHeartbeats 0 in
set_option exponentiation.threshold 400 in
theorem Qni {dc dt dmu dm dl dtu dn dw : Den} (hc : CellsOk dc) (ht : QdJ dt) (hmu : Qh8 dmu) (hm : QcQ dm) (hl : Qg9 dl) (htu : QeZ dtu) (hn : Qd2 dn) (hw : Qc9 dw) (ns : List Int) (hlen : ns.length <= 63) : Qq 11 (Qgy dc dt dmu dm dl dtu dn dw) [.lst (ns.map .int)] = some (.bl true, true) := by
 obtain ⟨cs, ecs, lcs, hcs⟩ := hc ns 72 hlen (by decide)
 have at' : ∀ k : Nat, k < 72 -> cs[(k : Int).toNat]? = some (cs.getD k 0) := λ k hk => by
  rw [ZD, ZQ, ZU (by omega)]; rfl
 have c0 := at' 0 (by decide)
 have c1 := at' 1 (by decide)
 generalize cs.getD 0 0 = F0 at c0
 generalize cs.getD 1 0 = F1 at c1
 have y1 := ZR F1 (by decide : (3 : Int) ≠ 0)
 have y2 := ZE F1 (by decide : (0 : Int) < 3)
 obtain ⟨far, hfar⟩ : ∃ far, [3, 10 ^ 9, (10 : Int) ^ 34][(F1 % 3).toNat]? = some far := ⟨_, ZU (by simp; omega)⟩
 have hfb : 1 <= far /\ far <= 10 ^ 34 := by
  have hm := Zao hfar
  have all : ∀ x ∈ [3, 10 ^ 9, (10 : Int) ^ 34], 1 <= x /\ x <= 10 ^ 34 := by decide +kernel
  exact all far hm
 have elst : ∀ ρ : En, QaH (Qb (dC (.int 3)) (Qb (dOp Qb2 (dC (.int 10)) (dC (.int 9))) (Qb (dOp Qb2 (dC (.int 10)) (dC (.int 34))) Qg))) ρ = some ⟨.lst ([3, 10 ^ 9, (10 : Int) ^ 34].map .int), true, []⟩ := λ ρ => by
  refine (Qg3 (rs := ⟨[.int 3, .int (10 ^ 9), .int (10 ^ 34)], true, []⟩) ?_ (by simp)).trans rfl
  exact QI (r := ⟨.int 3, true, []⟩) rfl (QI (QiD (a := 10) (k := 9) (by decide) (by decide)) (QI (QiD (a := 10) (k := 34) (by decide) (by decide)) (QaQ _)))
 have cell : ∀ (ρ : En), ρ[1]? = some (some (Qo cs, true)) -> Qy (Qa 1) (dC (.int 0)) ρ = some ⟨.int F0, true, []⟩ /\ Qy (Qa 1) (dC (.int 1)) ρ = some ⟨.int F1, true, []⟩ := λ ρ h1 =>
  ⟨QbN (ns := cs) (i := 0) (v := F0) (QhR h1) rfl (QnP _ _) rfl (by decide) c0, QbN (ns := cs) (i := 1) (v := F1) (QhR h1) rfl (QnP _ _) rfl (by decide) c1⟩
 have efar : ∀ (ρ : En), ρ[1]? = some (some (Qo cs, true)) -> Qy (QaH (Qb (dC (.int 3)) (Qb (dOp Qb2 (dC (.int 10)) (dC (.int 9))) (Qb (dOp Qb2 (dC (.int 10)) (dC (.int 34))) Qg)))) (dOp Qbf (Qy (Qa 1) (dC (.int 1))) (dC (.int 3))) ρ = some ⟨.int far, true, []⟩ := λ ρ h1 =>
  QbN (ns := [3, 10 ^ 9, (10 : Int) ^ 34]) (i := F1 % 3) (v := far) (elst ρ) rfl (QaP (a := F1) (b := 3) (cell _ h1).2 rfl rfl rfl (by decide)) rfl y1 hfar
 clear elst hfar c0 c1 at'
 have z1 := ZR F0 (by decide : (5 : Int) ≠ 0)
 have z2 := ZE F0 (by decide : (0 : Int) < 5)
 obtain ⟨n, en⟩ : ∃ n : Nat, 1 + F0 % 5 = (n : Int) := ⟨(1 + F0 % 5).toNat, by omega⟩
 have n5 : n <= 5 := by omega
 have nn : n * n <= 5 * 5 := ZaE n5 n5
 obtain ⟨f, ef, hf⟩ := ht cs 2 n far (by omega) (by omega) n5 (by omega)
 obtain ⟨g, eg, hg⟩ := ht cs (2 + n * n) n far (by omega) (by omega) n5 (by omega)
 have e2n : (((2 + n * n : Nat) : Int)) = 2 + (n : Int) * n := by simp
 rw [e2n] at eg
 refine QY ?_
 refine run_seq (Qn (Qv (r := ⟨[.lst (ns.map .int), .int 72], false, []⟩) rfl ecs rfl) ?_)
 rw [Qs]
 refine run_seq (Qn (Qah (a := 1) (b := F0 % 5) rfl rfl (QaP (a := F0) (b := 5) (cell _ rfl).1 rfl rfl rfl (by decide)) rfl) ?_)
 rw [Qs, en]
 refine run_seq (Qn (r := ⟨.int far, false, []⟩) (by unfold QaC; rw [efar _ rfl]; rfl) ?_)
 rw [Qdr rfl]
 refine run_seq (Qn (Qv (r := ⟨[Qo cs, .int ((2 : Nat) : Int), .int n, .int far], true, [1]⟩) rfl ef rfl) ?_)
 rw [Qs]
 refine run_seq (Qn (Qv (QI (r := ⟨Qo cs, true, [1]⟩) rfl (QI (Qah (a := 2) (b := (n : Int) * n) rfl rfl (Q5 (a := n) (b := n) rfl rfl rfl rfl (Qbc (by omega))) rfl) (QI (r := ⟨.int n, true, []⟩) rfl (QI (r := ⟨.int far, true, []⟩) rfl (QaQ _))))) eg rfl) ?_)
 rw [Qs]
 change Run _ [some (.lst (ns.map .int), false), some (Qo cs, true), some (.int n, true), some (.int far, true), some (Qc n n f, true), some (Qc n n g, true), none, none, none, none, none] _
 refine QC (Qam (b := false) (Qbh (b := true) (Q4 (b := true) (Qv (r := ⟨[Qc n n f, Qc n n g], true, [4, 5]⟩) rfl (hmu n f g far n5 hf hg (by omega) hfb.2) rfl) rfl)) (λ h => by cases h) (λ _ => QF ?_))
 clear ef eg hf hg nn e2n
 have w1 := ZR (F0 / 5) (by decide : (3 : Int) ≠ 0)
 have w2 := ZE (F0 / 5) (by decide : (0 : Int) < 3)
 obtain ⟨p, ep⟩ : ∃ p : Nat, 1 + F0 / 5 % 3 = (p : Int) := ⟨(1 + F0 / 5 % 3).toNat, by omega⟩
 have v1 := ZR (F0 / 15) (by decide : (2 : Int) ≠ 0)
 have v2 := ZE (F0 / 15) (by decide : (0 : Int) < 2)
 obtain ⟨q, eq⟩ : ∃ q : Nat, 1 + F0 / 15 % 2 = (q : Int) := ⟨(1 + F0 / 15 % 2).toNat, by omega⟩
 have p3 : 1 <= p /\ p <= 3 := by omega
 have q2 : 1 <= q /\ q <= 2 := by omega
 have pp : p * p <= 3 * 3 := ZaE p3.2 p3.2
 have qq : q * q <= 2 * 2 := ZaE q2.2 q2.2
 obtain ⟨s, es, hs⟩ := ht cs 53 p far (by omega) (by omega) (by omega) (by omega)
 obtain ⟨t, et, ht'⟩ := ht cs 62 q far (by omega) (by omega) (by omega) (by omega)
 refine run_seq (Qn (Qah (a := 1) (b := F0 / 5 % 3) rfl rfl (QaP (a := F0 / 5) (b := 3) (Qg2 (a := F0) (b := 5) (cell _ rfl).1 rfl rfl rfl (by decide) (by decide)) rfl rfl rfl (by decide)) rfl) ?_)
 rw [Qs, ep]
 refine run_seq (Qn (Qah (a := 1) (b := F0 / 15 % 2) rfl rfl (QaP (a := F0 / 15) (b := 2) (Qg2 (a := F0) (b := 15) (cell _ rfl).1 rfl rfl rfl (by decide) (by decide)) rfl rfl rfl (by decide)) rfl) ?_)
 rw [Qs, eq]
 refine run_seq (Qn (Qv (r := ⟨[Qo cs, .int ((53 : Nat) : Int), .int p, .int far], true, [1]⟩) rfl es rfl) ?_)
 rw [Qs]
 refine run_seq (Qn (Qv (r := ⟨[Qo cs, .int ((62 : Nat) : Int), .int q, .int far], true, [1]⟩) rfl et rfl) ?_)
 rw [Qs]
 have u1 := ZR (F1 / 3) (by omega : (p : Int) + q ≠ 0)
 have u2 := ZE (F1 / 3) (by omega : (0 : Int) < p + q)
 obtain ⟨b, eb⟩ : ∃ b : Nat, F1 / 3 % ((p : Int) + q) = (b : Int) := ⟨(F1 / 3 % ((p : Int) + q)).toNat, by omega⟩
 refine run_seq (Qn (QaP (a := F1 / 3) (b := (p : Int) + q) (Qg2 (a := F1) (b := 3) (cell _ rfl).2 rfl rfl rfl (by decide) (by decide)) rfl (Qah (a := p) (b := q) (ra := ⟨.int p, true, []⟩) rfl rfl (rb := ⟨.int q, true, []⟩) rfl rfl) rfl (by omega)) ?_)
 rw [Qs, eb]
 have hb : b < p + q := by omega
 have sms := Qcy hs hfb.2
 have smt := Qcy ht' hfb.2
 have up : ∀ {x : Int}, x.natAbs <= 2 ^ 115 -> x.natAbs <= 2 ^ 240 := λ {x} h => Zr h (by decide +kernel)
 have ms := hm p s (by omega) λ i hi j hj => up (sms i hi j hj)
 have mt := hm q t (by omega) λ i hi j hj => up (smt i hi j hj)
 have ba : QbL (det p λ j i => s i j) := Qdt (by omega) λ j hj r hr => up (sms r hr j hj)
 have bb : QbL (det q λ j i => t i j) := Qdt (by omega) λ j hj r hr => up (smt r hr j hj)
 obtain ⟨h, eh, hh⟩ := hl cs p q s t far lcs p3.2 q2.2 (by omega)
 have smh : ∀ i j, (h i j).natAbs <= 2 ^ 115 := λ i j => Qcy (n := 1) (f := λ _ _ => h i j) (far := far) (λ _ _ _ _ => hh i j) hfb.2 0 (by decide) 0 (by decide)
 have smL : ∀ i, i < p + q -> ∀ j, j < p + q -> (Qcb p s h t i ((j + b) % (p + q))).natAbs <= 2 ^ 240 := λ i hi j hj => by
  have hj' : (j + b) % (p + q) < p + q := Nat.mod_lt _ (by omega)
  generalize (j + b) % (p + q) = j' at hj'
  unfold Qcb QaX
  split
  ·split
   ·exact up (sms i (by assumption) j' (by assumption))
   ·exact ZI _
  ·split
   ·exact up (smh i _)
   ·exact up (smt _ (by omega) _ (by omega))
 have mL := hm (p + q) (λ i j => Qcb p s h t i ((j + b) % (p + q))) (by omega) smL
 have dL : (det (p + q) λ j i => Qcb p s h t i ((j + b) % (p + q))) = sgn (b * (p + q - 1)) * ((det p λ j i => s i j) * det q λ j i => t i j) := by
  have e1 := Qiy (N := p + q) (by omega) (QaX p (λ j i => s i j) (λ j i => h i j) λ j i => t i j) b
  rw [QmB] at e1
  rw [← e1]
  rfl
 rw [dL] at mL
 generalize (det p λ j i => s i j) = a1 at *
 generalize (det q λ j i => t i j) = a2 at *
 refine run_seq (Qn (r := ⟨.lst [.int a1, .int a2], true, []⟩) ((Qg3 (QI (Qv (r := ⟨[Qc p p s], true, [4]⟩) rfl ms rfl) (QI (Qv (r := ⟨[Qc q q t], true, [5]⟩) rfl mt rfl) (QaQ _))) (by simp)).trans rfl) ?_)
 rw [Qs]
 change Run _ [some (.lst (ns.map .int), false), some (Qo cs, true), some (.int p, true), some (.int far, true), some (Qc p p s, true), some (Qc q q t, true), some (.int q, true), some (.int b, true), some (.lst [.int a1, .int a2], true), none, none] _
 refine run_seq (Qn (Qv (QI (Qv (QI (Qv (r := ⟨[Qc p p s, Qc q q t, Qo cs, .int far], true, [4, 5, 1]⟩) rfl eh rfl) (QI (r := ⟨.int b, true, []⟩) rfl (QaQ _))) (htu (p + q) b _ hb (by omega)) rfl) (QaQ _)) mL rfl) ?_)
 rw [Qs]
 refine run_seq (Qn (Q5 (a := a1) (b := a2) (ra := ⟨.int a1, true, []⟩) rfl rfl (rb := ⟨.int a2, true, []⟩) rfl rfl (Qdf ba bb)) ?_)
 rw [Qs]
 have esg : (b : Int) * ((p : Int) + q - 1) = ((b * (p + q - 1) : Nat) : Int) := by
  rw [show (p : Int) + q - 1 = ((p + q - 1 : Nat) : Int) by omega, Int.natCast_mul]
 generalize hk : b * (p + q - 1) = k at esg
 refine Qa4 (P := λ ρ => ρ = [some (.lst (ns.map .int), false), some (Qo cs, true), some (.int p, true), some (.int far, true), some (Qc p p s, true), some (Qc q q t, true), some (.int q, true), some (.int b, true), some (.lst [.int a1, .int a2], true), some (.int (sgn k * (a1 * a2)), true), some (.int (sgn k * (a1 * a2)), true)]) ?_ ?_
 ·refine Qam (b := decide ((k : Int) % 2 = 1)) (Q4 (Qdd (a := (k : Int) % 2) (b := 1) (QaP (a := (k : Int)) (b := 2) ((Q5 (a := b) (b := (p : Int) + q - 1) (ra := ⟨.int b, true, []⟩) rfl rfl (Qfu (a := (p : Int) + q) (b := 1) (Qah (a := p) (b := q) (ra := ⟨.int p, true, []⟩) rfl rfl (rb := ⟨.int q, true, []⟩) rfl rfl) rfl rfl rfl) rfl (Qbc (by omega))).trans (by rw [esg])) rfl rfl rfl (by decide)) rfl rfl rfl) rfl) (λ h => ?_) (λ h => ?_)
  ·have h1 : (k : Int) % 2 = 1 := of_decide_eq_true h
   refine run_seq (Qn (Qfu (a := 0) (b := a1 * a2) (rb := ⟨.int (a1 * a2), true, []⟩) rfl rfl rfl rfl) (QF ?_))
   rw [Qs]
   have e : sgn k * (a1 * a2) = 0 - a1 * a2 := by
    unfold sgn
    rw [if_neg (by omega), Zat, ZM]; omega
   rw [e]; rfl
  ·have h1 : ¬ (k : Int) % 2 = 1 := of_decide_eq_false h
   refine QF ?_
   have e : sgn k * (a1 * a2) = a1 * a2 := by
    unfold sgn
    rw [if_pos (by omega), ZM]
   show _ = _
   rw [e]; rfl
 rintro ρ rfl
 have hnum : dn [.lst [.int a1, .int a2], .int 2] = some (.bl true, true) := hn 2 λ k => if k = 0 then a1 else a2
 refine QL (Qkw (a := true) (b := true) (Qv (r := ⟨[.lst [.int a1, .int a2], .int 2], true, [8]⟩) rfl hnum rfl) (Qkw (a := true) (b := true) (Qv (r := ⟨[.int (sgn k * (a1 * a2))], true, []⟩) rfl (hw _) rfl) ((Qdd (a := sgn k * (a1 * a2)) (b := sgn k * (a1 * a2)) (ra := ⟨.int (sgn k * (a1 * a2)), true, []⟩) rfl rfl (rb := ⟨.int (sgn k * (a1 * a2)), true, []⟩) rfl rfl).trans (by simp)))) ⟨rfl, rfl⟩
end HS
theorem HS.some_of {α : Type} {x : Option α} {d : α} (h : x.isSome = true) : x = some (x.getD d) := by cases x with | none => cases h | some a => rfl
namespace Law
open PySem L2 HS
noncomputable section
def top (i : Nat) : Stmt := PySem.Challenge.pw_heapstill_k33_whole_measures_multiply.main.body.getD i (.Pass ⟨0, 0, 0, 0⟩)
abbrev cst : List (Str × Int) := []
abbrev Sc (s : Stmt) (P : List Str) : Prop := Qa9 (namesOf (Qh s)) P (Qh s)
theorem scM {s : Stmt} {P : List Str} (h1 : (Qh s).kind = .function) (h2 : (Qh s).isCoroutine = false) (h3 : (Qh s).isGenerator = false) (h4 : (namesOf (Qh s)).Nodup /\ (namesOf (Qh s)).take P.length = P /\ (∀ x ∈ P, (Qh s).names.lookup x = some .local ∨ (Qh s).names.lookup x = some .cell) /\ ∀ y ∈ (Qh s).names, y.2 ≠ .free) : Sc s P := ⟨h1, h2, h3, h4.1, h4.2.1, h4.2.2.1, h4.2.2.2⟩
noncomputable abbrev Cp (s : Stmt) (Γ : List (Str × FnR)) : Option DS := Qai 60 (QfT s Γ cst) (QaB s)
noncomputable abbrev Dn (s : Stmt) (g : DS) : Den := Qq (namesOf (Qh s)).length g
noncomputable abbrev Gc (x : Str) (n : Nat) (d : Den) (Γ : List (Str × FnR)) : List (Str × FnR) := (x, ⟨n, [], d⟩) :: Γ
abbrev QbT := top 1
theorem Qkb : Sc QbT ["table", "at"] := scM rfl rfl rfl (by decide +kernel)
theorem QkW : QD "column" QbT ["table", "at"] := λ | _, _, _, _, _, _, [_, _], _ => rfl
def Qhg := (Cp QbT []).getD QO
theorem Qk9 : Cp QbT [] = some Qhg := some_of (by decide +kernel)
abbrev Qca := Dn QbT Qhg
abbrev QeR := Gc "column" 2 Qca []
abbrev Qb8 := top 2
theorem QjL : Sc Qb8 ["table"] := scM rfl rfl rfl (by decide +kernel)
theorem Qlb : QD "turned" Qb8 ["table"] := λ | _, _, _, _, _, _, [_], _ => rfl
def QhM := (Cp Qb8 QeR).getD QO
theorem QlN : Cp Qb8 QeR = some QhM := some_of (by decide +kernel)
abbrev Qb6 := Dn Qb8 QhM
abbrev Qe1 := Gc "turned" 1 Qb6 QeR
abbrev Qbb := top 3
theorem Qih : Sc Qbb ["line"] := scM rfl rfl rfl (by decide +kernel)
theorem Qjk : QD "opposite" Qbb ["line"] := λ | _, _, _, _, _, _, [_], _ => rfl
def QfF := (Cp Qbb Qe1).getD QO
theorem Qjd : Cp Qbb Qe1 = some QfF := some_of (by decide +kernel)
abbrev Qbd := Dn Qbb QfF
abbrev Qdn := Gc "opposite" 1 Qbd Qe1
abbrev QbR := top 4
theorem Qjy : Sc QbR ["one", "other"] := scM rfl rfl rfl (by decide +kernel)
theorem QlK : QD "scalar" QbR ["one", "other"] := λ | _, _, _, _, _, _, [_, _], _ => rfl
def Qhu := (Cp QbR Qdn).getD QO
theorem QlB : Cp QbR Qdn = some Qhu := some_of (by decide +kernel)
abbrev QbZ := Dn QbR Qhu
abbrev QeP := Gc "scalar" 2 QbZ Qdn
abbrev Qbr := top 6
theorem Qjt : Sc Qbr ["line", "columns"] := scM rfl rfl rfl (by decide +kernel)
theorem QjR : QD "line_by" Qbr ["line", "columns"] := λ | _, _, _, _, _, _, [_, _], _ => rfl
def Qgn := (Cp Qbr QeP).getD QO
theorem Qkp : Cp Qbr QeP = some Qgn := some_of (by decide +kernel)
abbrev Qbx := Dn Qbr Qgn
abbrev QdM := Gc "line_by" 2 Qbx QeP
abbrev Qbv := top 5
theorem QiN : Sc Qbv ["one", "other"] := scM rfl rfl rfl (by decide +kernel)
theorem Qj4 : QD "product" Qbv ["one", "other"] := λ | _, _, _, _, _, _, [_, _], _ => rfl
def Qgl := (Cp Qbv QdM).getD QO
theorem Qjv : Cp Qbv QdM = some Qgl := some_of (by decide +kernel)
abbrev Qbs := Dn Qbv Qgl
abbrev QdP := Gc "product" 2 Qbs QdM
abbrev QaA := top 8
theorem QgN : Sc QaA ["lines", "at"] := scM rfl rfl rfl (by decide +kernel)
theorem QhC : QD "with_pivot" QaA ["lines", "at"] := λ | _, _, _, _, _, _, [_, _], _ => rfl
def QdZ := (Cp QaA QdP).getD QO
theorem QhD : Cp QaA QdP = some QdZ := some_of (by decide +kernel)
abbrev QaF := Dn QaA QdZ
abbrev QcG := Gc "with_pivot" 2 QaF QdP
abbrev QaS := top 9
theorem Qhp : Sc QaS ["line", "pivot_line", "at", "before"] := scM rfl rfl rfl (by decide +kernel)
theorem Qic : QD "taken_off" QaS ["line", "pivot_line", "at", "before"] := λ | _, _, _, _, _, _, [_, _, _, _], _ => rfl
def QeC := (Cp QaS QcG).getD QO
theorem Qia : Cp QaS QcG = some QeC := some_of (by decide +kernel)
abbrev QaU := Dn QaS QeC
abbrev Qc2 := Gc "taken_off" 4 QaU QcG
abbrev Qby := top 7
theorem Qjo : Sc Qby ["lines"] := scM rfl rfl rfl (by decide +kernel)
theorem Qkn : QD "cleared" Qby ["lines"] := λ | _, _, _, _, _, _, [_], _ => rfl
def Qgq := (Cp Qby Qc2).getD QO
theorem QjF : Cp Qby Qc2 = some Qgq := some_of (by decide +kernel)
abbrev Qbw := Dn Qby Qgq
abbrev QdI := Gc "cleared" 1 Qbw Qc2
abbrev Qbu := top 10
theorem QiZ : Sc Qbu ["table"] := scM rfl rfl rfl (by decide +kernel)
theorem Qj2 : QD "measure" Qbu ["table"] := λ | _, _, _, _, _, _, [_], _ => rfl
def QgC := (Cp Qbu QdI).getD QO
theorem Qkv : Cp Qbu QdI = some QgC := some_of (by decide +kernel)
abbrev QU := Dn Qbu QgC
abbrev Qd7 := Gc "measure" 1 QU QdI
abbrev QaG := top 12
theorem QgO : Sc QaG ["_law_script", "_law_many"] := scM rfl rfl rfl (by decide +kernel)
theorem QhP : QD "_law_cells" QaG ["_law_script", "_law_many"] := λ | _, _, _, _, _, _, [_, _], _ => rfl
def QdW := (Cp QaG Qd7).getD QO
theorem Qhi : Cp QaG Qd7 = some QdW := some_of (by decide +kernel)
abbrev QaD := Dn QaG QdW
abbrev QcF := Gc "_law_cells" 2 QaD Qd7
abbrev Qaz := top 13
theorem QgH : Sc Qaz ["_law_found"] := scM rfl rfl rfl (by decide +kernel)
theorem QhG : QD "_law_whole" Qaz ["_law_found"] := λ | _, _, _, _, _, _, [_], _ => rfl
def QdO := (Cp Qaz QcF).getD QO
theorem QhW : Cp Qaz QcF = some QdO := some_of (by decide +kernel)
abbrev QM := Dn Qaz QdO
abbrev QcE := Gc "_law_whole" 1 QM QcF
abbrev Qae := top 14
theorem Qft : Sc Qae ["_law_found", "_law_size"] := scM rfl rfl rfl (by decide +kernel)
theorem QfP : QD "_law_numbers" Qae ["_law_found", "_law_size"] := λ | _, _, _, _, _, _, [_, _], _ => rfl
def Qdc := (Cp Qae QcE).getD QO
theorem Qf2 : Cp Qae QcE = some Qdc := some_of (by decide +kernel)
abbrev QE := Dn Qae Qdc
abbrev QbQ := Gc "_law_numbers" 2 QE QcE
abbrev Qaq := top 15
theorem QfV : Sc Qaq ["_law_cell", "_law_far"] := scM rfl rfl rfl (by decide +kernel)
theorem QgF : QD "_law_number" Qaq ["_law_cell", "_law_far"] := λ | _, _, _, _, _, _, [_, _], _ => rfl
def QdD := (Cp Qaq QbQ).getD QO
theorem QgM : Cp Qaq QbQ = some QdD := some_of (by decide +kernel)
abbrev QT := Dn Qaq QdD
abbrev Qch := Gc "_law_number" 2 QT QbQ
abbrev QaE := top 16
theorem QgL : Sc QaE ["_law_cells_here", "_law_start", "_law_size", "_law_far"] := scM rfl rfl rfl (by decide +kernel)
theorem QhF : QD "_law_table" QaE ["_law_cells_here", "_law_start", "_law_size", "_law_far"] := λ | _, _, _, _, _, _, [_, _, _, _], _ => rfl
def Qd3 := (Cp QaE Qch).getD QO
theorem Qhx : Cp QaE Qch = some Qd3 := some_of (by decide +kernel)
abbrev QZ := Dn QaE Qd3
abbrev QcD := Gc "_law_table" 4 QZ Qch
abbrev Qad := top 17
theorem QeT : Sc Qad ["_law_found", "_law_size"] := scM rfl rfl rfl (by decide +kernel)
theorem Qfz : QD "_law_is_table" Qad ["_law_found", "_law_size"] := λ | _, _, _, _, _, _, [_, _], _ => rfl
def QcU := (Cp Qad QcD).getD QO
theorem Qfj : Cp Qad QcD = some QcU := some_of (by decide +kernel)
abbrev Qab := Dn Qad QcU
abbrev QbI := Gc "_law_is_table" 2 Qab QcD
abbrev QaV := top 18
theorem Qhl : Sc QaV ["_law_one", "_law_other", "_law_cells_here", "_law_far"] := scM rfl rfl rfl (by decide +kernel)
theorem Qib : QD "_law_laid" QaV ["_law_one", "_law_other", "_law_cells_here", "_law_far"] := λ | _, _, _, _, _, _, [_, _, _, _], _ => rfl
def QeA := (Cp QaV QbI).getD QO
theorem Qig : Cp QaV QbI = some QeA := some_of (by decide +kernel)
abbrev QaW := Dn QaV QeA
abbrev Qc0 := Gc "_law_laid" 4 QaW QbI
abbrev Qas := top 19
theorem Qgb : Sc Qas ["_law_table_here", "_law_by"] := scM rfl rfl rfl (by decide +kernel)
theorem QgK : QD "_law_turned" Qas ["_law_table_here", "_law_by"] := λ | _, _, _, _, _, _, [_, _], _ => rfl
def QdE := (Cp Qas Qc0).getD QO
theorem QgJ : Cp Qas Qc0 = some QdE := some_of (by decide +kernel)
abbrev Qap := Dn Qas QdE
abbrev Qci := Gc "_law_turned" 2 Qap Qc0
abbrev Q0 := top 20
theorem QdH : Sc Q0 ["_law_one", "_law_other"] := scM rfl rfl rfl (by decide +kernel)
theorem Qer : QD "_law_multiplied" Q0 ["_law_one", "_law_other"] := λ | _, _, _, _, _, _, [_, _], _ => rfl
def Qcl := (Cp Q0 Qci).getD QO
theorem Qes : Cp Q0 Qci = some Qcl := some_of (by decide +kernel)
abbrev Q1 := Dn Q0 Qcl
abbrev Qcn := Gc "_law_multiplied" 2 Q1 Qci
abbrev Qec := top 21
theorem Qn8 : Sc Qec ["_law_script"] := scM rfl rfl rfl (by decide +kernel)
theorem Qpo : QD "law" Qec ["_law_script"] := λ | _, _, _, _, _, _, [_], _ => rfl
def Ql0 := (Cp Qec Qcn).getD QO
theorem Qpg : Cp Qec Qcn = some Ql0 := some_of (by decide +kernel)
abbrev QiX := Dn Qec Ql0
theorem Qli : Qca = Qq 2 (HS.Qhy) := by kernel_rfl
theorem Qlu : Qb6 = Qq 1 (HS.Qhr Qca) := by kernel_rfl
theorem Qi2 : Qbd = Qq 1 (HS.Qfq) := by kernel_rfl
theorem QkO : QbZ = Qq 2 (HS.Qhk) := by kernel_rfl
theorem QjA : Qbx = Qq 2 (HS.Qgj QbZ) := by kernel_rfl
theorem Qky : Qbs = Qq 3 (HS.Qgt Qb6 Qbx) := by kernel_rfl
theorem QhJ : QaF = Qq 4 (HS.Qdh Qbd) := by kernel_rfl
theorem Qif : QaU = Qq 4 (HS.Qex) := by kernel_rfl
theorem Qkm : Qbw = Qq 5 (HS.QcW QaF QaU) := by kernel_rfl
theorem QjN : QU = Qq 1 (HS.Qgw Qbw) := by kernel_rfl
theorem QhX : QaD = Qq 9 (HS.QcJ) := by kernel_rfl
theorem Qh2 : QM = Qq 1 (HS.QdQ) := by kernel_rfl
theorem QfN : QE = Qq 2 (HS.QcI QM) := by kernel_rfl
theorem QgE : QT = Qq 2 (HS.Qck) := by kernel_rfl
theorem Qh6 : QZ = Qq 6 (HS.QcK QT) := by kernel_rfl
theorem Qfs : Qab = Qq 3 (HS.QcS QE) := by kernel_rfl
theorem Qii : QaW = Qq 8 (HS.Qew QT) := by kernel_rfl
theorem QgG : Qap = Qq 2 (HS.Qcj) := by kernel_rfl
theorem Qeq : Q1 = Qq 7 (HS.Qcm QU QE Qbs Qab QM) := by kernel_rfl
theorem QoY : QiX = Qq 11 (HS.Qgy QaD QZ Q1 QU QaW Qap QE QM) := by kernel_rfl
end
end Law
namespace HS
open PySem PySem.Spec L2
noncomputable def Qk5 (mg : Str -> Option Value) : List Str -> Prop
 | [] => True
 | x :: r => mg x = none /\ Qk5 mg r
theorem QhZ {mg : Str -> Option Value} : ∀ {l : List Str}, Qk5 mg l -> ∀ x ∈ l, mg x = none
 | [], _, x, h => by simp at h
 | y :: r, h, x, hx => by
  rcases Zt.mp hx with rfl | hx
  ·exact h.1
  ·exact QhZ h.2 x hx
noncomputable def QlE (mg : Str -> Option Value) : List (Str × Int) -> Prop
 | [] => True
 | (x, i) :: r => (∃ t, mg x = some (.int i t)) /\ QlE mg r
theorem Qg7 {mg : Str -> Option Value} : ∀ {l : List (Str × Int)}, QlE mg l -> ∀ x i, look x l = some i -> ∃ t, mg x = some (.int i t)
 | [], _, x, i, h => by cases h
 | (y, j) :: r, h, x, i, hx => by
  unfold look at hx
  split at hx
  ·rename_i e; cases hx; subst e; exact h.1
  ·exact Qg7 h.2 x i hx
theorem QnC {mg : Str -> Option Value} {cs : List (Str × Int)} (b : Qk5 mg Qg4) (c : QlE mg cs) : Qds mg cs := ⟨QhZ b, Qg7 c⟩
end HS
namespace Law
open HS
theorem QoF : CellsOk QaD := by rw [QhX]; exact QkU
theorem Qho : Qc9 QM := by rw [Qh2]; exact QkI
theorem QiQ : Qd2 QE := by rw [QfN]; exact Qmw Qho
theorem Qn3 : Qek QT := by rw [QgE]; exact Qk3
theorem QnG : QdJ QZ := by rw [Qh6]; exact QiT Qn3
theorem Qqe : QfX Qab := by rw [Qfs]; exact Qly QiQ
theorem Qo8 : Qg9 QaW := by rw [Qii]; exact Qmu Qn3
theorem hTu : QeZ Qap := by rw [QgG]; exact Qjw
theorem Qqq : Qi6 Qbd := by rw [Qi2]; exact Qob
theorem Qp4 : QeI QaF := by rw [QhJ]; exact Qkj Qqq
theorem Qqg : QfK QaU := by rw [Qif]; exact QkX
theorem Qqk : Qdq Qbw := by rw [Qkm]; exact Qh9 Qp4 Qqg
theorem QoE : QcQ QU := by rw [QjN]; exact Qjp Qqk
theorem Qqb : QeS Qca := by rw [Qli]; exact QjW
theorem Qo6 : QeH Qb6 := by rw [Qlu]; exact QjB Qqb
theorem Qp0 : Qe2 QbZ := by rw [QkO]; exact Qkk
theorem Qpv : Qe6 Qbx := by rw [QjA]; exact Qkq Qp0
theorem Qpt : QdS Qbs := by rw [Qky]; exact QiM Qo6 Qpv
theorem Qo5 : Qh8 Q1 := by rw [Qeq]; exact Qm5 QoE QiQ Qpt Qqe Qho
theorem Qos (ns : List Int) (h : ns.length <= 63) : ∃ fr, QiX [.lst (ns.map .int)] = some (.bl true, fr) := by
 rw [QoY]
 exact ⟨true, Qni QoF QnG Qo5 QoE Qo8 hTu QiQ Qho ns h⟩
end Law
namespace PySem.W.Fast
def tw159570423198742361 := 0
def tw13638775133251695293 := 0
def tw685542055876698836 := 0
def tw8012262647730933881 := 0
def tw16069399979592652400 := 0
def tw17280139677621284483 := 0
def tw10667233244596522977 := 0
def tw16739931277339564168 := 0
def tw16811263436715107476 := 0
def tw3370475622768876760 := 0
def tw12637252251635648572 := 0
def tw9256269438380684614 := 0
def tw14994491311871297425 := 0
def tw15333134476059099453 := 0
def tw8625574619054390505 := 0
def tw7253002602870360124 := 0
def tw6092203013380343576 := 0
def tw16436207353365071465 := 0
def tw18248485441751776288 := 0
def tw588948577658082357 := 0
def tw16221396415660201983 := 0
def tw9496000254553135575 := 0
def tw664808388334111021 := 0
def tw16512217080854648836 := 0
def tw11944360668906991946 := 0
def tw9942441462677226788 := 0
def tw3187643880758625701 := 0
def tw13627525275574122188 := 0
def tw6623526746628315393 := 0
def tw7585279117273367773 := 0
def tw15827803082197495178 := 0
def tw3314485478006244492 := 0
def tw12346046734149778007 := 0
def tw3300823119343902938 := 0
def tw4722871971067797355 := 0
def tw2586481204421314161 := 0
def tw9669432954484919661 := 0
def tw1792210053332071385 := 0
def tw11148609191598437734 := 0
def tw17045292532278437593 := 0
def tw9108790570601121380 := 0
def tw9749712458314648641 := 0
def tw2670085308541608186 := 0
def tw13844185930164260741 := 0
def tw3790735682142210440 := 0
def tw15022303983964996373 := 0
def tw299708631739849188 := 0
def tw15358448876755517386 := 0
def tw13684617126628012531 := 0
def tw14203284437563138189 := 0
def tw10782690492111490223 := 0
end PySem.W.Fast
open PySem PySem.W PyProof.Rows HS
set_option maxRecDepth 100000 in
set_option maxHeartbeats 0 in
theorem PySem.Challenge.cw_heapstill_k33_whole_measures_multiply_holds : PySem.Challenge.rw_heapstill_k33_whole_measures_multiply.Holds := by
 w_on; o_law; k_head; (case hw => w_witness2)
 k_fill
 refine HS.QlL (l := PySem.Challenge.rw_heapstill_k33_whole_measures_multiply) (k := 20) (x := "_law_script") (den := Law.QiX) rfl rfl ⟨rfl, by decide, by decide⟩ (λ w h Y => PySem.W.kIn_of Y) Law.Qos ?F
 case F =>
  intro w mg fa h KX G hmg
  obtain ⟨f_column, f_turned, f_opposite, f_scalar, f_line_by, f_product, f_with_pivot, f_taken_off, f_cleared, f_measure, f__law_cells, f__law_whole, f__law_numbers, f__law_number, f__law_table, f__law_is_table, f__law_laid, f__law_turned, f__law_multiplied, f_law⟩ : HS.Fact (L2.KOf KX) "column" Law.QbT /\ HS.Fact (L2.KOf KX) "turned" Law.Qb8 /\ HS.Fact (L2.KOf KX) "opposite" Law.Qbb /\ HS.Fact (L2.KOf KX) "scalar" Law.QbR /\ HS.Fact (L2.KOf KX) "line_by" Law.Qbr /\ HS.Fact (L2.KOf KX) "product" Law.Qbv /\ HS.Fact (L2.KOf KX) "with_pivot" Law.QaA /\ HS.Fact (L2.KOf KX) "taken_off" Law.QaS /\ HS.Fact (L2.KOf KX) "cleared" Law.Qby /\ HS.Fact (L2.KOf KX) "measure" Law.Qbu /\ HS.Fact (L2.KOf KX) "_law_cells" Law.QaG /\ HS.Fact (L2.KOf KX) "_law_whole" Law.Qaz /\ HS.Fact (L2.KOf KX) "_law_numbers" Law.Qae /\ HS.Fact (L2.KOf KX) "_law_number" Law.Qaq /\ HS.Fact (L2.KOf KX) "_law_table" Law.QaE /\ HS.Fact (L2.KOf KX) "_law_is_table" Law.Qad /\ HS.Fact (L2.KOf KX) "_law_laid" Law.QaV /\ HS.Fact (L2.KOf KX) "_law_turned" Law.Qas /\ HS.Fact (L2.KOf KX) "_law_multiplied" Law.Q0 /\ HS.Fact (L2.KOf KX) "law" Law.Qec := by
   refine ⟨?_, ?_, ?_, ?_, ?_, ?_, ?_, ?_, ?_, ?_, ?_, ?_, ?_, ?_, ?_, ?_, ?_, ?_, ?_, ?_⟩ <;> (dsimp only [L2.KOf]; refine' HS.fact_mk ?a ?l ?c ?k; (case a => k_is); (case l => k_is); (case c => k_is); (case k => k_is))
  have M : HS.Qds mg Law.cst := by
   obtain ⟨n_range, n_enumerate, n_zip, n_len, n_list, n_min, n_max, n_sum, n_abs, n_isinstance, n_int, n_bool, n_tuple, n_str, n_divmod, n_sorted, n_any, n_all⟩ : PySem.W.nsIn (L2.KOf KX) mainGlobals "range" = some none /\ PySem.W.nsIn (L2.KOf KX) mainGlobals "enumerate" = some none /\ PySem.W.nsIn (L2.KOf KX) mainGlobals "zip" = some none /\ PySem.W.nsIn (L2.KOf KX) mainGlobals "len" = some none /\ PySem.W.nsIn (L2.KOf KX) mainGlobals "list" = some none /\ PySem.W.nsIn (L2.KOf KX) mainGlobals "min" = some none /\ PySem.W.nsIn (L2.KOf KX) mainGlobals "max" = some none /\ PySem.W.nsIn (L2.KOf KX) mainGlobals "sum" = some none /\ PySem.W.nsIn (L2.KOf KX) mainGlobals "abs" = some none /\ PySem.W.nsIn (L2.KOf KX) mainGlobals "isinstance" = some none /\ PySem.W.nsIn (L2.KOf KX) mainGlobals "int" = some none /\ PySem.W.nsIn (L2.KOf KX) mainGlobals "bool" = some none /\ PySem.W.nsIn (L2.KOf KX) mainGlobals "tuple" = some none /\ PySem.W.nsIn (L2.KOf KX) mainGlobals "str" = some none /\ PySem.W.nsIn (L2.KOf KX) mainGlobals "divmod" = some none /\ PySem.W.nsIn (L2.KOf KX) mainGlobals "sorted" = some none /\ PySem.W.nsIn (L2.KOf KX) mainGlobals "any" = some none /\ PySem.W.nsIn (L2.KOf KX) mainGlobals "all" = some none := by refine ⟨?_, ?_, ?_, ?_, ?_, ?_, ?_, ?_, ?_, ?_, ?_, ?_, ?_, ?_, ?_, ?_, ?_, ?_⟩ <;> (dsimp only [L2.KOf]; k_is)
   exact HS.QnC ⟨PySem.W.mg_none_of KX G n_range, PySem.W.mg_none_of KX G n_enumerate, PySem.W.mg_none_of KX G n_zip, PySem.W.mg_none_of KX G n_len, PySem.W.mg_none_of KX G n_list, PySem.W.mg_none_of KX G n_min, PySem.W.mg_none_of KX G n_max, PySem.W.mg_none_of KX G n_sum, PySem.W.mg_none_of KX G n_abs, PySem.W.mg_none_of KX G n_isinstance, PySem.W.mg_none_of KX G n_int, PySem.W.mg_none_of KX G n_bool, PySem.W.mg_none_of KX G n_tuple, PySem.W.mg_none_of KX G n_str, PySem.W.mg_none_of KX G n_divmod, PySem.W.mg_none_of KX G n_sorted, PySem.W.mg_none_of KX G n_any, PySem.W.mg_none_of KX G n_all, True.intro⟩ True.intro
  have t0 : ∀ base : Heap, HS.Qbm (PySem.Challenge.rw_heapstill_k33_whole_measures_multiply).prog w (L2.KOf KX) mg base 0 [] := λ _ => HS.Qbm.nil
  have t_column := λ b => (t0 b).cons (HS.QK KX G f_column Law.Qkb Law.QkW M (t0 b) Law.Qk9)
  have t_turned := λ b => (t_column b).cons (HS.QK KX G f_turned Law.QjL Law.Qlb M (t_column b) Law.QlN)
  have t_opposite := λ b => (t_turned b).cons (HS.QK KX G f_opposite Law.Qih Law.Qjk M (t_turned b) Law.Qjd)
  have t_scalar := λ b => (t_opposite b).cons (HS.QK KX G f_scalar Law.Qjy Law.QlK M (t_opposite b) Law.QlB)
  have t_line_by := λ b => (t_scalar b).cons (HS.QK KX G f_line_by Law.Qjt Law.QjR M (t_scalar b) Law.Qkp)
  have t_product := λ b => (t_line_by b).cons (HS.QK KX G f_product Law.QiN Law.Qj4 M (t_line_by b) Law.Qjv)
  have t_with_pivot := λ b => (t_product b).cons (HS.QK KX G f_with_pivot Law.QgN Law.QhC M (t_product b) Law.QhD)
  have t_taken_off := λ b => (t_with_pivot b).cons (HS.QK KX G f_taken_off Law.Qhp Law.Qic M (t_with_pivot b) Law.Qia)
  have t_cleared := λ b => (t_taken_off b).cons (HS.QK KX G f_cleared Law.Qjo Law.Qkn M (t_taken_off b) Law.QjF)
  have t_measure := λ b => (t_cleared b).cons (HS.QK KX G f_measure Law.QiZ Law.Qj2 M (t_cleared b) Law.Qkv)
  have t__law_cells := λ b => (t_measure b).cons (HS.QK KX G f__law_cells Law.QgO Law.QhP M (t_measure b) Law.Qhi)
  have t__law_whole := λ b => (t__law_cells b).cons (HS.QK KX G f__law_whole Law.QgH Law.QhG M (t__law_cells b) Law.QhW)
  have t__law_numbers := λ b => (t__law_whole b).cons (HS.QK KX G f__law_numbers Law.Qft Law.QfP M (t__law_whole b) Law.Qf2)
  have t__law_number := λ b => (t__law_numbers b).cons (HS.QK KX G f__law_number Law.QfV Law.QgF M (t__law_numbers b) Law.QgM)
  have t__law_table := λ b => (t__law_number b).cons (HS.QK KX G f__law_table Law.QgL Law.QhF M (t__law_number b) Law.Qhx)
  have t__law_is_table := λ b => (t__law_table b).cons (HS.QK KX G f__law_is_table Law.QeT Law.Qfz M (t__law_table b) Law.Qfj)
  have t__law_laid := λ b => (t__law_is_table b).cons (HS.QK KX G f__law_laid Law.Qhl Law.Qib M (t__law_is_table b) Law.Qig)
  have t__law_turned := λ b => (t__law_laid b).cons (HS.QK KX G f__law_turned Law.Qgb Law.QgK M (t__law_laid b) Law.QgJ)
  have t__law_multiplied := λ b => (t__law_turned b).cons (HS.QK KX G f__law_multiplied Law.QdH Law.Qer M (t__law_turned b) Law.Qes)
  exact HS.Qpd KX G hmg f_law Law.Qn8 Law.Qpo M (λ base => t__law_multiplied base) Law.Qpg
