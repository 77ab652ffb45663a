import PyProof.Rows.All
import Wide.All
import OpenK.AllK
import Wide.FinOn
import Lean
import PyProof.EqAt
import PyProof.EqKinds
import PyProof.TupleCall
import PyProof.ZipIter
import PyProof.EnumMake
import PyProof.Rows.FactsT2
import PyProof.Rows.EnumRows
import PyProof.P3In
import PyProof.NeData
import PyProof.Rows.SumAny
import PyProof.Rows.MinMaxN
import PyProof.Rows.ListRangeD
import PyProof.Rows.Range3
import PyProof.Rows.RuleM_int
import PyProof.Rows.SortShell
import PySem.Challenge.RW_heapstill_k48_told_many_times
set_option Elab.async false
set_option linter.all false
set_option maxRecDepth 100000
def Za := @Option.bind_some
def Zb := @PySem.Heap.get?_push_of_some
def Zc := @List.mem_cons_of_mem
def Zd := @Option.map_eq_some_iff
def Ze := @List.mem_append_right
def Zf := @List.getElem?_eq_some_iff
def Zg := @List.mem_append_left
def Zh := @List.length_map
def Zi := @List.mem_cons_self
def Zj := @List.getElem?_set_ne
def Zk := @Nat.le_refl
def Zl := @Bool.and_eq_true
def Zm := @List.getElem?_map
def Zn := @List.mem_range
def Zo := @List.getElem?_eq_none
def Zp := @List.length_range
def Zq := @List.length_append
def Zr := @List.lookup_cons
def Zs := @PySem.Heap.lt_size
def Zt := @List.size_toArray
def Zu := @Nat.lt_of_lt_of_le
def Zv := @List.mem_cons
def Zw := @PySem.Heap.get?_push_size
def Zx := @Nat.le_trans
def Zy := @List.getElem?_set_self
def Zz := @List.getElem?_range
def ZA := @List.map_congr_left
def ZC := @Int.emod_lt_of_pos
def ZD := @Int.emod_nonneg
def ZE := @List.mem_singleton
def ZF := @List.mem_append
def ZG := @List.map_cons
def ZH := @Nat.pow_le_pow_right
def ZI := @PyProof.Rows.callWith_type1
def ZJ := @Int.mul_le_mul_of_nonneg_left
def ZK := @Int.add_mul
def ZL := @Nat.ne_of_lt
def ZM := @List.count_eq_zero
def ZN := @Int.zero_mul
def ZO := @List.length_cons
def ZP := @Option.map_some
def ZQ := @List.mem_map
def ZR := @Nat.lt_irrefl
def ZS := @Array.length_toList
def ZT := @PySem.Heap.size_push
def ZU := @PySem.mem_of_lookup
def ZV := @List.replicate_succ
def ZW := @Int.toNat_natCast
def ZX := @Nat.zero_le
def ZY := @List.mem_of_getElem?
def ZZ := @Int.mul_le_mul_of_nonneg_right
def Zaa := @Int.mul_zero
def Zab := @Classical.byContradiction
def Zac := @List.flatten_cons
def Zad := @List.count_append
def Zae := @List.eq_nil_of_length_eq_zero
def Zaf := @List.map_map
def Zag := @Bool.false_ne_true
def Zah := @Int.mul_assoc
def Zai := @List.getD_eq_getElem?_getD
def Zaj := @Int.mul_nonneg
def Zak := @Int.mul_comm
def Zal := @Int.one_mul
def Zam := @List.getElem?_append_left
def Zan := @List.getElem?_zip_eq_some
def Zao := @List.drop_eq_getElem_cons
def Zap := @List.count_pos_iff
def Zaq := @Nat.lt_of_le_of_lt
def Zar := @List.getElem?_eq_getElem
def Zas := @List.sum_cons
def Zat := @List.nodup_iff_count
def Zau := @Int.mul_neg
def Zav := @Int.neg_mul
def Zaw := @List.ext_getElem?
def Zax := @List.map_append
def Zay := @List.nodup_nil
def Zaz := @List.set_eq_take_append_cons_drop
def ZaA := @List.mem_filter
def ZaB := @List.nodup_cons
def ZaC := @List.count_cons
def ZaD := @Nat.min_eq_left
def ZaE := @Bool.not_eq_true'
def ZaF := @Int.zero_sub
def ZaG := @List.length_take
def ZaH := @List.all_eq_true
def ZaI := @Int.natAbs_mul
def ZaJ := @PySem.W.kia_one
def ZaK := @List.append_assoc
def ZaL := @Nat.lt_succ_of_lt
def ZaM := @Int.mul_add
def ZaN := @Int.le_refl
def ZaO := @Nat.lt_succ_self
def ZaP := @Int.add_zero
def ZaQ := @Int.eq_of_mul_eq_mul_left
def ZaR := @List.map_eq_nil_iff
def ZaS := @List.length_set
def ZaT := @Int.natCast_add
def ZaU := @List.mem_filterMap
def ZaV := @Nat.eq_zero_or_pos
def ZaW := @Nat.add_sub_cancel
def ZaX := @Int.mul_one
def ZaY := @Nat.ne_of_gt
def ZaZ := @List.reverse_cons
def Zba := @List.nodup_append
def Zbb := @List.range_succ_eq_map
def Zbc := @List.length_singleton
def Zbd := @List.take_append_drop
def Zbe := @List.contains_iff_mem
def Zbf := @Int.emod_add_mul_ediv
def Zbg := @List.mem_flatten
def Zbh := @Nat.min_le_right
def Zbi := @Nat.add_le_add_right
def Zbj := @PySem.F.slot_zip_next
def Zbk := @List.filterMap_cons
def Zbl := @List.length_reverse
def Zbm := @List.sum_append_int
def Zbn := @Int.fdiv_eq_ediv_of_nonneg
def Zbo := @List.getElem?_append_right
def Zbp := @Nat.mul_le_mul
def Zbq := @List.getElem?_drop
def Zbr := @List.getElem?_eq_none_iff
def Zbs := @Nat.le_succ
def Zbt := @Int.emod_eq_of_lt
def Zbu := @Int.neg_neg
def Zbv := @Int.mul_left_comm
def Zbw := @Option.isSome_iff_exists
def Zbx := @PyProof.noPylong_of_log2
def Zby := @List.getElem?_replicate
def Zbz := @PySem.Heap.IsList.push
def ZbA := @List.cons_append
def ZbB := @List.foldlM_cons
def ZbC := @PySem.F.plainAttrs_list
def ZbD := @List.take_length
def ZbE := @PyProof.Rows.intBits_le
def ZbF := @Int.dvd_mul_of_dvd_left
def ZbG := @PySem.W.cellsFrom_some
def ZbH := @PyProof.Rows.boot_list
def ZbI := @Nat.sub_zero
def ZbJ := @Int.fmod_nonneg_of_pos
def ZbK := @List.take_of_length_le
def ZbL := @List.append_nil
def ZbM := @List.of_mem_zip
def ZbN := @List.forIn_cons
def ZbO := @Bool.or_eq_true
def ZbP := @List.nil_append
def ZbQ := @List.range_succ
def ZbR := @Int.ediv_nonneg
def ZbS := @List.drop_zero
def ZbT := @PySem.W.mg_of
def ZbU := @List.map_take
def ZbV := @Bool.and_true
namespace L2
open PySem PySem.Spec PyProof.Rows
noncomputable abbrev Key := Sum Int Str
noncomputable def Qr2 : Key -> Value -> Bool
 | .inl k, v => Value.isInt k v
 | .inr x, v => Value.isStrOf x v
noncomputable def QwX (w : World) : Key -> Int
 | .inl k => hashInt k
 | .inr x => hashStr w x
theorem QaK : ∀ {k : Key} {v : Value}, Qr2 k v = true -> (∃ i t, k = Sum.inl i /\ v = Value.int i t) ∨ (∃ x t, k = Sum.inr x /\ v = Value.str x t)
 | .inl i, v, h => by
  obtain ⟨t, e⟩ := Value.isInt_shape (k := i) (v := v) h
  exact .inl ⟨i, t, rfl, e⟩
 | .inr x, v, h => by
  obtain ⟨t, e⟩ := Value.isStrOf_shape (x := x) (v := v) h
  exact .inr ⟨x, t, rfl, e⟩
theorem Qvh (a b : Int) : decide ((Sum.inl a : Key) = Sum.inl b) = (a == b) := by
 by_cases e : a = b
 ·subst e; simp
 ·have h : ¬ (Sum.inl a : Key) = Sum.inl b := λ q => e (Sum.inl.inj q)
  rw [decide_eq_false h]
  exact (beq_eq_false_iff_ne.mpr e).symm
theorem Qu2 (a b : Str) : decide ((Sum.inr a : Key) = Sum.inr b) = decide (a = b) := by
 by_cases e : a = b
 ·subst e; simp
 ·have h : ¬ (Sum.inr a : Key) = Sum.inr b := λ q => e (Sum.inr.inj q)
  rw [decide_eq_false h, decide_eq_false e]
theorem Qvs (a : Int) (b : Str) : decide ((Sum.inl a : Key) = Sum.inr b) = false := decide_eq_false (λ q => nomatch q)
theorem Quj (a : Str) (b : Int) : decide ((Sum.inr a : Key) = Sum.inl b) = false := decide_eq_false (λ q => nomatch q)
noncomputable def Qjl (prog : Program) (w : World) : PySem.KeyKind prog w Key where
 is := Qr2
 hash := QwX w
 inj := λ v a b ha hb => by
  rcases QaK ha with ⟨i, t, rfl, rfl⟩ | ⟨x, t, rfl, rfl⟩
  ·rcases QaK hb with ⟨j, u, rfl, e⟩ | ⟨y, u, rfl, e⟩
   ·injection e with e1 _; rw [e1]
   ·exact nomatch e
  ·rcases QaK hb with ⟨j, u, rfl, e⟩ | ⟨y, u, rfl, e⟩
   ·exact nomatch e
   ·injection e with e1 _; rw [e1]
 byValue := λ k v h => by
  rcases QaK h with ⟨i, t, rfl, rfl⟩ | ⟨x, t, rfl, rfl⟩ <;> rfl
 pyHash := λ hv h => by
  rcases QaK hv with ⟨i, t, rfl, rfl⟩ | ⟨x, t, rfl, rfl⟩
  ·exact wpAny_pyHash_int h
  ·exact wpAny_pyHash_str h
 eqBool := λ hu hv h => by
  rcases QaK hu with ⟨i, t, rfl, rfl⟩ | ⟨x, t, rfl, rfl⟩
  ·rcases QaK hv with ⟨j, u, rfl, rfl⟩ | ⟨y, u, rfl, rfl⟩
   ·rw [Qvh] at h; exact wpAny_eqBool_int h
   ·rw [Qvs] at h; exact SeqAt.EqAt.int_str i t y u _ _ _ _ h
  ·rcases QaK hv with ⟨j, u, rfl, rfl⟩ | ⟨y, u, rfl, rfl⟩
   ·rw [Quj] at h; exact SeqAt.EqAt.str_int x t j u _ _ _ _ h
   ·rw [Qu2] at h; exact wpAny_eqBool_str h
 «strs» := λ k x t v h => by
  rcases QaK h with ⟨i, u, rfl, e⟩ | ⟨y, u, rfl, e⟩
  ·exact nomatch e
  ·injection e with e1 _
   subst e1
   cases v <;> rfl
end L2
namespace L2
open PySem PySem.Spec PyProof.Rows
inductive V where
 | non | bl (b : Bool) | int (i : Int) | str (x : Str) | byt (b : Array UInt8) | flt (b : UInt64) | ref (a : Addr) | ty (n : String)
 deriving DecidableEq
noncomputable def RelV : V -> Value -> Prop
 | .non, u => u = Value.none
 | .bl b, u => u = Value.bool b
 | .int i, u => ∃ t, u = Value.int i t
 | .str x, u => ∃ t, u = Value.str x t
 | .byt b, u => ∃ t, u = Value.bytes b t
 | .flt b, u => ∃ t, u = Value.float b t
 | .ref a, u => u = Value.ref a
 | .ty n, u => u = Value.type n
noncomputable abbrev Qy : List V -> List Value -> Prop := Paired RelV
theorem Qy.length {xs : List V} {us : List Value} (r : Qy xs us) : xs.length = us.length := Paired.length r
theorem Qy.get : ∀ {xs : List V} {us : List Value} {i : Nat} {x : V}, Qy xs us -> xs[i]? = some x -> ∃ u, us[i]? = some u /\ RelV x u
 | _, _, _, _, .nil, e => by simp at e
 | _, _, 0, _, .cons r _, e => by simp at e; subst e; exact ⟨_, rfl, r⟩
 | _, _, i + 1, x, .cons _ t, e => by
  obtain ⟨u, h1, h2⟩ := Qy.get (i := i) (x := x) t (by simpa using e)
  exact ⟨u, by simpa using h1, h2⟩
theorem Qy.set {x : V} {u : Value} (r : RelV x u) : ∀ {xs : List V} {us : List Value} (i : Nat), Qy xs us -> Qy (xs.set i x) (us.set i u)
 | _, _, _, .nil => .nil
 | _, _, 0, .cons _ t => .cons r t
 | _, _, i + 1, .cons q t => .cons q (Qy.set r i t)
theorem Qy.append : ∀ {xs ys : List V} {us ws : List Value}, Qy xs us -> Qy ys ws -> Qy (xs ++ ys) (us ++ ws)
 | _, _, _, _, .nil, s => s
 | _, _, _, _, .cons r t, s => .cons r (Qy.append t s)
theorem Qy.take : ∀ {xs : List V} {us : List Value} (n : Nat), Qy xs us -> Qy (xs.take n) (us.take n)
 | _, _, 0, _ => .nil
 | _, _, _ + 1, .nil => .nil
 | _, _, n + 1, .cons r t => .cons r (Qy.take n t)
theorem Qy.drop : ∀ {xs : List V} {us : List Value} (n : Nat), Qy xs us -> Qy (xs.drop n) (us.drop n)
 | _, _, 0, r => r
 | _, _, _ + 1, .nil => .nil
 | _, _, n + 1, .cons _ t => Qy.drop n t
theorem Qy.none_of : ∀ {xs : List V} {us : List Value} {i : Nat}, Qy xs us -> xs[i]? = none -> us[i]? = none := λ {xs us i} r e => by
 have h1 := r.length
 have h2 : xs.length <= i := Zbr.mp e
 exact Zbr.mpr (by omega)
noncomputable def QiU : Option V -> Option Value -> Prop
 | some v, some u => RelV v u
 | none, none => True
 | _, _ => False
noncomputable def KV {κ : Type} : List (κ × V) -> List (κ × Value) -> Prop := Paired λ (p : κ × V) (q : κ × Value) => p.1 = q.1 /\ RelV p.2 q.2
noncomputable def kV : Key -> V
 | .inl i => .int i
 | .inr x => .str x
inductive HO where
 | lst (xs : List V)
 | tup (xs : List V)
 | dK (kvs : List (Key × V)) | dT (kvs : List (List Key × V))
 | set (S : Int -> Bool) (n : Nat)
 | ins (C dx : Addr) (fs : List (Str × V))
 | own (x : Addr)
 | xd (fs : List (Str × V))
 | met (f x : Addr)
 | rng (lo hi : Int)
 | frz (o : Obj) (u : HO)
 | tbl (ps : Array Value)
 | ext (φ : Heap -> Prop)
noncomputable abbrev Hp := Addr -> Option HO
noncomputable def upd (H : Hp) (a : Addr) (o : HO) : Hp := λ b => if b = a then some o else H b
theorem Qay {H : Hp} {a : Addr} {o : HO} : upd H a o a = some o := by unfold upd; rw [if_pos rfl]
theorem QO {H : Hp} {a b : Addr} {o : HO} (h : b ≠ a) : upd H a o b = H b := by unfold upd; rw [if_neg h]
theorem Qn0 {H : Hp} {a b : Addr} {o u : HO} (h : H a = some o) (h' : H b = some u) (d : o ≠ u) : a ≠ b := by
 intro e; subst e; rw [h] at h'; exact d (Option.some.inj h')
theorem Qbm {H : Hp} {a b : Addr} {o : HO} (h : H a = some o) (h' : H b = none) : a ≠ b := by
 intro e; subst e; rw [h] at h'; cases h'
section
variable (P : Program) (w : World)
noncomputable def Qcm (H : Hp) (h : Heap) (a : Addr) : HO -> Prop
 | .lst xs => xs.length <= sizeLine /\ ∃ (its : List Value) (n : Nat), Qy xs its /\ h.get? a = some { cls := .type "list", data := .seq its.toArray n }
 | .tup xs => xs.length <= sizeLine /\ ∃ its : List Value, Qy xs its /\ IsTup h a its.toArray
 | .dK kvs => kvs.length <= sizeLine /\ (a == sysModules) = false /\ ∃ vs, KV kvs vs /\ h.DictOf (Qjl P w) a vs
 | .dT kvs => kvs.length <= sizeLine /\ (a == sysModules) = false /\ ∃ xs : List (List Key × Addr × Value),
   Paired (λ (p : List Key × V) (q : List Key × Addr × Value) => p.1 = q.1 /\ H q.2.1 = some (.tup (p.1.map kV)) /\ RelV p.2 q.2.2) kvs xs ∧
   ∃ o es ep, h.get? a = some o /\ o.ExactDict /\ o.data = .dict es ep /\ es.toList = xs.map (entryOfKey (tupleKind (Qjl P w))) /\ (xs.map (·.1)).Nodup
 | .set S n => h.SetOf (intKind P w) a S n
 | .ins C dx fs => H dx = some (.own a) /\ fs.length <= 1000 /\ dx ≠ a /\ h.get? a = some (PySem.W.instObj C dx) ∧
   ∃ mA, h.Ns1 dx mA /\ (∀ f, QiU (fs.lookup f) (mA f)) /\ PySem.Within mA (fs.map (·.1))
 | .own _ => ∃ o, h.get? a = some o
 | .xd fs => ∃ mA, h.Ns1 a mA /\ ∀ f, QiU (fs.lookup f) (mA f)
 | .rng lo hi => ∃ t u v, h.get? a = some { cls := .type "range", data := .fields #[.int lo t, .int hi u, .int 1 v] }
 | .frz o u => h.get? a = some o /\ Qcm H h a u
 | .tbl ps => h.get? a = some { cls := .none, data := .fields ps }
 | .met f x => h.get? a = some (PySem.W.methodObj (.ref f) (.ref x))
 | .ext φ => φ h /\ (∃ o, h.get? a = some o) /\ ∀ h1 h2 : Heap, φ h1 -> (∀ o, h1.get? a = some o -> h2.get? a = some o) -> φ h2
def HOk (H : Hp) (h : Heap) : Prop := ∀ a o, H a = some o -> Qcm P w H h a o
end
section
variable {P : Program} {w : World} {H H' : Hp} {h h' : Heap} {a : Addr} {o : HO}
theorem Qcm.lt (x : Qcm P w H h a o) : a < h.objs.size := by
 cases o with
 | lst xs => obtain ⟨_, _, _, _, e⟩ := x; exact Zs e
 | tup xs => obtain ⟨_, _, _, p⟩ := x; exact p.lt
 | dK kvs => obtain ⟨_, _, _, _, o, _, _, e, _⟩ := x; exact Zs e
 | dT kvs => obtain ⟨_, _, _, _, o, _, _, e, _⟩ := x; exact Zs e
 | set S n => obtain ⟨o, _, _, _, e, _⟩ := x; exact Zs e
 | ins C dx fs => obtain ⟨_, _, _, e, _⟩ := x; exact Zs e
 | own y => obtain ⟨_, e⟩ := x; exact Zs e
 | xd fs => obtain ⟨_, ⟨_, _, _, e, _⟩, _⟩ := x; exact Zs e
 | rng lo hi => obtain ⟨_, _, _, e⟩ := x; exact Zs e
 | frz ob u => obtain ⟨e, _⟩ := x; exact Zs e
 | tbl ps => exact Zs (show h.get? a = some _ from x)
 | met f y => exact Zs (show h.get? a = some _ from x)
 | ext φ => obtain ⟨_, ⟨_, e⟩, _⟩ := x; exact Zs e
theorem Paired.Qul {α β : Type} {F G : α -> β -> Prop} : ∀ {l₁ : List α} {l₂ : List β}, Paired F l₁ l₂ -> (∀ a b, F a b -> G a b) -> Paired G l₁ l₂
 | _, _, .nil, _ => .nil
 | _, _, .cons r t, f => .cons (f _ _ r) (Paired.Qul t f)
theorem Qcm.Qhz (x : Qcm P w H h a o) (k : ∀ b u, (b = a ∨ H b = some (.own a)) -> h.get? b = some u -> h'.get? b = some u)
  (ho : ∀ b, H b = some (.own a) -> H' b = some (.own a)) (ht : ∀ b xs, H b = some (.tup xs) -> H' b = some (.tup xs)) : Qcm P w H' h' a o := by
 induction o with
 | lst xs => obtain ⟨z, its, n, r, e⟩ := x; exact ⟨z, its, n, r, k _ _ (.inl rfl) e⟩
 | tup xs => obtain ⟨z, its, r, ob, e, c⟩ := x; exact ⟨z, its, r, ob, k _ _ (.inl rfl) e, c⟩
 | dK kvs => obtain ⟨z, y, vs, r, ob, es, ep, e, c⟩ := x; exact ⟨z, y, vs, r, ob, es, ep, k _ _ (.inl rfl) e, c⟩
 | dT kvs =>
  obtain ⟨z, y, xs, r, ob, es, ep, e, c⟩ := x
  exact ⟨z, y, xs, Paired.Qul r λ p q z => ⟨z.1, ht _ _ z.2.1, z.2.2⟩, ob, es, ep, k _ _ (.inl rfl) e, c⟩
 | set S n => obtain ⟨ob, es, ep, t, e, c⟩ := x; exact ⟨ob, es, ep, t, k _ _ (.inl rfl) e, c⟩
 | ins C dx fs =>
  obtain ⟨d, z, ne, e, mA, ⟨od, es, ep, e2, c⟩, r⟩ := x
  exact ⟨ho _ d, z, ne, k _ _ (.inl rfl) e, mA, ⟨od, es, ep, k _ _ (.inr d) e2, c⟩, r⟩
 | own y => obtain ⟨ob, e⟩ := x; exact ⟨ob, k _ _ (.inl rfl) e⟩
 | xd fs => obtain ⟨mA, ⟨od, es, ep, e, c⟩, r⟩ := x; exact ⟨mA, ⟨od, es, ep, k _ _ (.inl rfl) e, c⟩, r⟩
 | rng lo hi => obtain ⟨t, u, v, e⟩ := x; exact ⟨t, u, v, k _ _ (.inl rfl) e⟩
 | frz ob u ih => obtain ⟨e, q⟩ := x; exact ⟨k _ _ (.inl rfl) e, ih q⟩
 | tbl ps =>
  have e : h.get? a = some { cls := .none, data := .fields ps } := x
  show h'.get? a = some { cls := .none, data := .fields ps }
  exact k a _ (.inl rfl) e
 | met f y =>
  have e : h.get? a = some (PySem.W.methodObj (.ref f) (.ref y)) := x
  show h'.get? a = some (PySem.W.methodObj (.ref f) (.ref y))
  exact k a _ (.inl rfl) e
 | ext φ => obtain ⟨p, ⟨o, e⟩, st⟩ := x; exact ⟨st _ _ p λ o q => k _ _ (.inl rfl) q, ⟨o, k _ _ (.inl rfl) e⟩, st⟩
theorem HOk.lt (x : HOk P w H h) (e : H a = some o) : a < h.objs.size := (x a o e).lt
theorem HOk.fresh (x : HOk P w H h) (e : h.objs.size <= a) : H a = none := by
 cases q : H a with
 | none => rfl
 | some u => exact absurd (Zu (x.lt q) e) (ZR _)
theorem HOk.kept (x : HOk P w H h) (k : ∀ b u, h.get? b = some u -> h'.get? b = some u) : HOk P w H h' := λ a o e =>
 (x a o e).Qhz (λ b u _ q => k b u q) (λ _ q => q) λ _ _ q => q
theorem HOk.laid (x : HOk P w H h) (k : ∀ b u, h.get? b = some u -> h'.get? b = some u) (hp : h.objs.size <= a) (new : Qcm P w (upd H a o) h' a o) : HOk P w (upd H a o) h' := λ b u e => by
 have hn := x.fresh hp
 by_cases hb : b = a
 ·subst hb; rw [Qay] at e; cases e; exact new
 ·rw [QO hb] at e
  exact (x b u e).Qhz (λ c v _ q => k c v q) (λ c q => by rw [QO (Qbm q hn)]; exact q) λ c xs q => by rw [QO (Qbm q hn)]; exact q
end
def Rd (H : Hp) (a : Addr) (u : HO) : Prop := H a = some u ∨ ∃ o, H a = some (.frz o u)
theorem Rd.of {H : Hp} {a : Addr} {u : HO} (h : H a = some u) : Rd H a u := .inl h
theorem Rd.ok {P : Program} {w : World} {H : Hp} {h : Heap} {a : Addr} {u : HO} (r : Rd H a u) (x : HOk P w H h) : Qcm P w H h a u := by
 rcases r with r | ⟨o, r⟩
 ·exact x a u r
 ·obtain ⟨_, q⟩ := x a _ r
  exact q
noncomputable def Mut : Option HO -> Prop
 | some (.lst _) => True
 | some (.dK _) => True
 | some (.dT _) => True
 | some (.set _ _) => True
 | some (.ins _ _ _) => True
 | some (.ext _) => True
 | _ => False
section
variable {P : Program} {w : World} {H : Hp} {h h' : Heap} {x e : Addr} {o' : HO}
theorem HOk.write (ok : HOk P w H h) (mu : Mut (H x)) (he : e = x ∨ H e = some (.own x)) (k : ∀ b u, b ≠ e -> h.get? b = some u -> h'.get? b = some u) (heo : ∃ u, h'.get? e = some u)
  (new : Qcm P w (upd H x o') h' x o') : HOk P w (upd H x o') h' := λ b u q => by
 have nown : ∀ c y, H c = some (.own y) -> c ≠ x := λ c y r z => by subst z; rw [r] at mu; exact mu
 have ntup : ∀ c xs, H c = some (.tup xs) -> c ≠ x := λ c xs r z => by subst z; rw [r] at mu; exact mu
 by_cases hb : b = x
 ·subst hb; rw [Qay] at q; cases q; exact new
 ·rw [QO hb] at q
  by_cases hbe : b = e
  ·have q' : H b = some (.own x) := by
    rcases he with z | z
    ·exact absurd (hbe.trans z) hb
    ·rw [hbe]; exact z
   rw [q] at q'; cases q'
   obtain ⟨v, hv⟩ := heo
   exact ⟨v, by rw [hbe]; exact hv⟩
  ·refine (ok b u q).Qhz (λ c v hc r => k c v ?_ r) (λ c r => by rw [QO (nown c b r)]; exact r) λ c xs r => by rw [QO (ntup c xs r)]; exact r
   rcases hc with rfl | hc
   ·exact hbe
   ·rintro rfl
    rcases he with z | z
    ·exact nown c b hc z
    ·rw [hc] at z; cases z; exact hb rfl
end
structure Un (fs ex : List Addr) (H H' : Hp) (h h' : Heap) : Prop where
 keep : ∀ b o, h.get? b = some o -> H b = none -> b ∉ fs -> b ∉ ex -> h'.get? b = some o
 slot : ∀ b o, h.get? b = some o -> H b = none -> b ∈ fs -> b ∉ ex -> ∃ sl, h'.get? b = some { o with slots := sl }
 free : ∀ b o, h.get? b = some o -> H b = none -> b ∉ ex -> H' b = none
 there : ∀ b o, h.get? b = some o -> b ∉ ex -> ∃ o', h'.get? b = some o'
 tups : ∀ b xs, H b = some (.tup xs) -> H' b = some (.tup xs)
 frzs : ∀ b o u, H b = some (.frz o u) -> H' b = some (.frz o u)
 tbls : ∀ b ps, H b = some (.tbl ps) -> ∃ more, H' b = some (.tbl (ps ++ more))
section
variable {fs fs' ex ex' : List Addr} {H H1 H2 : Hp} {h h1 h2 h' : Heap} {a x e : Addr} {o : HO}
theorem Un.any (u : Un fs ex H H1 h h1) {b : Addr} {ob : Obj} (q : h.get? b = some ob) (n : H b = none) (hx : b ∉ ex) : ∃ sl, h1.get? b = some { ob with slots := sl } := by
 by_cases hb : b ∈ fs
 ·exact u.slot b ob q n hb hx
 ·exact ⟨ob.slots, u.keep b ob q n hb hx⟩
theorem Un.trans (a : Un fs ex H H1 h h1) (b : Un fs ex H1 H2 h1 h2) : Un fs ex H H2 h h2 where
 keep := λ c ob q n hc hx => b.keep c ob (a.keep c ob q n hc hx) (a.free c ob q n hx) hc hx
 slot := λ c ob q n hc hx => by
  obtain ⟨sl, e1⟩ := a.slot c ob q n hc hx
  obtain ⟨sl', e2⟩ := b.slot c _ e1 (a.free c ob q n hx) hc hx
  exact ⟨sl', e2⟩
 free := λ c ob q n hx => by
  obtain ⟨o', e1⟩ := a.there c ob q hx
  exact b.free c o' e1 (a.free c ob q n hx) hx
 there := λ c ob q hx => by
  obtain ⟨o', e1⟩ := a.there c ob q hx
  exact b.there c o' e1 hx
 tups := λ c xs q => b.tups c xs (a.tups c xs q)
 frzs := λ c ob xs q => b.frzs c ob xs (a.frzs c ob xs q)
 tbls := λ c ps q => by
  obtain ⟨m1, e1⟩ := a.tbls c ps q
  obtain ⟨m2, e2⟩ := b.tbls c _ e1
  exact ⟨m1 ++ m2, by rw [e2, Array.append_assoc]⟩
theorem Un.kept (k : ∀ b u, h.get? b = some u -> h'.get? b = some u) : Un fs ex H H h h' :=
 ⟨λ b ob q _ _ _ => k b ob q, λ b ob q _ _ _ => ⟨ob.slots, k b ob q⟩, λ _ _ _ n _ => n, λ b ob q _ => ⟨ob, k b ob q⟩, λ _ _ q => q, λ _ _ _ q => q, λ _ ps q => ⟨#[], by rw [q]; simp⟩⟩
theorem Un.refl : Un fs ex H H h h := Un.kept λ _ _ q => q
theorem Un.laid (k : ∀ b u, h.get? b = some u -> h'.get? b = some u) (hp : h.objs.size <= a) (hn : H a = none) : Un fs ex H (upd H a o) h h' where
 keep := λ b u q _ _ _ => k b u q
 slot := λ b u q _ _ _ => ⟨u.slots, k b u q⟩
 free := λ b u q n _ => by rw [QO (ZL (Zu (Zs q) hp))]; exact n
 there := λ b u q _ => ⟨u, k b u q⟩
 tups := λ b xs q => by rw [QO (Qbm q hn)]; exact q
 frzs := λ b u xs q => by rw [QO (Qbm q hn)]; exact q
 tbls := λ b ps q => ⟨#[], by rw [QO (Qbm q hn), q]; simp⟩
theorem Un.write (mu : Mut (H x)) (he : e = x ∨ H e = some (.own x)) (k : ∀ b u, b ≠ e -> h.get? b = some u -> h'.get? b = some u) (heo : ∃ u, h'.get? e = some u) : Un fs ex H (upd H x o) h h' := by
 have hx : ∀ b, H b = none -> b ≠ x := λ b n z => by subst z; rw [n] at mu; exact mu
 have hb : ∀ b, H b = none -> b ≠ e := λ b n z => by
  subst z
  rcases he with r | r
  ·exact hx b n r
  ·rw [n] at r; cases r
 have hm : ∀ b u, H b = some u -> ¬ Mut (some u) -> b ≠ x := λ b u q nm z => by subst z; rw [q] at mu; exact nm mu
 refine ⟨λ b u q n _ _ => k b u (hb b n) q, λ b u q n _ _ => ⟨u.slots, k b u (hb b n) q⟩, λ b u q n _ => by rw [QO (hx b n)]; exact n, λ b u q _ => ?_,
  λ b xs q => by rw [QO (hm b _ q λ z => z)]; exact q, λ b u xs q => by rw [QO (hm b _ q λ z => z)]; exact q, λ b ps q => ⟨#[], by rw [QO (hm b _ q λ z => z), q]; simp⟩⟩
 by_cases hbe : b = e
 ·subst hbe; exact heo
 ·exact ⟨u, k b u hbe q⟩
theorem Un.mono (u : Un fs ex H H1 h h1) (hs : ∀ b ∈ fs, b ∈ fs') (hx : ∀ b ∈ ex, b ∈ ex') : Un fs' ex' H H1 h h1 :=
 ⟨λ b ob q n hb he => u.keep b ob q n (λ z => hb (hs b z)) λ z => he (hx b z), λ _ _ q n _ he => u.any q n λ z => he (hx _ z), λ b ob q n he => u.free b ob q n λ z => he (hx b z), λ b ob q he => u.there b ob q λ z => he (hx b z), u.tups, u.frzs, u.tbls⟩
end
noncomputable def trk (h : Heap) (H : Hp) : List Addr := (List.range h.objs.size).filter λ a => (H a).isSome
noncomputable def Qfx (h : Heap) (H : Hp) : Heap := PySem.W.hideAll h (trk h H)
theorem QpI (h : Heap) (H : Hp) : (Qfx h H).objs.size = h.objs.size := PySem.W.hideAll_size _ _
theorem QqS {h : Heap} {H : Hp} {b : Addr} {o : Obj} (e : h.get? b = some o) (n : H b = none) : (Qfx h H).get? b = some o :=
 PySem.W.hideAll_get _ e λ hm => by
  have q : (H b).isSome = true := (ZaA.mp hm).2
  rw [n] at q; simp at q
theorem QsL {h : Heap} {H : Hp} {b : Addr} {o : Obj} (e : (Qfx h H).get? b = some o) : h.get? b = some o /\ H b = none := by
 have e' : h.get? b = some o := PySem.W.of_hideAll (trk h H) e
 refine ⟨e', ?_⟩
 cases q : H b with
 | none => rfl
 | some x =>
  have hm : b ∈ trk h H := ZaA.mpr ⟨Zn.mpr (Zs e'), by simp [q]⟩
  have z : (Qfx h H).get? b = none := PySem.W.hideAll_none (trk h H) hm
  rw [z] at e; cases e
noncomputable def Qsi (g h : Heap) (L : Addr) : List (Addr × Obj) := (List.range h.objs.size).filterMap λ a => if a = L ∨ (g.get? a).isSome = true then none else (h.get? a).map λ o => (a, o)
noncomputable def rest (g h : Heap) (L d : Addr) : List (Addr × Obj) := (Qsi g h L).filter λ p => decide (p.1 ≠ d)
end L2
namespace L2
open PySem PySem.Spec PyProof.Rows
structure Mod (K : PySem.W.Frag) (mg : Str -> Option Value) (base : Heap) : Prop where
 kin : K.In base
 glob : base.Ns mainGlobals mg
 blt : ∃ mb, base.Ns builtinsNs mb /\ ∀ x : Str, x ≠ "__name__" -> mb x = bootBuiltins x
 nolimit : base.NoLimit
structure Cx where
 prog : Program
 w : World
 K : PySem.W.Frag
 mg : Str -> Option Value
 base : Heap
 A : Around
 N : List Str
 s₀ : Shared
 H₀ : Hp
 env : Env
 outer : List Env
 stack : List Env
 ex : List Addr
 fn : Str -> Bool
 calm : Bool
 pn : List (Addr × Obj)
 xe : Value -> Shared -> Prop
noncomputable def frs (l : List Env) : List Addr := l.filterMap (·.frame)
noncomputable abbrev Cx.fs (X : Cx) : List Addr := frs X.outer
def Vis (sc : Scope) (x : Str) : Prop := sc.names.lookup x = some .local ∨ sc.names.lookup x = some .cell ∨ sc.names.lookup x = some .free
def Loc (sc : Scope) (x : Str) : Prop := sc.names.lookup x = some .local ∨ sc.names.lookup x = some .cell
def Look (env : Env) (h : Heap) (m : Str -> Option Value) (x : Str) (u : Value) : Prop :=
 (env.kindOf x = some .local /\ m x = some u) ∨ ((env.kindOf x = some .cell ∨ env.kindOf x = some .free) /\ ∃ c, env.cells.lookup x = some c /\ h.IsCell c (some u))
structure Cx.Ok (X : Cx) : Prop where
 mod : Mod X.K X.mg X.base
 kind : X.env.scope.kind = .function
 glob : X.env.globals = mainGlobals
 blt : X.env.builtins = builtinsNs
 above : X.s₀.heap.objs.size <= X.env.locals
 inj : ∀ x y c, X.env.cells.lookup x = some c -> X.env.cells.lookup y = some c -> x = y
 has : ∀ x, (X.env.kindOf x = some .cell ∨ X.env.kindOf x = some .free) -> ∃ c, X.env.cells.lookup x = some c
 cab : ∀ x c, X.fn x = true -> X.env.cells.lookup x = some c -> X.s₀.heap.objs.size <= c
 hd : X.calm = true -> X.A.handled = none
 frames : X.A.frames = some X.stack
 stk : X.stack = X.outer ∨ (X.stack = X.env :: X.outer /\ X.env.frame = some X.env.locals)
 exf : ∀ b ∈ X.ex, b ≠ X.env.locals /\ ∀ x c, X.env.cells.lookup x = some c -> c ≠ b
 bs : ∀ b o, X.base.get? b = some o -> X.s₀.heap.get? b = some o /\ X.H₀ b = none
 bsz : X.base.objs.size <= X.s₀.heap.objs.size
 noex : ∀ b o, X.base.get? b = some o -> b ∉ X.ex
 exfs : ∀ b ∈ X.ex, b ∉ X.fs
 Qdv : X.s₀.heap.FunFrames X.base X.outer
 frf : ∀ b ∈ X.fs, X.H₀ b = none
structure Inv (X : Cx) (pins : List (Addr × Obj)) (σ : List (Option V)) (H : Hp) (s : Shared) : Prop where
 ok : X.Ok
 os : s.os = X.s₀.os
 bare : AllBare s.gens
 base : Un X.fs X.ex X.H₀ H X.s₀.heap s.heap
 loc : ∃ m, s.heap.Ns X.env.locals m /\ ∀ (i : Nat) (x : Str) (v : V), X.N[i]? = some x -> σ[i]? = some (some v) -> Vis X.env.scope x -> ∃ u, RelV v u /\ Look X.env s.heap m x u
 cell : ∀ x c, X.env.cells.lookup x = some c -> ∃ v, s.heap.IsCell c v
 free : H X.env.locals = none
 freeC : ∀ x c, X.env.cells.lookup x = some c -> H c = none
 pin : ∀ p ∈ X.pn ++ pins, s.heap.get? p.1 = some p.2 /\ H p.1 = none /\ p.1 ≠ X.env.locals /\ p.1 ∉ X.fs /\ ∀ v, p.2.data ≠ .cell v
 hok : HOk X.prog X.w H s.heap
 len : σ.length = X.N.length
section
variable {X : Cx} {pins : List (Addr × Obj)} {σ : List (Option V)} {H H' : Hp} {s : Shared} {h' : Heap}
theorem Cx.Ok.Qw7 (ok : X.Ok) {b : Addr} {o : Obj} (e : X.base.get? b = some o) : b ∉ X.fs := λ hb => by
 have := (ok.Qdv.mem hb).1
 rw [e] at this; cases this
theorem Inv.bs (I : Inv X pins σ H s) : ∀ b o, X.base.get? b = some o -> s.heap.get? b = some o /\ H b = none := λ b o e =>
 ⟨I.base.keep b o (I.ok.bs b o e).1 (I.ok.bs b o e).2 (I.ok.Qw7 e) (I.ok.noex b o e), I.base.free b o (I.ok.bs b o e).1 (I.ok.bs b o e).2 (I.ok.noex b o e)⟩
theorem Inv.bk (I : Inv X pins σ H s) : ∀ b o, X.base.get? b = some o -> s.heap.get? b = some o := λ b o e => (I.bs b o e).1
theorem Inv.mod (I : Inv X pins σ H s) : Mod X.K X.mg X.base := I.ok.mod
theorem Inv.kIn (I : Inv X pins σ H s) : X.K.In s.heap := I.ok.mod.kin.keeps I.bk
theorem Inv.nolimit (I : Inv X pins σ H s) : s.heap.NoLimit := I.ok.mod.nolimit.keeps I.bk
theorem Inv.fr (I : Inv X pins σ H s) : ∃ m, Fr X.base X.env.locals s.heap m :=
 let ⟨m, hn, _⟩ := I.loc
 ⟨m, hn, I.bk, Zx I.ok.bsz I.ok.above⟩
theorem Inv.lt (I : Inv X pins σ H s) : X.env.locals < s.heap.objs.size := let ⟨_, hn, _⟩ := I.loc; hn.lt
theorem Inv.sz (I : Inv X pins σ H s) : X.s₀.heap.objs.size <= s.heap.objs.size := Zx I.ok.above (Nat.le_of_lt I.lt)
theorem Inv.QwY (I : Inv X pins σ H s) {a : Addr} (h : s.heap.objs.size <= a) : a ∉ X.fs := λ hb => by
 obtain ⟨_, o, ho, _⟩ := I.ok.Qdv.mem hb
 exact absurd (Zu (Zs ho) (Zx I.sz h)) (ZR _)
theorem Inv.cne (I : Inv X pins σ H s) : ∀ x c, X.env.cells.lookup x = some c -> c ≠ X.env.locals := λ x c e z => by
 obtain ⟨v, o, ho, hd⟩ := I.cell x c e
 obtain ⟨m, ⟨o', es, ep, ho', hd', _⟩, _⟩ := I.loc
 rw [z, ho'] at ho; cases ho; rw [hd'] at hd; cases hd
theorem Inv.Qdv (I : Inv X pins σ H s) : s.heap.FunFrames X.base X.outer := by
 have all : ∀ (l : List Env), (∀ b ∈ frs l, b ∈ X.fs) -> X.s₀.heap.FunFrames X.base l -> s.heap.FunFrames X.base l := by
  intro l
  induction l with
  | nil => intro _ _; trivial
  | cons env r ih =>
   intro hs hl
   obtain ⟨hk, ⟨L, o, hf, hn, ho, hd⟩, hr⟩ := hl
   have hL : L ∈ X.fs := hs L (by unfold frs; rw [Zbk, hf]; exact Zi)
   obtain ⟨sl, e⟩ := I.base.slot L o ho (I.ok.frf L hL) hL λ z => I.ok.exfs L z hL
   exact ⟨hk, ⟨L, _, hf, hn, e, hd⟩, ih (λ b hb => hs b (by unfold frs; rw [Zbk, hf]; exact Zc _ hb)) hr⟩
 exact all X.outer (λ _ hb => hb) I.ok.Qdv
theorem Inv.stack (I : Inv X pins σ H s) : s.heap.FunFrames X.base X.stack := by
 rcases I.ok.stk with e | ⟨e, hf⟩
 ·rw [e]; exact I.Qdv
 ·rw [e]
  obtain ⟨m, hn, _⟩ := I.loc
  refine .cons (by rw [I.ok.kind]; decide) hf hn ?_ I.Qdv
  exact Heap.get?_none_of_le (Zx I.ok.bsz I.ok.above)
theorem Inv.Qij (I : Inv X pins σ H s) : ∀ b ∈ frs X.stack, b ∈ X.env.locals :: X.fs := λ b hb => by
 rcases I.ok.stk with e | ⟨e, hf⟩
 ·rw [e] at hb; exact Zc _ hb
 ·rw [e] at hb
  unfold frs at hb
  rw [Zbk, hf] at hb
  exact hb
theorem Inv.Qm6 (I : Inv X pins σ H s) : ∀ b ∈ frs X.stack, H b = none := λ b hb => by
 rcases Zv.mp (I.Qij b hb) with e | hb
 ·rw [e]; exact I.free
 ·obtain ⟨_, o, ho, _⟩ := I.ok.Qdv.mem hb
  exact I.base.free b o ho (I.ok.frf b hb) λ z => I.ok.exfs b z hb
theorem Inv.step {g' : Array GenState} {t' : Nat} {d' : Drawn} {ch : List Addr} (I : Inv X pins σ H s)
  (hch : ∀ b ∈ ch, (b ∈ X.ex ∨ X.s₀.heap.objs.size <= b) /\ b ≠ X.env.locals /\ (∀ x c, X.env.cells.lookup x = some c -> c ≠ b) /\ ∀ p ∈ X.pn ++ pins, p.1 ≠ b)
  (keep : ∀ b o, b ≠ X.env.locals -> b ∉ X.fs -> b ∉ ch -> s.heap.get? b = some o -> H b = none -> h'.get? b = some o)
  (slot : ∀ b o, b ≠ X.env.locals -> b ∈ X.fs -> b ∉ ch -> s.heap.get? b = some o -> H b = none -> ∃ sl, h'.get? b = some { o with slots := sl }) (free : ∀ b o, b ∉ ch -> s.heap.get? b = some o -> H b = none -> H' b = none)
  (there : ∀ b o, b ∉ ch -> s.heap.get? b = some o -> ∃ o', h'.get? b = some o')
  (tups : ∀ b xs, H b = some (.tup xs) -> H' b = some (.tup xs)) (frzs : ∀ b o u, H b = some (.frz o u) -> H' b = some (.frz o u)) (tbls : ∀ b ps, H b = some (.tbl ps) -> ∃ more, H' b = some (.tbl (ps ++ more)))
  (ns : ∀ m, s.heap.Ns X.env.locals m -> h'.Ns X.env.locals m) (hok : HOk X.prog X.w H' h') (hg : AllBare g') :
  Inv X pins σ H' { s with heap := h', gens := g', drawn := d', toks := t' } := by
 have neL : ∀ b o, X.s₀.heap.get? b = some o -> b ≠ X.env.locals := λ b o e => ZL (Zu (Zs e) I.ok.above)
 have neC : ∀ b o, X.s₀.heap.get? b = some o -> b ∉ X.ex -> b ∉ ch := λ b o e hx hb => by
  rcases (hch b hb).1 with z | z
  ·exact hx z
  ·exact absurd (Zu (Zs e) z) (ZR _)
 have cellK : ∀ x c, X.env.cells.lookup x = some c -> ∀ v, s.heap.IsCell c v -> h'.IsCell c v := λ x c e v ⟨o, ho, hd⟩ => by
  have nch : c ∉ ch := λ z => (hch c z).2.2.1 x c e rfl
  by_cases hc : c ∈ X.fs
  ·obtain ⟨sl, q⟩ := slot c o (I.cne x c e) hc nch ho (I.freeC x c e)
   exact ⟨_, q, hd⟩
  ·exact ⟨o, keep c o (I.cne x c e) hc nch ho (I.freeC x c e), hd⟩
 refine ⟨I.ok, I.os, hg, ⟨λ b o e n hb hx => ?_, λ b o e n hb hx => ?_, λ b o e n hx => ?_, λ b o e hx => ?_, λ b xs e => tups b xs (I.base.tups b xs e), λ b o xs e => frzs b o xs (I.base.frzs b o xs e), λ b ps e => ?_⟩, ?_, λ x c e => ?_, ?_, λ x c e => ?_, λ p hp => ?_, hok, I.len⟩
 ·exact keep b o (neL b o e) hb (neC b o e hx) (I.base.keep b o e n hb hx) (I.base.free b o e n hx)
 ·obtain ⟨sl, e1⟩ := I.base.slot b o e n hb hx
  obtain ⟨sl', e2⟩ := slot b _ (neL b o e) hb (neC b o e hx) e1 (I.base.free b o e n hx)
  exact ⟨sl', e2⟩
 ·obtain ⟨o', e1⟩ := I.base.there b o e hx
  exact free b o' (neC b o e hx) e1 (I.base.free b o e n hx)
 ·obtain ⟨o', e1⟩ := I.base.there b o e hx
  exact there b o' (neC b o e hx) e1
 ·obtain ⟨m1, e1⟩ := I.base.tbls b ps e
  obtain ⟨m2, e2⟩ := tbls b _ e1
  exact ⟨m1 ++ m2, by rw [e2, Array.append_assoc]⟩
 ·obtain ⟨m, hn, hl⟩ := I.loc
  refine ⟨m, ns m hn, λ i x v e1 e2 e3 => ?_⟩
  obtain ⟨u, r, l⟩ := hl i x v e1 e2 e3
  refine ⟨u, r, ?_⟩
  rcases l with l | ⟨k, c, e, z⟩
  ·exact .inl l
  ·exact .inr ⟨k, c, e, cellK x c e _ z⟩
 ·obtain ⟨v, z⟩ := I.cell x c e
  exact ⟨v, cellK x c e v z⟩
 ·obtain ⟨m, ⟨o, _, _, ho, _⟩, _⟩ := I.loc
  exact free _ o (λ z => (hch _ z).2.1 rfl) ho I.free
 ·obtain ⟨v, o, ho, hd⟩ := I.cell x c e
  exact free c o (λ z => (hch c z).2.2.1 x c e rfl) ho (I.freeC x c e)
 ·obtain ⟨e, n, ne, nf, d⟩ := I.pin p hp
  have nch : p.1 ∉ ch := λ z => (hch p.1 z).2.2.2 p hp rfl
  exact ⟨keep p.1 p.2 ne nf nch e n, free p.1 p.2 nch e n, ne, nf, d⟩
theorem Inv.un {t' : Nat} (I : Inv X pins σ H s) (u : Un X.fs [] H H' s.heap h') (hok : HOk X.prog X.w H' h') : Inv X pins σ H' { s with heap := h', toks := t' } := by
 obtain ⟨m, ⟨o, es, ep, ho, r⟩, _⟩ := id I.loc
 obtain ⟨sl, hL⟩ := u.any ho I.free (by simp)
 exact I.step (g' := s.gens) (d' := s.drawn) (ch := []) (λ _ z => nomatch z) (λ b o _ hb _ e n => u.keep b o e n hb (by simp)) (λ b o _ hb _ e n => u.slot b o e n hb (by simp)) (λ b o _ e n => u.free b o e n (by simp)) (λ b o _ e => u.there b o e (by simp)) u.tups u.frzs u.tbls (λ m' hm => by
  obtain ⟨o', es', ep', ho', r'⟩ := hm
  rw [ho] at ho'; cases ho'
  exact ⟨_, es', ep', hL, r'⟩) hok I.bare
theorem Inv.call {g' : Array GenState} {t' : Nat} {d' : Drawn} {ch : List Addr} (I : Inv X pins σ H s) (u : Un (frs X.stack) ch H H' s.heap h') (hok : HOk X.prog X.w H' h') (hg : AllBare g')
  (hch : ∀ b ∈ ch, (b ∈ X.ex ∨ X.s₀.heap.objs.size <= b) /\ b ≠ X.env.locals /\ (∀ x c, X.env.cells.lookup x = some c -> c ≠ b) /\ ∀ p ∈ X.pn ++ pins, p.1 ≠ b) :
  Inv X pins σ H' { s with heap := h', gens := g', drawn := d', toks := t' } := by
 obtain ⟨m, ⟨o, es, ep, ho, r⟩, _⟩ := id I.loc
 obtain ⟨sl, hL⟩ := u.any ho I.free λ z => (hch _ z).2.1 rfl
 exact I.step (ch := ch) hch (λ b o hL hb hc e n => u.keep b o e n (λ z => (Zv.mp (I.Qij b z)).elim hL hb) hc) (λ b o _ _ hc e n => u.any e n hc) (λ b o hc e n => u.free b o e n hc) (λ b o hc e => u.there b o e hc) u.tups u.frzs u.tbls (λ m' hm => by
  obtain ⟨o', es', ep', ho', r'⟩ := hm
  rw [ho] at ho'; cases ho'
  exact ⟨_, es', ep', hL, r'⟩) hok hg
theorem Inv.turned {t' : Nat} {it : Addr} (I : Inv X pins σ H s) (k : ∀ b o, b ≠ it -> s.heap.get? b = some o -> h'.get? b = some o) (hn : H it = none) (hL : it ≠ X.env.locals)
  (h1 : it ∈ X.ex ∨ X.s₀.heap.objs.size <= it) (h2 : ∀ x c, X.env.cells.lookup x = some c -> c ≠ it) (h3 : ∀ p ∈ X.pn ++ pins, p.1 ≠ it) : Inv X pins σ H { s with heap := h', toks := t' } := by
 have nit : ∀ b u, H b = some u -> b ≠ it := λ b u e z => by rw [z, hn] at e; cases e
 refine I.step (g' := s.gens) (d' := s.drawn) (ch := [it]) (λ b hb => ?_) (λ b o _ _ hc e _ => k b o (λ z => hc (by simp [z])) e) (λ b o _ _ hc e _ => ⟨o.slots, k b o (λ z => hc (by simp [z])) e⟩) (λ _ _ _ _ n => n)
  (λ b o hc e => ⟨o, k b o (λ z => hc (by simp [z])) e⟩) (λ _ _ e => e) (λ _ _ _ e => e) (λ b ps e => ⟨#[], by rw [e]; simp⟩) (λ m hm => ?_) (λ b u e => ?_) I.bare
 ·have e : b = it := by simpa using hb
  subst e
  exact ⟨h1, hL, h2, h3⟩
 ·obtain ⟨o, es, ep, ho, r⟩ := hm
  exact ⟨o, es, ep, k _ o (Ne.symm hL) ho, r⟩
 ·refine (I.hok b u e).Qhz (λ c v hc q => k c v ?_ q) (λ _ q => q) λ _ _ q => q
  rcases hc with z | z
  ·rw [z]; exact nit b u e
  ·exact nit c _ z
theorem Inv.tok (I : Inv X pins σ H s) (t : Nat) : Inv X pins σ H { s with toks := t } := I.un (h' := s.heap) (t' := t) Un.refl I.hok
theorem Inv.kept {t' : Nat} (I : Inv X pins σ H s) (k : ∀ b u, s.heap.get? b = some u -> h'.get? b = some u) : Inv X pins σ H { s with heap := h', toks := t' } := I.un (Un.kept k) (I.hok.kept k)
theorem Inv.laid {a : Addr} {o : HO} {t' : Nat} (I : Inv X pins σ H s) (k : ∀ b u, s.heap.get? b = some u -> h'.get? b = some u) (hp : s.heap.objs.size <= a) (new : Qcm X.prog X.w (upd H a o) h' a o) :
  Inv X pins σ (upd H a o) { s with heap := h', toks := t' } := I.un (Un.laid k hp (I.hok.fresh hp)) (I.hok.laid k hp new)
theorem Inv.write {x e : Addr} {o : HO} {t' : Nat} (I : Inv X pins σ H s) (mu : Mut (H x)) (he : e = x ∨ H e = some (.own x)) (k : ∀ b u, b ≠ e -> s.heap.get? b = some u -> h'.get? b = some u) (heo : ∃ u, h'.get? e = some u)
  (new : Qcm X.prog X.w (upd H x o) h' x o) : Inv X pins σ (upd H x o) { s with heap := h', toks := t' } := I.un (Un.write mu he k heo) (I.hok.write mu he k heo new)
theorem Inv.weak {σ' : List (Option V)} (I : Inv X pins σ H s) (hl : σ'.length = σ.length) (w : ∀ (i : Nat) v, σ'[i]? = some (some v) -> σ[i]? = some (some v)) : Inv X pins σ' H s :=
 ⟨I.ok, I.os, I.bare, I.base, let ⟨m, hn, hl'⟩ := I.loc; ⟨m, hn, λ i x v e1 e2 e3 => hl' i x v e1 (w i v e2) e3⟩, I.cell, I.free, I.freeC, I.pin, I.hok, hl.trans I.len⟩
theorem Inv.Qna {pins' : List (Addr × Obj)} (I : Inv X pins σ H s) (h : ∀ p ∈ pins', s.heap.get? p.1 = some p.2 /\ H p.1 = none /\ p.1 ≠ X.env.locals /\ p.1 ∉ X.fs /\ ∀ v, p.2.data ≠ .cell v) : Inv X pins' σ H s :=
 ⟨I.ok, I.os, I.bare, I.base, I.loc, I.cell, I.free, I.freeC, λ p hp => (ZF.mp hp).elim (λ z => I.pin p (Zg _ z)) (h p), I.hok, I.len⟩
theorem Qk1 {N : List Str} (hN : N.Nodup) {i j : Nat} {x : Str} (a : N[i]? = some x) (b : N[j]? = some x) : i = j := by
 obtain ⟨h1, e1⟩ := Zf.mp a
 obtain ⟨h2, e2⟩ := Zf.mp b
 exact (List.getElem_inj hN).mp (e1.trans e2.symm)
theorem QjU {M : Model} {A : Around} {E : Value -> Shared -> Prop} {i : Nat} {x : Str} {v : V} {u : Value} {Q : Unit -> Shared -> Prop} (I : Inv X pins σ H s) (hN : X.N.Nodup) (hi : X.N[i]? = some x) (hx : Loc X.env.scope x) (r : RelV v u)
  (h : ∀ s', Inv X pins (σ.set i (some v)) H s' -> (∃ a, Heap.SameBut a s.heap s'.heap /\ (a = X.env.locals ∨ X.env.cells.lookup x = some a)) -> Q () s') (hf : X.fn x = true ∨ X.env.scope.names.lookup x = some .local := by first | exact .inl rfl | exact .inr rfl | assumption) : wpAny M A (storeName X.env x u) Q E s := by
 obtain ⟨m, hn, hl⟩ := id I.loc
 have hcls : (X.env.scope.kind == .class || (X.env.scope.kind == .module && X.env.locals != X.env.globals)) = false := by rw [I.ok.kind]; rfl
 have hiσ : i < σ.length := by rw [I.len]; exact (Zf.mp hi).1
 have cne := I.cne
 have tracked : ∀ {a : Addr} {h' : Heap}, (∃ o, s.heap.get? a = some o /\ H a = none) -> Heap.SameBut a s.heap h' -> HOk X.prog X.w H h' := λ {a h'} ha hs b ob e => by
  obtain ⟨_, _, hfree⟩ := ha
  refine (I.hok b ob e).Qhz (λ c w' hc q => (hs.2 c ?_).trans q) (λ _ q => q) λ _ _ q => q
  rintro rfl
  rcases hc with rfl | hc
  ·rw [hfree] at e; cases e
  ·rw [hfree] at hc; cases hc
 rcases hx with hk | hk
 ·refine wpAny_storeName_local hk hn (λ h' hn' hs => ?_) hcls
  obtain ⟨oL, _, _, hoL, _⟩ := id hn
  refine h _ ⟨I.ok, I.os, I.bare, ⟨λ b o e n hb hx => ?_, λ b o e n hb hx => ?_, I.base.free, λ b o e hx => ?_, I.base.tups, I.base.frzs, I.base.tbls⟩, ⟨_, hn', λ j y v' e1 e2 e3 => ?_⟩, λ y c e => ?_, I.free, I.freeC, λ p hp => ?_, tracked ⟨oL, hoL, I.free⟩ hs, by simpa using I.len⟩ ⟨_, hs, .inl rfl⟩
  ·exact (hs.2 b (ZL (Zu (Zs e) I.ok.above))).trans (I.base.keep b o e n hb hx)
  ·obtain ⟨sl, e1⟩ := I.base.slot b o e n hb hx
   exact ⟨sl, (hs.2 b (ZL (Zu (Zs e) I.ok.above))).trans e1⟩
  ·obtain ⟨o', e1⟩ := I.base.there b o e hx
   exact ⟨o', (hs.2 b (ZL (Zu (Zs e) I.ok.above))).trans e1⟩
  ·by_cases hj : j = i
   ·subst hj
    rw [hi] at e1; cases e1
    rw [Zy hiσ] at e2
    cases e2
    exact ⟨u, r, .inl ⟨hk, by simp⟩⟩
   ·rw [Zj (Ne.symm hj)] at e2
    obtain ⟨u', r', q⟩ := hl j y v' e1 e2 e3
    refine ⟨u', r', ?_⟩
    rcases q with ⟨k, e⟩ | ⟨k, c, e, z⟩
    ·refine .inl ⟨k, ?_⟩
     have : y ≠ x := λ e => hj (Qk1 hN e1 (e ▸ hi))
     simp [this, e]
    ·exact .inr ⟨k, c, e, z.sameBut hs (cne y c e)⟩
  ·obtain ⟨w', z⟩ := I.cell y c e
   exact ⟨w', z.sameBut hs (cne y c e)⟩
  ·obtain ⟨e, n, ne, nf, d⟩ := I.pin p hp
   exact ⟨(hs.2 p.1 ne).trans e, n, ne, nf, d⟩
 ·have hfn : X.fn x = true := by
   rcases hf with z | z
   ·exact z
   ·rw [z] at hk; cases hk
  obtain ⟨c, hc⟩ := I.ok.has x (.inl hk)
  obtain ⟨w', z⟩ := I.cell x c hc
  refine wpAny_storeName_cell I.ok.kind hk hc z (λ h' hc' hs => ?_)
  obtain ⟨oc, hoc, hocd⟩ := id z
  refine h { s with heap := h' } ⟨I.ok, I.os, I.bare, ⟨λ b o e n hb hx => ?_, λ b o e n hb hx => ?_, I.base.free, λ b o e hx => ?_, I.base.tups, I.base.frzs, I.base.tbls⟩, ⟨m, hn.sameBut hs (Ne.symm (cne x c hc)), λ j y v' e1 e2 e3 => ?_⟩, λ y c' e => ?_, I.free, I.freeC, λ p hp => ?_, tracked ⟨oc, hoc, I.freeC x c hc⟩ hs, by simpa using I.len⟩ ⟨c, hs, .inr hc⟩
  ·exact (hs.2 b (ZL (Zu (Zs e) (I.ok.cab x c hfn hc)))).trans (I.base.keep b o e n hb hx)
  ·obtain ⟨sl, e1⟩ := I.base.slot b o e n hb hx
   exact ⟨sl, (hs.2 b (ZL (Zu (Zs e) (I.ok.cab x c hfn hc)))).trans e1⟩
  ·obtain ⟨o', e1⟩ := I.base.there b o e hx
   exact ⟨o', (hs.2 b (ZL (Zu (Zs e) (I.ok.cab x c hfn hc)))).trans e1⟩
  ·by_cases hj : j = i
   ·subst hj
    rw [hi] at e1; cases e1
    rw [Zy hiσ] at e2
    cases e2
    exact ⟨u, r, .inr ⟨.inl hk, c, hc, hc'⟩⟩
   ·rw [Zj (Ne.symm hj)] at e2
    obtain ⟨u', r', q⟩ := hl j y v' e1 e2 e3
    refine ⟨u', r', ?_⟩
    rcases q with q | ⟨k, c', e, z'⟩
    ·exact .inl q
    ·refine .inr ⟨k, c', e, z'.sameBut hs ?_⟩
     rintro rfl
     exact hj (Qk1 hN e1 (I.ok.inj _ _ _ e hc ▸ hi))
  ·by_cases hcc : c' = c
   ·subst hcc; exact ⟨_, hc'⟩
   ·obtain ⟨w2, z2⟩ := I.cell y c' e
    exact ⟨w2, z2.sameBut hs hcc⟩
  ·obtain ⟨e, n, ne, nf, d⟩ := I.pin p hp
   refine ⟨(hs.2 p.1 ?_).trans e, n, ne, nf, d⟩
   intro q
   rw [q, hoc] at e
   have q' : oc = p.2 := Option.some.inj e
   exact d w' (by rw [← q']; exact hocd)
theorem QlB {M : Model} {A : Around} {E : Value -> Shared -> Prop} {i : Nat} {x : Str} {v : V} {u : Value} {Q : Unit -> Shared -> Prop} (I : Inv X pins σ H s) (hN : X.N.Nodup) (hi : X.N[i]? = some x) (hx : Loc X.env.scope x) (r : RelV v u)
  (h : ∀ s', Inv X pins (σ.set i (some v)) H s' -> Q () s') (hf : X.fn x = true ∨ X.env.scope.names.lookup x = some .local := by first | exact .inl rfl | exact .inr rfl | assumption) : wpAny M A (storeName X.env x u) Q E s :=
 QjU I hN hi hx r (λ s' I' _ => h s' I') hf
theorem Inv.Qv2 {s' : Shared} {ch : List Addr} (I : Inv X pins σ H s) (ho : s'.os = s.os) (u : Un (frs X.stack) ch H H' s.heap s'.heap) (hok : HOk X.prog X.w H' s'.heap) (hg : AllBare s'.gens)
  (hch : ∀ b ∈ ch, (b ∈ X.ex ∨ X.s₀.heap.objs.size <= b) /\ b ≠ X.env.locals /\ (∀ x c, X.env.cells.lookup x = some c -> c ≠ b) /\ ∀ p ∈ X.pn ++ pins, p.1 ≠ b) : Inv X pins σ H' s' := by
 obtain ⟨h', g', d', t', o'⟩ := s'
 have e : o' = s.os := ho
 subst e
 exact I.call (g' := g') (t' := t') (d' := d') u hok hg hch
end
noncomputable abbrev XK := Value -> Option Addr -> Hp -> Prop
noncomputable abbrev St := List (Option V)
noncomputable abbrev VK := V -> Hp -> Prop
noncomputable abbrev TE := St -> Hp -> VK -> Prop
noncomputable abbrev TT := St -> Hp -> (Bool -> Hp -> Prop) -> Prop
noncomputable abbrev TA := St -> Hp -> (List V -> Hp -> Prop) -> Prop
structure Ends where
 nx : St -> Hp -> Prop
 rt : VK
 bk : St -> Hp -> Prop := λ _ _ => False
 ct : St -> Hp -> Prop := λ _ _ => False
noncomputable abbrev TS := Ends -> St -> Hp -> Prop
def EP (X : Cx) (pins : List (Addr × Obj)) (σ : St) (Q : VK) (u : Value) (s' : Shared) : Prop := ∃ v H', Inv X pins σ H' s' /\ RelV v u /\ Q v H'
def TP (X : Cx) (pins : List (Addr × Obj)) (σ : St) (Q : Bool -> Hp -> Prop) (b : Bool) (s' : Shared) : Prop := ∃ H', Inv X pins σ H' s' /\ Q b H'
def AP (X : Cx) (pins : List (Addr × Obj)) (σ : St) (Q : List V -> Hp -> Prop) (us : List Value) (s' : Shared) : Prop := ∃ vs H', Inv X pins σ H' s' /\ Qy vs us /\ Q vs H'
def SP (X : Cx) (pins : List (Addr × Obj)) (D : Ends) (f : Flow) (s' : Shared) : Prop :=
 match f with
 | .next => ∃ σ' H', Inv X pins σ' H' s' /\ D.nx σ' H'
 | .brk => ∃ σ' H', Inv X pins σ' H' s' /\ D.bk σ' H'
 | .cont => ∃ σ' H', Inv X pins σ' H' s' /\ D.ct σ' H'
 | .ret u => ∃ v σ' H', Inv X pins σ' H' s' /\ RelV v u /\ D.rt v H'
def PE (X : Cx) (e : Expr) (t : TE) : Prop :=
 ∀ (pins : List (Addr × Obj)) (s : Shared) (σ : St) (H : Hp) (Q : VK), Inv X pins σ H s -> t σ H Q -> wpAny (model X.prog X.w) X.A (eval e X.env) (EP X pins σ Q) X.xe s
def PT (X : Cx) (e : Expr) (t : TT) : Prop :=
 ∀ (pins : List (Addr × Obj)) (s : Shared) (σ : St) (H : Hp) (Q : Bool -> Hp -> Prop), Inv X pins σ H s -> t σ H Q -> wpAny (model X.prog X.w) X.A (isTrue e X.env (eval e X.env)) (TP X pins σ Q) X.xe s
def PW (X : Cx) (e : Expr) (t : TT) : Prop :=
 ∀ (whole : Sem Value) (pins : List (Addr × Obj)) (s : Shared) (σ : St) (H : Hp) (Q : Bool -> Hp -> Prop), Inv X pins σ H s -> t σ H Q -> wpAny (model X.prog X.w) X.A (isTrue e X.env whole) (TP X pins σ Q) X.xe s
theorem PW.pt {X : Cx} {e : Expr} {t : TT} (h : PW X e t) : PT X e t := h _
def PA (X : Cx) (es : List Expr) (t : TA) : Prop :=
 ∀ (pos : Pos) (pins : List (Addr × Obj)) (s : Shared) (σ : St) (H : Hp) (Q : List V -> Hp -> Prop), Inv X pins σ H s -> t σ H Q -> wpAny (model X.prog X.w) X.A (spliced (backTo pos (starEach es X.env))) (AP X pins σ Q) X.xe s
def PS (X : Cx) (st : Stmt) (t : TS) : Prop :=
 ∀ (pins : List (Addr × Obj)) (s : Shared) (σ : St) (H : Hp) (D : Ends), Inv X pins σ H s -> t D σ H -> wpAny (model X.prog X.w) X.A (exec st X.env) (SP X pins D) X.xe s
def PSs (X : Cx) (st : List Stmt) (t : TS) : Prop :=
 ∀ (pins : List (Addr × Obj)) (s : Shared) (σ : St) (H : Hp) (D : Ends), Inv X pins σ H s -> t D σ H -> wpAny (model X.prog X.w) X.A (execs st X.env) (SP X pins D) X.xe s
theorem thn {α : Type} {t : Sem α} {Q Q' : α -> Shared -> Prop} {M : Model} {A : Around} {E : Value -> Shared -> Prop} {s : Shared} (h : wpAny M A t Q E s) (hQ : ∀ a s, Q a s -> Q' a s) : wpAny M A t Q' E s := wpAny_mono h hQ λ _ _ x => x
end L2
namespace L2
open PySem PySem.Spec PyProof.Rows
section
variable {X : Cx}
noncomputable def QlF (i : Nat) : TE := λ σ H Q => ∃ v, σ[i]? = some (some v) /\ Q v H
noncomputable def tC (v : V) : TE := λ _ H Q => Q v H
theorem QoT {i : Nat} {x : Str} {pos : Pos} (hN : X.N[i]? = some x) (hv : Vis X.env.scope x) (hd : (x == ("__debug__" : Str)) = false := by decide) (hcd : (x == ("__classdict__" : Str)) = false := by decide) : PE X (.Name x pos) (QlF i) := by
 intro pins s σ H Q I h
 obtain ⟨v, e, h⟩ := h
 obtain ⟨m, hn, hl⟩ := I.loc
 obtain ⟨u, r, l⟩ := hl i x v hN e hv
 have fin : EP X pins σ Q u s := ⟨v, H, I, r, h⟩
 rcases l with ⟨hk, hm⟩ | ⟨hk, c, hc, hcell⟩
 ·exact wpAny_Name (wpAny_loadName_local I.ok.kind hk hn hm fin) hd
 ·rcases hk with hk | hk
  ·exact wpAny_Name (wpAny_loadName_cell I.ok.kind hk hc hcell fin) hd
  ·exact wpAny_Name (wpAny_loadName_free I.ok.kind hk hc hcell fin hcd) hd
theorem Qu0 {i j pos} : PE X (.Constant (.int i) j pos) (tC (.int i)) := λ _ _ _ H _ I h => wpAny_Constant_int ⟨.int i, H, I.tok _, ⟨_, rfl⟩, h⟩
theorem QvR {b j pos} : PE X (.Constant (.bool b) j pos) (tC (.bl b)) := λ _ _ _ H _ I h => Constant_bool ⟨.bl b, H, I, rfl, h⟩
theorem Qvm {j pos} : PE X (.Constant .none j pos) (tC .non) := λ _ _ _ H _ I h => Constant_none ⟨.non, H, I, rfl, h⟩
theorem QvC {x j pos} : PE X (.Constant (.str x) j pos) (tC (.str x)) := λ _ _ _ H _ I h => Calls.Constant_str ⟨.str x, H, I.tok _, ⟨_, rfl⟩, h⟩
def Gl (X : Cx) (x : Str) : Prop := X.env.kindOf x = some .globalImplicit
theorem Qi9 {E : Value -> Shared -> Prop} {pins : List (Addr × Obj)} {s : Shared} {σ : St} {H : Hp} {x : Str} {u : Value} {pos : Pos} {Q : Value -> Shared -> Prop} (I : Inv X pins σ H s) (hg : Gl X x) (hm : X.mg x = some u) (h : Q u s)
  (hd : (x == ("__debug__" : Str)) = false := by decide) : wpAny (model X.prog X.w) X.A (eval (.Name x pos) X.env) Q E s :=
 Calls.Name_function_global I.ok.kind hg (Calls.loadGlobal_global (by rw [I.ok.glob]; exact I.mod.glob.keeps I.bk) hm h) hd
theorem Qcy {E : Value -> Shared -> Prop} {pins : List (Addr × Obj)} {s : Shared} {σ : St} {H : Hp} {x : Str} {u : Value} {pos : Pos} {Q : Value -> Shared -> Prop} (I : Inv X pins σ H s) (hg : Gl X x) (hm : X.mg x = none) (hv : bootBuiltins x = some u) (h : Q u s)
  (hn : x ≠ "__name__" := by decide) (hd : (x == ("__debug__" : Str)) = false := by decide) : wpAny (model X.prog X.w) X.A (eval (.Name x pos) X.env) Q E s := by
 obtain ⟨mb, h1, h2⟩ := I.mod.blt
 exact Calls.Name_function_global I.ok.kind hg (Calls.loadGlobal_builtin (by rw [I.ok.glob]; exact I.mod.glob.keeps I.bk) hm (by rw [I.ok.blt]; exact h1.keeps I.bk) ((h2 x hn).trans hv) h) hd
theorem Qte {x : Str} {v : V} {u : Value} {pos : Pos} (hg : Gl X x) (hm : X.mg x = some u) (r : RelV v u) (hd : (x == ("__debug__" : Str)) = false := by decide) : PE X (.Name x pos) (tC v) :=
 λ _ _ _ H _ I h => Qi9 I hg hm ⟨v, H, I, r, h⟩ hd
theorem Qfd {x : Str} {v : V} {u : Value} {pos : Pos} (hg : Gl X x) (hm : X.mg x = none) (hv : bootBuiltins x = some u) (r : RelV v u) (hn : x ≠ "__name__" := by decide) (hd : (x == ("__debug__" : Str)) = false := by decide) : PE X (.Name x pos) (tC v) :=
 λ _ _ _ H _ I h => Qcy I hg hm hv ⟨v, H, I, r, h⟩ hn hd
variable {a b : Expr} {ta tb : TE} {pos : Pos}
variable {tA tB' : TT} {rest : List Expr}
noncomputable def Qxb (t u : TT) : TT := λ σ H Q => t σ H λ c H1 => if c = true then u σ H1 Q else Q false H1
noncomputable def tOr (t u : TT) : TT := λ σ H Q => t σ H λ c H1 => if c = true then Q true H1 else u σ H1 Q
noncomputable def Qw9 (t : TT) : TT := λ σ H Q => t σ H λ c H1 => Q (!c) H1
theorem Qtj (ha : PT X a tA) : PW X (.BoolOp .And [a] pos) tA := by
 intro wh pins s σ H Q I h
 refine isTrue_and (thn (ha pins s σ H Q I h) λ c s1 e => ?_)
 cases c with
 | true => exact isTrue_and_nil e
 | false => exact e
theorem Quh (ha : PT X a tA) : PW X (.BoolOp .Or [a] pos) tA := by
 intro wh pins s σ H Q I h
 refine isTrue_or (thn (ha pins s σ H Q I h) λ c s1 e => ?_)
 cases c with
 | false => exact isTrue_or_nil e
 | true => exact e
theorem Quz (ha : PT X a tA) (hb : PW X (.BoolOp .And (b :: rest) pos) tB') : PW X (.BoolOp .And (a :: b :: rest) pos) (Qxb tA tB') := by
 intro wh pins s σ H Q I h
 refine isTrue_and (thn (ha pins s σ H _ I h) λ c s1 ⟨H1, I1, q1⟩ => ?_)
 cases c with
 | true => exact hb wh pins s1 σ H1 Q I1 q1
 | false => exact ⟨H1, I1, q1⟩
theorem Qwl (ha : PT X a tA) (hb : PW X (.BoolOp .Or (b :: rest) pos) tB') : PW X (.BoolOp .Or (a :: b :: rest) pos) (tOr tA tB') := by
 intro wh pins s σ H Q I h
 refine isTrue_or (thn (ha pins s σ H _ I h) λ c s1 ⟨H1, I1, q1⟩ => ?_)
 cases c with
 | true => exact ⟨H1, I1, q1⟩
 | false => exact hb wh pins s1 σ H1 Q I1 q1
theorem Qve (ha : PT X a tA) : PT X (.UnaryOp .Not a pos) (Qw9 tA) := by
 intro pins s σ H Q I h
 exact isTrue_not (ha pins s σ H (λ c H1 => Q (!c) H1) I h)
theorem QuA {op} {t : TE} (h : PE X a t) : PE X (.BoolOp op [a] pos) t := λ pins s σ H Q I hw => BoolOp_one (h pins s σ H Q I hw)
end
end L2
namespace L2
open PySem PySem.Spec PyProof.Rows
def SqL (K : PySem.W.Frag) (H : Hp) (a : Addr) (xs : List V) : Prop :=
 Rd H a (.lst xs) ∨
  ∃ (o : Obj) (its : Array Value) (n : Nat), K.lookup a = some o /\ o.cls = .type "list" /\ o.dict = none /\ o.data = .seq its n /\ its.size <= sizeLine /\ Qy xs its.toList
def SqT (K : PySem.W.Frag) (H : Hp) (a : Addr) (xs : List V) : Prop :=
 Rd H a (.tup xs) ∨
  ∃ (o : Obj) (its : Array Value) (n : Nat), K.lookup a = some o /\ o.cls = .type "tuple" /\ o.data = .seq its n /\ its.size <= sizeLine /\ Qy xs its.toList
noncomputable def QwU : Value -> Option V
 | .none => some .non
 | .bool b => some (.bl b)
 | .int i _ => some (.int i)
 | .str x _ => some (.str x)
 | .bytes b _ => some (.byt b)
 | .float b _ => some (.flt b)
 | .ref a => some (.ref a)
 | .type n => some (.ty n)
 | _ => none
theorem RelV.abs {x : V} {u : Value} (r : RelV x u) : QwU u = some x := by
 cases x with
 | non => cases r; rfl
 | bl _ => cases r; rfl
 | int _ => obtain ⟨t, rfl⟩ := r; rfl
 | str _ => obtain ⟨t, rfl⟩ := r; rfl
 | byt _ => obtain ⟨t, rfl⟩ := r; rfl
 | flt _ => obtain ⟨t, rfl⟩ := r; rfl
 | ref _ => cases r; rfl
 | ty _ => cases r; rfl
theorem RelV.inj {x y : V} {u : Value} (r : RelV x u) (q : RelV y u) : x = y := Option.some.inj (r.abs.symm.trans q.abs)
theorem Qy.inj : ∀ {xs ys : List V} {us : List Value}, Qy xs us -> Qy ys us -> xs = ys
 | _, _, _, .nil, .nil => rfl
 | _, _, _, .cons r t, .cons r' t' => by rw [r.inj r', Qy.inj t t']
section
variable {X : Cx} {pins : List (Addr × Obj)} {σ : St} {H : Hp} {s : Shared} {a : Addr} {xs ys : List V}
theorem SqL.of {K : PySem.W.Frag} (h : H a = some (.lst xs)) : SqL K H a xs := .inl (.inl h)
theorem SqT.of {K : PySem.W.Frag} (h : H a = some (.tup xs)) : SqT K H a xs := .inl (.inl h)
theorem Inv.list (I : Inv X pins σ H s) (h : SqL X.K H a xs) : ∃ its : List Value, Qy xs its /\ PlainL s.heap a its.toArray /\ xs.length <= sizeLine := by
 rcases h with h | ⟨o, its, n, hk, hc, hd, hs, hz, r⟩
 ·obtain ⟨z, its, n, r, e⟩ := h.ok I.hok
  exact ⟨its, r, ⟨_, n, e, rfl, rfl, rfl⟩, z⟩
 ·refine ⟨its.toList, r, ⟨o, n, I.kIn a o hk, hc, hd, by simpa using hs⟩, ?_⟩
  have e := r.length
  simp only [ZS] at e
  omega
theorem Inv.tuple (I : Inv X pins σ H s) (h : SqT X.K H a xs) : ∃ its : List Value, Qy xs its /\ IsTup s.heap a its.toArray /\ xs.length <= sizeLine := by
 rcases h with h | ⟨o, its, n, hk, hc, hs, hz, r⟩
 ·obtain ⟨z, its, r, p⟩ := h.ok I.hok
  exact ⟨its, r, p, z⟩
 ·refine ⟨its.toList, r, ⟨o, I.kIn a o hk, hc, n, by simpa using hs⟩, ?_⟩
  have e := r.length
  simp only [ZS] at e
  omega
theorem Inv.QcX (I : Inv X pins σ H s) (h : SqL X.K H a xs) (h' : SqL X.K H a ys) : xs = ys := by
 obtain ⟨its, r, ⟨o, n, e, _, _, d⟩, _⟩ := I.list h
 obtain ⟨its', r', ⟨o', n', e', _, _, d'⟩, _⟩ := I.list h'
 rw [e] at e'; cases e'
 rw [d] at d'
 injection d' with d1 _
 have : its = its' := by simpa using congrArg Array.toList d1
 subst this
 exact r.inj r'
theorem Inv.QpU (I : Inv X pins σ H s) (h : SqT X.K H a xs) (h' : SqT X.K H a ys) : xs = ys := by
 obtain ⟨its, r, ⟨o, e, _, n, d⟩, _⟩ := I.tuple h
 obtain ⟨its', r', ⟨o', e', _, n', d'⟩, _⟩ := I.tuple h'
 rw [e] at e'; cases e'
 rw [d] at d'
 injection d' with d1 _
 have : its = its' := by simpa using congrArg Array.toList d1
 subst this
 exact r.inj r'
end
noncomputable abbrev Cx.QdV (X : Cx) (E : Value -> Shared -> Prop) : Cx := { X with xe := E }
noncomputable abbrev Cx.nox (X : Cx) : Cx := X.QdV λ _ _ => False
theorem Cx.Ok.QdV {X : Cx} (ok : X.Ok) (E : Value -> Shared -> Prop) : (X.QdV E).Ok :=
 ⟨ok.mod, ok.kind, ok.glob, ok.blt, ok.above, ok.inj, ok.has, ok.cab, ok.hd, ok.frames, ok.stk, ok.exf, ok.bs, ok.bsz, ok.noex, ok.exfs, ok.Qdv, ok.frf⟩
theorem Cx.Ok.QcP {X : Cx} {E : Value -> Shared -> Prop} (ok : (X.QdV E).Ok) : X.Ok :=
 ⟨ok.mod, ok.kind, ok.glob, ok.blt, ok.above, ok.inj, ok.has, ok.cab, ok.hd, ok.frames, ok.stk, ok.exf, ok.bs, ok.bsz, ok.noex, ok.exfs, ok.Qdv, ok.frf⟩
section
variable {X : Cx} {pins : List (Addr × Obj)} {σ : St} {H : Hp} {s : Shared} {E : Value -> Shared -> Prop}
theorem Inv.QdV (I : Inv X pins σ H s) (E : Value -> Shared -> Prop) : Inv (X.QdV E) pins σ H s := ⟨I.ok.QdV E, I.os, I.bare, I.base, I.loc, I.cell, I.free, I.freeC, I.pin, I.hok, I.len⟩
theorem Inv.QcP (I : Inv (X.QdV E) pins σ H s) : Inv X pins σ H s := ⟨I.ok.QcP, I.os, I.bare, I.base, I.loc, I.cell, I.free, I.freeC, I.pin, I.hok, I.len⟩
theorem SP.QcP {D : Ends} {f : Flow} {s' : Shared} (h : SP (X.QdV E) pins D f s') : SP X pins D f s' := by
 cases f with
 | next => obtain ⟨σ', H', I, q⟩ := h; exact ⟨σ', H', I.QcP, q⟩
 | brk => obtain ⟨σ', H', I, q⟩ := h; exact ⟨σ', H', I.QcP, q⟩
 | cont => obtain ⟨σ', H', I, q⟩ := h; exact ⟨σ', H', I.QcP, q⟩
 | ret u => obtain ⟨v, σ', H', I, r, q⟩ := h; exact ⟨v, σ', H', I.QcP, r, q⟩
theorem PE.nox {e : Expr} {t : TE} (h : PE X.nox e t) : PE X e t := λ pins s σ H Q I hw =>
 wpAny_mono (h pins s σ H Q (I.QdV _) hw) (λ _ _ ⟨v, H', I', r, q⟩ => ⟨v, H', I'.QcP, r, q⟩) λ _ _ z => False.elim z
theorem PT.nox {e : Expr} {t : TT} (h : PT X.nox e t) : PT X e t := λ pins s σ H Q I hw =>
 wpAny_mono (h pins s σ H Q (I.QdV _) hw) (λ _ _ ⟨H', I', q⟩ => ⟨H', I'.QcP, q⟩) λ _ _ z => False.elim z
theorem PSs.nox {st : List Stmt} {t : TS} (h : PSs X.nox st t) : PSs X st t := λ pins s σ H D I hw =>
 wpAny_mono (h pins s σ H D (I.QdV _) hw) (λ _ _ q => q.QcP) λ _ _ z => False.elim z
end
section
variable {X : Cx} {st : Stmt} {rest : List Stmt} {t u : TS} {e : Expr} {te : TE} {pos : Pos}
noncomputable def QnO : TS := λ D σ H => D.nx σ H
noncomputable def Qw6 (t u : TS) : TS := λ D σ H => t { D with nx := u D } σ H
theorem Qst : PSs X [] QnO := λ _ _ σ H _ I h => wpAny_execs_nil ⟨σ, H, I, h⟩
theorem Qrt (h1 : PS X st t) (h2 : PSs X rest u) : PSs X (st :: rest) (Qw6 t u) := by
 intro pins s σ H D I h
 refine wpAny_execs_cons (thn (h1 pins s σ H { D with nx := u D } I h) λ f s1 q => ?_)
 cases f with
 | next =>
  obtain ⟨σ', H', I', q⟩ := q
  exact h2 pins s1 σ' H' D I' q
 | ret v => exact q
 | brk => exact q
 | cont => exact q
noncomputable def Qux : TS := λ D σ H => D.bk σ H
noncomputable def QvV : TS := λ D σ H => D.ct σ H
theorem Qs1 : PS X (.Pass pos) QnO := λ _ _ σ H _ I h => wpAny_Pass ⟨σ, H, I, h⟩
theorem QrF : PS X (.Break pos) Qux := λ _ _ σ H _ I h => wpAny_Break ⟨σ, H, I, h⟩
theorem Qmn : PS X (.Continue pos) QvV := λ _ _ σ H _ I h => wpAny_Continue ⟨σ, H, I, h⟩
theorem Inv.quiet {pins : List (Addr × Obj)} {σ : St} {H : Hp} {s : Shared} (I : Inv X pins σ H s) : interactive X.env = false := by simp [interactive, I.ok.kind]
theorem Qt1 {x j pos pos'} : PS X (.Expr (.Constant (.str x) j pos) pos') QnO := λ _ s σ H _ I h => wpAny_Expr (Calls.Constant_str (show SP X _ _ .next { s with toks := s.toks + 1 } from ⟨σ, H, I.tok _, h⟩)) I.quiet
noncomputable def Qkx (te : TE) : TS := λ D σ H => te σ H λ _ H1 => D.nx σ H1
theorem Qjk (he : PE X e te) (hs : swapsWith e none pos.line X.env = pure false := by rfl) : PS X (.Expr e pos) (Qkx te) := by
 intro pins s σ H D I h
 exact wpAny_Expr_any (thn (he pins s σ H _ I h) λ v s1 ⟨x, H1, I1, r1, q1⟩ => ⟨σ, H1, I1, q1⟩) I.quiet hs
noncomputable def QwI (te : TE) : TS := λ D σ H => te σ H D.rt
theorem Qvn (he : PE X e te) : PS X (.Return (some e) pos) (QwI te) := by
 intro pins s σ H D I h
 exact wpAny_Return_some (thn (he pins s σ H _ I h) λ v s1 ⟨x, H1, I1, r1, q1⟩ => ⟨x, σ, H1, I1, r1, q1⟩)
noncomputable def QvO : TS := λ D _ H => D.rt .non H
theorem QtM : PS X (.Return none pos) QvO := λ _ _ σ H _ I h => wpAny_Return_none ⟨.non, σ, H, I, rfl, h⟩
noncomputable def Qw3 (c : TT) (t u : TS) : TS := λ D σ H => c σ H λ b H1 => if b = true then t D σ H1 else u D σ H1
theorem QwB {c : Expr} {a b : List Stmt} {tc : TT} (hc : PT X c tc) (ha : PSs X a t) (hb : PSs X b u) : PS X (.If c a b pos) (Qw3 tc t u) := by
 intro pins s σ H D I h
 refine wpAny_If (thn (hc pins s σ H _ I h) λ d s1 ⟨H1, I1, q1⟩ => ?_)
 cases d with
 | true => exact ha pins s1 σ H1 D I1 q1
 | false => exact hb pins s1 σ H1 D I1 q1
noncomputable def QuV : TS := λ _ _ _ => False
theorem Qqh : PS X st QuV := λ _ _ _ _ _ _ h => h.elim
end
noncomputable abbrev TG := V -> St -> Hp -> (St -> Hp -> Prop) -> Prop
noncomputable abbrev TGs := List V -> St -> Hp -> (St -> Hp -> Prop) -> Prop
def PG (X : Cx) (target : Expr) (t : TG) : Prop :=
 ∀ (pins : List (Addr × Obj)) (s : Shared) (σ : St) (H : Hp) (v : V) (u : Value) (Q : St -> Hp -> Prop), Inv X pins σ H s -> RelV v u -> t v σ H Q →
  wpAny (model X.prog X.w) X.A (assign target X.env u) (λ _ s' => ∃ σ' H', Inv X pins σ' H' s' /\ Q σ' H') X.xe s
def PGs (X : Cx) (ts : List Expr) (t : TGs) : Prop :=
 ∀ (pins : List (Addr × Obj)) (s : Shared) (σ : St) (H : Hp) (vs : List V) (us : List Value) (Q : St -> Hp -> Prop), Inv X pins σ H s -> Qy vs us -> t vs σ H Q →
  wpAny (model X.prog X.w) X.A (assignInOrder ((assignEach ts X.env).map (·.2)) us) (λ _ s' => ∃ σ' H', Inv X pins σ' H' s' /\ Q σ' H') X.xe s
noncomputable abbrev QkB := V -> V -> V -> Hp -> (Hp -> Prop) -> Prop
def QqD (X : Cx) (t : QkB) : Prop :=
 ∀ (pins : List (Addr × Obj)) (s : Shared) (σ : St) (H : Hp) (o i v : V) (ov iv u : Value) (Q : Hp -> Prop), Inv X pins σ H s -> RelV o ov -> RelV i iv -> RelV v u -> t o i v H Q →
  wpAny (model X.prog X.w) X.A (setItem ov iv u) (λ _ s' => ∃ H', Inv X pins σ H' s' /\ Q H') X.xe s
noncomputable abbrev TIp := V -> V -> Hp -> VK -> Prop
def PIp (X : Cx) (op : Operator) (t : TIp) : Prop :=
 ∀ (pins : List (Addr × Obj)) (s : Shared) (σ : St) (H : Hp) (x y : V) (v u : Value) (Q : VK), Inv X pins σ H s -> RelV x v -> RelV y u -> t x y H Q →
  wpAny (model X.prog X.w) X.A (inplaceOp op v u) (EP X pins σ Q) X.xe s
section
variable {X : Cx} {pos : Pos}
noncomputable def QgE (i : Nat) : TG := λ v σ H Q => Q (σ.set i (some v)) H
theorem Qni {i : Nat} {x : Str} (hN : X.N.Nodup) (hi : X.N[i]? = some x) (hx : Loc X.env.scope x) (hf : X.fn x = true ∨ X.env.scope.names.lookup x = some .local := by first | exact .inl rfl | exact .inr rfl | assumption) : PG X (.Name x pos) (QgE i) := by
 intro pins s σ H v u Q I r h
 exact wpAny_assign_Name (QlB I hN hi hx r (λ s' I' => ⟨_, H, I', h⟩) hf)
noncomputable def QuK : TGs := λ vs σ H Q => vs = [] /\ Q σ H
noncomputable def Qr9 (t : TG) (u : TGs) : TGs := λ vs σ H Q => ∃ v r, vs = v :: r /\ t v σ H λ σ' H' => u r σ' H' Q
theorem QtY : PGs X [] QuK := by
 intro pins s σ H vs us Q I r h
 obtain ⟨e, h⟩ := h
 subst e
 cases r
 exact assignInOrder_nil ⟨σ, H, I, h⟩
theorem Qrq {e : Expr} {es : List Expr} {t : TG} {u : TGs} (h1 : PG X e t) (h2 : PGs X es u)
  (hs : (assignEach (e :: es) X.env).map (·.2) = assign e X.env :: (assignEach es X.env).map (·.2) := by rfl) : PGs X (e :: es) (Qr9 t u) := by
 intro pins s σ H vs us Q I r h
 obtain ⟨v, vr, e1, h⟩ := h
 subst e1
 cases r with
 | cons r rr =>
  rw [hs]
  refine assignInOrder_cons (thn (h1 pins s σ H _ _ _ I r h) λ _ s1 ⟨σ1, H1, I1, q1⟩ => ?_)
  exact h2 pins s1 σ1 H1 _ _ Q I1 rr q1
noncomputable def Qxa (K : PySem.W.Frag) (n : Nat) (t : TGs) : TG := λ v σ H Q => ∃ a xs, v = .ref a /\ SqT K H a xs /\ xs.length = n /\ t xs σ H Q
theorem Qt7 {es : List Expr} {k : Nat} {t : TGs} {n : Nat} (hc : X.calm = true) (h : PGs X es t)
  (hn : (assignEach es X.env).length = n := by rfl) (hst : (assignEach es X.env).findIdx? (·.1) = none := by rfl) : PG X (.Tuple es k pos) (Qxa X.K n t) := by
 intro pins s σ H v u Q I r hw
 obtain ⟨a, xs, e1, hq, hl, hw⟩ := hw
 subst e1
 cases r
 obtain ⟨its, rv, ht, hz⟩ := I.tuple hq
 refine assign_Tuple_tuple (I.ok.hd hc) ht (by simp [hn, ← hl, rv.length]) hst λ h' hx => ?_
 have I1 : Inv X pins σ H { s with heap := h' } := I.kept (t' := s.toks) λ b o e => hx b o (ZL (Zs e)) e
 exact h pins _ σ H xs _ Q I1 (by simpa using rv) hw
noncomputable def Qaq (to ti : TE) (t : QkB) : TG := λ v σ H Q => to σ H λ o H1 => ti σ H1 λ i H2 => t o i v H2 λ H3 => Q σ H3
theorem Qvu {o i : Expr} {to ti : TE} {t : QkB} (ho : PE X o to) (hi : PE X i ti) (hs : QqD X t)
  (ha : ∀ v, assign (.Subscript o i pos) X.env v = (do
   let ov ← holding [v] (eval o X.env)
   let iv ← holding [v, ov] (eval i X.env)
   standAt pos
   holding [v, ov, iv] (setItem ov iv v)
   release [v, ov, iv] []) := by intro _; rfl) : PG X (.Subscript o i pos) (Qaq to ti t) := by
 intro pins s σ H v u Q I r h
 rw [ha]
 refine wpAny_bind (wpAny_holding (thn (ho pins s σ H _ I h) λ ov s1 ⟨x, H1, I1, r1, q1⟩ => ?_))
 refine wpAny_bind (wpAny_holding (thn (hi pins s1 σ H1 _ I1 q1) λ iv s2 ⟨y, H2, I2, r2, q2⟩ => ?_))
 refine wpAny_bind (wpAny_standAt (wpAny_bind (wpAny_holding (thn (hs pins s2 σ H2 x y v ov iv u _ I2 r1 r2 r q2) λ _ s3 ⟨H3, I3, q3⟩ => ?_))))
 exact wpAny_release ⟨σ, H3, I3, q3⟩
noncomputable def Qk7 (te : TE) (g : TG) : TS := λ D σ H => te σ H λ x H1 => g x σ H1 D.nx
theorem QpN {tg e : Expr} {te : TE} {g : TG} (he : PE X e te) (hg : PG X tg g) (hs : swapsWithSole [tg] e pos.line X.env = pure false := by rfl) (hw : swappedStores [tg] e X.env = pure none := by rfl)
  (h1 : (assignEach [tg] X.env).map (·.2) = [assign tg X.env] := by rfl) : PS X (.Assign [tg] e pos) (Qk7 te g) := by
 intro pins s σ H D I h
 refine wpAny_Assign_stores (thn (he pins s σ H _ I h) λ v s1 ⟨x, H1, I1, r1, q1⟩ => ?_) hs hw
 rw [h1]
 exact thn (hg pins s1 σ H1 x v _ I1 r1 q1) λ _ s2 q => q
theorem Qls {i : Nat} {x : Str} {e : Expr} {te : TE} {pos' : Pos} (hN : X.N.Nodup) (hi : X.N[i]? = some x) (hx : Loc X.env.scope x) (he : PE X e te) (hs : swapsWith e (some (.Name x pos')) pos.line X.env = pure false := by rfl) (hf : X.fn x = true ∨ X.env.scope.names.lookup x = some .local := by first | exact .inl rfl | exact .inr rfl | assumption) :
  PS X (.Assign [.Name x pos'] e pos) (Qk7 te (QgE i)) := by
 intro pins s σ H D I h
 refine wpAny_Assign_Name (thn (he pins s σ H _ I h) λ v s1 ⟨y, H1, I1, r1, q1⟩ => ?_) hs
 exact QlB I1 hN hi hx r1 (λ s2 I2 => ⟨_, H1, I2, q1⟩) hf
noncomputable def Qwc (to ti te : TE) (tget : V -> V -> Hp -> VK -> Prop) (tip : TIp) (tset : QkB) : TS := λ D σ H => to σ H λ o H1 => ti σ H1 λ i H2 => tget o i H2 λ x H3 => te σ H3 λ y H4 => tip x y H4 λ z H5 => tset o i z H5 λ H6 => D.nx σ H6
def QuO (X : Cx) (t : V -> V -> Hp -> VK -> Prop) : Prop :=
 ∀ (pins : List (Addr × Obj)) (s : Shared) (σ : St) (H : Hp) (o i : V) (ov iv : Value) (Q : VK), Inv X pins σ H s -> RelV o ov -> RelV i iv -> t o i H Q →
  wpAny (model X.prog X.w) X.A (getItem ov iv) (EP X pins σ Q) X.xe s
theorem QtT {o i e : Expr} {to ti te : TE} {tget : V -> V -> Hp -> VK -> Prop} {tip : TIp} {tset : QkB} {op : Operator} {tpos : Pos} (ho : PE X o to) (hi : PE X i ti) (hg : QuO X tget) (he : PE X e te) (hp : PIp X op tip) (hs : QqD X tset)
  (ha : ∀ ov iv new, augStore i ov iv new = (do holding [new, ov, iv] (setItem ov iv new); release [new, ov, iv] []; pure .next) := by intros; rfl) : PS X (.AugAssign (.Subscript o i tpos) op e pos) (Qwc to ti te tget tip tset) := by
 intro pins s σ H D I h
 refine wpAny_AugAssign_SubscriptAny (thn (ho pins s σ H _ I h) λ ov s1 ⟨x1, H1, I1, r1, q1⟩ => ?_) ha
 refine thn (hi pins s1 σ H1 _ I1 q1) λ iv s2 ⟨x2, H2, I2, r2, q2⟩ => ?_
 refine thn (hg pins s2 σ H2 x1 x2 ov iv _ I2 r1 r2 q2) λ old s3 ⟨x3, H3, I3, r3, q3⟩ => ?_
 refine thn (he pins s3 σ H3 _ I3 q3) λ v s4 ⟨x4, H4, I4, r4, q4⟩ => ?_
 refine thn (hp pins s4 σ H4 x3 x4 old v _ I4 r3 r4 q4) λ new s5 ⟨x5, H5, I5, r5, q5⟩ => ?_
 exact thn (hs pins s5 σ H5 x1 x2 x5 ov iv new _ I5 r1 r2 r5 q5) λ _ s6 ⟨H6, I6, q6⟩ => ⟨σ, H6, I6, q6⟩
end
section
variable {X : Cx} {pos : Pos}
noncomputable def QuT (c : TT) (tb : TS) : TS := λ D σ H => ∃ W : Nat -> St -> Hp -> Prop, (∃ m, W m σ H) /\ ∀ m σ H, W m σ H →
 c σ H λ b H1 => if b = true then ∃ N : St -> Hp -> Prop, (∀ σ' H', N σ' H' -> ∃ m', m' < m /\ W m' σ' H') /\ tb { D with nx := N, ct := N, bk := D.nx } σ H1 else D.nx σ H1
theorem Qqy {c : Expr} {body : List Stmt} {tc : TT} {tb : TS} (hp : PassesOwn (model X.prog X.w) X.A X.env X.xe) (hc : PT X c tc) (hb : PSs X body tb) : PS X (.While c body [] pos) (QuT tc tb) := by
 intro pins s σ H D I h
 obtain ⟨W, ⟨m0, w0⟩, turn⟩ := h
 refine wpAny_While (codeAny_whileLoop (λ n s' => ∃ σ' H', Inv X pins σ' H' s' /\ W n σ' H') ?_ m0 ⟨σ, H, I, w0⟩)
 rintro n s1 ⟨σ1, H1, I1, w1⟩
 refine wpAny_passesOwn hp (thn (hc pins s1 σ1 H1 _ I1 (turn n σ1 H1 w1)) λ b s2 ⟨H2, I2, q2⟩ => ?_)
 cases b with
 | true =>
  obtain ⟨N, hN, q2⟩ := q2
  rw [if_pos rfl]
  refine wpAny_passesOwn hp (thn (hb pins s2 σ1 H2 _ I2 q2) λ f s3 q3 => ?_)
  cases f with
  | next =>
   obtain ⟨σ3, H3, I3, n3⟩ := q3
   obtain ⟨m', hm, w3⟩ := hN σ3 H3 n3
   exact ⟨m', hm, σ3, H3, I3, w3⟩
  | cont =>
   obtain ⟨σ3, H3, I3, n3⟩ := q3
   obtain ⟨m', hm, w3⟩ := hN σ3 H3 n3
   exact ⟨m', hm, σ3, H3, I3, w3⟩
  | brk => exact q3
  | ret v => exact q3
 | false =>
  rw [if_neg Zag]
  exact wpAny_execs_nil ⟨σ1, H2, I2, q2⟩
end
structure It where
 go : Nat -> Hp -> Prop
 yld : Nat -> Hp -> V -> Hp -> Prop
 stop : Nat -> Hp -> Prop
def QdF (X : Cx) (pins : List (Addr × Obj)) (H : Hp) (b : Addr) : Prop :=
 H b = none /\ b ≠ X.env.locals /\ b ∉ X.fs /\ (b ∈ X.ex ∨ X.s₀.heap.objs.size <= b) /\ (∀ x c, X.env.cells.lookup x = some c -> c ≠ b) /\ ∀ p ∈ X.pn ++ pins, p.1 ≠ b
theorem Inv.Qho {X : Cx} {pins : List (Addr × Obj)} {σ : St} {H H' : Hp} {s : Shared} {b : Addr} (I : Inv X pins σ H s) (hb : s.heap.objs.size <= b) (hn : H' b = none) : QdF X pins H' b := by
 refine ⟨hn, ZaY (Zu I.lt hb), I.QwY hb, .inr (Zx I.sz hb), λ x c e z => ?_, λ p hp z => ?_⟩
 ·obtain ⟨v, q⟩ := I.cell x c e
  exact absurd (Zu q.lt (by rw [z]; exact hb)) (ZR _)
 ·exact absurd (Zu (Zs (I.pin p hp).1) (by rw [z]; exact hb)) (ZR _)
structure Turn (P : Program) (w : World) (K : PySem.W.Frag) (tg : Expr) (J : It) (fp : List Addr) (it : Addr) (tn : Nat -> Heap -> Prop) : Prop where
 mem : it ∈ fp
 obj : ∀ i h, tn i h -> ∀ b ∈ fp, ∃ o, h.get? b = some o /\ ∀ v, o.data ≠ .cell v
 keep : ∀ i h h', tn i h -> (∀ b ∈ fp, ∀ o, h.get? b = some o -> h'.get? b = some o) -> tn i h'
 item : ∀ (X : Cx), X.prog = P -> X.w = w -> X.K = K -> X.calm = true -> ∀ (i : Nat) (pins : List (Addr × Obj)) (s : Shared) (σ : St) (H : Hp) (E : Value -> Shared -> Prop), Inv X pins σ H s -> (∀ b ∈ fp, QdF X pins H b) -> tn i s.heap -> J.go i H →
  wpAny (model P w) X.A (pyNext (.ref it)) (λ r s1 => ∃ u, r = some u ∧
   wpAny (model P w) X.A (letOwnedTupleGo tg (.ref it) u) (λ _ s2 => ∃ x H', Inv X pins σ H' s2 /\ RelV x u /\ J.yld i H x H' /\ tn (i + 1) s2.heap /\ ∀ b ∈ fp, H' b = none) E s1) E s
 done : ∀ (X : Cx), X.prog = P -> X.w = w -> X.K = K -> X.calm = true -> ∀ (i : Nat) (pins : List (Addr × Obj)) (s : Shared) (σ : St) (H : Hp) (E : Value -> Shared -> Prop), Inv X pins σ H s -> (∀ b ∈ fp, QdF X pins H b) -> tn i s.heap -> J.stop i H →
  wpAny (model P w) X.A (pyNext (.ref it)) (λ r s1 => r = none /\ Inv X pins σ H s1) E s
 self : ∀ (A : Around) (i : Nat) (s : Shared) (Q : Value -> Shared -> Prop) (E : Value -> Shared -> Prop), tn i s.heap -> Q (.ref it) s -> wpAny (model P w) A (pyIter (.ref it)) Q E s
noncomputable abbrev TI := St -> Hp -> (It -> Hp -> Prop) -> Prop
def PIE (X : Cx) (pins : List (Addr × Obj)) (σ : St) (tg : Expr) (R : It -> Hp -> Prop) (itv : Value) (s2 : Shared) : Prop :=
 ∃ (it : Addr) (fp : List Addr) (tn : Nat -> Heap -> Prop) (J : It) (H' : Hp), itv = .ref it /\ Inv X pins σ H' s2 /\ Turn X.prog X.w X.K tg J fp it tn /\ tn 0 s2.heap /\ (∀ b ∈ fp, QdF X pins H' b) /\ R J H'
def PI (X : Cx) (tg iter : Expr) (wi : TI) : Prop :=
 ∀ (pins : List (Addr × Obj)) (s : Shared) (σ : St) (H : Hp) (R : It -> Hp -> Prop), Inv X pins σ H s -> wi σ H R →
  wpAny (model X.prog X.w) X.A (eval iter X.env) (λ v s1 => wpAny (model X.prog X.w) X.A (pyIter v) (PIE X pins σ tg R) X.xe s1) X.xe s
theorem Qkw {M : Model} {A : Around} {E : Value -> Shared -> Prop} {s : Shared} {tg : Expr} {it : Addr} {u : Value} {o : Obj} {n : String} {vs : Array Value} {Q : Unit -> Shared -> Prop} (ho : s.heap.get? it = some o) (hc : o.cls = .type n) (hd : o.data = .fields vs)
    (hn : ["enumerate", "zip", "dict_itemiterator", "dict_reverseitemiterator", "odict_iterator", "itertools.zip_longest", "itertools.pairwise"].contains n = false) (hQ : Q () s) : wpAny M A (letOwnedTupleGo tg (.ref it) u) Q E s := by
  unfold letOwnedTupleGo
  cases tg <;> first
    | exact wpAny_pure hQ
    | (cases u <;> first
        | exact wpAny_pure hQ
        | (refine wpAny_bind (wpAny_load ho ?_)
           rw [hc, hd]
           show wpAny M A (if (["enumerate", "zip", "dict_itemiterator", "dict_reverseitemiterator", "odict_iterator", "itertools.zip_longest", "itertools.pairwise"].contains n && vs[0]? == some (rawInt _)) = true then _ else _) Q E s
           rw [if_neg (by intro h; rw [hn, Bool.false_and] at h; cases h)]
           exact wpAny_pure hQ))
noncomputable def Itl (K : PySem.W.Frag) (a : Addr) : It :=
 ⟨λ i H => ∃ xs x, SqL K H a xs /\ xs[i]? = some x, λ i H x H' => H' = H /\ ∀ xs, SqL K H a xs -> xs[i]? = some x, λ i H => ∃ xs, SqL K H a xs /\ xs.length <= i⟩
noncomputable def Itt (K : PySem.W.Frag) (a : Addr) : It :=
 ⟨λ i H => ∃ xs x, SqT K H a xs /\ xs[i]? = some x, λ i H x H' => H' = H /\ ∀ xs, SqT K H a xs -> xs[i]? = some x, λ i H => ∃ xs, SqT K H a xs /\ xs.length <= i⟩
noncomputable def Itr (lo : Int) (n : Nat) : It := ⟨λ i _ => i < n, λ i H x H' => H' = H /\ x = .int (lo + i), λ i _ => n <= i⟩
theorem QoJ {P : Program} {w : World} {K : PySem.W.Frag} {tg : Expr} (a it : Addr) : Turn P w K tg (Itl K a) [it] it (λ i h => h.IsListIter it a i) where
 mem := by simp
 obj := λ i h st b hb => by
  have e : b = it := by simpa using hb
  subst e
  obtain ⟨o, e, c, d⟩ := st
  exact ⟨o, e, λ v z => by rw [d] at z; cases z⟩
 keep := λ i h h' st k => st.at λ o e => k it (by simp) o e
 item := by
  intro X hP hw hK hc i pins s σ H E I hf st hg
  subst hP hw hK
  obtain ⟨xs, x, hq, hx⟩ := hg
  obtain ⟨its, rv, p, hz⟩ := I.list hq
  obtain ⟨u, hu, ru⟩ := rv.get hx
  obtain ⟨f0, f1, f2, f3, f4, f5⟩ := hf it (by simp)
  refine wpAny_pyNext_list_item st p.isList (x := u) (by simpa using hu) λ h' st' sb => ?_
  have I1 : Inv X pins σ H { s with heap := h' } := I.turned (t' := s.toks) (λ b o hb e => (sb.2 b hb).trans e) f0 f1 f3 f4 f5
  obtain ⟨o, e, c, d⟩ := id st'
  exact ⟨u, rfl, Qkw (s := { s with heap := h' }) e c d (by decide) ⟨x, H, I1, ru, ⟨rfl, λ ys hy => by rw [I.QcX hy hq]; exact hx⟩, st', λ b hb => (hf b hb).1⟩⟩
 done := by
  intro X hP hw hK hc i pins s σ H E I hf st hg
  subst hP hw hK
  obtain ⟨xs, hq, hx⟩ := hg
  obtain ⟨its, rv, p, hz⟩ := I.list hq
  obtain ⟨f0, f1, f2, f3, f4, f5⟩ := hf it (by simp)
  have hl := rv.length
  exact wpAny_pyNext_list_end (I.ok.hd hc) st p.isList (by simp; omega) λ h' eb => ⟨rfl, I.turned (t' := s.toks) (λ b o hb e => eb b o hb e) f0 f1 f3 f4 f5⟩
 self := λ _ _ _ _ _ st h => wpAny_pyIter_listiter st h
theorem Qoc {P : Program} {w : World} {K : PySem.W.Frag} {tg : Expr} (a it : Addr) : Turn P w K tg (Itt K a) [it] it (λ i h => h.IsTupleIter it a i) where
 mem := by simp
 obj := λ i h st b hb => by
  have e : b = it := by simpa using hb
  subst e
  obtain ⟨o, e, c, d⟩ := st
  exact ⟨o, e, λ v z => by rw [d] at z; cases z⟩
 keep := λ i h h' st k => st.at λ o e => k it (by simp) o e
 item := by
  intro X hP hw hK hc i pins s σ H E I hf st hg
  subst hP hw hK
  obtain ⟨xs, x, hq, hx⟩ := hg
  obtain ⟨its, rv, p, hz⟩ := I.tuple hq
  obtain ⟨u, hu, ru⟩ := rv.get hx
  obtain ⟨f0, f1, f2, f3, f4, f5⟩ := hf it (by simp)
  refine wpAny_pyNext_tuple_item st (show s.heap.IsTuple a its.toArray from p) (x := u) (by simpa using hu) λ h' st' sb => ?_
  have I1 : Inv X pins σ H { s with heap := h' } := I.turned (t' := s.toks) (λ b o hb e => (sb.2 b hb).trans e) f0 f1 f3 f4 f5
  obtain ⟨o, e, c, d⟩ := id st'
  exact ⟨u, rfl, Qkw (s := { s with heap := h' }) e c d (by decide) ⟨x, H, I1, ru, ⟨rfl, λ ys hy => by rw [I.QpU hy hq]; exact hx⟩, st', λ b hb => (hf b hb).1⟩⟩
 done := by
  intro X hP hw hK hc i pins s σ H E I hf st hg
  subst hP hw hK
  obtain ⟨xs, hq, hx⟩ := hg
  obtain ⟨its, rv, p, hz⟩ := I.tuple hq
  obtain ⟨f0, f1, f2, f3, f4, f5⟩ := hf it (by simp)
  have hl := rv.length
  exact wpAny_pyNext_tuple_end (I.ok.hd hc) st (show s.heap.IsTuple a its.toArray from p) (by simp; omega) λ h' eb => ⟨rfl, I.turned (t' := s.toks) (λ b o hb e => eb b o hb e) f0 f1 f3 f4 f5⟩
 self := λ _ _ _ _ _ st h => wpAny_pyIter_tupleiter st h
theorem Qog {P : Program} {w : World} {K : PySem.W.Frag} {tg : Expr} (it : Addr) (lo : Int) (n : Nat) : Turn P w K tg (Itr lo n) [it] it (λ i h => IsRangeIter h it (lo + (i : Nat) * 1) ((n : Int) - (i : Nat)) 1) where
 mem := by simp
 obj := λ i h st b hb => by
  have e : b = it := by simpa using hb
  subst e
  exact ⟨_, st, λ v z => by
   have z' : Data.fields _ = Data.cell v := z
   cases z'⟩
 keep := λ i h h' st k => k it (by simp) _ st
 item := by
  intro X hP hw hK hc i pins s σ H E I hf st hg
  subst hP hw hK
  obtain ⟨f0, f1, f2, f3, f4, f5⟩ := hf it (by simp)
  have W := Walks.range (prog := X.prog) (w := X.w) (I.ok.hd hc) it lo 1 n
  refine W.item i s _ _ hg st λ v h' tk hv st' kk => ?_
  obtain ⟨t, rfl⟩ := hv
  have I1 : Inv X pins σ H { s with heap := h', toks := tk } := I.turned (λ b o hb e => kk b o (by simpa using hb) e) f0 f1 f3 f4 f5
  refine ⟨_, rfl, Qkw (s := { s with heap := h', toks := tk }) (n := "range_iterator") st' rfl rfl (by decide) ⟨.int (lo + i), H, I1, ⟨t, ?_⟩, ⟨rfl, rfl⟩, st', λ b hb => (hf b hb).1⟩⟩
  rw [ZaX]
 done := by
  intro X hP hw hK hc i pins s σ H E I hf st hg
  subst hP hw hK
  obtain ⟨f0, f1, f2, f3, f4, f5⟩ := hf it (by simp)
  exact wpAny_pyNext_range_end (I.ok.hd hc) st (by have : n <= i := hg; omega) λ h' eb => ⟨rfl, I.turned (t' := s.toks) (λ b o hb e => eb b o hb e) f0 f1 f3 f4 f5⟩
 self := λ _ _ _ _ _ st h => wpAny_pyIter_rangeiter st h
end L2
namespace L2
open PySem PySem.Spec PyProof.Rows
section
variable {X : Cx} {tg : Expr}
theorem Qlq {pins : List (Addr × Obj)} {σ : St} {H : Hp} {s : Shared} {R : It -> Hp -> Prop} {E : Value -> Shared -> Prop} {lo hi : Int} {t u v : Tok} {tk : Nat} (I : Inv X pins σ H s) (h1 : -(2 ^ 62) <= lo) (h2 : lo < 2 ^ 62) (h3 : -(2 ^ 62) <= hi) (h4 : hi < 2 ^ 62)
  (q : R (Itr lo (hi - lo).toNat) H) : wpAny (model X.prog X.w) X.A (pyIter (.ref s.heap.objs.size)) (PIE X pins σ tg R) E { s with heap := s.heap.push { cls := .type "range", data := .fields #[.int lo t, .int hi u, .int 1 v] }, toks := tk } := by
 refine wpAny_pyIter_range (IsRange.new ..) (small_one h1 h2 h3 h4) ?_
 have I1 : Inv X pins σ H { s with heap := s.heap.push { cls := .type "range", data := .fields #[.int lo t, .int hi u, .int 1 v] }, toks := tk } := I.kept λ b o e => Zb _ e
 refine ⟨(s.heap.push { cls := .type "range", data := .fields #[.int lo t, .int hi u, .int 1 v] }).objs.size, [(s.heap.push { cls := .type "range", data := .fields #[.int lo t, .int hi u, .int 1 v] }).objs.size], _, _, H, rfl,
  I1.kept (t' := tk) λ b o e => Zb _ e, Qog _ lo (hi - lo).toNat, ?_, λ b hb => ?_, q⟩
 ·have e1 : lo + ((0 : Nat) : Int) * 1 = lo := by simp
  have e2 : (((hi - lo).toNat : Nat) : Int) - ((0 : Nat) : Int) = Builtin.Range.rangeSize lo hi 1 := by rw [rangeSize_one]; split <;> omega
  show IsRangeIter _ _ (lo + ((0 : Nat) : Int) * 1) ((((hi - lo).toNat : Nat) : Int) - ((0 : Nat) : Int)) 1
  rw [e1, e2]
  exact Zw _ rfl
 ·have e : b = (s.heap.push { cls := .type "range", data := .fields #[.int lo t, .int hi u, .int 1 v] }).objs.size := by simpa using hb
  subst e
  exact I1.Qho (Zk _) (I1.hok.fresh (Zk _))
noncomputable def Qwg (ta : TA) : TI := λ σ H R => ta σ H λ vs H1 => ∃ j : Int, vs = [.int j] /\ -(2 ^ 62) <= j /\ j < 2 ^ 62 /\ R (Itr 0 j.toNat) H1
noncomputable def QvU (ta : TA) : TI := λ σ H R => ta σ H λ vs H1 => ∃ i j : Int, vs = [.int i, .int j] /\ (-(2 ^ 62) <= i /\ i < 2 ^ 62 /\ -(2 ^ 62) <= j /\ j < 2 ^ 62) /\ R (Itr i (j - i).toNat) H1
theorem QpV {a : Expr} {ta : TA} {p pos : Pos} (hg : Gl X "range") (hm : X.mg "range" = none) (ha : PA X [a] ta) (hs : starEach [a] X.env = [(false, eval a X.env)] := by rfl) : PI X tg (.Call (.Name "range" p) [a] [] pos) (Qwg ta) := by
 intro pins s σ H R I h
 refine Call_ (Qcy I hg hm boot_range (ZI (thn (ha pos pins s σ H _ I h) λ us s1 ⟨vs, H1, I1, r1, q1⟩ => ?_) hs rfl))
 obtain ⟨j, e, q1, q2, q⟩ := q1
 subst e
 cases r1 with
 | cons r rr =>
  cases rr
  obtain ⟨t, rfl⟩ := r
  exact call_range_1 (Qlq I1 (by omega) (by omega) q1 q2 (by simpa using q))
theorem Qo3 {a b : Expr} {ta : TA} {p pos : Pos} (hg : Gl X "range") (hm : X.mg "range" = none) (ha : PA X [a, b] ta) (hs : starEach [a, b] X.env = [(false, eval a X.env), (false, eval b X.env)] := by rfl) (hs2 : starEach [b] X.env = [(false, eval b X.env)] := by rfl) :
  PI X tg (.Call (.Name "range" p) [a, b] [] pos) (QvU ta) := by
 intro pins s σ H R I h
 refine Call_ (Qcy I hg hm boot_range (ZI (thn (ha pos pins s σ H _ I h) λ us s1 ⟨vs, H1, I1, r1, q1⟩ => ?_) (by rw [hs, hs2]) (by rw [hs2]; rfl)))
 obtain ⟨i, j, e, ⟨q1, q2, q3, q4⟩, q⟩ := q1
 subst e
 cases r1 with
 | cons r rr =>
  cases rr with
  | cons r' rr =>
   cases rr
   obtain ⟨t, rfl⟩ := r
   obtain ⟨t', rfl⟩ := r'
   exact call_range_2 (Qlq I1 q1 q2 q3 q4 q)
noncomputable def QwL (wi : TI) (g : TG) (tb : TS) : TS := λ D σ H => wi σ H λ J H1 => ∃ W : Nat -> Nat -> St -> Hp -> Prop, (∃ m, W 0 m σ H1) /\ ∀ i m σ H, W i m σ H →
 (J.stop i H /\ D.nx σ H) ∨ (J.go i H /\ ∃ N : St -> Hp -> Prop, (∀ σ' H', N σ' H' -> ∃ m', m' < m /\ W (i + 1) m' σ' H') /\ ∀ x H', J.yld i H x H' -> g x σ H' λ σ2 H2 => tb { D with nx := N, ct := N, bk := D.nx } σ2 H2)
noncomputable def QfY (fp : List Addr) (h : Heap) : List (Addr × Obj) := fp.filterMap λ b => (h.get? b).map λ o => (b, o)
theorem Qfv {fp : List Addr} {h : Heap} {b : Addr} {o : Obj} (hb : b ∈ fp) (e : h.get? b = some o) : (b, o) ∈ QfY fp h := ZaU.mpr ⟨b, hb, by rw [e]; rfl⟩
theorem Qo2 {fp : List Addr} {h : Heap} {p : Addr × Obj} (hp : p ∈ QfY fp h) : p.1 ∈ fp /\ h.get? p.1 = some p.2 := by
 obtain ⟨b, hb, e⟩ := ZaU.mp hp
 cases q : h.get? b with
 | none => rw [q] at e; cases e
 | some o =>
  rw [q] at e
  have e' : (b, o) = p := Option.some.inj e
  subst e'
  exact ⟨hb, q⟩
theorem Inv.pinned {pins : List (Addr × Obj)} {σ : St} {H : Hp} {s : Shared} {fp : List Addr} (I : Inv X pins σ H s) (hf : ∀ b ∈ fp, QdF X pins H b) (ho : ∀ b ∈ fp, ∃ o, s.heap.get? b = some o /\ ∀ v, o.data ≠ .cell v) : Inv X (pins ++ QfY fp s.heap) σ H s :=
 I.Qna λ p hp => (ZF.mp hp).elim (λ z => I.pin p (Ze _ z)) λ z => by
  obtain ⟨hb, e⟩ := Qo2 z
  obtain ⟨f0, f1, f2, _⟩ := hf p.1 hb
  obtain ⟨o, e', d⟩ := ho p.1 hb
  rw [e] at e'; cases e'
  exact ⟨e, f0, f1, f2, d⟩
theorem Inv.QfD {pins pl : List (Addr × Obj)} {σ : St} {H : Hp} {s : Shared} (I : Inv X (pins ++ pl) σ H s) : Inv X pins σ H s := I.Qna λ p hp => I.pin p (Ze _ (Zg _ hp))
theorem Qun {iter : Expr} {body : List Stmt} {wi : TI} {g : TG} {tb : TS} {pos : Pos} (hp : PassesOwn (model X.prog X.w) X.A X.env X.xe) (hc : X.calm = true) (hi : PI X tg iter wi) (hg : PG X tg g) (hb : PSs X body tb)
  (hs : ∀ x, foldedSetIterable iter X.env x = pure x := by intro _; rfl) : PS X (.For tg iter body [] pos) (QwL wi g tb) := by
 intro pins s σ H D I h
 refine wpAny_For (thn (hi pins s σ H _ I h) λ v s1 h1 => thn h1 λ itv s2 h2 => ?_) hs
 obtain ⟨it, fp, tn, J, H2, e, I2, T, st2, f2, W, ⟨m0, w0⟩, turn⟩ := h2
 subst e
 have stat : ∀ {H' : Hp}, (∀ b ∈ fp, H' b = none) -> ∀ b ∈ fp, QdF X pins H' b := λ hn b hb => ⟨hn b hb, (f2 b hb).2⟩
 refine codeAny_forLoop_any (λ n s' => ∃ i σ' H', Inv X pins σ' H' s' /\ tn i s'.heap /\ (∀ b ∈ fp, H' b = none) /\ W i n σ' H') ?_ m0 ⟨0, σ, H2, I2, st2, λ b hb => (f2 b hb).1, w0⟩
 rintro n s3 ⟨i, σ3, H3, I3, st3, fr3, w3⟩
 rcases turn i n σ3 H3 w3 with ⟨stop, qn⟩ | ⟨go, N, hN, step⟩
 ·refine wpAny_passesOwn hp (thn (T.done X rfl rfl rfl hc i pins s3 σ3 H3 X.xe I3 (stat fr3) st3 stop) λ r s4 ⟨hr, I4⟩ => ?_)
  subst hr
  exact wpAny_execs_nil ⟨σ3, H3, I4, qn⟩
 ·refine wpAny_passesOwn hp (thn (T.item X rfl rfl rfl hc i pins s3 σ3 H3 X.xe I3 (stat fr3) st3 go) λ r s4 ⟨u, hr, h4⟩ => ?_)
  subst hr
  refine wpAny_passesOwn hp (thn h4 λ _ s5 ⟨x, H5, I5, r5, y5, st5, fr5⟩ => ?_)
  have I5' := I5.pinned (stat fr5) (T.obj _ _ st5)
  refine wpAny_passesOwn hp (thn (hg _ s5 σ3 H5 x u _ I5' r5 (step x H5 y5)) λ _ s6 ⟨σ6, H6, I6, q6⟩ => ?_)
  refine wpAny_passesOwn hp (thn (hb _ s6 σ6 H6 _ I6 q6) λ f s7 q7 => ?_)
  have again : ∀ {σ7 : St} {H7 : Hp}, Inv X (pins ++ QfY fp s5.heap) σ7 H7 s7 -> N σ7 H7 -> ∃ m, m < n /\ ∃ i σ' H', Inv X pins σ' H' s7 /\ tn i s7.heap /\ (∀ b ∈ fp, H' b = none) /\ W i m σ' H' := λ {σ7 H7} I7 n7 => by
   obtain ⟨m', hm, w7⟩ := hN σ7 H7 n7
   refine ⟨m', hm, i + 1, σ7, H7, I7.QfD, T.keep _ _ _ st5 λ b hb o e => (I7.pin (b, o) (Ze _ (Ze _ (Qfv hb e)))).1, λ b hb => ?_, w7⟩
   obtain ⟨o, e, d⟩ := T.obj _ _ st5 b hb
   exact (I7.pin (b, o) (Ze _ (Ze _ (Qfv hb e)))).2.1
  cases f with
  | next => obtain ⟨σ7, H7, I7, n7⟩ := q7; exact again I7 n7
  | cont => obtain ⟨σ7, H7, I7, n7⟩ := q7; exact again I7 n7
  | brk => obtain ⟨σ7, H7, I7, q7⟩ := q7; exact ⟨σ7, H7, I7.QfD, q7⟩
  | ret v => obtain ⟨x7, σ7, H7, I7, r7, q7⟩ := q7; exact ⟨x7, σ7, H7, I7.QfD, r7, q7⟩
end
end L2
namespace L2
open PySem PySem.Spec PyProof.Rows
noncomputable abbrev R2 := V -> V -> Hp -> VK -> Prop
def OpR (X : Cx) (f : Value -> Value -> Sem Value) (r : R2) : Prop :=
 ∀ (pins : List (Addr × Obj)) (s : Shared) (σ : St) (H : Hp) (x y : V) (v u : Value) (Q : VK), Inv X pins σ H s -> RelV x v -> RelV y u -> r x y H Q →
  wpAny (model X.prog X.w) X.A (f v u) (EP X pins σ Q) X.xe s
def UnR (X : Cx) (f : Value -> Sem Value) (r : V -> Hp -> VK -> Prop) : Prop :=
 ∀ (pins : List (Addr × Obj)) (s : Shared) (σ : St) (H : Hp) (x : V) (v : Value) (Q : VK), Inv X pins σ H s -> RelV x v -> r x H Q →
  wpAny (model X.prog X.w) X.A (f v) (EP X pins σ Q) X.xe s
def QbU (X : Cx) (f : Value) (r : List V -> Hp -> VK -> Prop) : Prop :=
 ∀ (pins : List (Addr × Obj)) (s : Shared) (σ : St) (H : Hp) (xs : List V) (us : List Value) (Q : VK), Inv X pins σ H s -> Qy xs us -> r xs H Q →
  wpAny (model X.prog X.w) X.A (call f us) (EP X pins σ Q) X.xe s
def QwT (X : Cx) (r : V -> Hp -> (Bool -> Hp -> Prop) -> Prop) : Prop :=
 ∀ (pins : List (Addr × Obj)) (s : Shared) (σ : St) (H : Hp) (x : V) (v : Value) (Q : Bool -> Hp -> Prop), Inv X pins σ H s -> RelV x v -> r x H Q →
  wpAny (model X.prog X.w) X.A (truthy v) (TP X pins σ Q) X.xe s
noncomputable def tOp (r : R2) (ta tb : TE) : TE := λ σ H Q => ta σ H λ x H1 => tb σ H1 λ y H2 => r x y H2 Q
noncomputable def tUn (r : V -> Hp -> VK -> Prop) (ta : TE) : TE := λ σ H Q => ta σ H λ x H1 => r x H1 Q
noncomputable def rI (C : Int -> Int -> Prop) (g : Int -> Int -> V) : R2 := λ x y H Q => ∃ i j, x = .int i /\ y = .int j /\ C i j /\ Q (g i j) H
noncomputable def rI0 (g : Int -> Int -> V) : R2 := λ x y H Q => ∃ i j, x = .int i /\ y = .int j /\ Q (g i j) H
noncomputable def rU (g : Int -> V) : V -> Hp -> VK -> Prop := λ x H Q => ∃ i, x = .int i /\ Q (g i) H
section
variable {X : Cx} {a b c : Expr} {ta tb tc : TE} {pos : Pos}
theorem QrE (ha : PE X a ta) (hb : PE X b tb) {pins : List (Addr × Obj)} {s : Shared} {σ : St} {H : Hp} {R : V -> V -> Hp -> Prop} (I : Inv X pins σ H s)
  (h : ta σ H λ x H1 => tb σ H1 λ y H2 => R x y H2) {Q : Value -> Shared -> Prop} {f : Value -> Value -> Sem Value}
  (hf : ∀ v u s2 x y H2, Inv X pins σ H2 s2 -> RelV x v -> RelV y u -> R x y H2 -> wpAny (model X.prog X.w) X.A (f v u) Q X.xe s2) :
  wpAny (model X.prog X.w) X.A (eval a X.env) (λ v s₁ => wpAny (model X.prog X.w) X.A (eval b X.env) (λ u s₂ => wpAny (model X.prog X.w) X.A (f v u) Q X.xe s₂) X.xe s₁) X.xe s := by
 refine thn (ha pins s σ H _ I h) λ v s1 ⟨x, H1, I1, r1, q1⟩ => ?_
 refine thn (hb pins s1 σ H1 _ I1 q1) λ u s2 ⟨y, H2, I2, r2, q2⟩ => ?_
 exact hf v u s2 x y H2 I2 r1 r2 q2
theorem Qn5 {op : Operator} {r : R2} (ho : OpR X (binaryOp op) r) (ha : PE X a ta) (hb : PE X b tb) : PE X (.BinOp a op b pos) (tOp r ta tb) := by
 intro pins s σ H Q I h
 exact wpAny_BinOp (QrE ha hb I h λ v u s2 x y H2 I2 rx ry q => ho pins s2 σ H2 x y v u Q I2 rx ry q)
theorem Qwr {op : UnaryOp} {r : V -> Hp -> VK -> Prop} (ho : UnR X (unaryOp op) r) (ha : PE X a ta) : PE X (.UnaryOp op a pos) (tUn r ta) := by
 intro pins s σ H Q I h
 exact UnaryOp_ (thn (ha pins s σ H _ I h) λ v s1 ⟨x, H1, I1, r1, q1⟩ => ho pins s1 σ H1 x v Q I1 r1 q1)
theorem QwQ {op : Operator} {r : R2} (ho : OpR X (inplaceOp op) r) {pins : List (Addr × Obj)} {s : Shared} {σ : St} {H : Hp} {x y : V} {v u : Value} {Q : VK} (I : Inv X pins σ H s)
  (rx : RelV x v) (ry : RelV y u) (q : r x y H Q) : wpAny (model X.prog X.w) X.A (inplaceOp op v u) (EP X pins σ Q) X.xe s := ho pins s σ H x y v u Q I rx ry q
theorem opI {f : Value -> Value -> Sem Value} {C : Int -> Int -> Prop} {g : Int -> Int -> Int}
  (rule : ∀ (i j : Int) (t u : Tok) (s : Shared) (Q : Value -> Shared -> Prop) (E : Value -> Shared -> Prop), C i j -> Q (.int (g i j) s.toks) { s with toks := s.toks + 1 } -> wpAny (model X.prog X.w) X.A (f (.int i t) (.int j u)) Q E s) :
  OpR X f (rI C λ i j => .int (g i j)) := by
 intro pins s σ H x y v u Q I rx ry h
 obtain ⟨i, j, rfl, rfl, hc, q⟩ := h
 obtain ⟨t, rfl⟩ := rx
 obtain ⟨t', rfl⟩ := ry
 exact rule i j t t' s _ _ hc ⟨.int (g i j), H, I.tok _, ⟨_, rfl⟩, q⟩
theorem Qn3 {f : Value -> Value -> Sem Value} {g : Int -> Int -> Int}
  (rule : ∀ (i j : Int) (t u : Tok) (s : Shared) (Q : Value -> Shared -> Prop) (E : Value -> Shared -> Prop), Q (.int (g i j) s.toks) { s with toks := s.toks + 1 } -> wpAny (model X.prog X.w) X.A (f (.int i t) (.int j u)) Q E s) :
  OpR X f (rI0 λ i j => .int (g i j)) := by
 intro pins s σ H x y v u Q I rx ry h
 obtain ⟨i, j, rfl, rfl, q⟩ := h
 obtain ⟨t, rfl⟩ := rx
 obtain ⟨t', rfl⟩ := ry
 exact rule i j t t' s _ _ ⟨.int (g i j), H, I.tok _, ⟨_, rfl⟩, q⟩
theorem QnW {f : Value -> Value -> Sem Value} {g : Int -> Int -> Bool}
  (rule : ∀ (i j : Int) (t u : Tok) (s : Shared) (Q : Value -> Shared -> Prop) (E : Value -> Shared -> Prop), Q (.bool (g i j)) s -> wpAny (model X.prog X.w) X.A (f (.int i t) (.int j u)) Q E s) :
  OpR X f (rI0 λ i j => .bl (g i j)) := by
 intro pins s σ H x y v u Q I rx ry h
 obtain ⟨i, j, rfl, rfl, q⟩ := h
 obtain ⟨t, rfl⟩ := rx
 obtain ⟨t', rfl⟩ := ry
 exact rule i j t t' s _ _ ⟨.bl (g i j), H, I, rfl, q⟩
def Qvg (i j : Int) : Prop := (-(2 ^ 64) < i /\ i < 2 ^ 64) ∨ (-(2 ^ 64) < j /\ j < 2 ^ 64)
theorem Qvg.ok {i j : Int} (h : Qvg i j) : IntMulOk i j := by
 rcases h with ⟨h1, h2⟩ | ⟨h1, h2⟩
 ·exact .of_left (intBits_le_64 h1 h2)
 ·exact .of_right (intBits_le_64 h1 h2)
theorem QnF (k : Nat) : (0 : Int) <= 2 ^ k := by
 rw [two_pow_cast]
 exact Int.natCast_nonneg _
theorem Qup : OpR X (binaryOp .Add) (rI0 λ i j => .int (i + j)) := Qn3 λ _ _ _ _ _ _ _ q => add_int q
theorem QuQ : OpR X (binaryOp .Sub) (rI0 λ i j => .int (i - j)) := Qn3 λ _ _ _ _ _ _ _ q => sub_int q
theorem Qui : OpR X (binaryOp .RShift) (rI (λ _ j => 0 <= j) λ i j => .int (i / 2 ^ j.toNat)) := opI λ i j _ _ _ _ _ hc q =>
 rshift_int hc (by rw [Zbn i (QnF _)]; exact q)
theorem Qsx : OpR X (inplaceOp .Add) (rI0 λ i j => .int (i + j)) := Qn3 λ _ _ _ _ _ _ _ q => iadd_int q
theorem Qss : OpR X (inplaceOp .Sub) (rI0 λ i j => .int (i - j)) := Qn3 λ _ _ _ _ _ _ _ q => isub_int q
theorem unI {f : Value -> Sem Value} {g : Int -> Int}
  (rule : ∀ (i : Int) (t : Tok) (s : Shared) (Q : Value -> Shared -> Prop) (E : Value -> Shared -> Prop), Q (.int (g i) s.toks) { s with toks := s.toks + 1 } -> wpAny (model X.prog X.w) X.A (f (.int i t)) Q E s) :
  UnR X f (rU λ i => .int (g i)) := by
 intro pins s σ H x v Q I rx h
 obtain ⟨i, rfl, q⟩ := h
 obtain ⟨t, rfl⟩ := rx
 exact rule i t s _ _ ⟨.int (g i), H, I.tok _, ⟨_, rfl⟩, q⟩
theorem Qvy : UnR X (unaryOp .USub) (rU λ i => .int (-i)) := unI λ _ _ _ _ _ q => neg_int q
end
section
variable {X : Cx} {a b c : Expr} {ta tb tc : TE} {pos : Pos}
theorem Qwz : OpR X (compareOp .Lt) (rI0 λ i j => .bl (decide (i < j))) := QnW λ _ _ _ _ _ _ _ q => lt_int q
theorem Qwx : OpR X (compareOp .LtE) (rI0 λ i j => .bl (decide (i <= j))) := QnW λ _ _ _ _ _ _ _ q => le_int q
theorem Qwa : OpR X (compareOp .Gt) (rI0 λ i j => .bl (decide (j < i))) := QnW λ _ _ _ _ _ _ _ q => gt_int q
theorem Qv5 : OpR X (compareOp .GtE) (rI0 λ i j => .bl (decide (j <= i))) := QnW λ _ _ _ _ _ _ _ q => ge_int q
theorem OpR.or {f : Value -> Value -> Sem Value} {r r' : R2} (h : OpR X f r) (h' : OpR X f r') : OpR X f (λ x y H Q => r x y H Q ∨ r' x y H Q) := by
 intro pins s σ H x y v u Q I rx ry q
 rcases q with q | q
 ·exact h pins s σ H x y v u Q I rx ry q
 ·exact h' pins s σ H x y v u Q I rx ry q
theorem Qxp (b : Expr) {op : CmpOp} (h : op ≠ .In := by decide) (h2 : op ≠ .NotIn := by decide) : behindInMarks op b = false := by
 have e1 : (op == CmpOp.In) = false := by cases op <;> first | rfl | exact absurd rfl h
 have e2 : (op == CmpOp.NotIn) = false := by cases op <;> first | rfl | exact absurd rfl h2
 cases b <;> simp [behindInMarks, e1, e2]
theorem QtW {op : CmpOp} {r : R2} (ho : OpR X (compareOp op) r) (ha : PE X a ta) (hb : PE X b tb) (hm : behindInMarks op b = false) : PE X (.Compare a [op] [b] pos) (tOp r ta tb) := by
 intro pins s σ H Q I h
 exact wpAny_Compare1 (QrE ha hb I h λ v u s2 x y H2 I2 rx ry q => ho pins s2 σ H2 x y v u Q I2 rx ry q) hm
noncomputable def QvZ (t : TE) : TT := λ σ H Q => t σ H λ x H' => ∃ k, x = .bl k /\ Q k H'
theorem Qsm {op : CmpOp} {r : R2} (ho : OpR X (compareOp op) r) (ha : PE X a ta) (hb : PE X b tb) (hm : behindInMarks op b = false) : PT X (.Compare a [op] [b] pos) (QvZ (tOp r ta tb)) := by
 intro pins s σ H Q I h
 refine wpAny_isTrue_Compare1 (thn (ha pins s σ H _ I h) λ v s1 ⟨x, H1, I1, r1, q1⟩ => thn (hb pins s1 σ H1 _ I1 q1) λ u s2 ⟨y, H2, I2, r2, q2⟩ =>
  thn (ho pins s2 σ H2 x y v u _ I2 r1 r2 q2) λ c s3 ⟨z, H3, I3, r3, k, e, q3⟩ => ?_) hm
 subst e
 cases r3
 exact wpAny_truthy_bool ⟨H3, I3, q3⟩
def Qrc (K : PySem.W.Frag) (x : V) (H : Hp) (k : Bool) : Prop :=
 match x with
 | .non => k = false
 | .bl b => k = b
 | .int i => k = (i != 0)
 | .str y => y.length <= sizeLine /\ k = ((y.length : Int) != 0)
 | .byt y => y.size <= sizeLine /\ k = ((y.size : Int) != 0)
 | .ref p => (∃ xs, SqL K H p xs /\ k = !xs.isEmpty) ∨ (∃ xs, SqT K H p xs /\ k = !xs.isEmpty) ∨ ∃ kvs, H p = some (.dK kvs) /\ k = !kvs.isEmpty
 | _ => False
theorem Qn7 {κ : Type} {kvs : List (κ × V)} {vs : List (κ × Value)} (r : KV kvs vs) : (!vs.isEmpty) = !kvs.isEmpty := by
 cases r <;> rfl
theorem Qip {xs : List V} {its : List Value} (r : Qy xs its) : (!its.toArray.isEmpty) = !xs.isEmpty := by
 cases r <;> simp
theorem Qfg : (sizeLine : Nat) < 2 ^ 63 := by rw [sizeLine_eq]; decide
theorem Qil : QwT X (λ x H Q => ∃ k, Qrc X.K x H k /\ Q k H) := by
 intro pins s σ H x v Q I rx h
 obtain ⟨k, e, q⟩ := h
 have hl := Qfg
 have hs : sizeLine = 16777216 := sizeLine_eq
 cases x with
 | non =>
  cases rx
  have e' : k = false := e
  subst e'
  exact truthy_none ⟨H, I, q⟩
 | bl b =>
  cases rx
  have e' : k = b := e
  subst e'
  exact wpAny_truthy_bool ⟨H, I, q⟩
 | int i =>
  obtain ⟨t, rfl⟩ := rx
  have e' : k = (i != 0) := e
  subst e'
  exact PySem.P.truthy_int ⟨H, I, q⟩
 | str y =>
  obtain ⟨t, rfl⟩ := rx
  obtain ⟨hy, e'⟩ : y.length <= sizeLine /\ k = ((y.length : Int) != 0) := e
  subst e'
  exact PySem.P.truthy_str (by omega) ⟨H, I.tok _, q⟩
 | byt y =>
  obtain ⟨t, rfl⟩ := rx
  obtain ⟨hy, e'⟩ : y.size <= sizeLine /\ k = ((y.size : Int) != 0) := e
  subst e'
  exact PySem.W.truthy_bytes (by omega) ⟨H, I.tok _, q⟩
 | ref p =>
  cases rx
  have e' : (∃ xs, SqL X.K H p xs /\ k = !xs.isEmpty) ∨ (∃ xs, SqT X.K H p xs /\ k = !xs.isEmpty) ∨ ∃ kvs, H p = some (.dK kvs) /\ k = !kvs.isEmpty := e
  rcases e' with ⟨xs, hx, e'⟩ | ⟨xs, hx, e'⟩ | ⟨kvs, hx, e'⟩
  ·subst e'
   obtain ⟨its, r, pl, hz⟩ := I.list hx
   have hlen := r.length
   exact wpAny_truthy_list pl.isList (by simp only [Zt]; omega) ⟨H, I.tok _, by rw [Qip r]; exact q⟩
  ·subst e'
   obtain ⟨its, r, pl, hz⟩ := I.tuple hx
   have hlen := r.length
   exact truthy_tuple pl (by simp only [Zt]; omega) ⟨H, I.tok _, by rw [Qip r]; exact q⟩
  ·subst e'
   obtain ⟨hz, hS, vs, r, m⟩ : kvs.length <= sizeLine /\ (p == sysModules) = false /\ ∃ vs, KV kvs vs /\ s.heap.DictOf (Qjl X.prog X.w) p vs := I.hok p _ hx
   have hlen : kvs.length = vs.length := Paired.length r
   exact wpAny_truthy_dict hS m (by omega) ⟨H, I.tok _, by rw [Qn7 r]; exact q⟩
 | _ => exact (show False from e).elim
theorem QrA (ha : PE X a ta) (he : ∀ whole, isTrue a X.env whole = (do let v ← whole; standAt a.pos; holding [v] (truthy v))) :
  PT X a (λ σ H Q => ta σ H λ x H' => ∃ k, Qrc X.K x H' k /\ Q k H') := by
 intro pins s σ H Q I h
 exact isTrue_plain (thn (ha pins s σ H _ I h) λ v s1 ⟨x, H1, I1, r1, q1⟩ => Qil pins s1 σ H1 x v Q I1 r1 q1) (he _)
theorem vals1 {x : V} {us : List Value} (r : Qy [x] us) : ∃ u, us = [u] /\ RelV x u := by
 cases r with
 | cons r1 r2 => cases r2; exact ⟨_, rfl, r1⟩
theorem vals2 {x y : V} {us : List Value} (r : Qy [x, y] us) : ∃ u w', us = [u, w'] /\ RelV x u /\ RelV y w' := by
 cases r with
 | cons r1 r2 =>
  cases r2 with
  | cons r3 r4 => cases r4; exact ⟨_, _, rfl, r1, r3⟩
theorem Qqc : QbU X (.builtin "abs") (λ xs H Q => ∃ i, xs = [.int i] /\ Q (.int (if i < 0 then -i else i)) H) := by
 intro pins s σ H xs us Q I r h
 obtain ⟨i, rfl, q⟩ := h
 obtain ⟨u, rfl, t, rfl⟩ := vals1 r
 exact call_abs_int λ u tk => ⟨.int (if i < 0 then -i else i), H, I.tok _, ⟨_, rfl⟩, q⟩
theorem QpW (hc : X.calm = true) : QbU X (.builtin "max") (λ xs H Q => ∃ i j, xs = [.int i, .int j] /\ Q (.int (if j > i then j else i)) H) := by
 intro pins s σ H xs us Q I r h
 obtain ⟨i, j, rfl, q⟩ := h
 obtain ⟨u, w', rfl, ⟨t, rfl⟩, ⟨t', rfl⟩⟩ := vals2 r
 refine max_two_ints (I.ok.hd hc) λ h' tk k => ⟨_, H, I.kept k, ?_, q⟩
 by_cases hj : j > i
 ·rw [if_pos hj, if_pos hj]; exact ⟨_, rfl⟩
 ·rw [if_neg hj, if_neg hj]; exact ⟨_, rfl⟩
theorem Qpk (hc : X.calm = true) : QbU X (.builtin "min") (λ xs H Q => ∃ i j, xs = [.int i, .int j] /\ Q (.int (if j < i then j else i)) H) := by
 intro pins s σ H xs us Q I r h
 obtain ⟨i, j, rfl, q⟩ := h
 obtain ⟨u, w', rfl, ⟨t, rfl⟩, ⟨t', rfl⟩⟩ := vals2 r
 refine min_two_ints (I.ok.hd hc) λ h' tk k => ⟨_, H, I.kept k, ?_, q⟩
 by_cases hj : j < i
 ·rw [if_pos hj, if_pos hj]; exact ⟨_, rfl⟩
 ·rw [if_neg hj, if_neg hj]; exact ⟨_, rfl⟩
end
end L2
namespace L2
open PySem PySem.Spec PyProof.Rows
structure Qu9 (h : Heap) (x dx C : Addr) (mA : Str -> Option Value) : Prop where
 obj : h.get? x = some (PySem.W.instObj C dx)
 ns : h.Ns1 dx mA
 ne : dx ≠ x
theorem Qp8 {h : Heap} {dx : Addr} {mA : Str -> Option Value} (n : h.Ns1 dx mA) : ∃ od, h.get? dx = some od /\ ∀ name, PySem.W.lookIn name od = some (mA name) := by
 obtain ⟨o, es, ep, ho, hd, hk, _, hm⟩ := n
 refine ⟨o, ho, λ name => ?_⟩
 have e := hm name
 unfold nsFind findBy at e
 rw [← Array.find?_toList] at e
 unfold PySem.W.lookIn
 rw [hd]
 dsimp only
 split
 ·rename_i y q
  rw [q] at e
  exact congrArg some e
 ·rename_i q
  rw [q] at e
  have a : es.toList.any (·.refKey) = false := by
   rw [List.any_eq_false]
   intro y hy
   obtain ⟨z, t, hkey⟩ := hk y (Array.mem_toList_iff.mp hy)
   simp [DictEntry.refKey, hkey]
  have a' : ¬ es.toList.any (·.refKey) = true := by rw [a]; exact Zag
  rw [if_neg a']
  exact congrArg some e
theorem Qu9.look {h : Heap} {x dx C : Addr} {mA : Str -> Option Value} (I : Qu9 h x dx C mA) : ∃ od, PySem.W.InstAt h x (PySem.W.instObj C dx) C (some od) /\ ∀ name, PySem.W.lookIn name od = some (mA name) :=
 let ⟨od, ho, hl⟩ := Qp8 I.ns
 ⟨od, ⟨I.obj, rfl, rfl, ho⟩, hl⟩
section
variable {prog : Program} {w : World} {A : Around} {E : Value -> Shared -> Prop} {s : Shared} {K : PySem.W.Frag} {x dx C f : Addr} {mA : Str -> Option Value} {name : Str} {v : Value}
end
theorem QiU.some_of {v : V} {o : Option Value} (r : QiU (some v) o) : ∃ u, o = some u /\ RelV v u := by
 cases o with
 | none => exact (show False from r).elim
 | some u => exact ⟨u, rfl, r⟩
theorem QiU.none_of {o : Option Value} (r : QiU none o) : o = none := by
 cases o with
 | none => rfl
 | some u => exact (show False from r).elim
section
variable {P : Program} {w : World} {H H' : Hp} {h h' : Heap} {a C dx : Addr} {fs fs' : List (Str × V)}
end
structure Cls (K : PySem.W.Frag) (C : Addr) : Prop where
 pg : PySem.W.plainGet K C Str.empty = true
 hd : PySem.W.hasDictIn K C = true
 po : PySem.W.plainOver K C = true
 sa : PySem.W.findIn K (.ref C) "__setattr__" = some (some (.builtin "object.__setattr__"))
theorem Cls.get {K : PySem.W.Frag} {C : Addr} (c : Cls K C) (f : Str) : PySem.W.plainGet K C f = true := c.pg
structure Con (K : PySem.W.Frag) (C : Addr) (f : Str) (v : V) (u : Value) : Prop where
 at_ : PySem.W.findIn K (.ref C) f = some (some u)
 rel : RelV v u
 get : PySem.W.specialIn K u "__get__" = some none
 cp : PySem.W.copiedNames.contains f = false
structure Qxq (K : PySem.W.Frag) (C : Addr) (m : Str) (f : Addr) : Prop where
 at_ : PySem.W.findIn K (.ref C) m = some (some (.ref f))
 fn : PySem.W.isFn K (.ref f) = true
 kp : PySem.W.keepIn K (.ref f) = true
section
variable {X : Cx} {pins : List (Addr × Obj)} {σ : St} {H : Hp} {s : Shared} {a C dx : Addr} {fs : List (Str × V)} {f : Str} {v : V} {A : Around} {E : Value -> Shared -> Prop}
theorem Inv.made (I : Inv X pins σ H s) : Inv X pins σ (upd (upd H s.heap.objs.size (.own (s.heap.objs.size + 1))) (s.heap.objs.size + 1) (.ins C s.heap.objs.size []))
  { s with heap := (s.heap.push PySem.W.emptyDict).push (PySem.W.instObj C s.heap.objs.size) } := by
 have e1 : (s.heap.push PySem.W.emptyDict).get? s.heap.objs.size = some PySem.W.emptyDict := Zw s.heap rfl
 have e2 : ((s.heap.push PySem.W.emptyDict).push (PySem.W.instObj C s.heap.objs.size)).get? (s.heap.objs.size + 1) = some (PySem.W.instObj C s.heap.objs.size) := by
  have := Zw (s.heap.push PySem.W.emptyDict) (o := PySem.W.instObj C s.heap.objs.size) rfl
  rwa [ZT] at this
 have e3 : (s.heap.push PySem.W.emptyDict).Ns s.heap.objs.size (λ _ => none) := ⟨PySem.W.emptyDict, #[], _, e1, rfl, (λ e he => absurd he (by simp)), λ _ => rfl⟩
 have I1 := I.laid (a := s.heap.objs.size) (o := .own (s.heap.objs.size + 1)) (h' := s.heap.push PySem.W.emptyDict) (t' := s.toks) (λ b u q => Zb _ q) (Zk _) ⟨_, e1⟩
 refine I1.laid (a := s.heap.objs.size + 1) (o := .ins C s.heap.objs.size []) (t' := s.toks) (λ b u q => Zb _ q) (Nat.le_of_eq (ZT _ _)) ?_
 have ne : s.heap.objs.size ≠ s.heap.objs.size + 1 := ZL (ZaO _)
 refine ⟨by rw [QO ne, Qay], ZX _, ne, e2, λ _ => none, (Heap.Ns1.of_empty e3).at λ o q => Zb _ q, λ _ => True.intro, λ y hy => absurd rfl hy⟩
end
section
variable {X : Cx} {o e value : Expr} {f : Str} {pos pos' tpos : Pos} {ta tv : TE}
end
section
variable {X : Cx} {pins : List (Addr × Obj)} {σ : St} {H : Hp} {s : Shared} {A : Around} {E : Value -> Shared -> Prop} {Q : Value -> Shared -> Prop} {c : Value} {b : Bool}
inductive Qei (K : PySem.W.Frag) (H : Hp) : V -> Value -> Prop where
 | non : Qei K H .non (.type "NoneType")
 | bl (x : Bool) : Qei K H (.bl x) (.type "bool")
 | int (i : Int) : Qei K H (.int i) (.type "int")
 | str (x : Str) : Qei K H (.str x) (.type "str")
 | flt (x : UInt64) : Qei K H (.flt x) (.type "float")
 | lst {a : Addr} {xs : List V} (e : H a = some (.lst xs)) : Qei K H (.ref a) (.type "list")
 | frz {a : Addr} {o : Obj} {xs : List V} (e : H a = some (.frz o (.lst xs))) : Qei K H (.ref a) (.type "list")
 | tup {a : Addr} {xs : List V} (e : H a = some (.tup xs)) : Qei K H (.ref a) (.type "tuple")
 | dK {a : Addr} {kvs : List (Key × V)} (e : H a = some (.dK kvs)) : Qei K H (.ref a) (.type "dict")
 | dT {a : Addr} {kvs : List (List Key × V)} (e : H a = some (.dT kvs)) : Qei K H (.ref a) (.type "dict")
 | ins {a C dx : Addr} {fs : List (Str × V)} (e : H a = some (.ins C dx fs)) (cl : Cls K C) (ha : PySem.W.findIn K (.ref C) "__class__" = some (some (.builtin "object.__class__")))
   (hn : PySem.W.specialIn K (.builtin "object.__class__") "__get__" = some (some (.builtin "getset_descriptor.__get__"))) (htk : PySem.W.takesIn K (.builtin "object.__class__") = some true)
   (hm : PySem.W.mroIn K C (.type "object") = some true) : Qei K H (.ref a) (.ref C)
end
end L2
namespace L2
open PySem PySem.Spec PyProof.Rows
structure QaA (k : Nat) (A : Around) : Prop where
 hd : A.handled = none
 dp : A.depth + 3 * k + 5 < recursionLimit
 un : A.units + 16 * k + 200 < cLine
theorem QaA.mono {j k : Nat} {A : Around} (r : QaA k A) (h : j <= k) : QaA j A := ⟨r.hd, by have := r.dp; omega, by have := r.un; omega⟩
theorem QaA.deeper {k : Nat} {A : Around} (r : QaA (k + 1) A) (env : Env) : QaA k (A.deeper env) :=
 ⟨r.hd, by have := r.dp; show A.depth + 1 + 3 * k + 5 < _; omega, by have := r.un; show A.units + 3 + 16 * k + 200 < _; omega⟩
theorem QaA.in1 {k : Nat} {A : Around} (r : QaA (k + 1) A) : QaA k A.in1 :=
 ⟨r.hd, by have := r.dp; show A.depth + 3 * k + 5 < _; omega, by have := r.un; show A.units + 1 + 16 * k + 200 < _; omega⟩
theorem Qn1 {A : Around} {C : Addr} {us : List Value} {kw : List (Str × Value)} : (A.under (.builtin "type.__call__" ⟨.ref C :: us, kw⟩)).depth = A.depth + 1 := by
 first | rfl | simp [Around.under, Code.weight, Code.isCreation, Code.isGuard, Code.isCaller, Code.frames, Code.isFrame, guardIds]
theorem QnV {A : Around} {C : Addr} {us : List Value} {kw : List (Str × Value)} : (A.under (.builtin "type.__call__" ⟨.ref C :: us, kw⟩)).units = A.units + 1 := by
 first | rfl | simp [Around.under, Code.cUnits, Code.frames, Code.isFrame]
theorem QaA.make {k : Nat} {A : Around} (r : QaA (k + 1) A) (C : Addr) (us : List Value) (kw : List (Str × Value)) : QaA k (A.under (.builtin "type.__call__" ⟨.ref C :: us, kw⟩)) :=
 ⟨r.hd, by have := r.dp; rw [Qn1]; omega, by have := r.un; rw [QnV]; omega⟩
theorem QaA.depth {k : Nat} {A : Around} (r : QaA k A) : A.depth < recursionLimit := by have := r.dp; omega
theorem QaA.units {k : Nat} {A : Around} (r : QaA k A) : A.units + 64 < cLine := by have := r.un; omega
noncomputable def Qop : TA := λ _ H Q => Q [] H
noncomputable def QnG (ta : TE) (tr : TA) : TA := λ σ H Q => ta σ H λ x H1 => tr σ H1 λ xs H2 => Q (x :: xs) H2
section
variable {X : Cx} {e : Expr} {es : List Expr} {te : TE} {t : TA} {pos : Pos}
theorem QcR : PA X [] Qop := λ _ _ _ _ H Q I h => Calls.spliced_nil ⟨[], H, I, .nil, h⟩
theorem Qat (ha : PE X e te) (hr : PA X es t) (hs : starEach (e :: es) X.env = (false, eval e X.env) :: starEach es X.env := by rfl) : PA X (e :: es) (QnG te t) := by
 intro pos pins s σ H Q I h
 rw [hs]
 show wpAny _ _ (spliced ((false, eval e X.env) :: backTo pos (starEach es X.env))) _ _ s
 refine Calls.spliced_cons (thn (ha pins s σ H _ I h) λ u s1 ⟨x, H1, I1, r1, q1⟩ => ?_)
 exact thn (hr pos pins s1 σ H1 _ I1 q1) λ us s2 ⟨xs, H2, I2, r2, q2⟩ => ⟨x :: xs, H2, I2, .cons r1 r2, q2⟩
noncomputable def Qxi (t : TA) : TE := λ σ H Q => t σ H λ xs H1 => xs.length <= sizeLine /\ ∀ p, H1 p = none -> Q (.ref p) (upd H1 p (.tup xs))
noncomputable def Qxc (t : TA) : TE := λ σ H Q => t σ H λ xs H1 => xs.length <= sizeLine /\ ∀ p, H1 p = none -> Q (.ref p) (upd H1 p (.lst xs))
theorem Qvr {x1} (h : PA X es t) : PE X (.Tuple es x1 pos) (Qxi t) := by
 intro pins s σ H Q I hq
 refine wpAny_Tuple_spliced (thn (h pos pins s σ H _ I hq) λ us s1 ⟨xs, H1, I1, r, z, q⟩ => ⟨by rw [← r.length]; exact z, ?_⟩)
 have hf : H1 s1.heap.objs.size = none := I1.hok.fresh (Zk _)
 refine ⟨.ref s1.heap.objs.size, upd H1 s1.heap.objs.size (.tup xs), I1.laid (t' := s1.toks) (λ b u e => Zb _ e) (Zk _) ?_, rfl, q _ hf⟩
 exact ⟨z, us, r, ⟨_, Zw _ rfl, rfl, _, rfl⟩⟩
theorem Qvp (h : PA X es t) : PE X (.List es pos) (Qxc t) := by
 intro pins s σ H Q I hq
 refine wpAny_List_spliced (thn (h pos pins s σ H _ I hq) λ us s1 ⟨xs, H1, I1, r, z, q⟩ => ⟨by rw [← r.length]; exact z, ?_⟩)
 have hf : H1 s1.heap.objs.size = none := I1.hok.fresh (Zk _)
 refine ⟨.ref s1.heap.objs.size, upd H1 s1.heap.objs.size (.lst xs), I1.laid (t' := s1.toks) (λ b u e => Zb _ e) (Zk _) ?_, rfl, q _ hf⟩
 exact ⟨z, us, 0, r, Zw _ rfl⟩
end
noncomputable abbrev Sp := List V -> Hp -> VK -> XK -> Prop
noncomputable abbrev CXT := List Env -> Hp -> Shared -> XK -> Value -> Shared -> Prop
structure QeV (P : Program) (w : World) (K : PySem.W.Frag) (mg : Str -> Option Value) (base : Heap) (A : Around) (outer : List Env) (s : Shared) (H : Hp) : Prop where
 frames : A.frames = some outer
 mod : Mod K mg base
 bs : ∀ b o, base.get? b = some o -> s.heap.get? b = some o /\ H b = none
 bsz : base.objs.size <= s.heap.objs.size
 Qdv : s.heap.FunFrames base outer
 frf : ∀ b ∈ frs outer, H b = none
 hok : HOk P w H s.heap
 bare : AllBare s.gens
def CE (outer : List Env) (P : Program) (w : World) (H : Hp) (s : Shared) (Q : VK) (u : Value) (s' : Shared) : Prop :=
 ∃ v H', s'.os = s.os /\ AllBare s'.gens /\ Un (frs outer) [] H H' s.heap s'.heap /\ HOk P w H' s'.heap /\ RelV v u /\ Q v H'
def CR (CX : CXT) (outer : List Env) (P : Program) (w : World) (H : Hp) (s : Shared) (Q : VK) (E : XK) (r : Result) (s' : Shared) : Prop :=
 match r with
 | .ok (.ret u) => CE outer P w H s Q u s'
 | .ok _ => False
 | .error e => CX outer H s E e s'
structure Qct (P : Program) (w : World) (K : PySem.W.Frag) (mg : Str -> Option Value) (base : Heap) (CX : CXT) (k : Nat) (f : Addr) (fd : FuncData) (ps : List Str) (sp : Sp) : Prop where
 len : ∀ vs H Q E, sp vs H Q E -> vs.length = ps.length
 run : ∀ (A : Around) (outer : List Env) (s : Shared) (H : Hp) (args : Args) (us : List Value) (vs : List V) (Q : VK) (E : XK), QaA k A -> QeV P w K mg base A outer s H -> BindsTo s fd args (ps.zip us) -> Qy vs us -> sp vs H Q E →
  codeAny (model P w) A (.call (.ref f) args) (CR CX outer P w H s Q E) s
theorem Qct.mono {P : Program} {w : World} {K : PySem.W.Frag} {mg : Str -> Option Value} {base : Heap} {CX : CXT} {j k : Nat} {f : Addr} {fd : FuncData} {ps : List Str} {sp : Sp} (F : Qct P w K mg base CX j f fd ps sp) (h : j <= k) :
  Qct P w K mg base CX k f fd ps sp := ⟨F.len, λ A outer s H args us vs Q E hr => F.run A outer s H args us vs Q E (hr.mono h)⟩
theorem QeV.make {P : Program} {w : World} {K : PySem.W.Frag} {mg : Str -> Option Value} {base : Heap} {A : Around} {outer : List Env} {s : Shared} {H : Hp} (e : QeV P w K mg base A outer s H) (C : Addr) (us : List Value) (kw : List (Str × Value)) :
  QeV P w K mg base (A.under (.builtin "type.__call__" ⟨.ref C :: us, kw⟩)) outer s H := ⟨by first | exact e.frames | (simpa [Around.under, Code.envs, Code.isFrame, pushEnvs] using e.frames), e.mod, e.bs, e.bsz, e.Qdv, e.frf, e.hok, e.bare⟩
theorem QeV.in1 {P : Program} {w : World} {K : PySem.W.Frag} {mg : Str -> Option Value} {base : Heap} {A : Around} {outer : List Env} {s : Shared} {H : Hp} (e : QeV P w K mg base A outer s H) :
  QeV P w K mg base A.in1 outer s H := ⟨e.frames, e.mod, e.bs, e.bsz, e.Qdv, e.frf, e.hok, e.bare⟩
section
variable {X : Cx} {pins : List (Addr × Obj)} {σ : St} {H : Hp} {s s' : Shared}
theorem Inv.QwM (I : Inv X pins σ H s) : QeV X.prog X.w X.K X.mg X.base X.A X.stack s H :=
 ⟨I.ok.frames, I.ok.mod, I.bs, Zx I.ok.bsz I.sz, I.stack, I.Qm6, I.hok, I.bare⟩
theorem Inv.after {Q : VK} {u : Value} (I : Inv X pins σ H s) (h : CE X.stack X.prog X.w H s Q u s') : EP X pins σ Q u s' := by
 obtain ⟨v, H', os, bare, un, hok, r, q⟩ := h
 obtain ⟨hh, g, d, t, os'⟩ := s'
 obtain rfl : os' = s.os := os
 exact ⟨v, H', I.call (h' := hh) (g' := g) (d' := d) (t' := t) (ch := []) un hok bare (λ b z => absurd z (by simp)), r, q⟩
end
noncomputable def QnY (sp : Sp) (dvs : List V) (E : XK) (t : TA) : TE := λ σ H Q => t σ H λ vs H1 => sp (vs ++ dvs) H1 Q E
def Binds (K : PySem.W.Frag) (fd : FuncData) (ps : List Str) (ds : List Value) : Prop :=
 ∀ (s : Shared) (us : List Value), K.In s.heap -> (us ++ ds).length = ps.length -> BindsTo s fd ⟨us, []⟩ (ps.zip (us ++ ds))
theorem Binds.all {K : PySem.W.Frag} {fd : FuncData} {ps : List Str} (h : ∀ us : List Value, us.length = ps.length -> bindArgs fd ⟨us, []⟩ = pure (ps.zip us)) : Binds K fd ps [] := λ s us _ hl => by
 rw [ZbL] at hl ⊢
 exact .of_eq (h us hl)
def Qiu (CX : CXT) (X : Cx) (E : XK) : Prop := ∀ (pins : List (Addr × Obj)) (σ : St) (H : Hp) (s : Shared) (e : Value) (s' : Shared), Inv X pins σ H s -> CX X.stack H s E e s' -> X.xe e s'
section
variable {X : Cx} {CX : CXT} {k : Nat} {f C : Addr} {fd : FuncData} {ps : List Str} {sp : Sp} {dvs : List V} {ds : List Value} {E : XK} {x m : Str} {p pos apos : Pos} {e o : Expr} {es : List Expr} {ta : TE} {t : TA}
theorem Qpd {pins : List (Addr × Obj)} {σ : St} {H : Hp} {s : Shared} {Q : VK} {us : List Value} {vs : List V} (F : Qct X.prog X.w X.K X.mg X.base CX k f fd ps sp) (hr : QaA k X.A) (hb : Binds X.K fd ps ds) (hd : Qy dvs ds) (hx : Qiu CX X E)
  (I : Inv X pins σ H s) (r : Qy vs us) (h : sp (vs ++ dvs) H Q E) : wpAny (model X.prog X.w) X.A (call (.ref f) us) (EP X pins σ Q) X.xe s := by
 have r2 : Qy (vs ++ dvs) (us ++ ds) := r.append hd
 have hl : (us ++ ds).length = ps.length := by rw [← r2.length]; exact F.len _ _ _ _ h
 refine wpAny_call (codeAny_mono (F.run X.A X.stack s H ⟨us, []⟩ (us ++ ds) (vs ++ dvs) Q E hr I.QwM (hb s us I.kIn hl) r2 h) λ r s' hq => ?_)
 cases r with
 | error e => exact hx pins σ H s e s' I hq
 | ok fl =>
  cases fl with
  | ret u => exact I.after hq
  | next => exact False.elim hq
  | brk => exact False.elim hq
  | cont => exact False.elim hq
theorem Qsg (F : Qct X.prog X.w X.K X.mg X.base CX k f fd ps sp) (hr : QaA k X.A) (hg : Gl X x) (hm : X.mg x = some (.ref f)) (hk : PySem.W.keepIn X.K (.ref f) = true) (hb : Binds X.K fd ps ds) (hd : Qy dvs ds) (hx : Qiu CX X E)
  (ha : PA X (e :: es) t) (hdb : (x == ("__debug__" : Str)) = false := by decide) (he : starEach (e :: es) X.env = (false, eval e X.env) :: starEach es X.env := by rfl) (hpl : (backTo pos (starEach es X.env)).any (·.1) = false := by rfl) :
  PE X (.Call (.Name x p) (e :: es) [] pos) (QnY sp dvs E t) := by
 intro pins s σ H Q I h
 refine wpAny_Call_Name_kw (Qi9 I hg hm ?_ hdb)
 refine PySem.W.callWith_K (h₀ := X.base) I.ok.mod.kin hk (thn (ha pos pins s σ H _ I h) λ us s1 ⟨vs, H1, I1, r, q⟩ => ⟨I1.kIn, ?_⟩) he hpl
 exact Qpd F hr hb hd hx I1 r q
theorem Qry (F : Qct X.prog X.w X.K X.mg X.base CX k f fd ps sp) (hr : QaA k X.A) (hg : Gl X x) (hm : X.mg x = some (.ref f)) (hk : PySem.W.keepIn X.K (.ref f) = true) (hb : Binds X.K fd ps ds) (hd : Qy dvs ds) (hx : Qiu CX X E)
  (hdb : (x == ("__debug__" : Str)) = false := by decide) : PE X (.Call (.Name x p) [] [] pos) (QnY sp dvs E Qop) := by
 intro pins s σ H Q I h
 refine wpAny_Call_Name_kw (Qi9 I hg hm ?_ hdb)
 exact PySem.W.callWith_K0 I.kIn hk (Qpd (us := []) F hr hb hd hx I .nil h)
structure Mk (K : PySem.W.Frag) (C f : Addr) : Prop where
 makes : PySem.W.makesIn K C = true
 init : PySem.W.findIn K (.ref C) "__init__" = some (some (.ref f))
 fn : PySem.W.isFn K (.ref f) = true
 kp : PySem.W.keepIn K (.ref C) = true
end
section
variable {X : Cx} {CX : CXT} {k : Nat} {f C : Addr} {fd : FuncData} {ps ks : List Str} {sp : Sp} {E : XK} {x m : Str} {p pos apos kpos : Pos} {e o : Expr} {es : List Expr} {kws : List Keyword} {te ta : TE} {t tk : TA} {nm : Option Str}
structure Qxo (K : PySem.W.Frag) (fd : FuncData) (ps ks : List Str) (g : List Value -> List Value -> List Value) (gV : List V -> List V -> List V) : Prop where
 to : ∀ (s : Shared) (us ws : List Value), K.In s.heap -> (g us ws).length = ps.length -> BindsTo s fd ⟨us, ks.zip ws⟩ (ps.zip (g us ws))
 rel : ∀ {vs : List V} {us : List Value} {zs : List V} {ws : List Value}, Qy vs us -> Qy zs ws -> Qy (gV vs zs) (g us ws)
variable {g : List Value -> List Value -> List Value} {gV : List V -> List V -> List V}
end
structure Qc4 (N P : List Str) (sc : Scope) : Prop where
 kind : sc.kind = .function
 co : sc.isCoroutine = false
 gen : sc.isGenerator = false
 nd : N.Nodup
 pre : N.take P.length = P
 par : ∀ x ∈ P, sc.names.lookup x = some .local ∨ sc.names.lookup x = some .cell
 nofree : ∀ y ∈ sc.names, y.2 ≠ .free
theorem QjN {kindOf : Str -> Option NameKind} {x : Str} : ∀ {binds : List (Str × Value)} {m : Str -> Option Value}, (∀ v, (x, v) ∉ binds) -> bindL kindOf binds m x = m x
 | [], _, _ => rfl
 | (n, v) :: r, m, h => by
  unfold bindL
  rw [QjN λ w hw => h w (Zc _ hw)]
  split
  ·have : x ≠ n := by rintro rfl; exact h v Zi
   simp [this]
  ·rfl
theorem QjH {kindOf : Str -> Option NameKind} {x : Str} : ∀ {binds : List (Str × Value)} {m : Str -> Option Value}, (∀ v, (x, v) ∉ binds) -> bindC kindOf binds m x = m x
 | [], _, _ => rfl
 | (n, v) :: r, m, h => by
  unfold bindC
  rw [QjH λ w hw => h w (Zc _ hw)]
  split
  ·rfl
  ·have : x ≠ n := by rintro rfl; exact h v Zi
   simp [this]
theorem QjJ {kindOf : Str -> Option NameKind} {x : Str} {v : Value} : ∀ {P : List Str} {vs : List Value} {i : Nat} {m : Str -> Option Value}, P.Nodup -> P[i]? = some x -> vs[i]? = some v -> kindOf x = some .local →
  bindL kindOf (P.zip vs) m x = some v
 | [], _, _, _, _, h, _, _ => by simp at h
 | _ :: _, [], _, _, _, _, h, _ => by simp at h
 | p :: P, w :: vs, 0, m, nd, h1, h2, hk => by
  simp at h1 h2; subst h1; subst h2
  show bindL kindOf ((p, w) :: P.zip vs) m p = _
  unfold bindL
  rw [QjN λ v hv => (ZaB.mp nd).1 (ZbM hv).1, if_pos hk]
  simp
 | p :: P, w :: vs, i + 1, m, nd, h1, h2, hk => by
  show bindL kindOf ((p, w) :: P.zip vs) m x = _
  unfold bindL
  exact QjJ (i := i) (ZaB.mp nd).2 (by simpa using h1) (by simpa using h2) hk
theorem QjM {kindOf : Str -> Option NameKind} {x : Str} {v : Value} : ∀ {P : List Str} {vs : List Value} {i : Nat} {m : Str -> Option Value}, P.Nodup -> P[i]? = some x -> vs[i]? = some v -> kindOf x ≠ some .local →
  bindC kindOf (P.zip vs) m x = some v
 | [], _, _, _, _, h, _, _ => by simp at h
 | _ :: _, [], _, _, _, _, h, _ => by simp at h
 | p :: P, w :: vs, 0, m, nd, h1, h2, hk => by
  simp at h1 h2; subst h1; subst h2
  show bindC kindOf ((p, w) :: P.zip vs) m p = _
  unfold bindC
  rw [QjH λ v hv => (ZaB.mp nd).1 (ZbM hv).1, if_neg hk]
  simp
 | p :: P, w :: vs, i + 1, m, nd, h1, h2, hk => by
  show bindC kindOf ((p, w) :: P.zip vs) m x = _
  unfold bindC
  exact QjM (i := i) (ZaB.mp nd).2 (by simpa using h1) (by simpa using h2) hk
noncomputable def start (N : List Str) (vs : List V) : St := vs.map some ++ List.replicate (N.length - vs.length) none
noncomputable def Qhy (CX : CXT) (P : Program) (w : World) (K : PySem.W.Frag) (mg : Str -> Option Value) (base : Heap) (N : List Str) (qual : Str) (scope : Scope) (f : Addr) (cd : Value) (A : Around) (outer : List Env) (s : Shared) (H : Hp) (E : XK) : Cx where
 prog := P
 w := w
 K := K
 mg := mg
 base := base
 A := A.deeper (envOfC qual scope s.heap.objs.size f cd)
 N := N
 s₀ := s
 H₀ := H
 env := envOfC qual scope s.heap.objs.size f cd
 outer := outer
 stack := envOfC qual scope s.heap.objs.size f cd :: outer
 ex := []
 calm := true
 fn := λ _ => true
 pn := []
 xe := λ e s' => wpAny (model P w) (A.deeper (envOfC qual scope s.heap.objs.size f cd)) (leaving (envOfC qual scope s.heap.objs.size f cd) e) (λ _ s'' => CX outer H s E e s'') (λ e' s'' => CX outer H s E e' s'') s'
theorem QlQ {sc : Scope} {n : Nat} {x : Str} (h : sc.names.lookup x = some .cell) : ∃ c, (cellsFrom n sc.names []).lookup x = some c := by
 have q := ZbG sc.names n [] (.inl h)
 exact Zbw.mp q
theorem Qpu {CX : CXT} {P : Program} {w : World} {K : PySem.W.Frag} {mg : Str -> Option Value} {base : Heap} {N ps : List Str} {qual : Str} {scope : Scope} {f : Addr} {cd : Value} {A : Around} {outer : List Env} {s s1 : Shared} {H : Hp} {E : XK} {us : List Value} {vs : List V}
  (S : Qc4 N ps scope) (hd : A.handled = none) (e0 : QeV P w K mg base A outer s H) (hl : vs.length = ps.length) (r : Qy vs us)
  (x : InCallC s s.heap.objs.size (bindL (envOfC qual scope s.heap.objs.size f cd).kindOf (ps.zip us) λ _ => none) (cellsFrom (s.heap.objs.size + 1) scope.names []) (bindC (envOfC qual scope s.heap.objs.size f cd).kindOf (ps.zip us) λ _ => none) s1) :
  Inv (Qhy CX P w K mg base N qual scope f cd A outer s H E) [] (start N vs) H s1 := by
 have hpl : ps.length <= N.length := by have := congrArg List.length S.pre; rw [ZaG] at this; omega
 obtain ⟨h1, tk, rfl, hk⟩ := x.done
 have noA : ∀ b : Addr, b ∉ (Qhy CX P w K mg base N qual scope f cd A outer s H E).ex := λ b z => absurd (show b ∈ ([] : List Addr) from z) (by simp)
 refine ⟨⟨e0.mod, S.kind, rfl, rfl, Zk _, λ y z c h1 h2 => ?_, λ y hy => ?_, λ y c _ h => ?_, λ _ => hd, Around.frames_deeper e0.frames, .inr ⟨rfl, rfl⟩, λ b z => absurd z (noA b), e0.bs, e0.bsz, λ b _ _ => noA b, λ b z => absurd z (noA b), e0.Qdv, e0.frf⟩,
  rfl, e0.bare, Un.kept hk, ⟨_, x.toInCall.ns, λ i y v h1 h2 h3 => ?_⟩, λ y c h => ⟨_, x.cell y c h⟩, e0.hok.fresh (Zk _), λ y c h => ?_, λ p hp => absurd (show p ∈ ([] : List (Addr × Obj)) from hp) (by simp), e0.hok.kept hk, ?_⟩
 ·exact name_of_addr x.apart (ZU h1) (ZU h2)
 ·have hy : scope.names.lookup y = some .cell ∨ scope.names.lookup y = some .free := hy
  rcases hy with hy | hy
  ·exact QlQ hy
  ·exact absurd rfl (S.nofree _ (ZU hy))
 ·exact Nat.le_of_lt (x.above y c (ZU h))
 ·have hi : i < vs.length := by
   unfold start at h2
   by_cases hi : i < vs.length
   ·exact hi
   ·rw [Zbo (by simpa using hi)] at h2
    rw [Zby] at h2
    split at h2 <;> cases h2
  have ha : vs[i]? = some v := by
   unfold start at h2
   rw [Zam (by simpa using hi), Zm] at h2
   cases e : vs[i]? with
   | none => rw [e] at h2; cases h2
   | some a => rw [e] at h2; cases h2; rfl
  obtain ⟨u, hu, rv⟩ := r.get ha
  have hp : ps[i]? = some y := by
   rw [← S.pre, List.getElem?_take_of_lt (by omega)]; exact h1
  have ndP : ps.Nodup := by rw [← S.pre]; exact S.nd.sublist (List.take_sublist _ _)
  refine ⟨u, rv, ?_⟩
  rcases S.par y (ZY hp) with k | k
  ·exact .inl ⟨k, QjJ ndP hp hu k⟩
  ·obtain ⟨c, e⟩ := QlQ (n := s.heap.objs.size + 1) k
   refine .inr ⟨.inl k, c, e, ?_⟩
   have q := x.cell y c e
   rw [QjM ndP hp hu (by show scope.names.lookup y ≠ _; rw [k]; decide)] at q
   exact q
 ·exact e0.hok.fresh (Nat.le_of_lt (x.above y c (ZU h)))
 ·unfold start
  show _ = N.length
  rw [Zq, Zh, List.length_replicate]
  omega
theorem QvM {CX : CXT} {P : Program} {w : World} {K : PySem.W.Frag} {mg : Str -> Option Value} {base : Heap} {k : Nat} {f : Addr} {name qual : Str} {params : Arguments} {body : List Stmt} {scope : Scope} {dV kV doc pm cdv ct oc : Value} {an od : Option Addr}
  {osl : Array (Option Value)} {N ps : List Str} {sp : Sp} (lk : K.lookup f = some ⟨oc, od, .func (PySem.W.fnOf name qual params body scope dV kV doc pm an cdv ct), osl⟩) (hcd : PySem.W.codeIn K cdv qual = true) (S : Qc4 N ps scope)
  (len : ∀ vs H Q E, sp vs H Q E -> vs.length = ps.length)
  (hbody : ∀ (A : Around) (outer : List Env) (s : Shared) (H : Hp) (vs : List V) (Q : VK) (E : XK), QaA k (A.deeper (envOfC qual scope s.heap.objs.size f cdv)) -> sp vs H Q E →
   ∃ t, PSs (Qhy CX P w K mg base N qual scope f cdv A outer s H E) body t /\ t { nx := λ _ H' => Q .non H', rt := Q } (start N vs) H) :
  Qct P w K mg base CX (k + 1) f (PySem.W.fnOf name qual params body scope dV kV doc pm an cdv ct) ps sp := by
 refine ⟨len, λ A outer s H args us vs Q E hr e0 hb r hsp => ?_⟩
 have hl := len _ _ _ _ hsp
 have KX : K.In s.heap := e0.mod.kin.keeps λ b o e => (e0.bs b o e).1
 have lim : s.heap.NoLimit := e0.mod.nolimit.keeps λ b o e => (e0.bs b o e).1
 have hkind : ∀ y ∈ ps.zip us, scope.names.lookup y.1 = some .local ∨ (scope.names.lookup y.1 = some .cell /\ ((cellsFrom (s.heap.objs.size + 1) scope.names []).lookup y.1).isSome = true) := λ ⟨n, v⟩ hy => by
  rcases S.par n (ZbM hy).1 with q | q
  ·exact .inl q
  ·exact .inr ⟨q, ZbG _ _ _ (.inl q)⟩
 refine codeAny_call_function hr.depth (KX _ _ lk) rfl S.co S.gen rfl (PySem.W.codeRec_of KX hcd) (hb _ _ _ _ ?_)
 refine wpAny_newFunctionEnv_cells S.kind hkind λ env he s1 x => ?_
 subst he
 refine ⟨lim.keeps x.toInCall.keep, codeAny_func ?_⟩
 obtain ⟨t, ht, hq⟩ := hbody A outer s H vs Q E (hr.deeper _) hsp
 have I : Inv (Qhy CX P w K mg base N qual scope f cdv A outer s H E) [] (start N vs) H s1 := Qpu S hr.hd e0 hl r x
 refine wpAny_mono (ht [] s1 (start N vs) H _ I hq) (λ fl s' hs => ?_) λ e s' hs => hs
 have fin : ∀ {σ' : St} {H' : Hp} {v : V} {u : Value}, Inv (Qhy CX P w K mg base N qual scope f cdv A outer s H E) [] σ' H' s' -> RelV v u -> Q v H' -> CE outer P w H s Q u s' :=
  λ {σ' H' v u} J rv q => ⟨v, H', J.os, J.bare, J.base, J.hok, rv, q⟩
 cases fl with
 | ret u =>
  obtain ⟨v, σ', H', J, rv, q⟩ := hs
  exact fin J rv q
 | next =>
  obtain ⟨σ', H', J, q⟩ := hs
  exact fin (v := V.non) (u := Value.none) J rfl q
 | brk =>
  obtain ⟨_, _, _, q⟩ := hs
  exact False.elim q
 | cont =>
  obtain ⟨_, _, _, q⟩ := hs
  exact False.elim q
end L2
namespace L2
open PySem PySem.Spec PyProof.Rows
section
variable {X : Cx} {x : Str} {p pos : Pos} {e : Expr} {es : List Expr} {t : TA} {id T : String} {r : List V -> Hp -> VK -> Prop}
noncomputable def tCB (r : List V -> Hp -> VK -> Prop) (t : TA) : TE := λ σ H Q => t σ H λ vs H1 => r vs H1 Q
theorem QkG (hc : QbU X (.builtin id) r) (hg : Gl X x) (hm : X.mg x = none) (hv : bootBuiltins x = some (.builtin id)) (ha : PA X (e :: es) t) (hn : x ≠ "__name__" := by decide) (hdb : (x == ("__debug__" : Str)) = false := by decide)
  (he : starEach (e :: es) X.env = (false, eval e X.env) :: starEach es X.env := by rfl) (hpl : (backTo pos (starEach es X.env)).any (·.1) = false := by rfl) : PE X (.Call (.Name x p) (e :: es) [] pos) (tCB r t) := by
 intro pins s σ H Q I h
 refine wpAny_Call_Name_kw (Qcy I hg hm hv ?_ hn hdb)
 exact PyProof.Rows.callWith_builtin1 (thn (ha pos pins s σ H _ I h) λ us s1 ⟨vs, H1, I1, r1, q1⟩ => hc pins s1 σ H1 vs us Q I1 r1 q1) he hpl
theorem Qpv (hc : QbU X (.type T) r) (hg : Gl X x) (hm : X.mg x = none) (hv : bootBuiltins x = some (.type T)) (ha : PA X (e :: es) t) (hn : x ≠ "__name__" := by decide) (hdb : (x == ("__debug__" : Str)) = false := by decide)
  (he : starEach (e :: es) X.env = (false, eval e X.env) :: starEach es X.env := by rfl) (hpl : (backTo pos (starEach es X.env)).any (·.1) = false := by rfl) : PE X (.Call (.Name x p) (e :: es) [] pos) (tCB r t) := by
 intro pins s σ H Q I h
 refine wpAny_Call_Name_kw (Qcy I hg hm hv ?_ hn hdb)
 exact ZI (thn (ha pos pins s σ H _ I h) λ us s1 ⟨vs, H1, I1, r1, q1⟩ => hc pins s1 σ H1 vs us Q I1 r1 q1) he hpl
end
end L2
namespace HT
open PySem PyProof.Rows
section
open PySem.SeqAt
open PySem.AutoSeq1 (wpAny_loadPart')
open PySem.MeetsSeq PySem.MeetsSeq2 PySem.MeetsSeq3
end
section
variable {prog : Program} {w : World} {A : Around} {E : Value -> Shared -> Prop} {s : Shared}
noncomputable def sIx (n d : Nat) : Option Int -> Nat
 | none => d
 | some v => if v < 0 then (v + (n : Int)).toNat else min v.toNat n
theorem Qew (n d : Nat) : sIx n d none = d := rfl
theorem Qfc (n d k : Nat) : sIx n d (some (k : Int)) = min k n := by
 show (if (k : Int) < 0 then ((k : Int) + (n : Int)).toNat else min (k : Int).toNat n) = min k n
 rw [if_neg (by omega), ZW]
end
end HT
namespace L2
open PySem PySem.Spec PyProof.Rows
noncomputable abbrev TO := St -> Hp -> (Option Int -> Hp -> Prop) -> Prop
def PO (X : Cx) (e : Option Expr) (t : TO) : Prop :=
 ∀ (pins : List (Addr × Obj)) (s : Shared) (σ : St) (H : Hp) (Q : Option Int -> Hp -> Prop), Inv X pins σ H s -> t σ H Q →
  wpAny (model X.prog X.w) X.A (evalPart e X.env) (λ u s' => ∃ o H', Inv X pins σ H' s' /\ IsPart u o /\ Q o H') X.xe s
noncomputable def Qth : TO := λ _ H Q => Q none H
noncomputable def Qwo (t : TE) : TO := λ σ H Q => t σ H λ x H1 => ∃ i, x = .int i /\ Q (some i) H1
theorem intsAre_of {ns : List Int} : ∀ {us : List Value}, Qy (ns.map V.int) us -> IntsAre us ns := by
 induction ns with
 | nil => intro us r; rw [List.map_nil] at r; cases r; exact .nil
 | cons n ns ih =>
  intro us r
  rw [ZG] at r
  cases r with
  | cons r1 r2 =>
   obtain ⟨t, e⟩ := r1
   subst e
   exact .cons n t (ih r2)
section
variable {X : Cx} {e : Expr} {te : TE} {lo hi : Option Expr} {tl th : TO} {pos p2 : Pos}
theorem QtU : PO X none Qth := by
 intro pins s σ H Q I h
 rw [evalPart_none]
 exact wpAny_pure ⟨none, H, I, .none, h⟩
theorem QtN (h : PE X e te) : PO X (some e) (Qwo te) := by
 intro pins s σ H Q I hw
 rw [evalPart_some]
 refine thn (h pins s σ H _ I hw) λ u s1 ⟨x, H1, I1, r1, q1⟩ => ?_
 obtain ⟨i, rfl, q⟩ := q1
 obtain ⟨t, rfl⟩ := r1
 exact ⟨some i, H1, I1, .int i t, q⟩
def SlR (X : Cx) (r : V -> Option Int -> Option Int -> Hp -> VK -> Prop) : Prop :=
 ∀ (pins : List (Addr × Obj)) (s : Shared) (σ : St) (H : Hp) (x : V) (v vl vu : Value) (lo hi : Option Int) (sl : Addr) (Q : VK), Inv X pins σ H s -> RelV x v -> s.heap.IsSliceOf sl vl vu .none -> IsPart vl lo -> IsPart vu hi -> r x lo hi H Q →
  ∃ T id, typeLookup (.type T) "__getitem__" = pure (some (.builtin id)) /\ s.TypeIs v T /\ wpAny (model X.prog X.w) X.A (getItem v (.ref sl)) (EP X pins σ Q) X.xe s
theorem SlR.or {r r' : V -> Option Int -> Option Int -> Hp -> VK -> Prop} (h : SlR X r) (h' : SlR X r') : SlR X (λ x lo hi H Q => r x lo hi H Q ∨ r' x lo hi H Q) := by
 intro pins s σ H x v vl vu lo hi sl Q I rx hs pl pu q
 rcases q with q | q
 ·exact h pins s σ H x v vl vu lo hi sl Q I rx hs pl pu q
 ·exact h' pins s σ H x v vl vu lo hi sl Q I rx hs pl pu q
noncomputable def tSl (r : V -> Option Int -> Option Int -> Hp -> VK -> Prop) (te : TE) (tl th : TO) : TE := λ σ H Q => te σ H λ x H1 => tl σ H1 λ l H2 => th σ H2 λ u H3 => r x l u H3 Q
theorem Qq7 {r : V -> Option Int -> Option Int -> Hp -> VK -> Prop} (hr : SlR X r) (he : PE X e te) (hl : PO X lo tl) (hu : PO X hi th) : PE X (.Subscript e (.Slice lo hi none p2) pos) (tSl r te tl th) := by
 intro pins s σ H Q I h
 refine Subscript_ (thn (he pins s σ H _ I h) λ v s1 ⟨x, H1, I1, r1, q1⟩ => ?_)
 refine wpAny_Slice (thn (hl pins s1 σ H1 _ I1 q1) λ vl s2 ⟨l, H2, I2, pl, q2⟩ => thn (hu pins s2 σ H2 _ I2 q2) λ vu s3 ⟨u, H3, I3, pu, q3⟩ => ?_)
 rw [evalPart_none]
 refine wpAny_pure ?_
 have I4 : Inv X pins σ H3 { s3 with heap := s3.heap.push { cls := .type "slice", data := .fields #[vl, vu, .none] } } := I3.kept (t' := s3.toks) λ b ob q => Zb _ q
 obtain ⟨T, id, hT, ht, hg⟩ := hr pins { s3 with heap := s3.heap.push { cls := .type "slice", data := .fields #[vl, vu, .none] } } σ H3 x v vl vu l u s3.heap.objs.size Q I4 r1 (Heap.IsSliceOf.new ..) pl pu q3
 show wpAny (model X.prog X.w) X.A (subscriptTail e (.Slice lo hi none p2) v (.ref s3.heap.objs.size)) (EP X pins σ Q) X.xe { s3 with heap := s3.heap.push { cls := .type "slice", data := .fields #[vl, vu, .none] } }
 exact tail_any (ops := [.ref s3.heap.objs.size, v]) ht hT hg (by with_unfolding_all rfl)
noncomputable def Qjb (xs : List V) (lo hi : Option Int) : List V := (xs.drop (HT.sIx xs.length 0 lo)).take (HT.sIx xs.length xs.length hi - HT.sIx xs.length 0 lo)
theorem QmL (xs : List V) (lo hi : Option Int) : (Qjb xs lo hi).length <= xs.length := by
 unfold Qjb
 rw [ZaG, List.length_drop]
 omega
end
end L2
namespace L2
open PySem PySem.Spec PyProof.Rows
noncomputable def ixN (n : Nat) (i : Int) : Option Nat := if 0 <= i then (if i < n then some i.toNat else none) else if -(n : Int) <= i then some (i + n).toNat else none
noncomputable def atI {α : Type} (xs : List α) (i : Int) : Option α := (ixN xs.length i).bind λ j => xs[j]?
theorem Qfo {n : Nat} {i : Int} {j : Nat} (h : ixN n i = some j) : seqIndex? i n = some j /\ j < n /\ -(n : Int) <= i /\ i < n := by
 unfold ixN at h
 by_cases h0 : 0 <= i
 ·rw [if_pos h0] at h
  by_cases h1 : i < n
  ·rw [if_pos h1] at h
   have e : i.toNat = j := Option.some.inj h
   exact ⟨by rw [seqIndex_of h0 h1, e], by omega, by omega, h1⟩
  ·rw [if_neg h1] at h; cases h
 ·rw [if_neg h0] at h
  by_cases h1 : -(n : Int) <= i
  ·rw [if_pos h1] at h
   have e : (i + n).toNat = j := Option.some.inj h
   exact ⟨by rw [seqIndex_neg (by omega) h1, e], by omega, h1, by omega⟩
  ·rw [if_neg h1] at h; cases h
theorem Qjj {α : Type} {xs : List α} {i : Int} {v : α} (h : atI xs i = some v) : ∃ j, seqIndex? i xs.length = some j /\ xs[j]? = some v /\ j < xs.length /\ -(xs.length : Int) <= i /\ i < xs.length := by
 unfold atI at h
 cases e : ixN xs.length i with
 | none => rw [e] at h; cases h
 | some j =>
  rw [e] at h
  obtain ⟨h1, h2, h3, h4⟩ := Qfo e
  exact ⟨j, h1, h, h2, h3, h4⟩
def QgY (b : Expr) : Prop := ∀ o i, subscripted b false o i = operate [o, i] (getItem o i)
def IxR (X : Cx) (r : R2) : Prop :=
 ∀ (value slice : Expr) (pins : List (Addr × Obj)) (s : Shared) (σ : St) (H : Hp) (x y : V) (v u : Value) (Q : VK), Inv X pins σ H s -> RelV x v -> RelV y u -> r x y H Q →
  subscripted slice false v u = operate [v, u] (getItem v u) -> wpAny (model X.prog X.w) X.A (subscriptTail value slice v u) (EP X pins σ Q) X.xe s
def MtR (X : Cx) (id : String) (r : V -> List V -> Hp -> VK -> Prop) : Prop :=
 ∀ (pins : List (Addr × Obj)) (s : Shared) (σ : St) (H : Hp) (x : V) (xs : List V) (v : Value) (us : List Value) (Q : VK), Inv X pins σ H s -> RelV x v -> Qy xs us -> r x xs H Q →
  wpAny (model X.prog X.w) X.A (call (.builtin id) (v :: us)) (EP X pins σ Q) X.xe s
section
variable {X : Cx} {a b : Expr} {ta tb : TE} {pos : Pos}
theorem IxR.or {r r' : R2} (h : IxR X r) (h' : IxR X r') : IxR X (λ x y H Q => r x y H Q ∨ r' x y H Q) := by
 intro value slice pins s σ H x y v u Q I rx ry q hs
 rcases q with q | q
 ·exact h value slice pins s σ H x y v u Q I rx ry q hs
 ·exact h' value slice pins s σ H x y v u Q I rx ry q hs
theorem MtR.or {id : String} {r r' : V -> List V -> Hp -> VK -> Prop} (h : MtR X id r) (h' : MtR X id r') : MtR X id (λ x xs H Q => r x xs H Q ∨ r' x xs H Q) := by
 intro pins s σ H x xs v us Q I rx rs q
 rcases q with q | q
 ·exact h pins s σ H x xs v us Q I rx rs q
 ·exact h' pins s σ H x xs v us Q I rx rs q
theorem Qr1 {r : R2} (hr : IxR X r) (ha : PE X a ta) (hb : PE X b tb) (hs : QgY b) : PE X (.Subscript a b pos) (tOp r ta tb) := by
 intro pins s σ H Q I h
 exact Subscript_ (QrE ha hb I h λ v u s2 x y H2 I2 rx ry q => hr a b pins s2 σ H2 x y v u Q I2 rx ry q (hs _ _))
noncomputable def Qt2 (K : PySem.W.Frag) : R2 := λ x y H Q => ∃ p xs i v, x = .ref p /\ y = .int i /\ SqL K H p xs /\ atI xs i = some v /\ Q v H
noncomputable def QwW (K : PySem.W.Frag) : R2 := λ x y H Q => ∃ p xs i v, x = .ref p /\ y = .int i /\ SqT K H p xs /\ atI xs i = some v /\ Q v H
theorem Qnl : IxR X (Qt2 X.K) := by
 intro value slice pins s σ H x y v u Q I rx ry h hs
 obtain ⟨p, xs, i, z, rfl, rfl, hq, he, q⟩ := h
 cases rx
 obtain ⟨t, rfl⟩ := ry
 obtain ⟨its, r, pl, hz⟩ := I.list hq
 obtain ⟨j, h1, h2, h3, h4, h5⟩ := Qjj he
 obtain ⟨w, ew, rw'⟩ := r.get h2
 have hl := r.length
 have hn := Qfg
 have fin : EP X pins σ Q w s := ⟨z, H, I, rw', q⟩
 by_cases h0 : 0 <= i
 ·have hj : i.toNat = j := by
   rw [seqIndex_of h0 h5] at h1
   exact Option.some.inj h1
  exact item_listR pl.isList h0 (by omega) (by rw [hj]; simpa using ew) fin hs
 ·have hj : (i + (its.toArray.size : Int)).toNat = j := by
   rw [seqIndex_neg (by omega) h4] at h1
   rw [Zt, ← hl]
   exact Option.some.inj h1
  exact subscriptTail_builtinR (x := w) pl.isList.typeIs slot_list_getitem.lookup
   (wpAny_getItem_list_neg (Q := λ r s' => r = w /\ EP X pins σ Q r s') pl.isList (by omega) (by rw [Zt] <;> omega) (by omega) (by rw [hj]; simpa using ew) ⟨rfl, fin⟩) hs
theorem QoB : IxR X (QwW X.K) := by
 intro value slice pins s σ H x y v u Q I rx ry h hs
 obtain ⟨p, xs, i, z, rfl, rfl, hq, he, q⟩ := h
 cases rx
 obtain ⟨t, rfl⟩ := ry
 obtain ⟨its, r, pl, hz⟩ := I.tuple hq
 obtain ⟨j, h1, h2, h3, h4, h5⟩ := Qjj he
 obtain ⟨w, ew, rw'⟩ := r.get h2
 have hl := r.length
 have hn := Qfg
 have fin : EP X pins σ Q w s := ⟨z, H, I, rw', q⟩
 exact subscriptTail_builtinR (x := w) pl.typeIs slot_tuple_getitem.lookup
  (getItem_tuple (j := j) (Q := λ r s' => r = w /\ EP X pins σ Q r s') pl (by omega) (by omega) (by rw [Zt, ← hl]; exact h1) (by simpa using ew) ⟨rfl, fin⟩) hs
theorem QnP (its : List Value) (n j : Nat) (u : Value) : Obj.mapSeq (·.setIfInBounds j u) { cls := .type "list", data := .seq its.toArray n } = { cls := .type "list", data := .seq (its.set j u).toArray n } := by
 simp [Obj.mapSeq]
theorem Inv.lst {pins : List (Addr × Obj)} {σ : St} {H : Hp} {s : Shared} {p : Addr} {xs : List V} (I : Inv X pins σ H s) (h : H p = some (.lst xs)) :
  ∃ (its : List Value) (n : Nat), Qy xs its /\ s.heap.get? p = some { cls := .type "list", data := .seq its.toArray n } /\ xs.length <= sizeLine := by
 obtain ⟨z, its, n, r, e⟩ := I.hok p _ h
 exact ⟨its, n, r, e, z⟩
theorem Inv.Qud {pins : List (Addr × Obj)} {σ : St} {H : Hp} {s : Shared} {p : Addr} {xs ys : List V} {its its' : List Value} {n n' : Nat} {f : Obj -> Obj} (I : Inv X pins σ H s) (h : H p = some (.lst xs))
  (ho : s.heap.get? p = some { cls := .type "list", data := .seq its.toArray n }) (hf : f { cls := .type "list", data := .seq its.toArray n } = { cls := .type "list", data := .seq its'.toArray n' }) (r : Qy ys its') (hz : ys.length <= sizeLine) (t : Nat) :
  Inv X pins σ (upd H p (.lst ys)) { s with heap := s.heap.update p f, toks := t } := by
 have e : (s.heap.update p f).get? p = some { cls := .type "list", data := .seq its'.toArray n' } := by
  rw [Heap.get?_update_self f ho (by rw [hf] <;> rfl), hf]
 refine I.write (x := p) (e := p) (by rw [h]; trivial) (.inl rfl) (λ b u hb q => (Heap.get?_update_other _ _ (Ne.symm hb)).trans q) ⟨_, e⟩ ?_
 exact ⟨hz, its', n', r, e⟩
noncomputable def Qr4 : V -> V -> V -> Hp -> (Hp -> Prop) -> Prop := λ o i v H Q => ∃ p xs k j, o = .ref p /\ i = .int k /\ H p = some (.lst xs) /\ ixN xs.length k = some j /\ Q (upd H p (.lst (xs.set j v)))
theorem set_list : QqD X Qr4 := by
 intro pins s σ H o i v ov iv u Q I ro ri rv h
 obtain ⟨p, xs, k, j, rfl, rfl, hp, hj, q⟩ := h
 cases ro
 obtain ⟨t, rfl⟩ := ri
 obtain ⟨its, n, r, ho, hz⟩ := I.lst hp
 obtain ⟨h1, h2, h3, h4⟩ := Qfo hj
 have hl := r.length
 have hn := Qfg
 have I' : Inv X pins σ (upd H p (.lst (xs.set j v))) { s with heap := s.heap.update p (Obj.mapSeq (·.setIfInBounds j u)) } :=
  I.Qud hp ho (QnP its n j u) (r.set rv j) (by rw [ZaS]; exact hz) s.toks
 by_cases h0 : 0 <= k
 ·have hk : k.toNat = j := by
   rw [seqIndex_of h0 h4] at h1
   exact Option.some.inj h1
  exact PySem.W.ki_setAt ho h0 (by omega) (by rw [Zt, ← hl]; exact h4) (by rw [hk]; exact ⟨_, I', q⟩)
 ·have hk : (k + (its.toArray.size : Int)).toNat = j := by
   rw [seqIndex_neg (by omega) h3] at h1
   rw [Zt, ← hl]
   exact Option.some.inj h1
  exact PySem.W.ki_setBack ho (by omega) (by rw [Zt, ← hl]; exact h3) (by omega) (by rw [hk]; exact ⟨_, I', q⟩)
theorem Qli (lo hi : Option Int) (n : Nat) : (sliceBounds lo hi none n).1 = ((HT.sIx n 0 lo : Nat) : Int) /\ (sliceBounds lo hi none n).2.1 = ((HT.sIx n n hi : Nat) : Int) /\ (sliceBounds lo hi none n).2.2 = 1 := by
 refine ⟨?_, ?_, rfl⟩
 ·cases lo with
  | none => simp [sliceBounds, HT.sIx]
  | some i =>
   simp only [sliceBounds, HT.sIx, Option.getD_none, show (1 : Int) > 0 by decide, if_true]
   by_cases h : i < 0
   ·simp only [h, if_true] <;> omega
   ·simp only [h, if_false] <;> omega
 ·cases hi with
  | none => simp [sliceBounds, HT.sIx]
  | some i =>
   simp only [sliceBounds, HT.sIx, Option.getD_none, show (1 : Int) > 0 by decide, if_true]
   by_cases h : i < 0
   ·simp only [h, if_true] <;> omega
   ·simp only [h, if_false] <;> omega
theorem Qj5 (its : List Value) (lo hi : Option Int) : slicePick its.toArray lo hi none = ((its.drop (HT.sIx its.length 0 lo)).take (HT.sIx its.length its.length hi - HT.sIx its.length 0 lo)).toArray := by
 obtain ⟨h1, h2, h3⟩ := Qli lo hi its.toArray.size
 unfold slicePick
 rw [h1, h2, h3]
 simp only [sliceRange_one, pick_run, Zt] <;> rfl
noncomputable def Qxg (K : PySem.W.Frag) : V -> Option Int -> Option Int -> Hp -> VK -> Prop := λ x lo hi H Q => ∃ a xs, x = .ref a /\ SqL K H a xs /\ ∀ p, H p = none -> Q (.ref p) (upd H p (.lst (Qjb xs lo hi)))
theorem QsO : SlR X (Qxg X.K) := by
 intro pins s σ H x v vl vu lo hi sl Q I rx hs pl pu h
 obtain ⟨a, xs, rfl, hx, q⟩ := h
 cases rx
 obtain ⟨its, r, ht, hz⟩ := I.list hx
 have hlen := r.length
 refine ⟨"list", _, slot_list_getitem.lookup, ht.isList.typeIs, ?_⟩
 refine wpAny_getItem_list_slice ht.isList hs pl pu .none (by simp) ?_ (by rw [Zt] <;> omega)
 rw [Qj5, ← hlen]
 refine ⟨.ref s.heap.objs.size, _, I.laid (t' := s.toks) (o := .lst (Qjb xs lo hi)) (λ b ob q => Zb _ q) (Zk _) ?_, rfl, q _ (I.hok.fresh (Zk _))⟩
 exact ⟨Zx (QmL xs lo hi) hz, _, 0, (r.drop (HT.sIx xs.length 0 lo)).take (HT.sIx xs.length xs.length hi - HT.sIx xs.length 0 lo), Zw _ rfl⟩
theorem QkN : QbU X (.builtin "len") (λ xs H Q => ∃ p ys, xs = [.ref p] /\ (SqL X.K H p ys ∨ SqT X.K H p ys) /\ Q (.int ys.length) H) := by
 intro pins s σ H xs us Q I r h
 obtain ⟨p, ys, rfl, hq, q⟩ := h
 obtain ⟨u, rfl, rx⟩ := vals1 r
 cases rx
 have hn := Qfg
 rcases hq with hq | hq
 ·obtain ⟨its, r', pl, hz⟩ := I.list hq
  have hlen := r'.length
  exact Calls.call_len_list pl.isList (by simp only [Zt] <;> omega) ⟨.int ys.length, H, I.tok _, ⟨s.toks + 1, by rw [Zt, hlen]⟩, q⟩
 ·obtain ⟨its, r', pl, hz⟩ := I.tuple hq
  have hlen := r'.length
  exact len_tuple pl (by simp only [Zt] <;> omega) ⟨.int ys.length, H, I.tok _, ⟨s.toks + 1, by rw [Zt, hlen]⟩, q⟩
theorem QbU.or {f : Value} {r r' : List V -> Hp -> VK -> Prop} (h : QbU X f r) (h' : QbU X f r') : QbU X f (λ xs H Q => r xs H Q ∨ r' xs H Q) := by
 intro pins s σ H xs us Q I rs q
 rcases q with q | q
 ·exact h pins s σ H xs us Q I rs q
 ·exact h' pins s σ H xs us Q I rs q
theorem QkR : QbU X (.type "list") (λ xs H Q => ∃ p ys, xs = [.ref p] /\ (SqL X.K H p ys ∨ SqT X.K H p ys) /\ ∀ l, H l = none -> Q (.ref l) (upd H l (.lst ys))) := by
 intro pins s σ H xs us Q I r h
 obtain ⟨p, ys, rfl, hq, q⟩ := h
 obtain ⟨u, rfl, rx⟩ := vals1 r
 cases rx
 have fin : ∀ (its : List Value), Qy ys its -> ys.length <= sizeLine -> ∀ (h' : Heap) (c' : Nat), (∀ b o', s.heap.get? b = some o' -> h'.get? b = some o') →
   h'.get? s.heap.objs.size = some { cls := .type "list", dict := none, data := .seq its.toArray c', slots := #[] } -> EP X pins σ Q (.ref s.heap.objs.size) { s with heap := h' } := λ its r' hz h' c' kp e =>
  ⟨.ref s.heap.objs.size, _, I.laid (t' := s.toks) kp (Zk _) (show Qcm X.prog X.w _ h' _ (.lst ys) from ⟨hz, its, c', r', e⟩), rfl, q _ (I.hok.fresh (Zk _))⟩
 rcases hq with hq | hq
 ·obtain ⟨its, r', pl, hz⟩ := I.list hq
  have hlen := r'.length
  obtain ⟨o, ho, hc, n, hd⟩ := pl.isList
  exact call_list_seq p (.inl rfl) ho hc hd (λ h' c' kp e => fin its r' hz h' c' kp e) (by simp only [Zt] <;> omega)
 ·obtain ⟨its, r', pl, hz⟩ := I.tuple hq
  have hlen := r'.length
  obtain ⟨o, ho, hc, n, hd⟩ := pl
  exact call_list_seq p (.inr rfl) ho hc hd (λ h' c' kp e => fin its r' hz h' c' kp e) (by simp only [Zt] <;> omega)
def tyV (K : PySem.W.Frag) (T : String) (x : V) (H : Hp) : Prop := match x with
 | .str _ => T = "str"
 | .int _ => T = "int"
 | .ref p => (T = "list" /\ ∃ xs, SqL K H p xs) ∨ (T = "tuple" /\ ∃ o, K.lookup p = some o /\ o.cls = .type "tuple" /\ o.dict = none) ∨
   (T = "dict" /\ ((∃ kvs, H p = some (.dK kvs)) ∨ ∃ kvs, H p = some (.dT kvs))) ∨ (T = "set" /\ ∃ S n, H p = some (.set S n))
 | _ => False
theorem QoO {pins : List (Addr × Obj)} {σ : St} {H : Hp} {s : Shared} {T : String} {x : V} {v : Value} (I : Inv X pins σ H s) (r : RelV x v) (ty : tyV X.K T x H) :
  s.TypeIs v T /\ ∀ a, v = .ref a -> ∃ ob, s.heap.get? a = some ob /\ ob.dict = none := by
 cases x with
 | str z =>
  obtain ⟨t, rfl⟩ := r
  cases (show T = "str" from ty)
  exact ⟨typeIs_str s z t, λ _ e => nomatch e⟩
 | int i =>
  obtain ⟨t, rfl⟩ := r
  cases (show T = "int" from ty)
  exact ⟨typeIs_int s i t, λ _ e => nomatch e⟩
 | ref p =>
  cases r
  rcases ty with ⟨rfl, xs, hq⟩ | ⟨rfl, o, hk, hc, hd⟩ | ⟨rfl, hk⟩ | ⟨rfl, S, n, hk⟩
  ·obtain ⟨its, _, pl, _⟩ := I.list hq
   refine ⟨pl.isList.typeIs, λ a e => ?_⟩
   cases e
   obtain ⟨o, n, e, c, hd, _⟩ := pl
   exact ⟨o, e, hd⟩
  ·refine ⟨⟨o, I.kIn p o hk, hc⟩, λ a e => ?_⟩
   cases e
   exact ⟨o, I.kIn _ o hk, hd⟩
  ·have z : ∃ o, s.heap.get? p = some o /\ o.ExactDict := by
    rcases hk with ⟨kvs, hk⟩ | ⟨kvs, hk⟩
    ·obtain ⟨_, _, _, _, o, _, _, e, ex, _⟩ := I.hok p _ hk
     exact ⟨o, e, ex⟩
    ·obtain ⟨_, _, _, _, o, _, _, e, ex, _⟩ := I.hok p _ hk
     exact ⟨o, e, ex⟩
   obtain ⟨o, e, ex⟩ := z
   refine ⟨⟨o, e, ex.1⟩, λ a e2 => ?_⟩
   cases e2
   exact ⟨o, e, ex.2.1⟩
  ·obtain ⟨o, _, _, _, e, ex, _⟩ := I.hok p _ hk
   refine ⟨⟨o, e, ex.1⟩, λ a e2 => ?_⟩
   cases e2
   exact ⟨o, e, ex.2.1⟩
 | _ => exact False.elim ty
noncomputable def Qvw (K : PySem.W.Frag) (T : String) (r : V -> List V -> Hp -> VK -> Prop) (to : TE) : TE := λ σ H Q => to σ H λ x H1 => tyV K T x H1 /\ r x [] H1 Q
noncomputable def tBM (K : PySem.W.Frag) (T : String) (r : V -> List V -> Hp -> VK -> Prop) (to : TE) (t : TA) : TE := λ σ H Q => to σ H λ x H1 => tyV K T x H1 /\ t σ H1 λ xs H2 => r x xs H2 Q
variable {o e : Expr} {es : List Expr} {to : TE} {t : TA} {name : Str} {apos cpos : Pos} {T id : String} {r : V -> List V -> Hp -> VK -> Prop}
theorem QpQ (pa : PlainAttrs T) (slot : Slot T name id) (hty : typeOf (.builtin id) = pure (.type "method_descriptor")) (hm : MtR X id r) (ho : PE X o to)
  (hbase : attributeBase o name X.env (eval o X.env) = eval o X.env := by rfl) (hline : (apos.endLine == cpos.line) = true := by rfl) : PE X (.Call (.Attribute o name apos) [] [] cpos) (Qvw X.K T r to) := by
 intro pins s σ H Q I h
 refine wpAny_Call_method0_late hbase hline (thn (ho pins s σ H _ I h) λ v s1 ⟨x, H1, I1, r1, ty, q1⟩ => ?_)
 obtain ⟨h1, h2⟩ := QoO I1 r1 ty
 exact ⟨T, id, pa, slot, hty, h1, h2, Calls.callWith_builtin rfl (PySem.evalArgs_none (hm pins s1 σ H1 x [] v [] Q I1 r1 .nil q1))⟩
theorem Qv0 (pa : PlainAttrs T) (slot : Slot T name id) (hty : typeOf (.builtin id) = pure (.type "method_descriptor")) (hm : MtR X id r) (ho : PE X o to) (ha : PA X (e :: es) t)
  (hbase : attributeBase o name X.env (eval o X.env) = eval o X.env := by rfl)
  (hfew : ((backTo cpos (starEach (e :: es) X.env)).all (λ x => !x.1) && (backToKw cpos (keywordEach [] X.env)).all (λ x => x.1.isSome)
   && decide ((e :: es).length + ([] : List Keyword).length + (if ([] : List Keyword).isEmpty then 0 else 1) < 30)) = true := by rfl)
  (hline : (apos.endLine == cpos.line) = true := by rfl) (hs : starEach (e :: es) X.env = (false, eval e X.env) :: starEach es X.env := by rfl) (hplain : (backTo cpos (starEach es X.env)).any (·.1) = false := by rfl) :
  PE X (.Call (.Attribute o name apos) (e :: es) [] cpos) (tBM X.K T r to t) := by
 intro pins s σ H Q I h
 refine wpAny_Call_method_late hbase hfew hline rfl (thn (ho pins s σ H _ I h) λ v s1 ⟨x, H1, I1, r1, ty, q1⟩ => ?_)
 obtain ⟨h1, h2⟩ := QoO I1 r1 ty
 refine ⟨T, id, pa, slot, hty, h1, h2, ?_⟩
 have hA := ha cpos pins s1 σ H1 _ I1 q1
 rw [hs] at hA ⊢
 refine Calls.callWith_builtin (by show (false || (backTo cpos (starEach es X.env)).any (·.1)) = false; rw [hplain] <;> rfl) (Calls.evalArgs_plain ?_)
 exact thn hA λ us s2 ⟨vs, H2, I2, r2, q2⟩ => hm pins s2 σ H2 x vs v us Q I2 r1 r2 q2
end
end L2
namespace L2
open PySem PySem.Spec PyProof.Rows
def MtM (X : Cx) (id : String) (r : V -> List V -> Hp -> VK -> Prop) : Prop :=
 ∀ (pins : List (Addr × Obj)) (s : Shared) (σ : St) (H : Hp) (x : V) (xs : List V) (v : Value) (us : List Value) (Q : VK), Inv X pins σ H s -> RelV x v -> Qy xs us -> r x xs H Q →
  wpAny (model X.prog X.w) X.A (call (.builtin id) (v :: us)) (EP X pins σ Q) X.xe s
theorem Qy.one : ∀ {x : V} {us : List Value}, Qy [x] us -> ∃ u, us = [u] /\ RelV x u
 | _, _, .cons r .nil => ⟨_, rfl, r⟩
theorem Qy.two : ∀ {x y : V} {us : List Value}, Qy [x, y] us -> ∃ u v, us = [u, v] /\ RelV x u /\ RelV y v
 | _, _, _, .cons r (.cons q .nil) => ⟨_, _, rfl, r, q⟩
theorem Qy.zero : ∀ {us : List Value}, Qy [] us -> us = []
 | _, .nil => rfl
theorem Qy.reverse {xs : List V} {us : List Value} (h : Qy xs us) : Qy xs.reverse us.reverse := by
 induction h with
 | nil => exact .nil
 | cons r t ih => rw [ZaZ, ZaZ]; exact Qy.append ih (.cons r .nil)
theorem Qy.rep {xs : List V} {us : List Value} (h : Qy xs us) : ∀ k : Nat, Qy (List.replicate k xs).flatten (List.replicate k us).flatten
 | 0 => .nil
 | k + 1 => by
  rw [ZV, ZV, Zac, Zac]
  exact Qy.append h (Qy.rep h k)
theorem foldl_rep (its : List Value) : ∀ (k : Nat) (acc : List Value),
  List.foldl (λ x1 x2 => x1 ++ x2) acc.toArray (List.replicate k its.toArray) = (acc ++ (List.replicate k its).flatten).toArray
 | 0, acc => by simp
 | k + 1, acc => by
  have e : acc.toArray ++ its.toArray = (acc ++ its).toArray := by simp
  have e2 : (acc ++ its) ++ (List.replicate k its).flatten = acc ++ (List.replicate (k + 1) its).flatten := by
   rw [ZV, Zac, ZaK]
  rw [← e2, ← foldl_rep its k (acc ++ its), ← e, ZV, List.foldl_cons]
section
variable {X : Cx} {pins : List (Addr × Obj)} {σ : St} {H : Hp} {s : Shared} {l b : Addr} {xs ys zs : List V}
theorem Inv.Quy {its its' : List Value} {n : Nat} {f : Array Value -> Array Value} {t' : Nat} (I : Inv X pins σ H s) (hH : H l = some (.lst xs))
  (e : s.heap.get? l = some { cls := .type "list", data := .seq its.toArray n }) (hf : f its.toArray = its'.toArray) (hv : Qy ys its') (hz : ys.length <= sizeLine) :
  Inv X pins σ (upd H l (.lst ys)) { s with heap := s.heap.update l (Obj.mapSeq f), toks := t' } := by
 have q := PySem.IsL.update e f
 rw [hf] at q
 refine I.write (x := l) (e := l) (by rw [hH]; exact trivial) (.inl rfl) (λ b' u hb hu => (Heap.get?_update_other s.heap (Obj.mapSeq f) (Ne.symm hb)).trans hu) ⟨_, q⟩ ?_
 exact ⟨hz, its', _, hv, q⟩
theorem Inv.Qt3 {its : List Value} {t' : Nat} (I : Inv X pins σ H s) (hv : Qy ys its) (hz : ys.length <= sizeLine) :
  Inv X pins σ (upd H s.heap.objs.size (.lst ys)) { s with heap := s.heap.push { cls := .type "list", data := .seq its.toArray }, toks := t' } :=
 I.laid (λ _ _ q => Zb _ q) (Zk _) ⟨hz, its, 0, hv, Zw _ rfl⟩
theorem Inv.fresh (I : Inv X pins σ H s) : H s.heap.objs.size = none := I.hok.fresh (Zk _)
theorem Inv.Qrm (I : Inv X pins σ H s) (hH : H l = some (.lst xs)) : xs.length <= sizeLine /\ ∃ (its : List Value) (n : Nat), Qy xs its /\ xs.length = its.length /\ s.heap.get? l = some { cls := .type "list", data := .seq its.toArray n } := by
 obtain ⟨z, its, n, r, e⟩ := I.hok l _ hH
 exact ⟨z, its, n, r, r.length, e⟩
theorem QqA {n : Nat} (h : n <= sizeLine) : Builtin.List.listTooLong n = false := by
 unfold Builtin.List.listTooLong
 exact decide_eq_false (by omega)
end
section
variable {X : Cx}
noncomputable def QmY : V -> List V -> Hp -> VK -> Prop := λ x vs H Q => ∃ l xs y, x = .ref l /\ vs = [y] /\ H l = some (.lst xs) /\ xs.length < sizeLine /\ Q .non (upd H l (.lst (xs ++ [y])))
theorem QjV : MtM X "list.append" QmY := by
 intro pins s σ H x vs v us Q I rx rv h
 obtain ⟨l, xs, y, rfl, rfl, hH, hz, q⟩ := h
 cases rx
 obtain ⟨u, rfl, ru⟩ := rv.one
 obtain ⟨z, its, n, r, hl, e⟩ := I.Qrm hH
 refine call_meets F.slot_list_append ⟨_, e, rfl⟩ F.entry_list_append (F.args_list_append_2 _ _) (PySem.list_append l its.toArray n u (by rw [Zt]; omega)) ⟨e, ?_⟩
 refine ⟨.non, _, I.Quy (its' := its ++ [u]) hH e (by simp) (r.append (.cons ru .nil)) ?_, rfl, q⟩
 rw [Zq, Zbc]
 omega
noncomputable def QoP : V -> List V -> Hp -> VK -> Prop := λ x vs H Q => ∃ l xs, x = .ref l /\ vs = [] /\ H l = some (.lst xs) /\ Q .non (upd H l (.lst []))
theorem QqE : MtM X "list.clear" QoP := by
 intro pins s σ H x vs v us Q I rx rv h
 obtain ⟨l, xs, rfl, rfl, hH, q⟩ := h
 cases rx
 have hus := rv.zero
 subst hus
 obtain ⟨z, its, n, r, hl, e⟩ := I.Qrm hH
 refine call_meets F.slot_list_clear ⟨_, e, rfl⟩ F.entry_list_clear (F.args_list_clear_1 _) (AutoSeq1.list_clear_list_0 l its.toArray n (by rw [Zt]; omega)) ⟨e, ?_⟩
 exact ⟨.non, _, I.Quy (its' := []) (ys := []) hH e rfl .nil (ZX _), rfl, q⟩
theorem len_rep {α : Type} (xs : List α) (k : Nat) : (List.replicate k xs).flatten.length = k * xs.length := by
 induction k with
 | zero => simp
 | succ k ih => rw [ZV, Zac, Zq, ih, Nat.succ_mul, Nat.add_comm]
end
section
variable {prog : Program} {w : World} {A : Around} {E : Value -> Shared -> Prop} {s : Shared}
end
section
variable {X : Cx}
end
end L2
namespace Att
open PySem PySem.W PySem.Calls PyProof.Rows
theorem Qih {P : Params} {h : Heap} : ∀ (ns : List Int) (vs : List Value), WellAll P h vs (ns.map WData.int) -> IntsAre vs ns := by
 intro ns
 induction ns with
 | nil =>
  intro vs w
  rw [List.map_nil] at w
  cases w
  exact .nil
 | cons n ns ih =>
  intro vs w
  rw [ZG] at w
  cases w with
  | cons a b =>
   cases a
   exact .cons _ _ (ih _ b)
theorem QjZ {l : OpenLaw} {n : Nat} (hn : l.most = some n) {P : Params} {h : Heap} {args : List WData} {vals : List Value}
  (hpre : l.row.toRowW.claim.pre args = true) (hwl : WellAll P h vals args) :
  ∃ a vs ns, vals = [Value.ref a] /\ args = [WData.list (ns.map WData.int)] /\ h.get? a = some { cls := .type "list", data := .seq vs.toArray } /\ IntsAre vs ns /\ ns.length <= n := by
 have hsh : WShape.hasAll [] args [.list .int] = true := (pre_splitW hpre).1
 have hc : l.pre.holds [] { args := args } = true := (pre_splitW hpre).2
 obtain ⟨d, r, rfl, h1, h2⟩ := hasAllW_cons hsh
 obtain rfl := hasAllW_nil h2
 obtain ⟨xs, rfl, h3⟩ := hasW_list h1
 obtain ⟨ns, rfl⟩ := items_int h3
 have hlen : ns.length <= n := by
  unfold OpenLaw.pre at hc
  have h4 : (WTm.not (.lt (.lit (.int (n : Int))) (.len (.arg 0)))).holds [] { args := [.list (ns.map .int)] } = true := by
   have h4 := (holds_andW hc).1
   rw [hn] at h4
   exact h4
  have h5 := condW_of h4 (w_not (w_lt w_lit (w_len_list (w_arg rfl))))
  rw [Zh] at h5
  refine Nat.le_of_not_lt λ q => ?_
  have q' : (n : Int) < ((ns.length : Nat) : Int) := by omega
  first
   | (rw [decide_eq_true q'] at h5; exact absurd h5 (by decide))
   | (simp at h5; omega)
 cases hwl with
 | cons w1 w2 =>
  cases w2
  cases w1 with
  | list ho hall => exact ⟨_, _, ns, rfl, rfl, ho, Qih ns _ hall, hlen⟩
theorem QjG (l : OpenLaw) (args : List WData) : l.row.toRowW.claim.post args (.bool true) args = true :=
 postW_of (r := l.row.toRowW) (X := (true == true))
  (show WShape.has [] (.bool true) .bool = true by first | rfl | decide | simp [WShape.has, WShape.arms, WShape.armsAll])
  (show (WTm.eq .res (.lit (.bool true))).value [] { args := args, res := some (.bool true), after := args } = some (.bool (true == true)) from w_eq_bool (w_res rfl) w_lit) rfl
theorem Qmq {l : OpenLaw} {n : Nat} {q : Program} {loose : List Str} {XP : (Str -> Option Value) -> Heap -> Prop} {YP : World -> Heap -> Prop} {d : DefRec}
  (hn : l.most = some n) (hdf : d.params.defaults = [])
  (call : ∀ (w : World) (s₀ s₁ : Shared) (mg mb : Str -> Option Value) (fa : Addr) (o : Obj) (pm cd doc : Value) (a : Addr) (vs : List Value) (ns : List Int),
   Ground q loose [] XP w s₀ mg mb s₁.heap -> YP w s₁.heap →
   s₁.heap.get? fa = some o -> o.data = .func (docDef d.name d.params d.body d.scope pm cd doc) -> s₁.heap.CodeRec cd d.name -> mg d.name = some (.ref fa) →
   s₁.heap.get? a = some { cls := .type "list", data := .seq vs.toArray } -> IntsAre vs ns -> ns.length <= n -> s₁.gens = #[] →
   codeAny (model l.prog w) callerA (.call (.ref fa) ⟨[.ref a], []⟩) (λ r s' => r = .ok (.ret (.bool true)) /\ OldK s₁.heap s'.heap /\ s'.os = s₁.os /\ AllBare s'.gens) s₁) :
  WalkO q loose XP YP l.row.toRowW d [] (λ f vs => PySem.call f vs) := by
 intro w s₀ s₁ mg mb G Y fa o pm cd doc dV kV ho hd hcd hD hmg hg args vals as hpre hlay hrd hwl hlo
 obtain rfl : dV = .none := Dflts.none hD hdf
 obtain rfl : kV = .none := Dflts.noKw hD
 obtain ⟨a, vs, ns, rfl, rfl, hobj, hints, hlen⟩ := QjZ hn hpre hwl
 refine enter_call (codeAny_mono (call w s₀ s₁ mg mb fa o pm cd doc a vs ns G Y ho (fd_plain hd) hcd hmg hobj hints hlen hg) λ r s' hq => ?_)
 obtain ⟨rfl, h2, h3, h4⟩ := hq
 exact ⟨.inl ⟨.bool true, .bool true, [], rfl, λ _ => rfl, .bool true, QjG l _, λ _ => ⟨List.Pairwise.nil, λ _ hm => (nomatch hm)⟩⟩, h2, h3, h4⟩
section
variable {prog : Program} {w : World} {A : Around} {E : Value -> Shared -> Prop} {s : Shared} {K : Frag}
noncomputable def ledger (h : Heap) (L d : Addr) : List (Addr × Obj) := (List.range h.objs.size).filterMap λ a => if a = L ∨ a = d then none else (h.get? a).map λ o => (a, o)
end
end Att
namespace L2
open PySem PySem.Spec PyProof.Rows
theorem Qcv : ∀ {vs : List Value} {ns : List Int}, IntsAre vs ns -> Qy (ns.map V.int) vs
 | _, _, .nil => .nil
 | _, _, .cons n t h => .cons ⟨t, rfl⟩ (Qcv h)
def Qqi (H : Hp) : Prop := ∀ b, H b = none ∨ ∃ o xs, H b = some (.frz o (.lst xs))
theorem QlW {P : Program} {w : World} {K : PySem.W.Frag} {mg mb : Str -> Option Value} {CX : CXT} {k : Nat} {fa a : Addr} {fd : FuncData} {x : Str} {sp : Sp} {s₁ : Shared} {vs : List Value} {ns : List Int}
  (KX : K.In s₁.heap) (hns : s₁.heap.Ns mainGlobals mg) (hb : s₁.heap.Ns builtinsNs mb) (hbb : ∀ x : Str, x ≠ "__name__" -> mb x = bootBuiltins x) (hlim : s₁.heap.NoLimit) (hg : s₁.gens = #[])
  (ha : s₁.heap.get? a = some { cls := .type "list", data := .seq vs.toArray }) (hi : IntsAre vs ns) (hl : ns.length <= sizeLine) (hr : QaA k callerA)
  (F : ∀ base : Heap, K.In base -> base.Ns mainGlobals mg -> Qct P w K mg base CX k fa fd [x] sp) (hbind : ∀ (s : Shared) (u : Value), BindsTo s fd ⟨[u], []⟩ [(x, u)])
  (hsp : ∀ H : Hp, Qqi H -> SqL K H a (ns.map V.int) -> sp [.ref a] H (λ v _ => v = .bl true) λ _ _ _ => False)
  (hCX : ∀ H e s', CX [] H s₁ (λ _ _ _ => False) e s' -> False) :
  codeAny (model P w) callerA (.call (.ref fa) ⟨[.ref a], []⟩) (λ r s' => r = .ok (.ret (.bool true)) /\ OldK s₁.heap s'.heap /\ s'.os = s₁.os /\ AllBare s'.gens) s₁ := by
 have rv := Qcv hi
 have lenV := hi.length
 have core : ∀ H : Hp, Qqi H -> SqL K H a (ns.map V.int) -> HOk P w H s₁.heap -> (∀ b, H b ≠ none -> b = a) -> (H a ≠ none -> K.lookup a = none) →
   codeAny (model P w) callerA (.call (.ref fa) ⟨[.ref a], []⟩) (λ r s' => r = .ok (.ret (.bool true)) /\ OldK s₁.heap s'.heap /\ s'.os = s₁.os /\ AllBare s'.gens) s₁ := by
  intro H hO hS hok hA hK
  have base_of : ∀ {b : Addr} {o : Obj}, s₁.heap.get? b = some o -> H b = none -> (Qfx s₁.heap H).get? b = some o := λ e n => QqS e n
  have noA : ∀ {b : Addr} {o : Obj} {es : Array DictEntry} {ep : Nat}, s₁.heap.get? b = some o -> o.data = .dict es ep -> H b = none := λ {b o es ep} e d => by
   cases q : H b with
   | none => rfl
   | some u =>
    have e' : b = a := hA b (by rw [q]; simp)
    subst e'
    rw [ha] at e; cases e
    have d' : Data.seq vs.toArray _ = Data.dict es ep := d
    cases d'
  have nsK : ∀ {b : Addr} {m : Str -> Option Value}, s₁.heap.Ns b m -> (Qfx s₁.heap H).Ns b m := λ {b m} ⟨o, es, ep, e, d, r⟩ => ⟨o, es, ep, base_of e (noA e d), d, r⟩
  have hKb : K.In (Qfx s₁.heap H) := λ b o e => base_of (KX b o e) (by
   cases q : H b with
   | none => rfl
   | some u =>
    have e' : b = a := hA b (by rw [q]; simp)
    subst e'
    rw [hK (by rw [q]; simp)] at e; cases e)
  have hM : Mod K mg (Qfx s₁.heap H) := ⟨hKb, nsK hns, ⟨mb, nsK hb, hbb⟩, let ⟨mc, h1, h2⟩ := hlim; ⟨mc, nsK h1, h2⟩⟩
  have e0 : QeV P w K mg (Qfx s₁.heap H) callerA [] s₁ H := ⟨rfl, hM, λ b o e => QsL e, Nat.le_of_eq (QpI _ _), trivial, λ b hb => absurd (show b ∈ ([] : List Addr) from hb) (by simp), hok, .of_eq hg⟩
  refine codeAny_mono ((F _ hKb (nsK hns)).run callerA [] s₁ H ⟨[.ref a], []⟩ [.ref a] [.ref a] _ _ hr e0 (hbind s₁ (.ref a)) (.cons rfl .nil) (hsp H hO hS)) λ r s' h => ?_
  cases r with
  | error e => exact (hCX H e s' h).elim
  | ok fl =>
   cases fl with
   | next => exact False.elim h
   | brk => exact False.elim h
   | cont => exact False.elim h
   | ret u =>
    obtain ⟨v, H', os, bare, un, hok', r', q⟩ := h
    have q' : v = .bl true := q
    subst q'
    obtain rfl : u = Value.bool true := r'
    refine ⟨rfl, OldK.of_keep λ b o e => ?_, os, bare⟩
    cases q : H b with
    | none => exact un.keep b o e q (by intro z; exact absurd (show b ∈ ([] : List Addr) from z) (by simp)) (by simp)
    | some u =>
     rcases hO b with z | ⟨ob, xs, z⟩
     ·rw [q] at z; cases z
     ·have z2 := un.frzs b ob _ z
      obtain ⟨e1, _⟩ := hok b _ z
      obtain ⟨e2, _⟩ := hok' b _ z2
      rw [e] at e1; cases e1
      exact e2
 cases hk : K.lookup a with
 | some o =>
  have e := KX a o hk
  rw [ha] at e
  cases e
  refine core (λ _ => none) (λ _ => .inl rfl) (.inr ⟨_, vs.toArray, _, hk, rfl, rfl, rfl, by rw [Zt, lenV]; exact hl, by simpa using rv⟩) (λ b u z => by have z' : (none : Option HO) = some u := z; cases z') (λ b z => absurd rfl z) λ z => absurd rfl z
 | none =>
  refine core (λ b => if b = a then some (.frz { cls := .type "list", data := .seq vs.toArray } (.lst (ns.map V.int))) else none) (λ b => ?_) (.inl (.inr ⟨{ cls := .type "list", data := .seq vs.toArray }, if_pos rfl⟩)) (λ b u z => ?_) (λ b z => ?_) λ _ => hk
  ·by_cases hb : b = a
   ·exact .inr ⟨_, _, if_pos hb⟩
   ·exact .inl (if_neg hb)
  ·by_cases hb : b = a
   ·have z' := (if_pos hb).symm.trans z
    cases z'
    subst hb
    exact ⟨ha, by rw [Zh]; exact hl, vs, _, rv, ha⟩
   ·have z' := (if_neg hb).symm.trans z
    cases z'
  ·by_cases hb : b = a
   ·exact hb
   ·exact absurd (if_neg hb) z
end L2
namespace L2
open PySem PySem.Spec PyProof.Rows
noncomputable abbrev KOf {K : PySem.W.Frag} {h : Heap} (_ : K.In h) : PySem.W.Frag := K
theorem Qxm {l : PySem.W.OpenLaw} {n k : Nat} {q : Program} {loose : List Str} {XP : (Str -> Option Value) -> Heap -> Prop} {YP : World -> Heap -> Prop} {d : DefRec} {K : Params -> PySem.W.Frag} {CX : World -> CXT} {sp : World -> Sp} {x : Str}
  (hn : l.most = some n) (hn2 : n <= sizeLine) (hdf : d.params.defaults = []) (hr : QaA k callerA)
  (hY : ∀ (w : World) (h : Heap), YP w h -> (K w.params).In h)
  (F : ∀ (w : World) (mg : Str -> Option Value) (fa : Addr) (h : Heap), (K w.params).In h -> h.Ns mainGlobals mg -> mg d.name = some (.ref fa) →
   ∃ fd : FuncData, (∀ (s : Shared) (u : Value), BindsTo s fd ⟨[u], []⟩ [(x, u)]) ∧
    ∀ base : Heap, (K w.params).In base -> base.Ns mainGlobals mg -> Qct l.prog w (K w.params) mg base (CX w) k fa fd [x] (sp w))
  (hsp : ∀ (w : World) (H : Hp) (a : Addr) (ns : List Int), ns.length <= n -> Qqi H -> SqL (K w.params) H a (ns.map V.int) -> sp w [.ref a] H (λ v _ => v = .bl true) λ _ _ _ => False)
  (hCX : ∀ (w : World) (H : Hp) (s : Shared) (e : Value) (s' : Shared), CX w [] H s (λ _ _ _ => False) e s' -> False) :
  PySem.W.WalkO q loose XP YP l.row.toRowW d [] (λ f vs => PySem.call f vs) := by
 refine Att.Qmq hn hdf λ w s₀ s₁ mg mb fa o pm cd doc a vs ns G Y ho hd hcd hmg hobj hints hlen hg => ?_
 have KX := hY w _ Y
 obtain ⟨fd, hb, hF⟩ := F w mg fa _ KX G.T.g hmg
 exact QlW KX G.T.g G.T.b G.T.builtins G.T.nolimit hg hobj hints (Zx hlen hn2) hr hF hb (λ H hO hS => hsp w H a ns hlen hO hS) λ H e s' => hCX w H s₁ e s'
end L2
namespace L2
open PySem PySem.Spec PyProof.Rows
noncomputable def Qd7 (s : Stmt) : Arguments := match s with
 | .FunctionDef _ a _ _ _ _ _ _ _ _ => a
 | _ => { posonlyargs := [], args := [], vararg := none, kwonlyargs := [], kw_defaults := [], kwarg := none, defaults := [] }
noncomputable def QbE (s : Stmt) : List Stmt := match s with
 | .FunctionDef _ _ b _ _ _ _ _ _ _ => b
 | _ => []
noncomputable def QD (s : Stmt) : Scope := match s with
 | .FunctionDef _ _ _ _ _ _ sc _ _ _ => sc
 | _ => { kind := .function, names := [], isGenerator := false, isCoroutine := false }
noncomputable abbrev CX0 : CXT := λ _ _ _ _ _ _ => False
noncomputable abbrev E0 : XK := λ _ _ _ => False
theorem Qr3 {X : Cx} : Qiu CX0 X E0 := λ _ _ _ _ _ _ _ h => h.elim
structure Fun (K : PySem.W.Frag) (x qual : Str) (st : Stmt) (f : Addr) (fd : FuncData) : Prop where
 ex : ∃ (oc : Value) (od : Option Addr) (kV doc pm : Value) (an : Option Addr) (cdv ct : Value) (osl : Array (Option Value)),
  fd = PySem.W.fnOf x qual (Qd7 st) (QbE st) (QD st) .none kV doc pm an cdv ct /\ K.lookup f = some ⟨oc, od, .func fd, osl⟩ /\ PySem.W.codeIn K cdv qual = true
 kp : PySem.W.keepIn K (.ref f) = true
section
variable {P : Program} {w : World} {K : PySem.W.Frag} {mg : Str -> Option Value} {base : Heap}
theorem Fun.ok {x qual : Str} {st : Stmt} {f : Addr} {fd : FuncData} {N ps : List Str} {k : Nat} {sp : Sp} (F : Fun K x qual st f fd) (S : Qc4 N ps (QD st)) (len : ∀ vs H Q E, sp vs H Q E -> vs.length = ps.length)
  (hbody : ∀ (cdv : Value) (A : Around) (outer : List Env) (s : Shared) (H : Hp) (vs : List V) (Q : VK) (E : XK), QaA k (A.deeper (envOfC qual (QD st) s.heap.objs.size f cdv)) -> sp vs H Q E →
   ∃ t, PSs (Qhy CX0 P w K mg base N qual (QD st) f cdv A outer s H E).nox (QbE st) t /\ t { nx := λ _ H' => Q .non H', rt := Q } (start N vs) H) : Qct P w K mg base CX0 (k + 1) f fd ps sp := by
 obtain ⟨oc, od, kV, doc, pm, an, cdv, ct, osl, rfl, lk, hcd⟩ := F.ex
 refine QvM lk hcd S len λ A outer s H vs Q E hr hsp => ?_
 obtain ⟨t, h, q⟩ := hbody cdv A outer s H vs Q E hr hsp
 exact ⟨t, h.nox, q⟩
theorem Fun.binds {x qual : Str} {st : Stmt} {f : Addr} {fd : FuncData} {ps : List Str} (F : Fun K x qual st f fd)
  (h : ∀ (kV doc pm : Value) (an : Option Addr) (cdv ct : Value) (us : List Value), us.length = ps.length -> bindArgs (PySem.W.fnOf x qual (Qd7 st) (QbE st) (QD st) .none kV doc pm an cdv ct) ⟨us, []⟩ = pure (ps.zip us)) : Binds K fd ps [] := by
 obtain ⟨oc, od, kV, doc, pm, an, cdv, ct, osl, rfl, lk, hcd⟩ := F.ex
 exact .all (h kV doc pm an cdv ct)
theorem Quk {x qual : Str} {st : Stmt} {f : Addr} {oc : Value} {od an : Option Addr} {osl : Array (Option Value)} {kV doc pm cdv ct : Value} (l : K.lookup f = some ⟨oc, od, .func (PySem.W.fnOf x qual (Qd7 st) (QbE st) (QD st) .none kV doc pm an cdv ct), osl⟩)
  (c : PySem.W.codeIn K cdv qual = true) (k : PySem.W.keepIn K (.ref f) = true) : Fun K x qual st f (PySem.W.fnOf x qual (Qd7 st) (QbE st) (QD st) .none kV doc pm an cdv ct) := ⟨⟨oc, od, kV, doc, pm, an, cdv, ct, osl, rfl, l, c⟩, k⟩
end
section
variable {X : Cx}
theorem pv (i : Nat) {x : Str} {pos : Pos} (hN : X.N[i]? = some x := by rfl) (hv : Vis X.env.scope x := by first | exact Or.inl rfl | exact Or.inr (Or.inl rfl) | exact Or.inr (Or.inr rfl)) (hd : (x == ("__debug__" : Str)) = false := by decide)
  (hcd : (x == ("__classdict__" : Str)) = false := by decide) : PE X (.Name x pos) (QlF i) := QoT hN hv hd hcd
end
theorem Qp9 {A B : Prop} (h : B) : if false = true then A else B := by
 rw [if_neg Zag]
 exact h
theorem Qqu {A B : Prop} (h : A) : if true = true then A else B := by
 rw [if_pos rfl]
 exact h
def QK (H H' : Hp) : Prop := ∀ b o, H b = some o -> H' b = some o
theorem QK.refl (H : Hp) : QK H H := λ _ _ h => h
theorem QK.trans {H H1 H2 : Hp} (a : QK H H1) (b : QK H1 H2) : QK H H2 := λ c o h => b c o (a c o h)
theorem QK.free {H H' : Hp} (e : QK H H') {l : Addr} (h : H' l = Option.none) : H l = Option.none := by
 cases q : H l with
 | none => rfl
 | some o =>
  rw [e l o q] at h
  cases h
theorem QK.seq {K : PySem.W.Frag} {H H' : Hp} {a : Addr} {xs : List V} (e : QK H H') (h : SqL K H a xs) : SqL K H' a xs := by
 rcases h with (h | ⟨o, h⟩) | h
 ·exact .inl (.inl (e _ _ h))
 ·exact .inl (.inr ⟨o, e _ _ h⟩)
 ·exact .inr h
end L2
namespace L2
open PySem PySem.Spec PyProof.Rows
theorem QiZ (env : Env) (body : Str × NameKind -> List (Str × Addr) -> Sem (ForInStep (List (Str × Addr))))
  (hb : ∀ n k cs, body (n, k) cs = if (k == NameKind.free) = true then (do let c ← cellOf env n; pure (ForInStep.yield ((n, c) :: cs))) else pure (ForInStep.yield cs)) :
  ∀ (names : List (Str × NameKind)) (acc : List (Str × Addr)), (∀ y ∈ names, y.2 = .free -> ∃ c, env.cells.lookup y.1 = some c) -> (∀ x c, acc.lookup x = some c -> env.cells.lookup x = some c) →
   ∃ cl, forIn names acc body = (pure cl : Sem _) /\ (∀ x c, cl.lookup x = some c -> env.cells.lookup x = some c) /\ (∀ x, acc.lookup x ≠ none -> cl.lookup x ≠ none) /\ ∀ y ∈ names, y.2 = .free -> cl.lookup y.1 ≠ none
 | [], acc, _, ha => ⟨acc, rfl, ha, λ _ h => h, λ y hy => by simp at hy⟩
 | (n, k) :: r, acc, hn, ha => by
  rw [ZbN, hb]
  have hr : ∀ y ∈ r, y.2 = .free -> ∃ c, env.cells.lookup y.1 = some c := λ y hy => hn y (Zc _ hy)
  by_cases hk : k = .free
  ·subst hk
   obtain ⟨c, hc⟩ := hn (n, .free) Zi rfl
   have hce : cellOf env n = pure c := by unfold cellOf; rw [show env.cells.lookup n = some c from hc]
   rw [if_pos (by rfl), hce]
   obtain ⟨cl, e, h1, h2, h3⟩ := QiZ env body hb r ((n, c) :: acc) hr (λ x c' e => by
    rw [Zr] at e
    cases q : x == n with
    | true => rw [q] at e; cases e; rw [beq_iff_eq] at q; rw [q]; exact hc
    | false => rw [q] at e; exact ha x c' e)
   have hcons : ∀ x, ((n, c) :: acc).lookup x ≠ none -> cl.lookup x ≠ none := h2
   refine ⟨cl, by simpa using e, h1, λ x hx => hcons x ?_, λ y hy hf => ?_⟩
   ·rw [Zr]; cases x == n with
    | true => simp
    | false => exact hx
   ·rcases Zv.mp hy with rfl | hy
    ·exact hcons _ (by simp [Zr])
    ·exact h3 y hy hf
  ·rw [if_neg (by simpa using hk)]
   obtain ⟨cl, e, h1, h2, h3⟩ := QiZ env body hb r acc hr ha
   refine ⟨cl, by simpa using e, h1, h2, λ y hy hf => ?_⟩
   rcases Zv.mp hy with rfl | hy
   ·exact absurd hf hk
   ·exact h3 y hy hf
theorem Qs6 {scope : Scope} {env : Env} (h : ∀ y ∈ scope.names, y.2 = .free -> ∃ c, env.cells.lookup y.1 = some c) :
  ∃ cl, closureFor scope env = pure cl /\ (∀ x c, cl.lookup x = some c -> env.cells.lookup x = some c) /\ ∀ y ∈ scope.names, y.2 = .free -> ∃ c, cl.lookup y.1 = some c := by
 unfold closureFor
 obtain ⟨cl, e, h1, _, h3⟩ := QiZ env (λ x cs => match x with | (name, kind) => if (kind == NameKind.free) = true then (do let c ← cellOf env name; pure (ForInStep.yield ((name, c) :: cs))) else pure (ForInStep.yield cs)) (λ _ _ _ => rfl) scope.names [] h (λ x c e => by simp at e)
 refine ⟨cl, ?_, h1, λ y hy hf => Option.ne_none_iff_exists'.mp (h3 y hy hf)⟩
 show (forIn scope.names [] _ >>= λ r => pure r) = _
 rw [e]; rfl
noncomputable def cxc (X : Cx) (N' : List Str) (scope : Scope) (cl : List (Str × Addr)) (C : Addr) (fp : List Addr) (s3 : Shared) (H3 : Hp) : Cx :=
 { X with N := N', s₀ := s3, H₀ := H3, env := compEnvC scope cl C X.env, outer := X.stack, ex := fp, fn := λ x => decide (scope.names.lookup x = some .cell), pn := [], xe := λ _ _ => False }
def PTs (X : Cx) (ifs : List Expr) (t : TT) : Prop :=
 ∀ (pins : List (Addr × Obj)) (s : Shared) (σ : St) (H : Hp) (Q : Bool -> Hp -> Prop), Inv X pins σ H s -> t σ H Q →
  wpAny (model X.prog X.w) X.A (forIn ifs true λ c r => if r = true then do let ok ← isTrue c X.env (eval c X.env); pure (ForInStep.yield ok) else pure (ForInStep.yield r)) (TP X pins σ Q) X.xe s
noncomputable def Qxk : TT := λ _ H Q => Q true H
theorem QsR {X : Cx} : PTs X [] Qxk := λ _ _ _ H _ I h => wpAny_tests_nil ⟨H, I, h⟩
theorem Qsf {X : Cx} {c : Expr} {t : TT} (h : PT X c t) : PTs X [c] t := λ pins s σ H Q I q => wpAny_tests_one (h pins s σ H Q I q)
def Qh5 (X : Cx) (N' : List Str) (scope : Scope) (σ σ' : St) : Prop :=
 σ'.length = N'.length /\ ∀ (j : Nat) (x : Str) (v : V), N'[j]? = some x -> σ'[j]? = some (some v) -> scope.names.lookup x = some .free /\ ∃ i : Nat, X.N[i]? = some x /\ σ[i]? = some (some v) /\ (X.env.kindOf x = some .cell ∨ X.env.kindOf x = some .free)
noncomputable def Qkt (wi : TI) (cap : St -> St -> Prop) (g : TG) (tc : TT) (te : TE) : TE := λ σ H Q => wi σ H λ J H1 => ∃ σc, cap σ σc /\ ∀ D, H1 D = none -> ∃ W : Nat -> Nat -> List V -> Hp -> Prop,
 (∃ m, W 0 m [] (upd H1 D (.lst []))) /\ ∀ i m acc H2, W i m acc H2 -> (J.stop i H2 /\ Q (.ref D) H2) ∨
  (J.go i H2 /\ ∀ x H3, J.yld i H2 x H3 -> g x σc H3 λ σ2 H4 => (∀ (j : Nat) v, σc[j]? = some (some v) -> σ2[j]? = some (some v)) /\ tc σ2 H4 λ b H5 => if b = true then
   te σ2 H5 λ y H6 => H6 D = some (.lst acc) /\ acc.length < sizeLine /\ ∃ m', m' < m /\ W (i + 1) m' (acc ++ [y]) (upd H6 D (.lst (acc ++ [y])))
   else ∃ m', m' < m /\ W (i + 1) m' acc H5)
theorem Qck {env : Env} : ∀ {names : List (Str × NameKind)} {x : Str}, names.lookup x = some .free →
  (names.map λ (n, k) => if (k == NameKind.free && env.scope.kind == .function && env.kindOf n == some .cell) then (n, NameKind.cell) else (n, k)).lookup x = some .cell ∨
  (names.map λ (n, k) => if (k == NameKind.free && env.scope.kind == .function && env.kindOf n == some .cell) then (n, NameKind.cell) else (n, k)).lookup x = some .free
 | [], _, h => by simp at h
 | (n, k) :: r, x, h => by
  have ih := @Qck env r x
  rw [ZG]
  cases hx : x == n with
  | true =>
   simp only [Zr, hx] at h
   cases h
   dsimp only
   split
   ·left; simp [Zr, hx]
   ·right; simp [Zr, hx]
  | false =>
   simp only [Zr, hx] at h
   dsimp only
   split
   ·simp only [Zr, hx]; exact ih h
   ·simp only [Zr, hx]; exact ih h
theorem QdP {env : Env} : ∀ {names : List (Str × NameKind)} {x : Str},
  ((names.map λ (n, k) => if (k == NameKind.free && env.scope.kind == .function && env.kindOf n == some .cell) then (n, NameKind.cell) else (n, k)).lookup x = some .cell ∨
  (names.map λ (n, k) => if (k == NameKind.free && env.scope.kind == .function && env.kindOf n == some .cell) then (n, NameKind.cell) else (n, k)).lookup x = some .free) →
  ∃ k, (x, k) ∈ names /\ (k = .free ∨ k = .cell)
 | [], _, h => by simp at h
 | (n, k) :: r, x, h => by
  have ih := @QdP env r x
  rw [ZG] at h
  cases hx : x == n with
  | true =>
   have hn : x = n := by simpa using hx
   subst hn
   dsimp only at h
   split at h
   ·rename_i hc
    simp only [Zl] at hc
    refine ⟨k, Zi, .inl (by simpa using hc.1.1)⟩
   ·simp only [Zr, hx] at h
    refine ⟨k, Zi, ?_⟩
    rcases h with h | h
    ·exact .inr (Option.some.inj h)
    ·exact .inl (Option.some.inj h)
  | false =>
   dsimp only at h
   have : ∃ k, (x, k) ∈ r /\ (k = .free ∨ k = .cell) := by
    apply ih
    split at h
    ·simpa only [Zr, hx] using h
    ·simpa only [Zr, hx] using h
   obtain ⟨k', h1, h2⟩ := this
   exact ⟨k', Zc _ h1, h2⟩
theorem Qfp : ∀ (names : List (Str × NameKind)) (n : Nat) (acc : List (Str × Addr)) (x : Str) (c : Addr), (cellsFrom n names acc).lookup x = some c -> acc.lookup x = some c ∨ (n <= c /\ (x, NameKind.cell) ∈ names)
 | [], _, _, _, _, h => .inl h
 | (nm, k) :: r, n, acc, x, c, h => by
  unfold cellsFrom at h
  split at h
  ·rename_i hk
   have hk : k = .cell := by simpa using hk
   rcases Qfp r (n + 1) ((nm, n) :: acc) x c h with h | ⟨h1, h2⟩
   ·rw [Zr] at h
    cases q : x == nm with
    | true =>
     rw [q] at h
     cases h
     have : x = nm := by simpa using q
     exact .inr ⟨Zk _, by rw [this, hk]; exact Zi⟩
    | false => rw [q] at h; exact .inl h
   ·exact .inr ⟨by omega, Zc _ h2⟩
  ·rcases Qfp r n acc x c h with h | ⟨h1, h2⟩
   ·exact .inl h
   ·exact .inr ⟨h1, Zc _ h2⟩
theorem QlS : ∀ (names : List (Str × NameKind)) (n : Nat) (acc : List (Str × Addr)) (x : Str) (c : Addr), (x, NameKind.cell) ∈ names -> (cellsFrom n names acc).lookup x = some c -> n <= c
 | (nm, k) :: r, n, acc, x, c, hm, h => by
  unfold cellsFrom at h
  split at h
  ·by_cases hr : (x, NameKind.cell) ∈ r
   ·have := QlS r (n + 1) _ x c hr h
    omega
   ·have hx : x = nm := by
     rcases Zv.mp hm with e | e
     ·exact (Prod.mk.inj e).1
     ·exact absurd e hr
    rcases Qfp r (n + 1) ((nm, n) :: acc) x c h with h | ⟨h1, _⟩
    ·rw [Zr, show (x == nm) = true by simpa using hx] at h
     cases h
     exact Zk _
    ·omega
  ·rename_i hk
   rcases Zv.mp hm with e | e
   ·exact absurd (by rw [← (Prod.mk.inj e).2]; rfl) hk
   ·exact QlS r n acc x c e h
theorem QlY : ∀ (names : List (Str × NameKind)) (n : Nat) (acc : List (Str × Addr)), (∀ x y c, acc.lookup x = some c -> acc.lookup y = some c -> x = y) -> (∀ x c, acc.lookup x = some c -> c < n) →
  ∀ x y c, (cellsFrom n names acc).lookup x = some c -> (cellsFrom n names acc).lookup y = some c -> x = y
 | [], _, _, hi, _, x, y, c, h1, h2 => hi x y c h1 h2
 | (nm, k) :: r, n, acc, hi, hb, x, y, c, h1, h2 => by
  unfold cellsFrom at h1 h2
  split at h1
  ·rename_i hk
   rw [if_pos hk] at h2
   refine QlY r (n + 1) ((nm, n) :: acc) (λ x y c h1 h2 => ?_) (λ x c h => ?_) x y c h1 h2
   ·rw [Zr] at h1 h2
    cases qx : x == nm with
    | true =>
     rw [qx] at h1
     cases h1
     cases qy : y == nm with
     | true => rw [show x = nm by simpa using qx, show y = nm by simpa using qy]
     | false => rw [qy] at h2; exact absurd (hb y _ h2) (ZR _)
    | false =>
     rw [qx] at h1
     cases qy : y == nm with
     | true => rw [qy] at h2; cases h2; exact absurd (hb x _ h1) (ZR _)
     | false => rw [qy] at h2; exact hi x y c h1 h2
   ·rw [Zr] at h
    cases qx : x == nm with
    | true => rw [qx] at h; cases h; exact ZaO _
    | false => rw [qx] at h; exact ZaL (hb x c h)
  ·rename_i hk
   rw [if_neg hk] at h2
   exact QlY r n acc hi hb x y c h1 h2
theorem Qfq : ∀ (names : List (Str × NameKind)) (n : Nat) (acc : List (Str × Addr)) (x : Str), (∃ c, acc.lookup x = some c) -> ∃ c, (cellsFrom n names acc).lookup x = some c
 | [], _, _, _, h => h
 | (nm, k) :: r, n, acc, x, h => by
  unfold cellsFrom
  split
  ·refine Qfq r (n + 1) _ x ?_
   rw [Zr]
   cases x == nm with
   | true => exact ⟨n, rfl⟩
   | false => exact h
  ·exact Qfq r n acc x h
theorem Ql8 : ∀ (names : List (Str × NameKind)) (n : Nat) (acc : List (Str × Addr)) (x : Str), (x, NameKind.cell) ∈ names -> ∃ c, (cellsFrom n names acc).lookup x = some c
 | (nm, k) :: r, n, acc, x, hm => by
  unfold cellsFrom
  rcases Zv.mp hm with e | e
  ·obtain ⟨e1, e2⟩ := Prod.mk.inj e
   subst e1
   rw [← e2, if_pos (by rfl)]
   exact Qfq r (n + 1) _ x ⟨n, by simp [Zr]⟩
  ·split
   ·exact Ql8 r (n + 1) _ x e
   ·exact Ql8 r n acc x e
theorem Qi0 (lo : Nat) : ∀ (names : List (Str × NameKind)) (h : Heap) (acc : List (Str × Addr)), (∀ x c, acc.lookup x = some c -> lo <= c -> h.IsCell c none) -> lo <= h.objs.size →
  ∀ x c, (cellsFrom h.objs.size names acc).lookup x = some c -> lo <= c -> (pushCells h names).IsCell c none
 | [], _, _, ha, _, x, c, e, hl => ha x c e hl
 | (nm, k) :: r, h, acc, ha, hlo, x, c, e, hl => by
  unfold cellsFrom at e
  unfold pushCells
  split at e
  ·rename_i hk
   rw [if_pos hk]
   have hs := ZT h { cls := .type "cell", data := .cell none }
   refine Qi0 lo r (h.push { cls := .type "cell", data := .cell none }) ((nm, h.objs.size) :: acc) (λ x c e hl => ?_) (by rw [hs]; omega) x c (by rw [hs]; exact e) hl
   rw [Zr] at e
   cases q : x == nm with
   | true => rw [q] at e; cases e; exact ⟨_, Zw _ rfl, rfl⟩
   | false => rw [q] at e; exact (ha x c e hl).keeps λ b o e => Zb _ e
  ·rename_i hk
   rw [if_neg hk]
   exact Qi0 lo r h acc ha hlo x c e hl
theorem QnZ {M : Model} {A : Around} {E : Value -> Shared -> Prop} {s : Shared} {scope : Scope} {globals builtins : Addr} {cl : List (Str × Addr)} {qual : Str} {env : Env} {Q : Env -> Shared -> Prop}
  (hQ : ∀ h' : Heap, h'.Ns s.heap.objs.size (λ _ => none) -> (∀ b o, s.heap.get? b = some o -> h'.get? b = some o) -> ((∀ x c, cl.lookup x = some c -> c < s.heap.objs.size) -> ∀ x c, (cellsFrom (s.heap.objs.size + 1) scope.names cl).lookup x = some c -> s.heap.objs.size + 1 <= c -> h'.IsCell c none) →
   Q (newEnv scope s.heap.objs.size globals (cellsFrom (s.heap.objs.size + 1) scope.names cl) qual none .none (some env) builtins) { s with heap := h' }) :
  wpAny M A (newFunctionEnv scope globals cl [] qual none .none (some env) builtins) Q E s := by
 simp only [newFunctionEnv, Option.isSome_some, if_true]
 refine wpAny_bind (wpAny_alloc ?_)
 refine wpAny_bind (wpAny_layCells _ (λ name kind cells => by cases hkc : kind == NameKind.cell <;> simp [hkc]) _ _ _ _ ?_)
 have hs := ZT s.heap { cls := .type "dict", data := .dict #[] }
 rw [show ({ s with heap := s.heap.push { cls := .type "dict", data := .dict #[] } } : Shared).heap.objs.size = s.heap.objs.size + 1 from hs]
 refine wpAny_bind (wpAny_pure (wpAny_pure ?_))
 refine hQ _ ((Heap.Ns.new s.heap (.type "dict")).keeps (pushCells_keeps _ _)) (λ b o e => pushCells_keeps _ _ b o (Zb _ e)) λ hb x c e hl => ?_
 refine Qi0 (s.heap.objs.size + 1) scope.names (s.heap.push { cls := .type "dict", data := .dict #[] }) cl (λ x c e hl => ?_) (by rw [hs]; exact Zk _) x c (by rw [hs]; exact e) hl
 exact absurd (Zu (hb x c e) (Zx (Zbs _) hl)) (ZR _)
section
variable {X : Cx} {tg iter elt : Expr} {ifs : List Expr} {scope : Scope} {N' : List Str} {pos : Pos}
structure QdM (X : Cx) (N' : List Str) (scope : Scope) : Prop where
 kind : scope.kind = .function
 own : ∀ y ∈ scope.names, y.2 = .cell -> scope.names.lookup y.1 = some .cell
 loc : ∀ y ∈ scope.names, y.2 = .local -> scope.names.lookup y.1 = some .local
 free : ∀ y ∈ scope.names, y.2 = .free -> X.env.kindOf y.1 = some .cell ∨ X.env.kindOf y.1 = some .free
theorem Qq0 {pins : List (Addr × Obj)} {σ σc : St} {H3 : Hp} {s3 : Shared} {fp : List Addr} {cl : List (Str × Addr)} {h' : Heap} {tk : Nat} (S : QdM X N' scope) (I : Inv X pins σ H3 s3)
  (hf : ∀ b ∈ fp, QdF X pins H3 b) (hfl : ∀ b ∈ fp, b < s3.heap.objs.size) (hc1 : ∀ x c, cl.lookup x = some c -> X.env.cells.lookup x = some c) (hc2 : ∀ y ∈ scope.names, y.2 = .free -> ∃ c, cl.lookup y.1 = some c) (cap : Qh5 X N' scope σ σc)
  (hns : h'.Ns s3.heap.objs.size (λ _ => none)) (hk : ∀ b o, s3.heap.get? b = some o -> h'.get? b = some o)
  (hown : (∀ x c, cl.lookup x = some c -> c < s3.heap.objs.size) -> ∀ x c, (cellsFrom (s3.heap.objs.size + 1) scope.names cl).lookup x = some c -> s3.heap.objs.size + 1 <= c -> h'.IsCell c none) :
  Inv (cxc X N' scope (cellsFrom (s3.heap.objs.size + 1) scope.names cl) s3.heap.objs.size fp s3 H3) [] σc H3 { s3 with heap := h', toks := tk } := by
 have nold : ∀ b, b ∈ fp -> b ≠ s3.heap.objs.size := λ b hb e => absurd (hfl b hb) (by rw [e]; exact ZR _)
 have cellOld : ∀ x c, cl.lookup x = some c -> ∃ v, s3.heap.IsCell c v := λ x c e => I.cell x c (hc1 x c e)
 have cellLt : ∀ x c, cl.lookup x = some c -> c < s3.heap.objs.size := λ x c e => let ⟨v, q⟩ := cellOld x c e; q.lt
 have cellNew : ∀ c v, s3.heap.IsCell c v -> h'.IsCell c v := λ c v ⟨o, ho, hd⟩ => ⟨o, hk c o ho, hd⟩
 have hown := hown cellLt
 have look : ∀ x c, (cellsFrom (s3.heap.objs.size + 1) scope.names cl).lookup x = some c -> cl.lookup x = some c ∨ (s3.heap.objs.size + 1 <= c /\ (x, NameKind.cell) ∈ scope.names) := Qfp scope.names _ cl
 refine ⟨⟨I.ok.mod, S.kind, I.ok.glob, I.ok.blt, Zk _, QlY scope.names _ cl (λ x y c h1 h2 => I.ok.inj x y c (hc1 x c h1) (hc1 y c h2)) (λ x c e => ZaL (cellLt x c e)), λ x hx => ?_, λ x c e1 e2 => ?_, I.ok.hd, I.ok.frames, .inl rfl, λ b hb => ⟨nold b hb, λ x c e => ?_⟩,
  I.bs, Zx I.ok.bsz I.sz, λ b o e hb => ?_, λ b hb hs => ?_, I.stack, I.Qm6⟩, rfl, I.bare, Un.kept hk, ⟨_, hns, λ j x v h1 h2 h3 => ?_⟩, λ x c e => ?_, I.hok.fresh (Zk _), λ x c e => ?_, λ p hp => absurd (show p ∈ ([] : List (Addr × Obj)) from hp) (by simp), I.hok.kept hk, cap.1⟩
 ·obtain ⟨k, hm, hk'⟩ := QdP (env := X.env) (names := scope.names) (x := x) hx
  rcases hk' with rfl | rfl
  ·exact Qfq scope.names _ cl x (hc2 _ hm rfl)
  ·exact Ql8 scope.names _ cl x hm
 ·have e1 : decide (scope.names.lookup x = some .cell) = true := e1
  have := QlS scope.names _ cl x c (ZU (of_decide_eq_true e1)) e2
  exact Zx (Zbs _) this
 ·rcases look x c e with e | ⟨e, _⟩
  ·exact (hf b hb).2.2.2.2.1 x c (hc1 x c e)
  ·intro z
   rw [z] at e
   exact absurd (Zu (hfl b hb) (Zx (Zbs _) e)) (ZR _)
 ·rcases (hf b hb).2.2.2.1 with z | z
  ·exact I.ok.noex b o e z
  ·exact absurd (Zu (Zs e) (Zx I.ok.bsz z)) (ZR _)
 ·rcases Zv.mp (I.Qij b hs) with e | z
  ·exact (hf b hb).2.1 e
  ·exact (hf b hb).2.2.1 z
 ·obtain ⟨hl, i, e1, e2, e3⟩ := cap.2 j x v h1 h2
  obtain ⟨m, hn, look'⟩ := I.loc
  obtain ⟨u, r, l⟩ := look' i x v e1 e2 (e3.elim (λ z => .inr (.inl z)) λ z => .inr (.inr z))
  refine ⟨u, r, .inr ⟨Qck hl, ?_⟩⟩
  rcases l with ⟨k, _⟩ | ⟨_, c, ec, hcell⟩
  ·rcases e3 with z | z <;> (rw [k] at z; cases z)
  ·obtain ⟨c', ec'⟩ := Qfq scope.names (s3.heap.objs.size + 1) cl x (hc2 (x, .free) (ZU hl) rfl)
   rcases look x c' ec' with q | ⟨_, q⟩
   ·have := hc1 x c' q
    rw [ec] at this; cases this
    exact ⟨c, ec', cellNew c _ hcell⟩
   ·have := S.own _ q rfl
    rw [hl] at this
    cases this
 ·rcases look x c e with q | ⟨q, _⟩
  ·obtain ⟨v, q⟩ := cellOld x c q
   exact ⟨v, cellNew c v q⟩
  ·exact ⟨none, hown x c e q⟩
 ·rcases look x c e with q | ⟨q, _⟩
  ·exact I.freeC x c (hc1 x c q)
  ·exact I.hok.fresh (by omega)
theorem QpS {prog : Program} {w : World} {A : Around} {env : Env} {it acc : Value} {R : Result -> Shared -> Prop} {s0 : Shared} (J : Nat -> Shared -> Prop)
  (turn : ∀ n s, J n s -> wpAny (model prog w) A (pyNext it) (λ r s1 => match r with
   | none => R (.ok .next) s1
   | some v => wpAny (model prog w) A (letOwnedTupleGo tg it v) (λ _ s2 => wpAny (model prog w) A (assign tg env v) (λ _ s3 =>
     wpAny (model prog w) A (forIn ifs true λ c r => if r = true then do let ok ← isTrue c env (eval c env); pure (ForInStep.yield ok) else pure (ForInStep.yield r)) (λ ok s4 =>
      if ok = true then wpAny (model prog w) A (eval elt env) (λ x s5 => wpAny (model prog w) A (call (.builtin "list.append") [acc, x]) (λ _ s6 => ∃ m, m < n /\ J m s6) (λ _ _ => False) s5) (λ _ _ => False) s4
      else ∃ m, m < n /\ J m s4) (λ _ _ => False) s3) (λ _ _ => False) s2) (λ _ _ => False) s1) (λ _ _ => False) s)
  (n : Nat) (h : J n s0) : codeAny (model prog w) A (.compLoop (.ListComp elt [⟨tg, iter, ifs, 0⟩] scope pos) 0 it acc env) R s0 := by
 have up : ∀ {α : Type} {t : Sem α} {Q : α -> Shared -> Prop} {E : Value -> Shared -> Prop} {s : Shared}, wpAny (model prog w) A t Q (λ _ _ => False) s -> wpAny (model prog w) A t Q E s := λ h => wpAny_mono h (λ _ _ q => q) λ _ _ f => f.elim
 refine codeAny_loop (by rfl) J (λ k sk hk => ?_) n h
 show wpAny (model prog w) A ((compTurn (.ListComp elt [⟨tg, iter, ifs, 0⟩] scope pos) 0 it acc env).onRaise (λ x => do noteFrame x env; theTreesLotGoes x)) _ _ sk
 refine wpAny_noted (up ?_)
 rw [compTurn_list]
 refine wpAny_bind (wpAny_standAt (wpAny_bind (thn (turn k sk hk) λ r s1 h1 => ?_)))
 cases r with
 | none => exact wpAny_pure h1
 | some v =>
  refine wpAny_bind (thn h1 λ _ s2 h2 => wpAny_bind (thn h2 λ _ s3 h3 => wpAny_bind (thn h3 λ ok s4 h4 => ?_)))
  cases ok with
  | false => exact wpAny_pure ⟨rfl, h4⟩
  | true => exact wpAny_bind (wpAny_bind (thn h4 λ x s5 h5 => wpAny_bind (thn h5 λ _ s6 h6 => wpAny_pure (wpAny_pure ⟨rfl, h6⟩))))
theorem Qri {it D C : Addr} {fp : List Addr} {tn : Nat -> Heap -> Prop} {J : It} {cl : List (Str × Addr)} {s3 s4 : Shared} {H3 : Hp} {σc : St} {g : TG} {tc : TT} {te : TE} {Q : Hp -> Prop} (hcalm : X.calm = true)
  (T : Turn X.prog X.w X.K tg J fp it tn)
  (hg : PG (cxc X N' scope cl C fp s3 H3) tg g) (ht : PTs (cxc X N' scope cl C fp s3 H3) ifs tc) (he : PE (cxc X N' scope cl C fp s3 H3) elt te)
  (I : Inv (cxc X N' scope cl C fp s3 H3) [] σc H3 s4) (st : tn 0 s4.heap) (ff : ∀ b ∈ fp, QdF (cxc X N' scope cl C fp s3 H3) [] H3 b)
  (W : Nat -> Nat -> List V -> Hp -> Prop) (hw : ∃ m, W 0 m [] H3)
  (turn : ∀ i m acc H2, W i m acc H2 -> (J.stop i H2 /\ Q H2) ∨
   (J.go i H2 /\ ∀ x H5, J.yld i H2 x H5 -> g x σc H5 λ σ2 H6 => (∀ (j : Nat) v, σc[j]? = some (some v) -> σ2[j]? = some (some v)) /\ tc σ2 H6 λ b H7 => if b = true then
    te σ2 H7 λ y H8 => H8 D = some (.lst acc) /\ acc.length < sizeLine /\ ∃ m', m' < m /\ W (i + 1) m' (acc ++ [y]) (upd H8 D (.lst (acc ++ [y])))
    else ∃ m', m' < m /\ W (i + 1) m' acc H7))
  {R : Result -> Shared -> Prop} (hR : ∀ H' s', Inv (cxc X N' scope cl C fp s3 H3) [] σc H' s' -> Q H' -> R (.ok .next) s') :
  codeAny (model X.prog X.w) X.A (.compStart (.ListComp elt [⟨tg, iter, ifs, 0⟩] scope pos) 0 (.ref it) (.ref D) (compEnvC scope cl C X.env)) R s4 := by
 obtain ⟨m0, w0⟩ := hw
 have stat : ∀ {H' : Hp}, (∀ b ∈ fp, H' b = none) -> ∀ b ∈ fp, QdF (cxc X N' scope cl C fp s3 H3) [] H' b := λ hn b hb => ⟨hn b hb, (ff b hb).2⟩
 have loop : codeAny (model X.prog X.w) X.A (.compLoop (.ListComp elt [⟨tg, iter, ifs, 0⟩] scope pos) 0 (.ref it) (.ref D) (compEnvC scope cl C X.env)) R s4 := by
  refine QpS (λ n s' => ∃ i acc H', Inv (cxc X N' scope cl C fp s3 H3) [] σc H' s' /\ tn i s'.heap /\ (∀ b ∈ fp, H' b = none) /\ W i n acc H') ?_ m0 ⟨0, [], H3, I, st, λ b hb => (ff b hb).1, w0⟩
  rintro n s5 ⟨i, acc, H5, I5, st5, fr5, w5⟩
  rcases turn i n acc H5 w5 with ⟨stop, q⟩ | ⟨go, step⟩
  ·refine thn (T.done (cxc X N' scope cl C fp s3 H3) rfl rfl rfl hcalm i [] s5 σc H5 _ I5 (stat fr5) st5 stop) λ r s6 ⟨hr, I6⟩ => ?_
   subst hr
   exact hR H5 s6 I6 q
  ·refine thn (T.item (cxc X N' scope cl C fp s3 H3) rfl rfl rfl hcalm i [] s5 σc H5 _ I5 (stat fr5) st5 go) λ r s6 ⟨u, hr, h6⟩ => ?_
   subst hr
   refine thn h6 λ _ s7 ⟨x, H7, I7, r7, y7, st7, fr7⟩ => ?_
   have I7' := I7.pinned (stat fr7) (T.obj _ _ st7)
   refine thn (hg _ s7 σc H7 x u _ I7' r7 (step x H7 y7)) λ _ s8 ⟨σ8, H8, I8, k8, q8⟩ => ?_
   refine thn (ht _ s8 σ8 H8 _ I8 q8) λ ok s9 ⟨H9, I9, q9⟩ => ?_
   have again : ∀ {H' : Hp} {s' : Shared} {acc' : List V}, Inv (cxc X N' scope cl C fp s3 H3) ([] ++ QfY fp s7.heap) σ8 H' s' -> (∃ m', m' < n /\ W (i + 1) m' acc' H') →
     ∃ m, m < n /\ ∃ i acc H', Inv (cxc X N' scope cl C fp s3 H3) [] σc H' s' /\ tn i s'.heap /\ (∀ b ∈ fp, H' b = none) /\ W i m acc H' := λ {H' s' acc'} I' ⟨m', hm, w'⟩ => by
    have pin : ∀ b ∈ fp, ∀ o, s7.heap.get? b = some o -> s'.heap.get? b = some o /\ H' b = none := λ b hb o e => by
     have z := I'.pin (b, o) (Ze _ (Ze _ (Qfv hb e)))
     exact ⟨z.1, z.2.1⟩
    refine ⟨m', hm, i + 1, acc', H', ?_, T.keep _ _ _ st7 λ b hb o e => (pin b hb o e).1, λ b hb => ?_, w'⟩
    ·exact I'.QfD.weak (I.len.trans I8.len.symm) k8
    ·obtain ⟨o, e, _⟩ := T.obj _ _ st7 b hb
     exact (pin b hb o e).2
   cases ok with
   | false =>
    rw [if_neg Zag] at q9 ⊢
    exact again I9 q9
   | true =>
    rw [if_pos rfl] at q9 ⊢
    refine thn (he _ s9 σ8 H9 _ I9 q9) λ yv s10 ⟨y, H10, I10, r10, e10, l10, q10⟩ => ?_
    refine thn (QjV _ s10 σ8 H10 (.ref D) [y] (.ref D) [yv] (λ v H11 => H11 = upd H10 D (.lst (acc ++ [y]))) I10 rfl (.cons r10 .nil) ⟨D, acc, y, rfl, rfl, e10, l10, rfl⟩) λ _ s11 ⟨_, H11, I11, _, e11⟩ => ?_
    subst e11
    exact again I11 q10
 exact codeAny_compStart_list loop (T.self _ 0 _ _ _ st loop)
theorem QkJ {wi : TI} {g : TG} {tc : TT} {te : TE} {cp : Pos} {use : Option (Value -> Sem Unit)} {pins : List (Addr × Obj)} {s : Shared} {σ : St} {H : Hp} {QV : Value -> Shared -> Prop} {Q : VK} (hcalm : X.calm = true) (S : QdM X N' scope) (hi : PI X tg iter wi)
  (hin : ∀ cl C fp s3 H3, PG (cxc X N' scope cl C fp s3 H3) tg g /\ PTs (cxc X N' scope cl C fp s3 H3) ifs tc /\ PE (cxc X N' scope cl C fp s3 H3) elt te)
  (hs : ∀ x, foldedSetIterable iter X.env x = pure x) (I : Inv X pins σ H s) (h : Qkt wi (Qh5 X N' scope) g tc te σ H Q)
  (fin : ∀ (D C : Addr) (H' : Hp) (s' : Shared), Inv X pins σ H' s' -> H' C = none -> C ≠ X.env.locals -> X.s₀.heap.objs.size <= C -> (∀ x c, X.env.cells.lookup x = some c -> c ≠ C) -> (∀ p ∈ X.pn ++ pins, p.1 ≠ C) -> (∃ m, s'.heap.Ns C m) -> Q (.ref D) H' →
   compPost (model X.prog X.w) X.A X.xe use QV (.ref D) C (.ok .next) s') :
  wpAny (model X.prog X.w) X.A (comprehension (.ListComp elt [⟨tg, iter, ifs, 0⟩] scope pos) scope X.env cp (newList []) false (eval iter X.env) use) QV X.xe s := by
 obtain ⟨cl, hcl, hc1, hc2⟩ := Qs6 (scope := scope) (env := X.env) λ y hy hf => I.ok.has y.1 (S.free y hy hf)
 refine wpAny_comprehension_free (g := ⟨tg, iter, ifs, 0⟩) (gs := []) rfl hs hcl S.kind S.loc ?_
 refine thn (hi pins s σ H _ I h) λ v s1 h1 => thn h1 λ itv s2 h2 => ?_
 obtain ⟨it, fp, tn, J, H2, e, I2, T, st2, f2, σc, cap, hw⟩ := h2
 subst e
 have hD0 : H2 s2.heap.objs.size = none := I2.hok.fresh (Zk _)
 obtain ⟨W, hW0, turn⟩ := hw _ hD0
 have fpl : ∀ b ∈ fp, b < s2.heap.objs.size := λ b hb => let ⟨o, e, _⟩ := T.obj _ _ st2 b hb; Zs e
 have hlist : ∀ D : Addr, D = s2.heap.objs.size -> ∃ x, x = D := λ D _ => ⟨D, rfl⟩
 refine wpAny_newObj_type ?_
 have I3 : Inv X pins σ (upd H2 s2.heap.objs.size (.lst [])) { s2 with heap := s2.heap.push { cls := .type "list", dict := none, data := .seq ([] : List Value).toArray } } :=
  I2.laid (t' := s2.toks) (λ b o e => Zb _ e) (Zk _) ⟨ZX _, [], 0, .nil, Zw _ rfl⟩
 generalize hs3 : ({ s2 with heap := s2.heap.push { cls := .type "list", dict := none, data := .seq ([] : List Value).toArray } } : Shared) = s3 at I3
 have hs3' : s3.heap = s2.heap.push { cls := .type "list", dict := none, data := .seq ([] : List Value).toArray } := by rw [← hs3]
 have sz3 : s3.heap.objs.size = s2.heap.objs.size + 1 := by rw [hs3', ZT]
 have old3 : ∀ b o, s2.heap.get? b = some o -> s3.heap.get? b = some o := λ b o e => by rw [hs3']; exact Zb _ e
 have f3 : ∀ b ∈ fp, QdF X pins (upd H2 s2.heap.objs.size (.lst [])) b := λ b hb => ⟨by rw [QO (ZL (fpl b hb))]; exact (f2 b hb).1, (f2 b hb).2⟩
 have fpl3 : ∀ b ∈ fp, b < s3.heap.objs.size := λ b hb => by rw [sz3]; exact ZaL (fpl b hb)
 refine QnZ (λ h4 hns4' keep4 hown4 => ?_)
 have I4 := Qq0 (tk := s3.toks) S I3 f3 fpl3 hc1 hc2 cap hns4' keep4 hown4
 have hout : ∀ H' s', Inv (cxc X N' scope (cellsFrom (s3.heap.objs.size + 1) scope.names cl) s3.heap.objs.size fp s3 (upd H2 s2.heap.objs.size (.lst []))) [] σc H' s' -> Inv X pins σ H' s' := λ H' s' J' =>
  I3.Qv2 (ch := fp) J'.os J'.base J'.hok J'.bare λ b hb => ⟨(f3 b hb).2.2.2.1, (f3 b hb).2.1, (f3 b hb).2.2.2.2.1, (f3 b hb).2.2.2.2.2⟩
 obtain ⟨hg, ht, he⟩ := hin (cellsFrom (s3.heap.objs.size + 1) scope.names cl) s3.heap.objs.size fp s3 (upd H2 s2.heap.objs.size (.lst []))
 have fc : ∀ b ∈ fp, QdF (cxc X N' scope (cellsFrom (s3.heap.objs.size + 1) scope.names cl) s3.heap.objs.size fp s3 (upd H2 s2.heap.objs.size (.lst []))) [] (upd H2 s2.heap.objs.size (.lst [])) b := λ b hb =>
  ⟨(f3 b hb).1, ZL (fpl3 b hb), λ hs' => (Zv.mp (I3.Qij b hs')).elim (f3 b hb).2.1 (f3 b hb).2.2.1, .inl hb, λ x c e => (by
   rcases Qfp scope.names _ cl x c e with e | ⟨e, _⟩
   ·exact (f3 b hb).2.2.2.2.1 x c (hc1 x c e)
   ·intro z
    rw [z] at e
    exact absurd (Zu (fpl3 b hb) (Zx (Zbs _) e)) (ZR _)), λ p hp => absurd (show p ∈ ([] : List (Addr × Obj)) from hp) (by simp)⟩
 have hC1 : s3.heap.objs.size ≠ X.env.locals := Ne.symm (ZL I3.lt)
 refine Qri (D := s2.heap.objs.size) (C := s3.heap.objs.size) (s3 := s3) (σc := σc) (H3 := upd H2 s2.heap.objs.size (.lst [])) (W := W) (Q := λ H' => Q (.ref s2.heap.objs.size) H') hcalm T hg ht he I4 (T.keep _ _ _ st2 λ b hb o e => keep4 b o (old3 b o e)) fc hW0 turn λ H' s' J' q => ?_
 have O := hout H' s' J'
 refine fin _ _ H' s' O J'.free hC1 (Zx I3.sz (Zk _)) (λ x c e z => ?_) (λ p hp z => ?_) (let ⟨m, hn, _⟩ := J'.loc; ⟨m, hn⟩) q
 ·obtain ⟨v, o, ho, _⟩ := I3.cell x c e
  exact absurd (Zs ho) (by rw [z]; exact ZR _)
 ·exact absurd (Zs (I3.pin p hp).1) (by rw [z]; exact ZR _)
theorem Inv.Qsb {pins : List (Addr × Obj)} {σ : St} {H : Hp} {s : Shared} {C : Addr} {h' : Heap} (I : Inv X pins σ H s) (hs : Heap.SameBut C s.heap h') (hn : H C = none) (hL : C ≠ X.env.locals) (h1 : X.s₀.heap.objs.size <= C)
  (h2 : ∀ x c, X.env.cells.lookup x = some c -> c ≠ C) (h3 : ∀ p ∈ X.pn ++ pins, p.1 ≠ C) : Inv X pins σ H { s with heap := h' } :=
 I.turned (t' := s.toks) (λ b o hb e => (hs.2 b hb).trans e) hn hL (.inr h1) h2 h3
theorem Qnv {wi : TI} {g : TG} {tc : TT} {te : TE} (hcalm : X.calm = true) (S : QdM X N' scope) (hi : PI X tg iter wi)
  (hin : ∀ cl C fp s3 H3, PG (cxc X N' scope cl C fp s3 H3) tg g /\ PTs (cxc X N' scope cl C fp s3 H3) ifs tc /\ PE (cxc X N' scope cl C fp s3 H3) elt te)
  (hs : ∀ x, foldedSetIterable iter X.env x = pure x := by intro _; rfl) : PE X (.ListComp elt [⟨tg, iter, ifs, 0⟩] scope pos) (Qkt wi (Qh5 X N' scope) g tc te) := by
 intro pins s σ H Q I h
 rw [eval_ListComp]
 refine QkJ (use := none) hcalm S hi hin hs I h λ D C H' s' O h1 h2 h3 h4 h5 ⟨m, hm⟩ q => ?_
 exact ⟨m, hm, λ h' hs' => ⟨.ref D, H', O.Qsb hs' h1 h2 h3 h4 h5, rfl, q⟩⟩
theorem Qtm {wi : TI} {g : TG} {tc : TT} {te : TE} {i : Nat} {x : Str} {pos' spos : Pos} (hN : X.N.Nodup) (hx1 : X.N[i]? = some x) (hx : Loc X.env.scope x) (hf : X.fn x = true ∨ X.env.scope.names.lookup x = some .local) (hcalm : X.calm = true) (S : QdM X N' scope) (hi : PI X tg iter wi)
  (hin : ∀ cl C fp s3 H3, PG (cxc X N' scope cl C fp s3 H3) tg g /\ PTs (cxc X N' scope cl C fp s3 H3) ifs tc /\ PE (cxc X N' scope cl C fp s3 H3) elt te)
  (hs : ∀ x, foldedSetIterable iter X.env x = pure x := by intro _; rfl) :
  PS X (.Assign [.Name x pos'] (.ListComp elt [⟨tg, iter, ifs, 0⟩] scope pos) spos) (Qk7 (Qkt wi (Qh5 X N' scope) g tc te) (QgE i)) := by
 have hb : ∃ b, swapsWith (.ListComp elt [⟨tg, iter, ifs, 0⟩] scope pos) (some (.Name x pos')) spos.line X.env = pure b := ⟨_, rfl⟩
 obtain ⟨b, hb⟩ := hb
 cases b with
 | false => exact Qls hN hx1 hx (Qnv hcalm S hi hin hs) hb hf
 | true =>
  intro pins s σ H D I h
  rw [exec_Assign_Name_used _ _ _ _ hb]
  refine wpAny_bind (wpAny_standAt (wpAny_bind ?_))
  show wpAny _ X.A (do let _ ← comprehension (.ListComp elt [⟨tg, iter, ifs, 0⟩] scope pos) scope X.env _ (newList []) false (eval iter X.env) (some (assign (.Name x pos') X.env))) _ _ s
  refine wpAny_bind (thn (QkJ (use := some (assign (.Name x pos') X.env)) (QV := λ _ s' => SP X pins D .next s') hcalm S hi hin hs I h λ Dl C H' s' O h1 h2 h3 h4 h5 ⟨m, hm⟩ q => ?_) λ _ s' hq => wpAny_pure (wpAny_pure hq))
  refine wpAny_assign_Name (QjU O hN hx1 hx (v := .ref Dl) (u := .ref Dl) rfl (λ s2 I2 hsb => ?_) hf)
  obtain ⟨a, sb, ha⟩ := hsb
  have haC : C ≠ a := by
   rcases ha with rfl | ha
   ·exact h2
   ·exact Ne.symm (h4 _ _ ha)
  exact ⟨m, hm.sameBut sb haC, λ h' hs' => ⟨_, H', I2.Qsb hs' h1 h2 h3 h4 h5, q⟩⟩
end
end L2
namespace L2
open PySem PySem.Spec PyProof.Rows
section
variable {X : Cx} {pins : List (Addr × Obj)} {σ : St} {H H' : Hp} {s : Shared} {h' : Heap}
theorem Inv.Qor {t' : Nat} {ch : List Addr} {T : Addr} {ts : List V} (I : Inv X pins σ H s) (hf : ∀ b ∈ ch, QdF X pins H b) (k : ∀ b o, b ∉ ch -> s.heap.get? b = some o -> h'.get? b = some o) (hp : ∀ b ∈ ch, ∃ o, h'.get? b = some o)
  (hT : s.heap.objs.size <= T) (hnew : ts.length <= sizeLine /\ ∃ its : List Value, Qy ts its /\ IsTup h' T its.toArray) : Inv X pins σ (upd H T (.tup ts)) { s with heap := h', toks := t' } := by
 have hn : H T = none := I.hok.fresh hT
 have neT : ∀ b u, H b = some u -> b ≠ T := λ b u e => Qbm e hn
 have nch : ∀ b u, H b = some u -> b ∉ ch := λ b u e hb => by rw [(hf b hb).1] at e; cases e
 have ltT : ∀ b o, s.heap.get? b = some o -> b ≠ T := λ b o e => ZL (Zu (Zs e) hT)
 refine I.step (g' := s.gens) (d' := s.drawn) (ch := ch) (λ b hb => ?_) (λ b o _ _ hc e _ => k b o hc e) (λ b o _ _ hc e _ => ⟨o.slots, k b o hc e⟩) (λ b o _ e n => by rw [QO (ltT b o e)]; exact n)
  (λ b o hc e => ⟨o, k b o hc e⟩) (λ b xs e => by rw [QO (neT b _ e)]; exact e) (λ b o u e => by rw [QO (neT b _ e)]; exact e) (λ b ps e => ⟨#[], by rw [QO (neT b _ e), e]; simp⟩) (λ m hm => ?_) (λ b u e => ?_) I.bare
 ·obtain ⟨f0, f1, f2, f3, f4, f5⟩ := hf b hb
  exact ⟨f3, f1, f4, f5⟩
 ·obtain ⟨o, es, ep, ho, r⟩ := hm
  exact ⟨o, es, ep, k _ o (λ z => (hf _ z).2.1 rfl) ho, r⟩
 ·by_cases hb : b = T
  ·subst hb
   rw [Qay] at e
   cases e
   exact hnew
  ·rw [QO hb] at e
   refine (I.hok b u e).Qhz (λ c v hc q => k c v ?_ q) (λ c q => by rw [QO (neT c _ q)]; exact q) λ c xs q => by rw [QO (neT c _ q)]; exact q
   rcases hc with z | z
   ·rw [z]; exact nch b u e
   ·exact nch c _ z
theorem Inv.turns {t' : Nat} {ch : List Addr} (I : Inv X pins σ H s) (hf : ∀ b ∈ ch, QdF X pins H b) (k : ∀ b o, b ∉ ch -> s.heap.get? b = some o -> h'.get? b = some o) : Inv X pins σ H { s with heap := h', toks := t' } := by
 have nch : ∀ b u, H b = some u -> b ∉ ch := λ b u e hb => by rw [(hf b hb).1] at e; cases e
 refine I.step (g' := s.gens) (d' := s.drawn) (ch := ch) (λ b hb => ?_) (λ b o _ _ hc e _ => k b o hc e) (λ b o _ _ hc e _ => ⟨o.slots, k b o hc e⟩) (λ b o _ e n => n)
  (λ b o hc e => ⟨o, k b o hc e⟩) (λ b xs e => e) (λ b o u e => e) (λ b ps e => ⟨#[], by rw [e]; simp⟩) (λ m hm => ?_) (λ b u e => ?_) I.bare
 ·obtain ⟨f0, f1, f2, f3, f4, f5⟩ := hf b hb
  exact ⟨f3, f1, f4, f5⟩
 ·obtain ⟨o, es, ep, ho, r⟩ := hm
  exact ⟨o, es, ep, k _ o (λ z => (hf _ z).2.1 rfl) ho, r⟩
 ·refine (I.hok b u e).Qhz (λ c v hc q => k c v ?_ q) (λ c q => q) λ c xs q => q
  rcases hc with z | z
  ·rw [z]; exact nch b u e
  ·exact nch c _ z
end
noncomputable def Ite (K : PySem.W.Frag) (a : Addr) : It :=
 ⟨λ i H => ∃ xs x, SqL K H a xs /\ xs[i]? = some x, λ i H v H' => ∃ p x, v = .ref p /\ H p = none /\ H' = upd H p (.tup [.int i, x]) /\ ∀ xs, SqL K H a xs -> xs[i]? = some x, λ i H => ∃ xs, SqL K H a xs /\ xs.length <= i⟩
theorem QpP {P : Program} {w : World} {K : PySem.W.Frag} {es : List Expr} {tk : Nat} {tpos : Pos} (a e it : Addr) (hne : e ≠ it) : Turn P w K (.Tuple es tk tpos) (Ite K a) [e, it] e (λ i h => ∃ old, IsEnum h e it (i : Int) old /\ h.IsListIter it a i) where
 mem := by simp
 obj := λ i h st b hb => by
  obtain ⟨old, he, o, ho, hc, hd⟩ := st
  have hb : b = e ∨ b = it := by simpa using hb
  rcases hb with rfl | rfl
  ·exact ⟨_, he, λ v z => by cases z⟩
  ·exact ⟨o, ho, λ v z => by rw [hd] at z; cases z⟩
 keep := λ i h h' st k => by
  obtain ⟨old, he, hi⟩ := st
  exact ⟨old, k e (by simp) _ he, hi.at λ o q => k it (by simp) o q⟩
 item := by
  intro X hP hw hK hc i pins s σ H E I hf st hg
  subst hP hw hK
  obtain ⟨old, he, hi⟩ := st
  obtain ⟨xs, x, hq, hx⟩ := hg
  obtain ⟨its, rv, p, hz⟩ := I.list hq
  obtain ⟨u, hu, ru⟩ := rv.get hx
  refine wpAny_pyNext_enum_item he hi p.isList (x := u) (by simpa using hu) hne λ h1 heo hi1 ht1 hz1 hk1 => ?_
  refine ⟨.ref s.heap.objs.size, rfl, wpAny_letOwnedTupleGo_enum heo λ h2 he2 hs2 => ?_⟩
  replace hs2 : Heap.SameBut e h1 h2 := hs2
  have helt : e < s.heap.objs.size := Zs he
  have hilt : it < s.heap.objs.size := by obtain ⟨o, ho, _⟩ := hi; exact Zs ho
  have ht2 : IsTup h2 s.heap.objs.size [Value.int i s.toks, u].toArray := ⟨_, (hs2.2 _ (ZaY helt)).trans ht1, rfl, _, rfl⟩
  have hi2 : h2.IsListIter it a (i + 1) := hi1.extBut hs2.extBut (Ne.symm hne)
  have kk : ∀ b o, b ∉ [e, it] -> s.heap.get? b = some o -> h2.get? b = some o := λ b o hb q => by
   have h1 : b ≠ e := λ z => hb (by simp [z])
   have h2 : b ≠ it := λ z => hb (by simp [z])
   exact hs2.extBut b o h1 (hk1 b o h1 h2 q)
  refine ⟨.ref s.heap.objs.size, upd H s.heap.objs.size (.tup [.int i, x]), I.Qor (t' := s.toks + 1) hf kk (λ b hb => ?_) (Zk _) ⟨by show 2 <= sizeLine; decide, _, .cons ⟨_, rfl⟩ (.cons ru .nil), ht2⟩, rfl,
   ⟨_, x, rfl, I.hok.fresh (Zk _), rfl, λ ys hy => by rw [I.QcX hy hq]; exact hx⟩, ⟨u, ?_, hi2⟩, λ b hb => ?_⟩
  ·have hb : b = e ∨ b = it := by simpa using hb
   rcases hb with rfl | rfl
   ·exact ⟨_, he2⟩
   ·obtain ⟨o, ho, _⟩ := hi2; exact ⟨o, ho⟩
  ·have : ((i + 1 : Nat) : Int) = (i : Int) + 1 := by push_cast; rfl
   rw [this]; exact he2
  ·have hb' : b = e ∨ b = it := by simpa using hb
   have : b ≠ s.heap.objs.size := by
    rcases hb' with rfl | rfl
    ·exact ZL helt
    ·exact ZL hilt
   rw [QO this]; exact (hf b hb).1
 done := by
  intro X hP hw hK hc i pins s σ H E I hf st hg
  subst hP hw hK
  obtain ⟨old, he, hi⟩ := st
  obtain ⟨xs, hq, hx⟩ := hg
  obtain ⟨its, rv, p, hz⟩ := I.list hq
  have hl := rv.length
  refine wpAny_pyNext_enum_end (I.ok.hd hc) he hi p.isList (by simp; omega) λ h1 eb => ⟨rfl, ?_⟩
  exact I.turns (t' := s.toks) hf λ b o hb q => eb b o (λ z => hb (by simp [z])) q
 self := λ _ _ _ _ _ st h => by
  obtain ⟨old, he, hi⟩ := st
  exact wpAny_pyIter_enum he h
section
variable {X : Cx}
noncomputable def QvK (K : PySem.W.Frag) (ta : TA) : TI := λ σ H R => ta σ H λ vs H1 => ∃ a, vs = [.ref a] /\ (∃ xs, SqL K H1 a xs) /\ R (Ite K a) H1
theorem Qtk {a : Expr} {ta : TA} {p pos : Pos} {es : List Expr} {tk : Nat} {tpos : Pos} (hg : Gl X "enumerate") (hm : X.mg "enumerate" = none) (ha : PA X [a] ta) (hs : starEach [a] X.env = [(false, eval a X.env)]) :
  PI X (.Tuple es tk tpos) (.Call (.Name "enumerate" p) [a] [] pos) (QvK X.K ta) := by
 intro pins s σ H R I h
 refine Call_ (Qcy I hg hm PyProof.Rows.boot_enumerate (ZI (thn (ha pos pins s σ H _ I h) λ us s1 ⟨vs, H1, I1, r1, q1⟩ => ?_) hs rfl))
 obtain ⟨l, e, ⟨xs, hq⟩, q⟩ := q1
 subst e
 obtain ⟨u, rfl, ru⟩ := vals1 r1
 cases ru
 obtain ⟨its, rv, pl, hz⟩ := I1.list hq
 refine call_enumerate_list pl.isList λ h2 he2 hi2 hz2 hk2 => ?_
 have I2 : Inv X pins σ H1 { s1 with heap := h2 } := I1.kept (t' := s1.toks) hk2
 refine wpAny_pyIter_enum he2 ⟨_, [s1.heap.objs.size + 1, s1.heap.objs.size], _, _, H1, rfl, I2, QpP l _ _ (Nat.succ_ne_self _), ⟨_, he2, hi2⟩, λ b hb => ?_, q⟩
 have hb : b = s1.heap.objs.size + 1 ∨ b = s1.heap.objs.size := by simpa using hb
 have hle : s1.heap.objs.size <= b := by rcases hb with rfl | rfl <;> omega
 exact I1.Qho hle (I1.hok.fresh hle)
end
noncomputable def Itz (K : PySem.W.Frag) (a b : Addr) : It :=
 ⟨λ i H => ∃ xs ys x y, SqL K H a xs /\ SqL K H b ys /\ xs[i]? = some x /\ ys[i]? = some y, λ i H v H' => ∃ p x y, v = .ref p /\ H p = none /\ H' = upd H p (.tup [x, y]) /\ (∀ xs, SqL K H a xs -> xs[i]? = some x) /\ ∀ ys, SqL K H b ys -> ys[i]? = some y,
  λ i H => ∃ xs ys, SqL K H a xs /\ SqL K H b ys /\ (xs.length <= i ∨ ys.length <= i)⟩
structure QsB (z TI TO i1 i2 : Addr) : Prop where
 a : TI ≠ z
 b : TO ≠ z
 c : i1 ≠ z
 d : i2 ≠ z
 e : TI ≠ TO
 f : TI ≠ i1
 g : TI ≠ i2
 h : TO ≠ i1
 i : TO ≠ i2
 j : i1 ≠ i2
theorem Qrb {P : Program} {w : World} {K : PySem.W.Frag} {es : List Expr} {tk : Nat} {tpos : Pos} (l1 l2 z TI TO i1 i2 : Addr) (D : QsB z TI TO i1 i2) :
  Turn P w K (.Tuple es tk tpos) (Itz K l1 l2) [z, TI, TO, i1, i2] z (λ i h => IsZip h z TI TO .none /\ IsPair h TI (.ref i1) (.ref i2) /\ (∃ a b, IsPair h TO a b) /\ h.IsListIter i1 l1 i /\ h.IsListIter i2 l2 i) where
 mem := by simp
 obj := λ i h st b hb => by
  obtain ⟨hz, hTI, ⟨p, q, hTO⟩, ⟨o1, ho1, hc1, hd1⟩, ⟨o2, ho2, hc2, hd2⟩⟩ := st
  have hb : b = z ∨ b = TI ∨ b = TO ∨ b = i1 ∨ b = i2 := by simpa using hb
  rcases hb with rfl | rfl | rfl | rfl | rfl
  ·exact ⟨_, hz, λ v z => by cases z⟩
  ·exact ⟨_, hTI, λ v z => by cases z⟩
  ·exact ⟨_, hTO, λ v z => by cases z⟩
  ·exact ⟨o1, ho1, λ v z => by rw [hd1] at z; cases z⟩
  ·exact ⟨o2, ho2, λ v z => by rw [hd2] at z; cases z⟩
 keep := λ i h h' st k => by
  obtain ⟨hz, hTI, ⟨p, q, hTO⟩, h1, h2⟩ := st
  exact ⟨k z (by simp) _ hz, k TI (by simp) _ hTI, ⟨p, q, k TO (by simp) _ hTO⟩, h1.at λ o e => k i1 (by simp) o e, h2.at λ o e => k i2 (by simp) o e⟩
 item := by
  intro X hP hw hK hc i pins s σ H E I hf st hg
  subst hP hw hK
  obtain ⟨hz, hTI, ⟨a0, b0, hTO⟩, h1, h2⟩ := st
  obtain ⟨xs, ys, x, y, hq1, hq2, hx, hy⟩ := hg
  obtain ⟨its, rv, p, hzz⟩ := I.list hq1
  obtain ⟨its2, rv2, p2, hzz2⟩ := I.list hq2
  obtain ⟨u, hu, ru⟩ := rv.get hx
  obtain ⟨u2, hu2, ru2⟩ := rv2.get hy
  have free : ∀ l ys, SqL X.K H l ys -> ∀ b, b ∈ [z, TI, TO, i1, i2] -> l ≠ b := λ l ys hq b hb e => by
   subst e
   rcases hq with (hq | ⟨o, hq⟩) | ⟨o, its, n, hk, hc', _, hd', _⟩
   ·rw [(hf l hb).1] at hq; cases hq
   ·rw [(hf l hb).1] at hq; cases hq
   ·have e1 := I.kIn l o hk
    obtain ⟨o1, ho1, hcc1, hd1⟩ := id h1
    obtain ⟨o2, ho2, hcc2, hd2⟩ := id h2
    have hb : l = z ∨ l = TI ∨ l = TO ∨ l = i1 ∨ l = i2 := by simpa using hb
    rcases hb with rfl | rfl | rfl | rfl | rfl
    ·rw [hz] at e1; cases e1; simp at hc'
    ·rw [hTI] at e1; cases e1; simp at hc'
    ·rw [hTO] at e1; cases e1; simp at hc'
    ·rw [ho1] at e1; cases e1; rw [hc'] at hcc1; simp at hcc1
    ·rw [ho2] at e1; cases e1; rw [hc'] at hcc2; simp at hcc2
  have A1 := free l1 xs hq1
  have A2 := free l2 ys hq2
  have DD : ZipApart z TI TO i1 i2 l1 l2 := ⟨D.a, D.b, D.c, D.d, D.e, D.f, D.g, D.h, D.i, D.j, A1 z (by simp), A1 TO (by simp), A1 i1 (by simp), A1 i2 (by simp), A2 z (by simp), A2 TO (by simp), A2 i1 (by simp), A2 i2 (by simp)⟩
  refine wpAny_pyNext_zip_item DD hz hTI hTO h1 h2 p.isList p2.isList (x := u) (y := u2) (by simpa using hu) (by simpa using hu2) λ h3 z3 TO3 a3 b3 T3 sz3 k3 => ?_
  refine ⟨.ref s.heap.objs.size, rfl, wpAny_letOwnedTupleGo_zip z3 λ h4 z4 hs4 => ?_⟩
  replace hs4 : Heap.SameBut z h3 h4 := hs4
  have lt : ∀ {c o}, s.heap.get? c = some o -> c < s.heap.objs.size := λ e => Zs e
  have hzlt := lt hz
  have all : ∀ b ∈ [z, TI, TO, i1, i2], b < s.heap.objs.size := λ b hb => by
   have hb : b = z ∨ b = TI ∨ b = TO ∨ b = i1 ∨ b = i2 := by simpa using hb
   obtain ⟨o1, ho1, _⟩ := h1
   obtain ⟨o2, ho2, _⟩ := h2
   rcases hb with rfl | rfl | rfl | rfl | rfl
   ·exact lt hz
   ·exact lt hTI
   ·exact lt hTO
   ·exact lt ho1
   ·exact lt ho2
  have kk : ∀ b o, b ∉ [z, TI, TO, i1, i2] -> s.heap.get? b = some o -> h4.get? b = some o := λ b o hb q => by
   have n1 : b ≠ z := λ e => hb (by simp [e])
   exact hs4.extBut b o n1 (k3 b o n1 (λ e => hb (by simp [e])) (λ e => hb (by simp [e])) (λ e => hb (by simp [e])) q)
  have TI4 : IsPair h4 TI (.ref i1) (.ref i2) := hs4.extBut _ _ D.a (k3 _ _ D.a D.e D.f D.g hTI)
  have TO4 : IsPair h4 TO u u2 := hs4.extBut _ _ D.b TO3
  have a4 : h4.IsListIter i1 l1 (i + 1) := a3.extBut hs4.extBut D.c
  have b4 : h4.IsListIter i2 l2 (i + 1) := b3.extBut hs4.extBut D.d
  have T4 : IsTup h4 s.heap.objs.size [u, u2].toArray := ⟨_, (hs4.2 _ (ZaY hzlt)).trans T3, rfl, _, rfl⟩
  refine ⟨.ref s.heap.objs.size, upd H s.heap.objs.size (.tup [x, y]), I.Qor (t' := s.toks) hf kk (λ b hb => ?_) (Zk _) ⟨by show 2 <= sizeLine; decide, _, .cons ru (.cons ru2 .nil), T4⟩, rfl,
   ⟨_, x, y, rfl, I.hok.fresh (Zk _), rfl, λ zs hy' => by rw [I.QcX hy' hq1]; exact hx, λ zs hy' => by rw [I.QcX hy' hq2]; exact hy⟩, ⟨z4, TI4, ⟨_, _, TO4⟩, a4, b4⟩, λ b hb => ?_⟩
  ·have hb : b = z ∨ b = TI ∨ b = TO ∨ b = i1 ∨ b = i2 := by simpa using hb
   obtain ⟨o1, ho1, _⟩ := a4
   obtain ⟨o2, ho2, _⟩ := b4
   rcases hb with rfl | rfl | rfl | rfl | rfl
   ·exact ⟨_, z4⟩
   ·exact ⟨_, TI4⟩
   ·exact ⟨_, TO4⟩
   ·exact ⟨_, ho1⟩
   ·exact ⟨_, ho2⟩
  ·rw [QO (ZL (all b hb))]; exact (hf b hb).1
 done := by
  intro X hP hw hK hc i pins s σ H E I hf st hg
  subst hP hw hK
  obtain ⟨hz, hTI, ⟨a0, b0, hTO⟩, h1, h2⟩ := st
  obtain ⟨xs, ys, hq1, hq2, hx⟩ := hg
  obtain ⟨its, rv, p, hzz⟩ := I.list hq1
  obtain ⟨its2, rv2, p2, hzz2⟩ := I.list hq2
  have free : ∀ l ys, SqL X.K H l ys -> ∀ b, b ∈ [z, TI, TO, i1, i2] -> l ≠ b := λ l ys hq b hb e => by
   subst e
   rcases hq with (hq | ⟨o, hq⟩) | ⟨o, its, n, hk, hc', _, hd', _⟩
   ·rw [(hf l hb).1] at hq; cases hq
   ·rw [(hf l hb).1] at hq; cases hq
   ·have e1 := I.kIn l o hk
    obtain ⟨o1, ho1, hcc1, hd1⟩ := id h1
    obtain ⟨o2, ho2, hcc2, hd2⟩ := id h2
    have hb : l = z ∨ l = TI ∨ l = TO ∨ l = i1 ∨ l = i2 := by simpa using hb
    rcases hb with rfl | rfl | rfl | rfl | rfl
    ·rw [hz] at e1; cases e1; simp at hc'
    ·rw [hTI] at e1; cases e1; simp at hc'
    ·rw [hTO] at e1; cases e1; simp at hc'
    ·rw [ho1] at e1; cases e1; rw [hc'] at hcc1; simp at hcc1
    ·rw [ho2] at e1; cases e1; rw [hc'] at hcc2; simp at hcc2
  have A1 := free l1 xs hq1
  have A2 := free l2 ys hq2
  have DD : ZipApart z TI TO i1 i2 l1 l2 := ⟨D.a, D.b, D.c, D.d, D.e, D.f, D.g, D.h, D.i, D.j, A1 z (by simp), A1 TO (by simp), A1 i1 (by simp), A1 i2 (by simp), A2 z (by simp), A2 TO (by simp), A2 i1 (by simp), A2 i2 (by simp)⟩
  have hl := rv.length
  have hl2 := rv2.length
  refine wpAny_pyNext_zip_end (I.ok.hd hc) DD hz hTI hTO h1 h2 p.isList p2.isList (by rcases hx with hx | hx; (left; simp; omega); (right; simp; omega)) λ h3 k3 => ⟨rfl, ?_⟩
  exact I.turns (t' := s.toks) hf λ b o hb q => k3 b o (λ e => hb (by simp [e])) (λ e => hb (by simp [e])) (λ e => hb (by simp [e])) (λ e => hb (by simp [e])) q
 self := λ _ _ _ _ _ st h => wpAny_pyIter_zip st.1 h
section
variable {X : Cx}
noncomputable def Qxf (K : PySem.W.Frag) (ta : TA) : TI := λ σ H R => ta σ H λ vs H1 => ∃ a b, vs = [.ref a, .ref b] /\ (∃ xs, SqL K H1 a xs) /\ (∃ ys, SqL K H1 b ys) /\ R (Itz K a b) H1
theorem QuN {a b : Expr} {ta : TA} {p pos : Pos} {es : List Expr} {tk : Nat} {tpos : Pos} (hg : Gl X "zip") (hm : X.mg "zip" = none) (ha : PA X [a, b] ta) (hs : starEach [a, b] X.env = [(false, eval a X.env), (false, eval b X.env)]) (hs2 : starEach [b] X.env = [(false, eval b X.env)]) :
  PI X (.Tuple es tk tpos) (.Call (.Name "zip" p) [a, b] [] pos) (Qxf X.K ta) := by
 intro pins s σ H R I h
 refine Call_ (Qcy I hg hm PyProof.Rows.boot_zip (ZI (thn (ha pos pins s σ H _ I h) λ us s1 ⟨vs, H1, I1, r1, q1⟩ => ?_) (by rw [hs, hs2]) (by rw [hs2]; rfl)))
 obtain ⟨l, l2, e, ⟨xs, hq⟩, ⟨ys, hq2⟩, q⟩ := q1
 subst e
 obtain ⟨u, u2, rfl, ru, ru2⟩ := vals2 r1
 cases ru
 cases ru2
 obtain ⟨its, rv, pl, hz⟩ := I1.list hq
 obtain ⟨its2, rv2, pl2, hz2⟩ := I1.list hq2
 refine call_zip_2 pl.isList pl2.isList λ h2 hz hTI hTO h1 h2' hsz hk2 => ?_
 have I2 : Inv X pins σ H1 { s1 with heap := h2 } := I1.kept (t' := s1.toks) hk2
 refine wpAny_pyIter_zip hz ⟨_, [s1.heap.objs.size + 4, s1.heap.objs.size + 2, s1.heap.objs.size + 3, s1.heap.objs.size, s1.heap.objs.size + 1], _, _, H1, rfl, I2, Qrb l l2 _ _ _ _ _ ⟨?_, ?_, ?_, ?_, ?_, ?_, ?_, ?_, ?_, ?_⟩, ⟨hz, hTI, ⟨_, _, hTO⟩, h1, h2'⟩, λ b hb => ?_, q⟩
 iterate 10 (exact (by intro e; first | (have e' : (s1.heap.objs.size : Nat) + _ = _ := e; omega) | (have e' : (s1.heap.objs.size : Nat) = _ := e; omega)))
 have hle : s1.heap.objs.size <= b := by
  simp only [Zv, List.not_mem_nil, or_false] at hb
  rcases hb with rfl | rfl | rfl | rfl | rfl <;> first | exact Zk _ | exact Nat.le_add_right _ _
 exact I1.Qho hle (I1.hok.fresh hle)
end
end L2
namespace L2
open PySem PySem.Spec
theorem Qjr (a b c : Value) : checkTypeCall "zip" ⟨[a, b, c], []⟩ = pure () := by kernel_rfl
theorem Qkh (a b c : Value) : checkBuiltinCall "zip.__new__" ⟨[.type "zip", a, b, c], []⟩ = pure () := by kernel_rfl
theorem Qge (a b c d : Value) : argsOk "object.__init__" ⟨[a, b, c, d], []⟩ := by
 unfold argsOk; rw [signature?_of (id := "object.__init__") (n := ['_', '_', 't', 'i', 'n', 'i', '_', '_']) (o := ['t', 'c', 'e', 'j', 'b', 'o']) (by kernel_rfl) F.owner_object]; kernel_rfl
abbrev Q9 (h : Heap) (T : Addr) (a b c : Value) : Prop := h.get? T = some { cls := .type "tuple", data := .seq #[a, b, c] }
section
variable {prog : Program} {w : World} {A : Around} {E : Value -> Shared -> Prop} {s : Shared}
theorem Qdz {T : Addr} {a b c x : Value} {k : Nat} {Q : Unit -> Shared -> Prop} (hT : Q9 s.heap T a b c)
  (h : ∀ h', h'.get? T = some { cls := .type "tuple", data := .seq ((#[a, b, c] : Array Value).setIfInBounds k x) } -> Heap.SameBut T s.heap h' -> Q () { s with heap := h' }) :
  wpAny (model prog w) A (updateSeq T (·.setIfInBounds k x)) Q E s := by
 refine wpAny_updateSeq hT rfl (h _ ?_ (Heap.SameBut.update ..))
 rw [Heap.get?_update_self _ hT rfl]
 simp [Obj.mapSeq]
structure Six (z TI TO i1 i2 i3 : Addr) : Prop where
 TIz : TI ≠ z
 TOz : TO ≠ z
 i1z : i1 ≠ z
 i2z : i2 ≠ z
 i3z : i3 ≠ z
 TITO : TI ≠ TO
 TIi1 : TI ≠ i1
 TIi2 : TI ≠ i2
 TIi3 : TI ≠ i3
 TOi1 : TO ≠ i1
 TOi2 : TO ≠ i2
 TOi3 : TO ≠ i3
 i12 : i1 ≠ i2
 i13 : i1 ≠ i3
 i23 : i2 ≠ i3
def Off (z TO i1 i2 i3 l : Addr) : Prop := l ≠ z /\ l ≠ TO /\ l ≠ i1 /\ l ≠ i2 /\ l ≠ i3
theorem QpA {z TI TO i1 i2 i3 l1 l2 l3 : Addr} {k : Nat} {xs ys zs : Array Value} {x y u a b c : Value} {Q : Value -> Shared -> Prop} (D : Six z TI TO i1 i2 i3) (O1 : Off z TO i1 i2 i3 l1) (O2 : Off z TO i1 i2 i3 l2) (O3 : Off z TO i1 i2 i3 l3)
  (hz : IsZip s.heap z TI TO .none) (hTI : Q9 s.heap TI (.ref i1) (.ref i2) (.ref i3)) (hTO : Q9 s.heap TO a b c)
  (h1 : s.heap.IsListIter i1 l1 k) (h2 : s.heap.IsListIter i2 l2 k) (h3 : s.heap.IsListIter i3 l3 k) (hl1 : s.heap.IsList l1 xs) (hl2 : s.heap.IsList l2 ys) (hl3 : s.heap.IsList l3 zs) (hx : xs[k]? = some x) (hy : ys[k]? = some y) (hu : zs[k]? = some u)
  (hQ : ∀ h', IsZip h' z TI TO (rawInt s.heap.objs.size) -> Q9 h' TO x y u -> h'.IsListIter i1 l1 (k + 1) -> h'.IsListIter i2 l2 (k + 1) -> h'.IsListIter i3 l3 (k + 1) -> Q9 h' s.heap.objs.size x y u -> h'.objs.size = s.heap.objs.size + 1 →
   (∀ c o, c ≠ z -> c ≠ TO -> c ≠ i1 -> c ≠ i2 -> c ≠ i3 -> s.heap.get? c = some o -> h'.get? c = some o) -> Q (.ref s.heap.objs.size) { s with heap := h' }) :
  wpAny (model prog w) A (Builtin.«zip.__next__» ⟨[.ref z], []⟩) (λ fin s' => ∃ v, fin = .done (.ret v) /\ Q v s') E s := by
 show wpAny _ _ (field (.ref z) 2 >>= _) _ _ _
 refine wpAny_bind (wpAny_field hz rfl (x := .bool false) rfl ?_)
 show wpAny _ _ (field (.ref z) 3 >>= _) _ _ _
 refine wpAny_bind (wpAny_field hz rfl (x := .ref TI) rfl ?_)
 refine wpAny_bind (wpAny_seqItems hTI rfl ?_)
 show wpAny _ _ (Builtin.SmallTypes.ownedTupleIsFree (.ref z) >>= _) _ _ _
 refine wpAny_bind ?_
 unfold Builtin.SmallTypes.ownedTupleIsFree
 refine wpAny_bind (wpAny_field hz rfl (x := .none) rfl (wpAny_pure ?_))
 simp only [if_true]
 refine wpAny_bind (wpAny_rule ?_)
 refine wpAny_bind (wpAny_field hz rfl (x := .ref TO) rfl ?_)
 refine wpAny_bind (wpAny_setField_rec hz (by simp) λ g1 hz1 s1 => ?_)
 replace hz1 : IsZip g1 z TI TO .ellipsis := hz1
 refine wpAny_bind ?_
 simp only [List.zipIdx_cons, List.zipIdx_nil, ZbN, List.forIn_nil]
 refine wpAny_bind (wpAny_bind (wpAny_onRaise ?_))
 show wpAny _ _ (Builtin.SmallTypes.nextOf (.ref i1) >>= _) _ _ _
 have k1 : ∀ e o, e ≠ z -> s.heap.get? e = some o -> g1.get? e = some o := λ e o a1 q => s1.extBut _ _ a1 q
 refine wpAny_bind (wpAny_nextOf_list_item (h1.at λ o e => k1 _ o D.i1z e) (hl1.at λ o e => k1 _ o O1.1 e) hx λ g2 m1 s2 => wpAny_pure ?_)
 have k2 : ∀ e o, e ≠ z -> e ≠ i1 -> s.heap.get? e = some o -> g2.get? e = some o := λ e o a1 a3 q => s2.extBut _ _ a3 (k1 e o a1 q)
 have t2 : Q9 g2 TO a b c := k2 _ _ D.TOz D.TOi1 hTO
 refine wpAny_bind (wpAny_seqItems t2 rfl ?_)
 refine wpAny_bind (Qdz t2 λ g3 t3 s3 => ?_)
 replace t3 : Q9 g3 TO x b c := t3
 have k3 : ∀ e o, e ≠ z -> e ≠ TO -> e ≠ i1 -> s.heap.get? e = some o -> g3.get? e = some o := λ e o a1 a2 a3 q => s3.extBut _ _ a2 (k2 e o a1 a3 q)
 refine wpAny_bind (wpAny_letGo (wpAny_pure ?_))
 refine wpAny_bind (wpAny_bind (wpAny_onRaise ?_))
 show wpAny _ _ (Builtin.SmallTypes.nextOf (.ref i2) >>= _) _ _ _
 refine wpAny_bind (wpAny_nextOf_list_item (h2.at λ o e => k3 _ o D.i2z D.TOi2.symm D.i12.symm e) (hl2.at λ o e => k3 _ o O2.1 O2.2.1 O2.2.2.1 e) hy λ g4 m2 s4 => wpAny_pure ?_)
 have k4 : ∀ e o, e ≠ z -> e ≠ TO -> e ≠ i1 -> e ≠ i2 -> s.heap.get? e = some o -> g4.get? e = some o := λ e o a1 a2 a3 a4 q => s4.extBut _ _ a4 (k3 e o a1 a2 a3 q)
 have t4 : Q9 g4 TO x b c := s4.extBut _ _ D.TOi2 t3
 refine wpAny_bind (wpAny_seqItems t4 rfl ?_)
 refine wpAny_bind (Qdz t4 λ g5 t5 s5 => ?_)
 replace t5 : Q9 g5 TO x y c := t5
 have k5 : ∀ e o, e ≠ z -> e ≠ TO -> e ≠ i1 -> e ≠ i2 -> s.heap.get? e = some o -> g5.get? e = some o := λ e o a1 a2 a3 a4 q => s5.extBut _ _ a2 (k4 e o a1 a2 a3 a4 q)
 refine wpAny_bind (wpAny_letGo (wpAny_pure ?_))
 refine wpAny_bind (wpAny_bind (wpAny_onRaise ?_))
 show wpAny _ _ (Builtin.SmallTypes.nextOf (.ref i3) >>= _) _ _ _
 refine wpAny_bind (wpAny_nextOf_list_item (h3.at λ o e => k5 _ o D.i3z D.TOi3.symm D.i13.symm D.i23.symm e) (hl3.at λ o e => k5 _ o O3.1 O3.2.1 O3.2.2.1 O3.2.2.2.1 e) hu λ g6 m3 s6 => wpAny_pure ?_)
 have k6 : ∀ e o, e ≠ z -> e ≠ TO -> e ≠ i1 -> e ≠ i2 -> e ≠ i3 -> s.heap.get? e = some o -> g6.get? e = some o := λ e o a1 a2 a3 a4 a5 q => s6.extBut _ _ a5 (k5 e o a1 a2 a3 a4 q)
 have t6 : Q9 g6 TO x y c := s6.extBut _ _ D.TOi3 t5
 refine wpAny_bind (wpAny_seqItems t6 rfl ?_)
 refine wpAny_bind (Qdz t6 λ g7 t7 s7 => ?_)
 replace t7 : Q9 g7 TO x y u := t7
 have k7 : ∀ e o, e ≠ z -> e ≠ TO -> e ≠ i1 -> e ≠ i2 -> e ≠ i3 -> s.heap.get? e = some o -> g7.get? e = some o := λ e o a1 a2 a3 a4 a5 q => s7.extBut _ _ a2 (k6 e o a1 a2 a3 a4 a5 q)
 refine wpAny_bind (wpAny_letGo (wpAny_pure (wpAny_pure ?_)))
 refine wpAny_bind (wpAny_seqItems t7 rfl ?_)
 refine wpAny_bind (wpAny_newTuple ?_)
 have hsz : g7.objs.size = s.heap.objs.size := by rw [s7.1, s6.1, s5.1, s4.1, s3.1, s2.1, s1.1]
 have hz7 : IsZip g7 z TI TO .ellipsis := s7.extBut _ _ D.TOz.symm (s6.extBut _ _ D.i3z.symm (s5.extBut _ _ D.TOz.symm (s4.extBut _ _ D.i2z.symm (s3.extBut _ _ D.TOz.symm (s2.extBut _ _ D.i1z.symm hz1)))))
 have n1 : g7.IsListIter i1 l1 (k + 1) := ((((m1.extBut s3.extBut D.TOi1.symm).extBut s4.extBut D.i12).extBut s5.extBut D.TOi1.symm).extBut s6.extBut D.i13).extBut s7.extBut D.TOi1.symm
 have n2 : g7.IsListIter i2 l2 (k + 1) := ((m2.extBut s5.extBut D.TOi2.symm).extBut s6.extBut D.i23).extBut s7.extBut D.TOi2.symm
 have n3 : g7.IsListIter i3 l3 (k + 1) := m3.extBut s7.extBut D.TOi3.symm
 have hzlt : z < g7.objs.size := Zs hz7
 show wpAny _ _ (Builtin.SmallTypes.ownedTupleHandOut (.ref z) (.ref g7.objs.size) >>= _) _ _ _
 refine wpAny_bind ?_
 unfold Builtin.SmallTypes.ownedTupleHandOut
 have hz8 : IsZip (g7.push { cls := .type "tuple", data := .seq #[x, y, u] }) z TI TO .ellipsis := Zb _ hz7
 refine wpAny_bind (wpAny_setField_rec hz8 (by simp) λ g9 hz9 s9 => ?_)
 replace hz9 : IsZip g9 z TI TO (rawInt g7.objs.size) := hz9
 refine wpAny_setField_rec hz9 (by simp) λ g10 hz10 s10 => ?_
 replace hz10 : IsZip g10 z TI TO (rawInt g7.objs.size) := hz10
 have up : ∀ c o, c ≠ z -> g7.get? c = some o -> g10.get? c = some o := λ c o c1 e => s10.extBut _ _ c1 (s9.extBut _ _ c1 (Zb _ e))
 have hT : Q9 g10 g7.objs.size x y u := s10.extBut _ _ (ZaY hzlt) (s9.extBut _ _ (ZaY hzlt) (Zw _ rfl))
 have hz' : g10.objs.size = g7.objs.size + 1 := by rw [s10.1, s9.1, ZT]
 rw [hsz] at hz10 hT hz'
 refine wpAny_pure ⟨_, rfl, ?_⟩
 show Q (.ref g7.objs.size) _
 rw [hsz]
 exact hQ g10 hz10 (up _ _ D.TOz t7) (n1.at λ o e => up _ o D.i1z e) (n2.at λ o e => up _ o D.i2z e) (n3.at λ o e => up _ o D.i3z e) hT hz' λ c o c1 c2 c3 c4 c5 e => up c o c1 (k7 c o c1 c2 c3 c4 c5 e)
theorem QrJ {z TI TO i1 i2 i3 l1 : Addr} {k : Nat} {xs : Array Value} {Q : Fin -> Shared -> Prop} (hh : A.handled = none) (D : Six z TI TO i1 i2 i3) (O1 : l1 ≠ z)
  (hz : IsZip s.heap z TI TO .none) (hTI : Q9 s.heap TI (.ref i1) (.ref i2) (.ref i3)) (h1 : s.heap.IsListIter i1 l1 k) (hl1 : s.heap.IsList l1 xs) (hx : xs[k]? = none)
  (hE : ∀ h' e, (∀ c o, c ≠ z -> c ≠ i1 -> s.heap.get? c = some o -> h'.get? c = some o) -> (∃ o, h'.get? e = some o /\ o.cls = .type "StopIteration") -> E (.ref e) { s with heap := h' }) :
  wpAny (model prog w) A (Builtin.«zip.__next__» ⟨[.ref z], []⟩) Q E s := by
 show wpAny _ _ (field (.ref z) 2 >>= _) _ _ _
 refine wpAny_bind (wpAny_field hz rfl (x := .bool false) rfl ?_)
 show wpAny _ _ (field (.ref z) 3 >>= _) _ _ _
 refine wpAny_bind (wpAny_field hz rfl (x := .ref TI) rfl ?_)
 refine wpAny_bind (wpAny_seqItems hTI rfl ?_)
 show wpAny _ _ (Builtin.SmallTypes.ownedTupleIsFree (.ref z) >>= _) _ _ _
 refine wpAny_bind ?_
 unfold Builtin.SmallTypes.ownedTupleIsFree
 refine wpAny_bind (wpAny_field hz rfl (x := .none) rfl (wpAny_pure ?_))
 simp only [if_true]
 refine wpAny_bind (wpAny_rule ?_)
 refine wpAny_bind (wpAny_field hz rfl (x := .ref TO) rfl ?_)
 refine wpAny_bind (wpAny_setField_rec hz (by simp) λ g1 hz1 s1 => ?_)
 replace hz1 : IsZip g1 z TI TO .ellipsis := hz1
 refine wpAny_bind ?_
 simp only [List.zipIdx_cons, List.zipIdx_nil, ZbN, List.forIn_nil]
 refine wpAny_bind (wpAny_bind (wpAny_onRaise ?_))
 show wpAny _ _ (Builtin.SmallTypes.nextOf (.ref i1) >>= _) _ _ _
 refine wpAny_bind (wpAny_nextOf_list_end hh (h1.extBut s1.extBut D.i1z) (hl1.extBut s1.extBut O1) hx λ g2 e s2 he => ?_)
 obtain ⟨oe, hoe, hce⟩ := he
 have hz2 : IsZip g2 z TI TO .ellipsis := s2 _ _ D.i1z.symm hz1
 have hez : e ≠ z := λ x => by subst x; rw [hz2] at hoe; cases hoe; simp at hce
 refine wpAny_setField_rec hz2 (by simp) λ g3 _ s3 => hE g3 e (λ c o c1 c3 x => s3.extBut _ _ c1 (s2 _ _ c3 (s1.extBut _ _ c1 x))) ⟨oe, s3.extBut _ _ hez hoe, hce⟩
theorem Qmt {z TI TO i1 i2 i3 l1 l2 l3 : Addr} {k : Nat} {xs ys zs : Array Value} {x y u a b c : Value} {Q : Option Value -> Shared -> Prop} (D : Six z TI TO i1 i2 i3) (O1 : Off z TO i1 i2 i3 l1) (O2 : Off z TO i1 i2 i3 l2) (O3 : Off z TO i1 i2 i3 l3)
  (hz : IsZip s.heap z TI TO .none) (hTI : Q9 s.heap TI (.ref i1) (.ref i2) (.ref i3)) (hTO : Q9 s.heap TO a b c)
  (h1 : s.heap.IsListIter i1 l1 k) (h2 : s.heap.IsListIter i2 l2 k) (h3 : s.heap.IsListIter i3 l3 k) (hl1 : s.heap.IsList l1 xs) (hl2 : s.heap.IsList l2 ys) (hl3 : s.heap.IsList l3 zs) (hx : xs[k]? = some x) (hy : ys[k]? = some y) (hu : zs[k]? = some u)
  (hQ : ∀ h', IsZip h' z TI TO (rawInt s.heap.objs.size) -> Q9 h' TO x y u -> h'.IsListIter i1 l1 (k + 1) -> h'.IsListIter i2 l2 (k + 1) -> h'.IsListIter i3 l3 (k + 1) -> Q9 h' s.heap.objs.size x y u -> h'.objs.size = s.heap.objs.size + 1 →
   (∀ c o, c ≠ z -> c ≠ TO -> c ≠ i1 -> c ≠ i2 -> c ≠ i3 -> s.heap.get? c = some o -> h'.get? c = some o) -> Q (some (.ref s.heap.objs.size)) { s with heap := h' }) :
  wpAny (model prog w) A (pyNext (.ref z)) Q E s := by
 have hT : s.TypeIs (.ref z) "zip" := ⟨_, hz, rfl⟩
 unfold pyNext
 exact wpAny_bind (wpAny_attempt (wpAny_callSpecial?_slot (name := Str.ofString "__next__") hT Zbj
  (wpAny_call_entry Zbj hT F.entry_zip_next
   (QpA D O1 O2 O3 hz hTI hTO h1 h2 h3 hl1 hl2 hl3 hx hy hu λ h' a1 a2 a3 a4 a5 a6 a7 a8 => wpAny_pure (hQ h' a1 a2 a3 a4 a5 a6 a7 a8)) (F.args_zip_next_1 _))))
theorem QiQ {z TI TO i1 i2 i3 l1 : Addr} {k : Nat} {xs : Array Value} {Q : Option Value -> Shared -> Prop} (hh : A.handled = none) (D : Six z TI TO i1 i2 i3) (O1 : l1 ≠ z)
  (hz : IsZip s.heap z TI TO .none) (hTI : Q9 s.heap TI (.ref i1) (.ref i2) (.ref i3)) (h1 : s.heap.IsListIter i1 l1 k) (hl1 : s.heap.IsList l1 xs) (hx : xs[k]? = none)
  (hQ : ∀ h', (∀ c o, c ≠ z -> c ≠ i1 -> s.heap.get? c = some o -> h'.get? c = some o) -> Q none { s with heap := h' }) : wpAny (model prog w) A (pyNext (.ref z)) Q E s := by
 have hT : s.TypeIs (.ref z) "zip" := ⟨_, hz, rfl⟩
 unfold pyNext
 refine wpAny_bind (wpAny_attempt (wpAny_callSpecial?_slot (name := Str.ofString "__next__") hT Zbj
  (wpAny_call_entry Zbj hT F.entry_zip_next (QrJ hh D O1 hz hTI h1 hl1 hx λ h' e hk he => ?_) (F.args_zip_next_1 _))))
 obtain ⟨o, ho, hc⟩ := he
 refine wpAny_bind (wpAny_isInstance (T := "StopIteration") (b := true) ⟨o, ho, hc⟩ isSubtype_stop ?_)
 exact wpAny_pure (hQ _ hk)
end
noncomputable abbrev zA (h : Heap) (l1 : Addr) : Heap := h.push { cls := .type "list_iterator", data := .fields #[.ref l1, .int 0 0] }
noncomputable abbrev zB (h : Heap) (l1 l2 : Addr) : Heap := (zA h l1).push { cls := .type "list_iterator", data := .fields #[.ref l2, .int 0 0] }
noncomputable abbrev zC (h : Heap) (l1 l2 l3 : Addr) : Heap := (zB h l1 l2).push { cls := .type "list_iterator", data := .fields #[.ref l3, .int 0 0] }
noncomputable abbrev zD (h : Heap) (l1 l2 l3 : Addr) : Heap := (zC h l1 l2 l3).push { cls := .type "tuple", data := .seq #[.ref h.objs.size, .ref (zA h l1).objs.size, .ref (zB h l1 l2).objs.size] }
noncomputable abbrev zE (h : Heap) (l1 l2 l3 : Addr) : Heap := (zD h l1 l2 l3).push { cls := .type "tuple", data := .seq #[.none, .none, .none] }
noncomputable abbrev zF (h : Heap) (l1 l2 l3 : Addr) : Heap := (zE h l1 l2 l3).push { cls := .type "zip", data := .fields #[.none, .bool false, .bool false, .ref (zC h l1 l2 l3).objs.size, .ref (zD h l1 l2 l3).objs.size] }
theorem Qjt (l1 l2 l3 : Addr) (xs ys zs : Array Value) :
  Meets (Builtin.«zip.__new__» ⟨[.type "zip", .ref l1, .ref l2, .ref l3], []⟩) (λ _ R s => s.heap.IsList l1 xs /\ s.heap.IsList l2 ys /\ s.heap.IsList l3 zs ∧
   R (.ok (.ret (.ref (zE s.heap l1 l2 l3).objs.size))) { s with heap := zF s.heap l1 l2 l3 }) :=
 .of_wp λ prog w A R s h => by
  obtain ⟨hp, g, d, tk, os⟩ := s; obtain ⟨hl1, hl2, hl3, h⟩ := h
  have hsub := sub_zip
  have hL1 : Heap.IsList (Shared.heap ⟨hp, g, d, tk, os⟩) l1 xs := hl1
  have hL2 : Heap.IsList (Shared.heap ⟨hp.push { cls := .type "list_iterator", data := .fields #[.ref l1, .int 0 0] }, g, d, tk, os⟩) l2 ys := Zbz hl2 _
  have hL3 : Heap.IsList (Shared.heap ⟨(hp.push { cls := .type "list_iterator", data := .fields #[.ref l1, .int 0 0] }).push { cls := .type "list_iterator", data := .fields #[.ref l2, .int 0 0] }, g, d, tk, os⟩) l3 zs := Zbz (Zbz hl3 _) _
  wp_walk using wpAny_pyIter_list hL1, wpAny_pyIter_list hL2, wpAny_pyIter_list hL3
  exact ⟨_, rfl, h⟩
section
variable {prog : Program} {w : World} {A : Around} {E : Value -> Shared -> Prop} {s : Shared}
theorem Qos {l1 l2 l3 : Addr} {xs ys zs : Array Value} {Q : Value -> Shared -> Prop} (hl1 : s.heap.IsList l1 xs) (hl2 : s.heap.IsList l2 ys) (hl3 : s.heap.IsList l3 zs)
  (h : ∀ h', IsZip h' (s.heap.objs.size + 5) (s.heap.objs.size + 3) (s.heap.objs.size + 4) .none -> Q9 h' (s.heap.objs.size + 3) (.ref s.heap.objs.size) (.ref (s.heap.objs.size + 1)) (.ref (s.heap.objs.size + 2)) →
   Q9 h' (s.heap.objs.size + 4) .none .none .none -> h'.IsListIter s.heap.objs.size l1 0 -> h'.IsListIter (s.heap.objs.size + 1) l2 0 -> h'.IsListIter (s.heap.objs.size + 2) l3 0 →
   (∀ c o, s.heap.get? c = some o -> h'.get? c = some o) -> Q (.ref (s.heap.objs.size + 5)) { s with heap := h' }) :
  wpAny (model prog w) A (call (.type "zip") [.ref l1, .ref l2, .ref l3]) Q E s := by
 refine callType_new F.called_zip (by decide) (Qjr _ _ _) (Qkh _ _ _) (λ obj => Qge obj _ _ _) F.entry_zip_new
  (Qjt l1 l2 l3 xs ys zs) ⟨hl1, hl2, hl3, ?_⟩
 have z1 : (zA s.heap l1).objs.size = s.heap.objs.size + 1 := ZT ..
 have z2 : (zB s.heap l1 l2).objs.size = s.heap.objs.size + 2 := by rw [ZT, z1]
 have z3 : (zC s.heap l1 l2 l3).objs.size = s.heap.objs.size + 3 := by rw [ZT, z2]
 have z4 : (zD s.heap l1 l2 l3).objs.size = s.heap.objs.size + 4 := by rw [ZT, z3]
 have z5 : (zE s.heap l1 l2 l3).objs.size = s.heap.objs.size + 5 := by rw [ZT, z4]
 have g6 : (zF s.heap l1 l2 l3).get? (zE s.heap l1 l2 l3).objs.size = some _ := Zw _ rfl
 have g5 : (zF s.heap l1 l2 l3).get? (zD s.heap l1 l2 l3).objs.size = some _ := Zb _ (Zw _ rfl)
 have g4 : (zF s.heap l1 l2 l3).get? (zC s.heap l1 l2 l3).objs.size = some _ := Zb _ (Zb _ (Zw _ rfl))
 have g3 : (zF s.heap l1 l2 l3).get? (zB s.heap l1 l2).objs.size = some _ := Zb _ (Zb _ (Zb _ (Zw _ rfl)))
 have g2 : (zF s.heap l1 l2 l3).get? (zA s.heap l1).objs.size = some _ := Zb _ (Zb _ (Zb _ (Zb _ (Zw _ rfl))))
 have g1 : (zF s.heap l1 l2 l3).get? s.heap.objs.size = some _ := Zb _ (Zb _ (Zb _ (Zb _ (Zb _ (Zw _ rfl)))))
 show _ /\ _
 rw [z3, z4, z5] at g6
 rw [z1, z2, z3] at g4
 rw [z4] at g5
 rw [z2] at g3
 rw [z1] at g2
 rw [z5]
 exact ⟨⟨_, g6, rfl⟩, h _ g6 g4 g5 ⟨_, g1, rfl, rfl⟩ ⟨_, g2, rfl, rfl⟩ ⟨_, g3, rfl, rfl⟩ λ c o x =>
  Zb _ (Zb _ (Zb _ (Zb _ (Zb _ (Zb _ x)))))⟩
end
open PyProof.Rows
noncomputable def QqK (K : PySem.W.Frag) (a b c : Addr) : It :=
 ⟨λ i H => ∃ xs ys zs x y z, SqL K H a xs /\ SqL K H b ys /\ SqL K H c zs /\ xs[i]? = some x /\ ys[i]? = some y /\ zs[i]? = some z, λ i H v H' => ∃ p x y z, v = .ref p /\ H p = none /\ H' = upd H p (.tup [x, y, z]) /\ (∀ xs, SqL K H a xs -> xs[i]? = some x) /\ (∀ ys, SqL K H b ys -> ys[i]? = some y) /\ ∀ zs, SqL K H c zs -> zs[i]? = some z,
  λ i H => ∃ xs, SqL K H a xs /\ xs.length <= i⟩
theorem QpB {P : Program} {w : World} {K : PySem.W.Frag} {es : List Expr} {tk : Nat} {tpos : Pos} (l1 l2 l3 z TI TO i1 i2 i3 : Addr) (D : Six z TI TO i1 i2 i3) :
  Turn P w K (.Tuple es tk tpos) (QqK K l1 l2 l3) [z, TI, TO, i1, i2, i3] z (λ i h => IsZip h z TI TO .none /\ Q9 h TI (.ref i1) (.ref i2) (.ref i3) /\ (∃ a b c, Q9 h TO a b c) /\ h.IsListIter i1 l1 i /\ h.IsListIter i2 l2 i /\ h.IsListIter i3 l3 i) := by
 have six : ∀ {b : Addr}, b ∈ [z, TI, TO, i1, i2, i3] -> b = z ∨ b = TI ∨ b = TO ∨ b = i1 ∨ b = i2 ∨ b = i3 := λ hb => by simpa using hb
 have free : ∀ {X : Cx} {pins σ H s} (I : Inv X pins σ H s) (hK : X.K = K) (hf : ∀ b ∈ [z, TI, TO, i1, i2, i3], H b = none) {i : Nat} (hz : IsZip s.heap z TI TO .none) (hTI : Q9 s.heap TI (.ref i1) (.ref i2) (.ref i3)) (hTO : ∃ a b c, Q9 s.heap TO a b c) (h1 : s.heap.IsListIter i1 l1 i) (h2 : s.heap.IsListIter i2 l2 i) (h3 : s.heap.IsListIter i3 l3 i) (l : Addr) (ys : List V), SqL K H l ys -> ∀ b, b ∈ [z, TI, TO, i1, i2, i3] -> l ≠ b := by
  intro X pins σ H s I hK hf i hz hTI hTO h1 h2 h3 l ys hq b hb e
  subst e
  subst hK
  rcases hq with (hq | ⟨o, hq⟩) | ⟨o, its, n, hk, hc', _, hd', _⟩
  ·rw [hf l hb] at hq; cases hq
  ·rw [hf l hb] at hq; cases hq
  ·have e1 := I.kIn l o hk
   obtain ⟨_, _, _, hTO⟩ := hTO
   obtain ⟨o1, ho1, hcc1, hd1⟩ := h1
   obtain ⟨o2, ho2, hcc2, hd2⟩ := h2
   obtain ⟨o3, ho3, hcc3, hd3⟩ := h3
   rcases six hb with rfl | rfl | rfl | rfl | rfl | rfl
   ·rw [hz] at e1; cases e1; simp at hc'
   ·rw [hTI] at e1; cases e1; simp at hc'
   ·rw [hTO] at e1; cases e1; simp at hc'
   ·rw [ho1] at e1; cases e1; rw [hc'] at hcc1; simp at hcc1
   ·rw [ho2] at e1; cases e1; rw [hc'] at hcc2; simp at hcc2
   ·rw [ho3] at e1; cases e1; rw [hc'] at hcc3; simp at hcc3
 exact {
  mem := by simp
  obj := λ i h st b hb => by
   obtain ⟨hz, hTI, ⟨p, q, r, hTO⟩, ⟨o1, ho1, hc1, hd1⟩, ⟨o2, ho2, hc2, hd2⟩, ⟨o3, ho3, hc3, hd3⟩⟩ := st
   rcases six hb with rfl | rfl | rfl | rfl | rfl | rfl
   ·exact ⟨_, hz, λ v z => by cases z⟩
   ·exact ⟨_, hTI, λ v z => by cases z⟩
   ·exact ⟨_, hTO, λ v z => by cases z⟩
   ·exact ⟨o1, ho1, λ v z => by rw [hd1] at z; cases z⟩
   ·exact ⟨o2, ho2, λ v z => by rw [hd2] at z; cases z⟩
   ·exact ⟨o3, ho3, λ v z => by rw [hd3] at z; cases z⟩
  keep := λ i h h' st k => by
   obtain ⟨hz, hTI, ⟨p, q, r, hTO⟩, h1, h2, h3⟩ := st
   exact ⟨k z (by simp) _ hz, k TI (by simp) _ hTI, ⟨p, q, r, k TO (by simp) _ hTO⟩, h1.at λ o e => k i1 (by simp) o e, h2.at λ o e => k i2 (by simp) o e, h3.at λ o e => k i3 (by simp) o e⟩
  item := by
   intro X hP hw hK hc i pins s σ H E I hf st hg
   have fr := free I hK (λ b hb => (hf b hb).1) st.1 st.2.1 st.2.2.1 st.2.2.2.1 st.2.2.2.2.1 st.2.2.2.2.2
   subst hP hw hK
   obtain ⟨hz, hTI, ⟨a0, b0, c0, hTO⟩, h1, h2, h3⟩ := st
   obtain ⟨xs, ys, zs, x, y, u, hq1, hq2, hq3, hx, hy, hu⟩ := hg
   obtain ⟨its, rv, p, hzz⟩ := I.list hq1
   obtain ⟨its2, rv2, p2, hzz2⟩ := I.list hq2
   obtain ⟨its3, rv3, p3, hzz3⟩ := I.list hq3
   obtain ⟨v1, hv1, r1⟩ := rv.get hx
   obtain ⟨v2, hv2, r2⟩ := rv2.get hy
   obtain ⟨v3, hv3, r3⟩ := rv3.get hu
   have off : ∀ l ys, SqL X.K H l ys -> Off z TO i1 i2 i3 l := λ l ys hq => ⟨fr l ys hq z (by simp), fr l ys hq TO (by simp), fr l ys hq i1 (by simp), fr l ys hq i2 (by simp), fr l ys hq i3 (by simp)⟩
   refine Qmt D (off l1 xs hq1) (off l2 ys hq2) (off l3 zs hq3) hz hTI hTO h1 h2 h3 p.isList p2.isList p3.isList (x := v1) (y := v2) (u := v3) (by simpa using hv1) (by simpa using hv2) (by simpa using hv3) λ g3 z3 TO3 a3 b3 c3 T3 sz3 k3 => ?_
   refine ⟨.ref s.heap.objs.size, rfl, wpAny_letOwnedTupleGo_zip z3 λ g4 z4 hs4 => ?_⟩
   replace hs4 : Heap.SameBut z g3 g4 := hs4
   have lt : ∀ {c o}, s.heap.get? c = some o -> c < s.heap.objs.size := λ e => Zs e
   have hzlt := lt hz
   have all : ∀ b ∈ [z, TI, TO, i1, i2, i3], b < s.heap.objs.size := λ b hb => by
    obtain ⟨o1, ho1, _⟩ := h1
    obtain ⟨o2, ho2, _⟩ := h2
    obtain ⟨o3, ho3, _⟩ := h3
    rcases six hb with rfl | rfl | rfl | rfl | rfl | rfl
    ·exact lt hz
    ·exact lt hTI
    ·exact lt hTO
    ·exact lt ho1
    ·exact lt ho2
    ·exact lt ho3
   have kk : ∀ b o, b ∉ [z, TI, TO, i1, i2, i3] -> s.heap.get? b = some o -> g4.get? b = some o := λ b o hb q => by
    have n1 : b ≠ z := λ e => hb (by simp [e])
    exact hs4.extBut b o n1 (k3 b o n1 (λ e => hb (by simp [e])) (λ e => hb (by simp [e])) (λ e => hb (by simp [e])) (λ e => hb (by simp [e])) q)
   have TI4 : Q9 g4 TI (.ref i1) (.ref i2) (.ref i3) := hs4.extBut _ _ D.TIz (k3 _ _ D.TIz D.TITO D.TIi1 D.TIi2 D.TIi3 hTI)
   have TO4 : Q9 g4 TO v1 v2 v3 := hs4.extBut _ _ D.TOz TO3
   have a4 : g4.IsListIter i1 l1 (i + 1) := a3.extBut hs4.extBut D.i1z
   have b4 : g4.IsListIter i2 l2 (i + 1) := b3.extBut hs4.extBut D.i2z
   have c4 : g4.IsListIter i3 l3 (i + 1) := c3.extBut hs4.extBut D.i3z
   have T4 : IsTup g4 s.heap.objs.size [v1, v2, v3].toArray := ⟨_, (hs4.2 _ (ZaY hzlt)).trans T3, rfl, _, rfl⟩
   refine ⟨.ref s.heap.objs.size, upd H s.heap.objs.size (.tup [x, y, u]), I.Qor (t' := s.toks) hf kk (λ b hb => ?_) (Zk _) ⟨by show 3 <= sizeLine; decide, _, .cons r1 (.cons r2 (.cons r3 .nil)), T4⟩, rfl,
    ⟨_, x, y, u, rfl, I.hok.fresh (Zk _), rfl, λ ws hy' => by rw [I.QcX hy' hq1]; exact hx, λ ws hy' => by rw [I.QcX hy' hq2]; exact hy, λ ws hy' => by rw [I.QcX hy' hq3]; exact hu⟩, ⟨z4, TI4, ⟨_, _, _, TO4⟩, a4, b4, c4⟩, λ b hb => ?_⟩
   ·obtain ⟨o1, ho1, _⟩ := a4
    obtain ⟨o2, ho2, _⟩ := b4
    obtain ⟨o3, ho3, _⟩ := c4
    rcases six hb with rfl | rfl | rfl | rfl | rfl | rfl
    ·exact ⟨_, z4⟩
    ·exact ⟨_, TI4⟩
    ·exact ⟨_, TO4⟩
    ·exact ⟨_, ho1⟩
    ·exact ⟨_, ho2⟩
    ·exact ⟨_, ho3⟩
   ·rw [QO (ZL (all b hb))]; exact (hf b hb).1
  done := by
   intro X hP hw hK hc i pins s σ H E I hf st hg
   have fr := free I hK (λ b hb => (hf b hb).1) st.1 st.2.1 st.2.2.1 st.2.2.2.1 st.2.2.2.2.1 st.2.2.2.2.2
   subst hP hw hK
   obtain ⟨hz, hTI, ⟨a0, b0, c0, hTO⟩, h1, h2, h3⟩ := st
   obtain ⟨xs, hq1, hx⟩ := hg
   obtain ⟨its, rv, p, hzz⟩ := I.list hq1
   have hl := rv.length
   refine QiQ (I.ok.hd hc) D (fr l1 xs hq1 z (by simp)) hz hTI h1 p.isList (by simp; omega) λ g3 k3 => ⟨rfl, ?_⟩
   exact I.turns (t' := s.toks) hf λ b o hb q => k3 b o (λ e => hb (by simp [e])) (λ e => hb (by simp [e])) q
  self := λ _ _ _ _ _ st h => wpAny_pyIter_zip st.1 h }
theorem vals3 {x y z : V} {us : List Value} (r : Qy [x, y, z] us) : ∃ u v w', us = [u, v, w'] /\ RelV x u /\ RelV y v /\ RelV z w' := by
 cases r with
 | cons r1 r2 =>
  obtain ⟨v, w', rfl, h1, h2⟩ := vals2 r2
  exact ⟨_, _, _, rfl, r1, h1, h2⟩
section
variable {X : Cx}
noncomputable def Qww (K : PySem.W.Frag) (ta : TA) : TI := λ σ H R => ta σ H λ vs H1 => ∃ a b c, vs = [.ref a, .ref b, .ref c] /\ (∃ xs, SqL K H1 a xs) /\ (∃ ys, SqL K H1 b ys) /\ (∃ zs, SqL K H1 c zs) /\ R (QqK K a b c) H1
theorem Qsv {a b c : Expr} {ta : TA} {p pos : Pos} {es : List Expr} {tk : Nat} {tpos : Pos} (hg : Gl X "zip") (hm : X.mg "zip" = none) (ha : PA X [a, b, c] ta) (hs : starEach [a, b, c] X.env = (false, eval a X.env) :: starEach [b, c] X.env) (hs2 : (backTo pos (starEach [b, c] X.env)).any (·.1) = false) :
  PI X (.Tuple es tk tpos) (.Call (.Name "zip" p) [a, b, c] [] pos) (Qww X.K ta) := by
 intro pins s σ H R I h
 refine Call_ (Qcy I hg hm PyProof.Rows.boot_zip (ZI (thn (ha pos pins s σ H _ I h) λ us s1 ⟨vs, H1, I1, r1, q1⟩ => ?_) hs hs2))
 obtain ⟨l, l2, l3, e, ⟨xs, hq⟩, ⟨ys, hq2⟩, ⟨zs, hq3⟩, q⟩ := q1
 subst e
 obtain ⟨u, u2, u3, rfl, ru, ru2, ru3⟩ := vals3 r1
 cases ru
 cases ru2
 cases ru3
 obtain ⟨its, rv, pl, hz⟩ := I1.list hq
 obtain ⟨its2, rv2, pl2, hz2⟩ := I1.list hq2
 obtain ⟨its3, rv3, pl3, hz3⟩ := I1.list hq3
 refine Qos pl.isList pl2.isList pl3.isList λ h2 hz hTI hTO h1 h2' h3' hk2 => ?_
 have I2 : Inv X pins σ H1 { s1 with heap := h2 } := I1.kept (t' := s1.toks) hk2
 refine wpAny_pyIter_zip hz ⟨_, [s1.heap.objs.size + 5, s1.heap.objs.size + 3, s1.heap.objs.size + 4, s1.heap.objs.size, s1.heap.objs.size + 1, s1.heap.objs.size + 2], _, _, H1, rfl, I2, QpB l l2 l3 _ _ _ _ _ _ ⟨?_, ?_, ?_, ?_, ?_, ?_, ?_, ?_, ?_, ?_, ?_, ?_, ?_, ?_, ?_⟩, ⟨hz, hTI, ⟨_, _, _, hTO⟩, h1, h2', h3'⟩, λ b hb => ?_, q⟩
 iterate 15 (exact (by intro e; first | (have e' : (s1.heap.objs.size : Nat) + _ = _ := e; omega) | (have e' : (s1.heap.objs.size : Nat) = _ := e; omega)))
 have hle : s1.heap.objs.size <= b := by
  simp only [Zv, List.not_mem_nil, or_false] at hb
  rcases hb with rfl | rfl | rfl | rfl | rfl | rfl <;> first | exact Zk _ | exact Nat.le_add_right _ _
 exact I1.Qho hle (I1.hok.fresh hle)
end
end L2
namespace HS
open PySem PySem.Spec PyProof.Rows L2
inductive D where
 | non | bl (b : Bool) | int (i : Int) | str (x : Str) | tup (xs : List D) | lst (xs : List D)
mutual
noncomputable def D.flat : D -> Bool
 | .lst _ => false
 | .tup xs => Q2 xs
 | .non => true
 | .bl _ => true
 | .int _ => true
 | .str _ => true
noncomputable def Q2 : List D -> Bool
 | [] => true
 | d :: ds => d.flat && Q2 ds
end
mutual
noncomputable def D.nl : D -> Nat
 | .lst xs => nls xs + 1
 | .tup xs => nls xs
 | .non => 0
 | .bl _ => 0
 | .int _ => 0
 | .str _ => 0
noncomputable def nls : List D -> Nat
 | [] => 0
 | d :: ds => d.nl + nls ds
end
mutual
theorem QdC : ∀ (d : D), d.flat = true -> d.nl = 0
 | .non, _ => rfl
 | .bl _, _ => rfl
 | .int _, _ => rfl
 | .str _, _ => rfl
 | .tup xs, h => by simp only [D.nl]; simp only [D.flat] at h; exact QhB xs h
 | .lst xs, h => by simp [D.flat] at h
theorem QhB : ∀ (ds : List D), Q2 ds = true -> nls ds = 0
 | [], _ => rfl
 | d :: ds, h => by simp only [Q2, Zl] at h; simp only [nls, QdC d h.1, QhB ds h.2]
end
def Fix (K : PySem.W.Frag) (H : Hp) (a : Addr) (vs : List V) : Prop :=
 (∃ o, H a = some (.frz o (.lst vs))) ∨
  ∃ (its : List Value) (n : Nat), K.lookup a = some { cls := .type "list", data := .seq its.toArray n } /\ vs.length <= sizeLine /\ Qy vs its
mutual
noncomputable def Rp (K : PySem.W.Frag) (H : Hp) : D -> V -> List Addr -> Prop
 | .non, v, F => v = .non /\ F = []
 | .bl b, v, F => v = .bl b /\ F = []
 | .int i, v, F => v = .int i /\ F = []
 | .str x, v, F => v = .str x /\ F = []
 | .tup ds, v, F => ∃ a vs, v = .ref a /\ SqT K H a vs /\ Rps K H ds vs F
 | .lst ds, v, F => ds.length <= sizeLine /\ ∃ a vs, v = .ref a /\ ((∃ G, F = a :: G /\ H a = some (.lst vs) /\ Rps K H ds vs G) ∨ (Fix K H a vs /\ Rps K H ds vs F))
noncomputable def Rps (K : PySem.W.Frag) (H : Hp) : List D -> List V -> List Addr -> Prop
 | [], vs, F => vs = [] /\ F = []
 | d :: ds, vs, F => ∃ v ws F1 F2, vs = v :: ws /\ F = F1 ++ F2 /\ Rp K H d v F1 /\ Rps K H ds ws F2
end
theorem QlR {K : PySem.W.Frag} {H H' : Hp} {a : Addr} {vs : List V} (s : QK H H') (h : SqT K H a vs) : SqT K H' a vs := by
 rcases h with (h | ⟨o, h⟩) | h
 ·exact .inl (.inl (s _ _ h))
 ·exact .inl (.inr ⟨o, s _ _ h⟩)
 ·exact .inr h
theorem Qlh {K : PySem.W.Frag} {H H' : Hp} {a : Addr} {vs : List V} (s : QK H H') (h : Fix K H a vs) : Fix K H' a vs := by
 rcases h with ⟨o, h⟩ | h
 ·exact .inl ⟨o, s _ _ h⟩
 ·exact .inr h
theorem QmZ {K : PySem.W.Frag} {H : Hp} {a p : Addr} {vs zs ys : List V} (hp : H p = some (.lst zs)) (h : SqT K H a vs) : SqT K (upd H p (.lst ys)) a vs := by
 rcases h with (h | ⟨o, h⟩) | h
 ·exact .inl (.inl (by rw [QO (Qn0 h hp (by intro z; cases z))]; exact h))
 ·exact .inl (.inr ⟨o, by rw [QO (Qn0 h hp (by intro z; cases z))]; exact h⟩)
 ·exact .inr h
theorem QsI {K : PySem.W.Frag} {H : Hp} {a p : Addr} {vs zs ys : List V} (hp : H p = some (.lst zs)) (h : Fix K H a vs) : Fix K (upd H p (.lst ys)) a vs := by
 rcases h with ⟨o, h⟩ | h
 ·exact .inl ⟨o, by rw [QO (Qn0 h hp (by intro z; cases z))]; exact h⟩
 ·exact .inr h
section
variable {K : PySem.W.Frag} {H H' : Hp}
mutual
theorem Rp.same (s : QK H H') : ∀ {d : D} {v : V} {F : List Addr}, Rp K H d v F -> Rp K H' d v F
 | .non, _, _, h => h
 | .bl _, _, _, h => h
 | .int _, _, _, h => h
 | .str _, _, _, h => h
 | .tup ds, _, _, h => by
  simp only [Rp] at h ⊢
  obtain ⟨a, vs, e, q, r⟩ := h
  exact ⟨a, vs, e, QlR s q, Rps.same s r⟩
 | .lst ds, _, _, h => by
  simp only [Rp] at h ⊢
  obtain ⟨hz, a, vs, e, ⟨G, eF, q, r⟩ | ⟨q, r⟩⟩ := h
  ·exact ⟨hz, a, vs, e, .inl ⟨G, eF, s _ _ q, Rps.same s r⟩⟩
  ·exact ⟨hz, a, vs, e, .inr ⟨Qlh s q, Rps.same s r⟩⟩
theorem Rps.same (s : QK H H') : ∀ {ds : List D} {vs : List V} {F : List Addr}, Rps K H ds vs F -> Rps K H' ds vs F
 | [], _, _, h => h
 | d :: ds, _, _, h => by
  simp only [Rps] at h ⊢
  obtain ⟨v, ws, F1, F2, e, eF, r, q⟩ := h
  exact ⟨v, ws, F1, F2, e, eF, Rp.same s r, Rps.same s q⟩
end
mutual
theorem Rp.upd {p : Addr} {zs ys : List V} (hp : H p = some (.lst zs)) : ∀ {d : D} {v : V} {F : List Addr}, Rp K H d v F -> p ∉ F -> Rp K (upd H p (.lst ys)) d v F
 | .non, _, _, h, _ => h
 | .bl _, _, _, h, _ => h
 | .int _, _, _, h, _ => h
 | .str _, _, _, h, _ => h
 | .tup ds, _, _, h, hn => by
  simp only [Rp] at h ⊢
  obtain ⟨a, vs, e, q, r⟩ := h
  exact ⟨a, vs, e, QmZ hp q, Rps.upd hp r hn⟩
 | .lst ds, _, _, h, hn => by
  simp only [Rp] at h ⊢
  obtain ⟨hz, a, vs, e, ⟨G, eF, q, r⟩ | ⟨q, r⟩⟩ := h
  ·subst eF
   have h1 : a ≠ p := λ z => hn (by rw [z]; exact Zi)
   exact ⟨hz, a, vs, e, .inl ⟨G, rfl, by rw [QO h1]; exact q, Rps.upd hp r λ z => hn (Zc _ z)⟩⟩
  ·exact ⟨hz, a, vs, e, .inr ⟨QsI hp q, Rps.upd hp r hn⟩⟩
theorem Rps.upd {p : Addr} {zs ys : List V} (hp : H p = some (.lst zs)) : ∀ {ds : List D} {vs : List V} {F : List Addr}, Rps K H ds vs F -> p ∉ F -> Rps K (upd H p (.lst ys)) ds vs F
 | [], _, _, h, _ => h
 | d :: ds, _, _, h, hn => by
  simp only [Rps] at h ⊢
  obtain ⟨v, ws, F1, F2, e, eF, r, q⟩ := h
  subst eF
  exact ⟨v, ws, F1, F2, e, rfl, Rp.upd hp r λ z => hn (Zg _ z), Rps.upd hp q λ z => hn (Ze _ z)⟩
end
mutual
theorem Rp.mem : ∀ {d : D} {v : V} {F : List Addr}, Rp K H d v F -> ∀ a ∈ F, ∃ vs, H a = some (.lst vs)
 | .non, _, _, h, a, ha => by simp only [Rp] at h; rw [h.2] at ha; simp at ha
 | .bl _, _, _, h, a, ha => by simp only [Rp] at h; rw [h.2] at ha; simp at ha
 | .int _, _, _, h, a, ha => by simp only [Rp] at h; rw [h.2] at ha; simp at ha
 | .str _, _, _, h, a, ha => by simp only [Rp] at h; rw [h.2] at ha; simp at ha
 | .tup ds, _, _, h, a, ha => by
  simp only [Rp] at h
  obtain ⟨_, vs, e, q, r⟩ := h
  exact Rps.mem r a ha
 | .lst ds, _, _, h, a, ha => by
  simp only [Rp] at h
  obtain ⟨_, b, vs, e, ⟨G, eF, q, r⟩ | ⟨q, r⟩⟩ := h
  ·subst eF
   rcases Zv.mp ha with z | z
   ·exact ⟨vs, by rw [z]; exact q⟩
   ·exact Rps.mem r a z
  ·exact Rps.mem r a ha
theorem Rps.mem : ∀ {ds : List D} {vs : List V} {F : List Addr}, Rps K H ds vs F -> ∀ a ∈ F, ∃ vs, H a = some (.lst vs)
 | [], _, _, h, a, ha => by simp only [Rps] at h; rw [h.2] at ha; simp at ha
 | d :: ds, _, _, h, a, ha => by
  simp only [Rps] at h
  obtain ⟨v, ws, F1, F2, e, eF, r, q⟩ := h
  subst eF
  rcases ZF.mp ha with z | z
  ·exact Rp.mem r a z
  ·exact Rps.mem q a z
end
mutual
theorem Rp.Qcp : ∀ {d : D} {v : V} {F : List Addr}, Rp K H d v F -> d.flat = true -> F = []
 | .non, _, _, h, _ => by simp only [Rp] at h; exact h.2
 | .bl _, _, _, h, _ => by simp only [Rp] at h; exact h.2
 | .int _, _, _, h, _ => by simp only [Rp] at h; exact h.2
 | .str _, _, _, h, _ => by simp only [Rp] at h; exact h.2
 | .tup ds, _, _, h, hf => by
  simp only [Rp] at h
  simp only [D.flat] at hf
  obtain ⟨_, vs, e, q, r⟩ := h
  exact Rps.Qcp r hf
 | .lst ds, _, _, h, hf => by simp [D.flat] at hf
theorem Rps.Qcp : ∀ {ds : List D} {vs : List V} {F : List Addr}, Rps K H ds vs F -> Q2 ds = true -> F = []
 | [], _, _, h, _ => by simp only [Rps] at h; exact h.2
 | d :: ds, _, _, h, hf => by
  simp only [Rps] at h
  simp only [Q2, Zl] at hf
  obtain ⟨v, ws, F1, F2, e, eF, r, q⟩ := h
  rw [eF, Rp.Qcp r hf.1, Rps.Qcp q hf.2]; rfl
end
mutual
theorem Rp.QaE : ∀ {d : D} {v : V} {F : List Addr}, Rp K H d v F -> F.length <= d.nl
 | .non, _, _, h => by simp only [Rp] at h; rw [h.2]; exact ZX _
 | .bl _, _, _, h => by simp only [Rp] at h; rw [h.2]; exact ZX _
 | .int _, _, _, h => by simp only [Rp] at h; rw [h.2]; exact ZX _
 | .str _, _, _, h => by simp only [Rp] at h; rw [h.2]; exact ZX _
 | .tup ds, _, _, h => by
  simp only [Rp] at h
  obtain ⟨_, vs, e, q, r⟩ := h
  simp only [D.nl]
  exact Rps.QaE r
 | .lst ds, _, _, h => by
  simp only [Rp] at h
  simp only [D.nl]
  obtain ⟨_, b, vs, e, ⟨G, eF, q, r⟩ | ⟨q, r⟩⟩ := h
  ·rw [eF, ZO]; have := Rps.QaE r; omega
  ·have := Rps.QaE r; omega
theorem Rps.QaE : ∀ {ds : List D} {vs : List V} {F : List Addr}, Rps K H ds vs F -> F.length <= nls ds
 | [], _, _, h => by simp only [Rps] at h; rw [h.2]; exact ZX _
 | d :: ds, _, _, h => by
  simp only [Rps] at h
  obtain ⟨v, ws, F1, F2, e, eF, r, q⟩ := h
  simp only [nls]
  rw [eF, Zq]
  have := Rp.QaE r
  have := Rps.QaE q
  omega
end
theorem Rps.length : ∀ {ds : List D} {vs : List V} {F : List Addr}, Rps K H ds vs F -> ds.length = vs.length
 | [], _, _, h => by simp only [Rps] at h; rw [h.1]; rfl
 | d :: ds, _, _, h => by
  simp only [Rps] at h
  obtain ⟨v, ws, F1, F2, e, eF, r, q⟩ := h
  rw [e, ZO, ZO, Rps.length q]
theorem Rps.append : ∀ {ds es : List D} {vs ws : List V} {F G : List Addr}, Rps K H ds vs F -> Rps K H es ws G -> Rps K H (ds ++ es) (vs ++ ws) (F ++ G)
 | [], _, _, _, _, _, h, g => by simp only [Rps] at h; rw [h.1, h.2]; exact g
 | d :: ds, _, _, _, _, _, h, g => by
  simp only [Rps, ZbA] at h ⊢
  obtain ⟨v, ws, F1, F2, e, eF, r, q⟩ := h
  subst e eF
  exact ⟨v, _, F1, _, rfl, by rw [ZaK], r, Rps.append q g⟩
theorem Rps.get : ∀ {ds : List D} {vs : List V} {F : List Addr} {i : Nat} {d : D}, Rps K H ds vs F -> ds[i]? = some d -> ∃ v F1 G F2, vs[i]? = some v /\ F = F1 ++ (G ++ F2) /\ Rp K H d v G /\ (F.length = nls ds -> G.length = d.nl)
 | [], _, _, _, _, _, e => by simp at e
 | d :: ds, _, _, 0, _, h, e => by
  simp only [Rps] at h
  obtain ⟨v, ws, F1, F2, e1, eF, r, q⟩ := h
  simp at e; subst e e1 eF
  refine ⟨v, [], F1, F2, by simp, rfl, r, λ hl => ?_⟩
  simp only [nls, Zq] at hl
  have := Rp.QaE r
  have := Rps.QaE q
  omega
 | d :: ds, _, _, i + 1, _, h, e => by
  simp only [Rps] at h
  obtain ⟨v, ws, F1, F2, e1, eF, r, q⟩ := h
  obtain ⟨v', G1, G, G2, h1, h2, h3, h4⟩ := Rps.get q (i := i) (by simpa using e)
  have l1 := Rp.QaE r
  have l2 := Rps.QaE q
  subst e1 eF
  refine ⟨v', F1 ++ G1, G, G2, by simpa using h1, by rw [h2, ZaK], h3, λ hl => h4 ?_⟩
  simp only [nls, Zq] at hl
  omega
theorem Fix.sq {K : PySem.W.Frag} {H : Hp} {a : Addr} {vs : List V} (h : Fix K H a vs) : SqL K H a vs := by
 rcases h with ⟨o, h⟩ | ⟨its, n, h, hz, r⟩
 ·exact .inl (.inr ⟨o, h⟩)
 ·exact .inr ⟨_, its.toArray, n, h, rfl, rfl, rfl, by rw [Zt, ← r.length]; exact hz, by simpa using r⟩
theorem _root_.L2.Inv.QkX {X : Cx} {pins : List (Addr × Obj)} {σ : L2.St} {H : Hp} {s : Shared} {a : Addr} {vs : List V} (I : Inv X pins σ H s) (h : H a = some (.lst vs) ∨ Fix X.K H a vs) :
  vs.length <= sizeLine /\ ∃ (its : List Value) (n : Nat), Qy vs its /\ vs.length = its.length /\ s.heap.get? a = some { cls := .type "list", data := .seq its.toArray n } := by
 rcases h with h | ⟨o, h⟩ | ⟨its, n, h, hz, r⟩
 ·exact I.Qrm h
 ·obtain ⟨e, hz, its, n, r, e2⟩ := I.hok a _ h
  exact ⟨hz, its, n, r, r.length, e2⟩
 ·exact ⟨hz, its, n, r, r.length, I.kIn _ _ h⟩
theorem Rp.lst_inv {K : PySem.W.Frag} {H : Hp} {ds : List D} {v : V} {F : List Addr} (h : Rp K H (.lst ds) v F) :
  ∃ a vs G, v = .ref a /\ (H a = some (.lst vs) ∨ Fix K H a vs) /\ Rps K H ds vs G /\ ds.length <= sizeLine /\ (F = a :: G ∨ F = G) := by
 simp only [Rp] at h
 obtain ⟨hz, a, vs, e, ⟨G, eF, q, r⟩ | ⟨q, r⟩⟩ := h
 ·exact ⟨a, vs, G, e, .inl q, r, hz, .inl eF⟩
 ·exact ⟨a, vs, F, e, .inr q, r, hz, .inr rfl⟩
theorem QX {K : PySem.W.Frag} {H : Hp} {a : Addr} {vs : List V} (h : H a = some (.lst vs) ∨ Fix K H a vs) : SqL K H a vs := h.elim (λ h => SqL.of h) Fix.sq
theorem Rp.QaQ {K : PySem.W.Frag} {H : Hp} {ds : List D} {v : V} {F : List Addr} (h : Rp K H (.tup ds) v F) : ∃ a vs, v = .ref a /\ SqT K H a vs /\ Rps K H ds vs F := by
 simp only [Rp] at h
 exact h
theorem Rp.Qel {K : PySem.W.Frag} {H : Hp} {ds : List D} {a : Addr} {vs : List V} {G : List Addr} (h : H a = some (.lst vs)) (r : Rps K H ds vs G) (hz : ds.length <= sizeLine) : Rp K H (.lst ds) (.ref a) (a :: G) := by
 simp only [Rp]
 exact ⟨hz, a, vs, rfl, .inl ⟨G, rfl, h, r⟩⟩
theorem Rp.Qix {K : PySem.W.Frag} {H : Hp} {ds : List D} {a : Addr} {vs : List V} {G : List Addr} (h : H a = some (.tup vs)) (r : Rps K H ds vs G) : Rp K H (.tup ds) (.ref a) G := by
 simp only [Rp]
 exact ⟨a, vs, rfl, SqT.of h, r⟩
theorem Rp.int_inv {K : PySem.W.Frag} {H : Hp} {i : Int} {v : V} {F : List Addr} (h : Rp K H (.int i) v F) : v = .int i := by simp only [Rp] at h; exact h.1
theorem Rp.QfZ {K : PySem.W.Frag} {H : Hp} {i : Bool} {v : V} {F : List Addr} (h : Rp K H (.bl i) v F) : v = .bl i := by simp only [Rp] at h; exact h.1
theorem Rp.QjD {K : PySem.W.Frag} {H : Hp} {v : V} {F : List Addr} (h : Rp K H .non v F) : v = .non := by simp only [Rp] at h; exact h.1
theorem Rp.str_inv {K : PySem.W.Frag} {H : Hp} {i : Str} {v : V} {F : List Addr} (h : Rp K H (.str i) v F) : v = .str i := by simp only [Rp] at h; exact h.1
theorem Rp.int_mk {K : PySem.W.Frag} {H : Hp} {i : Int} : Rp K H (.int i) (.int i) [] := by simp [Rp]
theorem Rp.Qdb {K : PySem.W.Frag} {H : Hp} {i : Bool} : Rp K H (.bl i) (.bl i) [] := by simp [Rp]
theorem Rp.Qh8 {K : PySem.W.Frag} {H : Hp} : Rp K H .non .non [] := by simp [Rp]
theorem Rp.str_mk {K : PySem.W.Frag} {H : Hp} {i : Str} : Rp K H (.str i) (.str i) [] := by simp [Rp]
theorem QbX {H : Hp} {p : Addr} {o : HO} (h : H p = none) : QK H (L2.upd H p o) := λ b u e => by rw [QO (Qbm e h)]; exact e
end
end HS
namespace HS
open PySem PySem.Spec L2
noncomputable abbrev En := List (Option (D × Bool))
structure R where
 d : D
 fr : Bool
 M : List Nat
structure RA where
 ds : List D
 fr : Bool
 M : List Nat
noncomputable abbrev DE := En -> Option R
noncomputable abbrev DA := En -> Option RA
noncomputable abbrev DT := En -> Option Bool
structure Rel (K : PySem.W.Frag) (H0 : Hp) (A0 : List Addr) (hs : List (V × D × List Addr)) (ρ : En) (F : Nat -> List Addr) (σ : St) (H : Hp) : Prop where
 len : ρ.length = σ.length
 val : ∀ (i : Nat) d b, ρ[i]? = some (some (d, b)) -> ∃ v, σ[i]? = some (some v) /\ Rp K H d v (F i)
 own : ∀ (i : Nat) d, ρ[i]? = some (some (d, true)) -> (F i).length = d.nl /\ (F i).Nodup /\ (∀ a ∈ F i, H0 a = none) /\ (∀ (j : Nat) d' b', j ≠ i -> ρ[j]? = some (some (d', b')) -> ∀ a ∈ F i, a ∉ F j) /\ ∀ t ∈ hs, ∀ a ∈ F i, a ∉ t.2.2
 src : ∀ (i : Nat) d b, ρ[i]? = some (some (d, b)) -> ∀ a ∈ F i, H0 a = none ∨ a ∈ A0
 held : ∀ t ∈ hs, Rp K H t.2.1 t.1 t.2.2 /\ ∀ a ∈ t.2.2, H0 a = none ∨ a ∈ A0
 same : QK H0 H
def Src (ρ : En) (F : Nat -> List Addr) (H : Hp) (M : List Nat) (G : List Addr) : Prop :=
 ∀ a ∈ G, H a = none ∨ ∃ (i : Nat) (d : D) (b : Bool), ρ[i]? = some (some (d, b)) /\ a ∈ F i /\ (b = true -> i ∈ M)
noncomputable def nw (H : Hp) (a : Addr) : Nat := match H a with | none => 1 | some _ => 0
def Cnt (F : Nat -> List Addr) (H : Hp) (M : List Nat) (G : List Addr) : Prop :=
 ∀ a, G.count a <= nw H a + ((M.map F).flatten).count a
def QaZ (ρ : En) (M : List Nat) : Prop := ∀ i ∈ M, ∃ d, ρ[i]? = some (some (d, true))
structure Q0 (K : PySem.W.Frag) (ρ : En) (F : Nat -> List Addr) (H H' : Hp) (r : R) (v : V) (G : List Addr) : Prop where
 same : QK H H'
 rp : Rp K H' r.d v G
 src : Src ρ F H r.M G
 cnt : r.fr = true -> Cnt F H r.M G /\ G.length = r.d.nl
 own : QaZ ρ r.M
structure Qwy (K : PySem.W.Frag) (ρ : En) (F : Nat -> List Addr) (H H' : Hp) (r : RA) (vs : List V) (G : List Addr) : Prop where
 same : QK H H'
 rp : Rps K H' r.ds vs G
 src : Src ρ F H r.M G
 cnt : r.fr = true -> Cnt F H r.M G /\ G.length = nls r.ds
 own : QaZ ρ r.M
noncomputable def tV (K : PySem.W.Frag) (H0 : Hp) (A0 : List Addr) (f : DE) : TE := λ σ H Q => ∃ ρ hs F r, Rel K H0 A0 hs ρ F σ H /\ f ρ = some r /\ ∀ v H' G, Q0 K ρ F H H' r v G -> Q v H'
noncomputable def tVA (K : PySem.W.Frag) (H0 : Hp) (A0 : List Addr) (f : DA) : TA := λ σ H Q => ∃ ρ hs F r, Rel K H0 A0 hs ρ F σ H /\ f ρ = some r /\ ∀ v H' G, Qwy K ρ F H H' r v G -> Q v H'
noncomputable def tVT (K : PySem.W.Frag) (H0 : Hp) (A0 : List Addr) (f : DT) : TT := λ σ H Q => ∃ ρ hs F b, Rel K H0 A0 hs ρ F σ H /\ f ρ = some b /\ ∀ H', QK H H' -> Q b H'
def SE (X : Cx) (e : Expr) (f : DE) : Prop := ∀ H0 A0, PE X e (tV X.K H0 A0 f)
def SA (X : Cx) (es : List Expr) (f : DA) : Prop := ∀ H0 A0, PA X es (tVA X.K H0 A0 f)
def ST (X : Cx) (e : Expr) (f : DT) : Prop := ∀ H0 A0, PT X e (tVT X.K H0 A0 f)
theorem _root_.L2.PE.mono {X : Cx} {e : Expr} {t t' : TE} (h : PE X e t) (m : ∀ σ H Q, t' σ H Q -> t σ H Q) : PE X e t' := λ pins s σ H Q I q => h pins s σ H Q I (m σ H Q q)
theorem _root_.L2.PT.mono {X : Cx} {e : Expr} {t t' : TT} (h : PT X e t) (m : ∀ σ H Q, t' σ H Q -> t σ H Q) : PT X e t' := λ pins s σ H Q I q => h pins s σ H Q I (m σ H Q q)
theorem _root_.L2.PA.mono {X : Cx} {e : List Expr} {t t' : TA} (h : PA X e t) (m : ∀ σ H Q, t' σ H Q -> t σ H Q) : PA X e t' := λ pos pins s σ H Q I q => h pos pins s σ H Q I (m σ H Q q)
section
variable {K : PySem.W.Frag} {H0 H H' : Hp} {A0 : List Addr} {hs : List (V × D × List Addr)} {ρ : En} {F : Nat -> List Addr} {σ : St}
theorem Rel.ext (r : Rel K H0 A0 hs ρ F σ H) (s : QK H H') : Rel K H0 A0 hs ρ F σ H' where
 len := r.len
 val := λ i d b e => let ⟨v, h1, h2⟩ := r.val i d b e; ⟨v, h1, h2.same s⟩
 own := r.own
 src := r.src
 held := λ t ht => ⟨(r.held t ht).1.same s, (r.held t ht).2⟩
 same := r.same.trans s
theorem Rel.mem (r : Rel K H0 A0 hs ρ F σ H) {i : Nat} {d : D} {b : Bool} (e : ρ[i]? = some (some (d, b))) {a : Addr} (h : a ∈ F i) : ∃ vs, H a = some (.lst vs) :=
 let ⟨_, _, h2⟩ := r.val i d b e; h2.mem a h
theorem Qdt {a : Addr} {o : HO} (h : H a = some o) : nw H a = 0 := by simp [nw, h]
theorem Qa3 {a : Addr} (h : H a = none) : nw H a = 1 := by simp [nw, h]
theorem Rel.fl0 (r : Rel K H0 A0 hs ρ F σ H) {M : List Nat} (ow : QaZ ρ M) {a : Addr} (h : H a = none) : ((M.map F).flatten).count a = 0 := by
 rw [ZM]
 intro hm
 obtain ⟨l, hl, ha⟩ := Zbg.mp hm
 obtain ⟨i, hi, rfl⟩ := ZQ.mp hl
 obtain ⟨d, e⟩ := ow i hi
 obtain ⟨vs, q⟩ := r.mem e ha
 rw [h] at q; cases q
theorem Cnt.append (r : Rel K H0 A0 hs ρ F σ H) {H1 : Hp} {M1 M2 : List Nat} {G1 G2 : List Addr} (c1 : Cnt F H M1 G1) (c2 : Cnt F H1 M2 G2) (s : QK H H1) (m1 : ∀ a ∈ G1, ∃ vs, H1 a = some (.lst vs)) : Cnt F H (M1 ++ M2) (G1 ++ G2) := λ a => by
 rw [Zad, Zax, List.flatten_append, Zad]
 have h1 := c1 a
 have h2 := c2 a
 cases q : H1 a with
 | some o => rw [Qdt q] at h2; omega
 | none =>
  rw [Qa3 q] at h2
  have h3 : H a = none := s.free q
  rw [Qa3 h3] at h1 ⊢
  have h4 : G1.count a = 0 := ZM.mpr λ hm => by obtain ⟨vs, z⟩ := m1 a hm; rw [q] at z; cases z
  omega
theorem Src.append {H1 : Hp} {M1 M2 : List Nat} {G1 G2 : List Addr} (c1 : Src ρ F H M1 G1) (c2 : Src ρ F H1 M2 G2) (s : QK H H1) : Src ρ F H (M1 ++ M2) (G1 ++ G2) := λ a ha => by
 rcases ZF.mp ha with h | h
 ·rcases c1 a h with z | ⟨i, d, b, e, m, w⟩
  ·exact .inl z
  ·exact .inr ⟨i, d, b, e, m, λ hb => Zg _ (w hb)⟩
 ·rcases c2 a h with z | ⟨i, d, b, e, m, w⟩
  ·exact .inl (s.free z)
  ·exact .inr ⟨i, d, b, e, m, λ hb => Ze _ (w hb)⟩
theorem QaZ.append {M1 M2 : List Nat} (h1 : QaZ ρ M1) (h2 : QaZ ρ M2) : QaZ ρ (M1 ++ M2) := λ i hi => (ZF.mp hi).elim (h1 i) (h2 i)
theorem QaZ.nil : QaZ ρ [] := λ i hi => by simp at hi
theorem Src.nil {M : List Nat} : Src ρ F H M [] := λ a ha => by simp at ha
theorem Cnt.nil {M : List Nat} : Cnt F H M [] := λ a => by simp
theorem Q0.flat {d : D} {v : V} (s : QK H H') (r : Rp K H' d v []) (hf : d.flat = true := by rfl) : Q0 K ρ F H H' ⟨d, true, []⟩ v [] := ⟨s, r, Src.nil, λ _ => ⟨Cnt.nil, (QdC d hf).symm⟩, QaZ.nil⟩
theorem Q0.sub {r : R} {v u : V} {d : D} {G G' : List Addr} {H1 : Hp} (p : Q0 K ρ F H H1 r v G) (rp : Rp K H1 d u G') (hs : ∀ a, G'.count a <= G.count a) (hn : G.length = r.d.nl -> G'.length = d.nl) : Q0 K ρ F H H1 ⟨d, r.fr, r.M⟩ u G' where
 same := p.same
 rp := rp
 src := λ a ha => p.src a (by
  have := hs a
  have h1 : 0 < G'.count a := Zap.mpr ha
  exact Zap.mp (by omega))
 cnt := λ h => ⟨λ a => Zx (hs a) ((p.cnt h).1 a), hn (p.cnt h).2⟩
 own := p.own
noncomputable def R.norm (r : R) : R := if r.d.flat then ⟨r.d, true, []⟩ else r
theorem R.QcS (r : R) : r.norm.d = r.d := by unfold R.norm; split <;> rfl
theorem Q0.norm {r : R} {v : V} {G : List Addr} (p : Q0 K ρ F H H' r v G) : Q0 K ρ F H H' r.norm v G := by
 unfold R.norm
 split
 ·rename_i h
  have := p.rp.Qcp h
  subst this
  exact .flat p.same p.rp h
 ·exact p
end
noncomputable def Qa (i : Nat) : DE := λ ρ => match ρ[i]? with
 | some (some (d, b)) => if d.flat then some ⟨d, true, []⟩ else if b then some ⟨d, true, [i]⟩ else some ⟨d, false, []⟩
 | _ => none
noncomputable def dC (d : D) : DE := λ _ => some ⟨d, true, []⟩
section
variable {X : Cx}
theorem QvA {i : Nat} {x : Str} {pos : Pos} (h : PE X (.Name x pos) (QlF i)) : SE X (.Name x pos) (Qa i) := λ H0 A0 => h.mono λ σ H Q ⟨ρ, hs, F, r, rel, e, q⟩ => by
 unfold Qa at e
 split at e
 ·rename_i d b q1
  obtain ⟨v, h1, h2⟩ := rel.val i d b q1
  refine ⟨v, h1, q v H (F i) ?_⟩
  split at e
  ·rename_i hf
   cases e
   have := h2.Qcp hf
   rw [this] at h2 ⊢
   exact .flat (QK.refl _) h2 hf
  ·split at e
   ·rename_i hb
    cases e
    subst hb
    exact ⟨QK.refl _, h2, λ a ha => .inr ⟨i, d, true, q1, ha, λ _ => by simp⟩, λ _ => ⟨λ a => (by simp), (rel.own i d q1).1⟩, λ j hj => by simp at hj; subst hj; exact ⟨d, q1⟩⟩
   ·rename_i hb
    cases e
    simp at hb
    subst hb
    exact ⟨QK.refl _, h2, λ a ha => .inr ⟨i, d, false, q1, ha, λ z => by cases z⟩, λ z => (by cases z), QaZ.nil⟩
 ·cases e
theorem QlV {e : Expr} {d : D} {v : V} (h : PE X e (tC v)) (r : ∀ K H, Rp K H d v []) (hf : d.flat = true) : SE X e (dC d) := λ H0 A0 => h.mono λ σ H Q ⟨ρ, hs, F, r', rel, e, q⟩ => by
 cases e
 exact q v H [] (.flat (QK.refl _) (r _ _) hf)
theorem two {K : PySem.W.Frag} {H0 : Hp} {A0 : List Addr} {fa fb : DE} {σ : St} {H : Hp} {hs : List (V × D × List Addr)} {ρ : En} {F : Nat -> List Addr} {ra rb : R} {Rr : V -> V -> Hp -> Prop} (rel : Rel K H0 A0 hs ρ F σ H) (ea : fa ρ = some ra) (eb : fb ρ = some rb)
  (k : ∀ x y H1 H2 G1 G2, Q0 K ρ F H H1 ra x G1 -> Q0 K ρ F H1 H2 rb y G2 -> Rr x y H2) : tV K H0 A0 fa σ H λ x H1 => tV K H0 A0 fb σ H1 λ y H2 => Rr x y H2 :=
 ⟨ρ, hs, F, ra, rel, ea, λ x H1 G1 p1 => ⟨ρ, hs, F, rb, rel.ext p1.same, eb, λ y H2 G2 p2 => k x y H1 H2 G1 G2 p1 p2⟩⟩
noncomputable def dOp (g : D -> D -> Option D) (fa fb : DE) : DE := λ ρ => (fa ρ).bind λ ra => (fb ρ).bind λ rb => (g ra.d rb.d).map λ d => ⟨d, true, []⟩
theorem Qjw {g : D -> D -> Option D} {fa fb : DE} {ρ : En} {r : R} (e : dOp g fa fb ρ = some r) : ∃ ra rb d, fa ρ = some ra /\ fb ρ = some rb /\ g ra.d rb.d = some d /\ r = ⟨d, true, []⟩ := by
 unfold dOp at e
 cases h1 : fa ρ with
 | none => rw [h1] at e; cases e
 | some ra =>
  cases h2 : fb ρ with
  | none => rw [h1, h2] at e; cases e
  | some rb =>
   rw [h1, h2] at e
   cases h3 : g ra.d rb.d with
   | none => simp [h3] at e
   | some d => simp [h3] at e; exact ⟨ra, rb, d, rfl, rfl, h3, e.symm⟩
def QbS (K : PySem.W.Frag) (g : D -> D -> Option D) (r : R2) : Prop := ∀ a b d, g a b = some d -> d.flat = true /\ ∀ H x y F G (Q : VK), Rp K H a x F -> Rp K H b y G -> (∀ v, (∀ H', Rp K H' d v []) -> Q v H) -> r x y H Q
theorem Qie {a b : Expr} {op : Operator} {pos : Pos} {fa fb : DE} {g : D -> D -> Option D} {r : R2} (ho : OpR X (binaryOp op) r) (hg : QbS X.K g r) (ha : SE X a fa) (hb : SE X b fb) : SE X (.BinOp a op b pos) (dOp g fa fb) := λ H0 A0 =>
 (Qn5 ho (ha H0 A0) (hb H0 A0)).mono λ σ H Q ⟨ρ, hs, F, r', rel, e, q⟩ => by
  obtain ⟨ra, rb, d, ea, eb, eg, rfl⟩ := Qjw e
  refine two rel ea eb λ x y H1 H2 G1 G2 p1 p2 => (hg _ _ _ eg).2 H2 x y G1 G2 Q (p1.rp.same p2.same) p2.rp λ v hv => ?_
  exact q v H2 [] (.flat (p1.same.trans p2.same) (hv H2) (hg _ _ _ eg).1)
theorem QuP {a b : Expr} {op : CmpOp} {pos : Pos} {fa fb : DE} {g : D -> D -> Option D} {r : R2} (ho : OpR X (compareOp op) r) (hg : QbS X.K g r) (ha : SE X a fa) (hb : SE X b fb) (hm : behindInMarks op b = false) : SE X (.Compare a [op] [b] pos) (dOp g fa fb) := λ H0 A0 =>
 (QtW ho (ha H0 A0) (hb H0 A0) hm).mono λ σ H Q ⟨ρ, hs, F, r', rel, e, q⟩ => by
  obtain ⟨ra, rb, d, ea, eb, eg, rfl⟩ := Qjw e
  refine two rel ea eb λ x y H1 H2 G1 G2 p1 p2 => (hg _ _ _ eg).2 H2 x y G1 G2 Q (p1.rp.same p2.same) p2.rp λ v hv => ?_
  exact q v H2 [] (.flat (p1.same.trans p2.same) (hv H2) (hg _ _ _ eg).1)
end
end HS
namespace HS
open PySem PySem.Spec L2
noncomputable def Qde (i j : Int) : Int := if 0 <= j then i / j else i.fdiv j
noncomputable def Qcl (i j : Int) : Int := if 0 <= j then i % j else i.fmod j
theorem Qjm (i j : Int) : Qde i j = i.fdiv j := by
 unfold Qde; split
 ·rw [Zbn _ (by assumption)]
 ·rfl
theorem QgA (i j : Int) : Qcl i j = i.fmod j := by
 unfold Qcl; split
 ·rw [Int.fmod_eq_emod_of_nonneg _ (by assumption)]
 ·rfl
noncomputable def Qdf (i j : Int) : Bool := decide (i.natAbs < 2 ^ 64) || decide (j.natAbs < 2 ^ 64) || (decide (Builtin.Int.intBits i <= 2 ^ 20) && decide (Builtin.Int.intBits j <= 2 ^ 20))
noncomputable def Qbt (j : Int) : Bool := decide (j ≠ 0) && decide (j.natAbs < 2 ^ 8000)
noncomputable def gI (f : Int -> Int -> Option D) (a b : D) : Option D := match a, b with
 | .int i, .int j => f i j
 | _, _ => none
noncomputable def Qaq := gI λ i j => some (.int (i - j))
noncomputable def Qba := gI λ i j => if Qbt j then some (.int (Qde i j)) else none
noncomputable def QZ := gI λ i j => if j ≠ 0 then some (.int (Qcl i j)) else none
noncomputable def QeX := gI λ i j => if 0 <= j /\ j <= 1000 /\ i.natAbs < 2 ^ 200 then some (.int (i ^ j.toNat)) else none
noncomputable def QlK := gI λ i j => if 0 <= j then some (.int (i / 2 ^ j.toNat)) else none
noncomputable def gLt := gI λ i j => some (.bl (decide (i < j)))
noncomputable def gLe := gI λ i j => some (.bl (decide (i <= j)))
noncomputable def gGt := gI λ i j => some (.bl (decide (j < i)))
noncomputable def gGe := gI λ i j => some (.bl (decide (j <= i)))
theorem QoY {f : Int -> Int -> Option D} {a b d : D} (h : gI f a b = some d) : ∃ i j, a = .int i /\ b = .int j /\ f i j = some d := by
 unfold gI at h
 split at h
 ·exact ⟨_, _, rfl, rfl, h⟩
 ·cases h
section
variable {K : PySem.W.Frag} {X : Cx}
theorem Qe8 {f : Int -> Int -> Option D} {r : R2} (hf : ∀ i j d, f i j = some d -> d.flat = true) (h : ∀ i j d, f i j = some d -> ∀ H (Q : VK), (∀ v, (∀ H', Rp K H' d v []) -> Q v H) -> r (.int i) (.int j) H Q) : QbS K (gI f) r := λ a b d e => by
 obtain ⟨i, j, rfl, rfl, ef⟩ := QoY e
 refine ⟨hf i j d ef, λ H x y F G Q ha hb q => ?_⟩
 rw [ha.int_inv, hb.int_inv]
 exact h i j d ef H Q q
theorem QoN : QbS K Qaq (rI0 λ i j => .int (i - j)) := Qe8 (λ i j d e => by cases e; rfl) λ i j d e H Q q => by cases e; exact ⟨i, j, rfl, rfl, q _ λ _ => .int_mk⟩
theorem QqC {i j : Int} (h : Qdf i j = true) : IntMulOk i j := by
 have small : ∀ k : Int, k.natAbs < 2 ^ 64 -> Builtin.Int.intBits k <= 64 := λ k hk => by
  unfold Builtin.Int.intBits
  split
  ·omega
  ·rename_i h0; have h0' : k.natAbs ≠ 0 := λ z => by simp_all
   have := (Nat.log2_lt h0').mpr hk; omega
 unfold Qdf at h
 simp only [ZbO, Zl, decide_eq_true_eq] at h
 rcases h with (h | h) | ⟨h1, h2⟩
 ·exact .of_left (small i h)
 ·exact .of_right (small j h)
 ·exact .of_bits h1 h2
theorem Qs7 : OpR X (binaryOp .Mult) (rI (λ i j => Qdf i j = true) λ i j => .int (i * j)) := opI λ _ _ _ _ _ _ _ hc q => PyProof.Rows.mul_int q (QqC hc)
theorem Qtx : OpR X (binaryOp .FloorDiv) (rI (λ i j => Qbt j = true) λ i j => .int (Qde i j)) := opI λ i j _ _ _ _ _ hc q => by
 unfold Qbt at hc
 simp only [Zl, decide_eq_true_eq] at hc
 rw [Qjm] at q
 refine PyProof.Rows.floordiv_int hc.1 q (.inl (Zbx ?_))
 have h0 : j.natAbs ≠ 0 := by omega
 exact Nat.lt_trans ((Nat.log2_lt h0).mpr hc.2) (by decide)
theorem Qsp : OpR X (binaryOp .Mod) (rI (λ i j => j ≠ 0) λ i j => .int (Qcl i j)) := opI λ i j _ _ _ _ _ hc q => by
 rw [QgA] at q
 exact PyProof.Rows.mod_int' hc q
theorem QuR : QbS K Qba (rI (λ i j => Qbt j = true) λ i j => .int (Qde i j)) := Qe8 (λ i j d e => by split at e <;> cases e; rfl) λ i j d e H Q q => by
 split at e
 ·cases e; exact ⟨i, j, rfl, rfl, by assumption, q _ λ _ => .int_mk⟩
 ·cases e
theorem Qvj : QbS K QZ (rI (λ i j => j ≠ 0) λ i j => .int (Qcl i j)) := Qe8 (λ i j d e => by split at e <;> cases e; rfl) λ i j d e H Q q => by
 split at e
 ·cases e; exact ⟨i, j, rfl, rfl, by assumption, q _ λ _ => .int_mk⟩
 ·cases e
theorem QsM : OpR X (binaryOp .Pow) (rI (λ i j => 0 <= j /\ j <= 1000 /\ i.natAbs < 2 ^ 200) λ i j => .int (i ^ j.toNat)) := opI λ i j _ _ _ _ _ hc q => by
 refine PyProof.Rows.pow_int hc.1 ?_ q
 have hb : Builtin.Int.intBits i <= 200 := by
  unfold Builtin.Int.intBits
  split
  ·omega
  ·rename_i h0; have h0' : i.natAbs ≠ 0 := λ z => by simp_all
   have := (Nat.log2_lt h0').mpr hc.2.2; omega
 have h1 : ((Builtin.Int.intBits i : Nat) : Int) * j <= 200 * 1000 := Int.mul_le_mul (by omega) hc.2.1 hc.1 (by decide)
 omega
theorem Qvx : QbS K QeX (rI (λ i j => 0 <= j /\ j <= 1000 /\ i.natAbs < 2 ^ 200) λ i j => .int (i ^ j.toNat)) := Qe8 (λ i j d e => by split at e <;> cases e; rfl) λ i j d e H Q q => by
 split at e
 ·rename_i h; cases e; exact ⟨i, j, rfl, rfl, h, q _ λ _ => .int_mk⟩
 ·cases e
theorem QuC : QbS K QlK (rI (λ _ j => 0 <= j) λ i j => .int (i / 2 ^ j.toNat)) := Qe8 (λ i j d e => by split at e <;> cases e; rfl) λ i j d e H Q q => by
 split at e
 ·cases e; exact ⟨i, j, rfl, rfl, by assumption, q _ λ _ => .int_mk⟩
 ·cases e
theorem Qwf : QbS K gLt (rI0 λ i j => .bl (decide (i < j))) := Qe8 (λ i j d e => by cases e; rfl) λ i j d e H Q q => by cases e; exact ⟨i, j, rfl, rfl, q _ λ _ => .Qdb⟩
theorem Qwn : QbS K gLe (rI0 λ i j => .bl (decide (i <= j))) := Qe8 (λ i j d e => by cases e; rfl) λ i j d e H Q q => by cases e; exact ⟨i, j, rfl, rfl, q _ λ _ => .Qdb⟩
theorem Qv3 : QbS K gGt (rI0 λ i j => .bl (decide (j < i))) := Qe8 (λ i j d e => by cases e; rfl) λ i j d e H Q q => by cases e; exact ⟨i, j, rfl, rfl, q _ λ _ => .Qdb⟩
theorem Qwe : QbS K gGe (rI0 λ i j => .bl (decide (j <= i))) := Qe8 (λ i j d e => by cases e; rfl) λ i j d e H Q q => by cases e; exact ⟨i, j, rfl, rfl, q _ λ _ => .Qdb⟩
end
theorem Qcu : ∀ (xs ys : List D), Q2 (xs ++ ys) = (Q2 xs && Q2 ys)
 | [], ys => by simp [Q2]
 | x :: xs, ys => by simp [Q2, Qcu xs ys, Bool.and_assoc]
noncomputable def Qan (ds : List D) (M : List Nat) : R := if Q2 ds then ⟨.lst ds, true, []⟩ else ⟨.lst ds, false, M⟩
section
variable {K : PySem.W.Frag} {H0 H H' : Hp} {A0 : List Addr} {hs : List (V × D × List Addr)} {ρ : En} {F : Nat -> List Addr} {σ : L2.St}
theorem Q0.Qan {ds : List D} {M : List Nat} {vs : List V} {G : List Addr} {H1 : Hp} {p : Addr} (s : QK H H1) (hp : H1 p = none) (r : Rps K H1 ds vs G) (hz : ds.length <= sizeLine) (src : Src ρ F H M G) (ow : QaZ ρ M) :
  Q0 K ρ F H (upd H1 p (.lst vs)) (Qan ds M) (.ref p) (p :: G) := by
 have s2 : QK H1 (upd H1 p (.lst vs)) := QbX hp
 have rp : Rp K (upd H1 p (.lst vs)) (.lst ds) (.ref p) (p :: G) := Rp.Qel Qay (r.same s2) hz
 have hH : H p = none := s.free hp
 unfold HS.Qan
 split
 ·rename_i hf
  have := r.Qcp hf
  subst this
  refine ⟨s.trans s2, rp, λ a ha => ?_, λ _ => ⟨λ a => ?_, by simp only [D.nl, QhB ds hf]; rfl⟩, QaZ.nil⟩
  ·have : a = p := by simpa using ha
   subst this; exact .inl hH
  ·rw [List.count_singleton]
   split
   ·rename_i e; have e' : p = a := by simpa using e
    subst e'; rw [Qa3 hH]; omega
   ·omega
 ·refine ⟨s.trans s2, rp, λ a ha => ?_, λ z => (by cases z), ow⟩
  rcases Zv.mp ha with rfl | h
  ·exact .inl hH
  ·exact src a h
end
noncomputable def Qz (fa fb : DE) : DE := λ ρ => (fa ρ).bind λ ra => (fb ρ).bind λ rb => match ra.d, rb.d with
 | .int i, .int j => some ⟨.int (i + j), true, []⟩
 | .lst xs, .lst ys => if xs.length + ys.length <= sizeLine then some (Qan (xs ++ ys) (ra.M ++ rb.M)) else none
 | _, _ => none
noncomputable def QS (fa fb : DE) : DE := λ ρ => (fa ρ).bind λ ra => (fb ρ).bind λ rb => match ra.d, rb.d with
 | .int i, .int j => if Qdf i j then some ⟨.int (i * j), true, []⟩ else none
 | .lst xs, .int j => if xs.length * j.toNat <= sizeLine /\ -(2 ^ 63) <= j /\ j < 2 ^ 63 /\ Q2 xs = true then some ⟨.lst (List.replicate j.toNat xs).flatten, true, []⟩ else none
 | _, _ => none
theorem Qnz {fa fb : DE} {ρ : En} {k : R -> R -> Option R} {r : R} (e : ((fa ρ).bind λ ra => (fb ρ).bind λ rb => k ra rb) = some r) : ∃ ra rb, fa ρ = some ra /\ fb ρ = some rb /\ k ra rb = some r := by
 cases h1 : fa ρ with
 | none => rw [h1] at e; cases e
 | some ra =>
  cases h2 : fb ρ with
  | none => rw [h1, h2] at e; cases e
  | some rb => rw [h1, h2] at e; exact ⟨ra, rb, rfl, rfl, e⟩
theorem bind1 {α β : Type} {x : Option α} {k : α -> Option β} {r : β} (e : x.bind k = some r) : ∃ a, x = some a /\ k a = some r := by
 cases x with
 | none => cases e
 | some a => exact ⟨a, rfl, e⟩
section
variable {X : Cx} {a b : Expr} {fa fb : DE} {pos : Pos}
noncomputable def Qwb (K : PySem.W.Frag) : R2 := λ x y H Q => ∃ l c xs zs, x = .ref l /\ y = .ref c /\ (H l = some (.lst xs) ∨ Fix K H l xs) /\ (H c = some (.lst zs) ∨ Fix K H c zs) /\ xs.length + zs.length <= sizeLine /\ ∀ p, H p = none -> Q (.ref p) (upd H p (.lst (xs ++ zs)))
theorem QtF : OpR X (binaryOp .Add) (Qwb X.K) := by
 intro pins s σ H x y v u Q I rx ry h
 obtain ⟨l, c, xs, zs, rfl, rfl, hH, hB, hz, q⟩ := h
 cases rx
 cases ry
 obtain ⟨z, its, n, r, hl, e⟩ := I.QkX hH
 obtain ⟨z2, its2, n2, r2, hl2, e2⟩ := I.QkX hB
 refine PySem.P.add_list e e2 ?_ (by rw [Zt, Zt]; omega)
 have ea : its.toArray ++ its2.toArray = (its ++ its2).toArray := by simp
 rw [ea]
 exact ⟨.ref _, _, I.Qt3 (t' := s.toks) (r.append r2) (by rw [Zq]; omega), rfl, q _ I.fresh⟩
theorem QvI (ha : SE X a fa) (hb : SE X b fb) : SE X (.BinOp a .Add b pos) (Qz fa fb) := λ H0 A0 =>
 (Qn5 (Qup.or QtF) (ha H0 A0) (hb H0 A0)).mono λ σ H Q ⟨ρ, hs, F, r', rel, e, q⟩ => by
  obtain ⟨ra, rb, ea, eb, ek⟩ := Qnz e
  refine two rel ea eb λ x y H1 H2 G1 G2 p1 p2 => ?_
  have p1' := p1.rp.same p2.same
  have p2' := p2.rp
  have c1 := p1.src.append p2.src p1.same
  have o1 := p1.own.append p2.own
  revert ek
  revert p1' p2'
  cases ra.d <;> cases rb.d <;> intro p1' p2' ek <;> first | (cases ek; done) | skip
  ·cases ek
   rw [p1'.int_inv, p2'.int_inv]
   exact .inl ⟨_, _, rfl, rfl, q _ H2 [] (.flat (p1.same.trans p2.same) .int_mk)⟩
  ·rename_i xs ys
   dsimp only at ek
   split at ek
   ·rename_i hz
    cases ek
    obtain ⟨l, vs, L1, rfl, hl, rl, zl, el⟩ := p1'.lst_inv
    obtain ⟨c, ws, L2', rfl, hc, rc, zc, ec⟩ := p2'.lst_inv
    have n1 := rl.length
    have n2 := rc.length
    refine .inr ⟨l, c, vs, ws, rfl, rfl, hl, hc, by omega, λ p hp => ?_⟩
    refine q _ _ (p :: (L1 ++ L2')) (Q0.Qan (p1.same.trans p2.same) hp (rl.append rc) (by rw [Zq]; exact hz) (λ a ha => c1 a ?_) o1)
    rcases ZF.mp ha with h | h
    ·refine Zg _ ?_
     rcases el with rfl | rfl
     ·exact Zc _ h
     ·exact h
    ·refine Ze _ ?_
     rcases ec with rfl | rfl
     ·exact Zc _ h
     ·exact h
   ·cases ek
noncomputable def QvT (K : PySem.W.Frag) : R2 := λ x y H Q => ∃ l k xs, x = .ref l /\ y = .int k /\ (H l = some (.lst xs) ∨ Fix K H l xs) /\ -(2 ^ 63) <= k /\ k < 2 ^ 63 /\ xs.length * k.toNat <= sizeLine ∧
 ∀ p, H p = none -> Q (.ref p) (upd H p (.lst (List.replicate k.toNat xs).flatten))
theorem QsG : OpR X (binaryOp .Mult) (QvT X.K) := by
 intro pins s σ H x y v u Q I rx ry h
 obtain ⟨l, k, xs, rfl, rfl, hH, h1, h2, hz, q⟩ := h
 cases rx
 obtain ⟨t, rfl⟩ := ry
 obtain ⟨z, its, n, r, hl, e⟩ := I.QkX hH
 have hlen : its.toArray.size * k.toNat <= sizeLine := by rw [Zt, ← hl]; exact hz
 have hcap : ¬ its.toArray.size * k.toNat > (2 ^ 63 - 1) / 8 := by
  have : (sizeLine : Nat) <= (2 ^ 63 - 1) / 8 := by decide
  omega
 have hfit : ¬ (!Builtin.List.listFitsIndex k) = true := by
  rw [fitsIndex_both h1 h2]
  exact Zag
 have hlong : ¬ Builtin.List.listTooLong (its.toArray.size * k.toNat) = true := by
  rw [QqA hlen]
  exact Zag
 have hnew : List.foldl (λ x1 x2 => x1 ++ x2) #[] (List.replicate (if its.toArray.isEmpty = true then 0 else k.toNat) its.toArray) = (List.replicate k.toNat its).flatten.toArray := by
  have f0 : ∀ m : Nat, List.foldl (λ x1 x2 => x1 ++ x2) #[] (List.replicate m its.toArray) = (List.replicate m its).flatten.toArray := λ m => by
   have := foldl_rep its m []
   rw [ZbP] at this
   exact this
  rw [f0]
  cases its with
  | nil => simp
  | cons a r' => rw [if_neg (by simp)]
 open PyProof.Rows in
 refine wpAny_binaryOp_repeat_ref (T := "list") (U := "int") (by decide) ⟨_, e, rfl⟩ (λ s' => typeIs_int s' k t) noFill_list_mul F.fills_int_mul F.slot_int_rmul repeat_list F.slot_int_index.lookup
  (call_meets F.slot_int_rmul (typeIs_int s k t) F.entry_int_rmul (F.args_int_rmul_2 _ _) (int___rmul___int_list k t l its.toArray n)
   ⟨e, rfl, ⟨_, e, rfl⟩, call_meets F.slot_list_mul ⟨_, e, rfl⟩ F.entry_list_mul (F.args_list_mul_2 _ _) (AutoListH.list___mul___list_int_3 l its.toArray n k t hfit hcap hlong) ⟨e, ?_⟩⟩)
 rw [hnew]
 exact ⟨.ref _, _, I.Qt3 (t' := s.toks) (r.rep k.toNat) (by rw [len_rep, Nat.mul_comm]; exact hz), rfl, q _ I.fresh⟩
theorem Qj2 {xs : List D} (h : Q2 xs = true) : ∀ n : Nat, Q2 (List.replicate n xs).flatten = true
 | 0 => by simp [Q2]
 | n + 1 => by rw [ZV, Zac, Qcu, h, Qj2 h n]; rfl
theorem Rps.rep {K : PySem.W.Frag} {H : Hp} {ds : List D} {vs : List V} (h : Rps K H ds vs []) : ∀ n : Nat, Rps K H (List.replicate n ds).flatten (List.replicate n vs).flatten []
 | 0 => by simp [Rps]
 | n + 1 => by rw [ZV, Zac, ZV, Zac]; exact h.append (Rps.rep h n)
theorem Qvq (ha : SE X a fa) (hb : SE X b fb) : SE X (.BinOp a .Mult b pos) (QS fa fb) := λ H0 A0 =>
 (Qn5 (Qs7.or QsG) (ha H0 A0) (hb H0 A0)).mono λ σ H Q ⟨ρ, hs, F, r', rel, e, q⟩ => by
  obtain ⟨ra, rb, ea, eb, ek⟩ := Qnz e
  refine two rel ea eb λ x y H1 H2 G1 G2 p1 p2 => ?_
  have p1' := p1.rp.same p2.same
  have p2' := p2.rp
  revert ek
  revert p1' p2'
  cases ra.d <;> cases rb.d <;> intro p1' p2' ek <;> first | (cases ek; done) | skip
  ·dsimp only at ek
   split at ek
   ·rename_i hm
    cases ek
    rw [p1'.int_inv, p2'.int_inv]
    exact .inl ⟨_, _, rfl, rfl, hm, q _ H2 [] (.flat (p1.same.trans p2.same) .int_mk)⟩
   ·cases ek
  ·rename_i xs j
   dsimp only at ek
   split at ek
   ·rename_i hz
    cases ek
    obtain ⟨hz1, hz2, hz3, hf⟩ := hz
    obtain ⟨l, vs, L1, rfl, hl, rl, zl, el⟩ := p1'.lst_inv
    have n1 := rl.length
    have e0 := rl.Qcp hf
    subst e0
    rw [p2'.int_inv]
    refine .inr ⟨l, j, vs, rfl, rfl, hl, hz2, hz3, by rw [← n1]; exact hz1, λ p hp => ?_⟩
    have w : HS.Qan (List.replicate j.toNat xs).flatten [] = ⟨.lst (List.replicate j.toNat xs).flatten, true, []⟩ := by
     unfold HS.Qan; rw [if_pos (Qj2 hf _)]
    rw [← w] at q
    exact q _ _ (p :: []) (Q0.Qan (p1.same.trans p2.same) hp (rl.rep _) (by rw [len_rep, Nat.mul_comm]; exact hz1) Src.nil QaZ.nil)
   ·cases ek
end
end HS
namespace HS
open PySem PySem.Spec L2
noncomputable def Qf : DA := λ _ => some ⟨[], true, []⟩
noncomputable def Qc (fa : DE) (fr : DA) : DA := λ ρ => (fa ρ).bind λ r => (fr ρ).bind λ rs => some ⟨r.d :: rs.ds, r.fr && rs.fr, r.M ++ rs.M⟩
noncomputable def QaW (fa : DA) : DE := λ ρ => (fa ρ).bind λ r => if r.ds.length <= 64 then some ⟨.tup r.ds, r.fr, r.M⟩ else none
noncomputable def Qas (fa : DA) : DE := λ ρ => (fa ρ).bind λ r => if r.ds.length <= 64 then some ⟨.lst r.ds, r.fr, r.M⟩ else none
section
variable {X : Cx} {a b e : Expr} {es : List Expr} {fa fb : DE} {fs : DA} {pos : Pos}
theorem QlX : SA X [] Qf := λ H0 A0 => QcR.mono λ σ H Q ⟨ρ, hs, F, r', rel, e, q⟩ => by
 cases e
 exact q [] H [] ⟨QK.refl _, by simp [Rps], Src.nil, λ _ => ⟨Cnt.nil, rfl⟩, QaZ.nil⟩
theorem QgW (ha : SE X e fa) (hr : SA X es fs) (hs : starEach (e :: es) X.env = (false, eval e X.env) :: starEach es X.env) : SA X (e :: es) (Qc fa fs) := λ H0 A0 =>
 (Qat (ha H0 A0) (hr H0 A0) hs).mono λ σ H Q ⟨ρ, hs, F, r', rel, e, q⟩ => by
  obtain ⟨r, e1, e⟩ := bind1 e
  obtain ⟨rs, e2, e⟩ := bind1 e
  cases e
  refine ⟨ρ, hs, F, r, rel, e1, λ x H1 G1 p1 => ⟨ρ, hs, F, rs, rel.ext p1.same, e2, λ xs H2 G2 p2 => ?_⟩⟩
  refine q _ H2 (G1 ++ G2) ⟨p1.same.trans p2.same, ?_, p1.src.append p2.src p1.same, λ h => ?_, p1.own.append p2.own⟩
  ·simp only [Rps]
   exact ⟨x, xs, G1, G2, rfl, rfl, p1.rp.same p2.same, p2.rp⟩
  ·simp only [Zl] at h
   exact ⟨(p1.cnt h.1).1.append rel (p2.cnt h.2).1 p1.same p1.rp.mem, by simp only [nls, Zq, (p1.cnt h.1).2, (p2.cnt h.2).2]⟩
theorem QfL {n : Nat} (h : n <= 64) : n <= sizeLine := Zx h (by decide)
theorem QuU {k : Nat} (ha : SA X es fs) : SE X (.Tuple es k pos) (QaW fs) := λ H0 A0 =>
 (Qvr (ha H0 A0)).mono λ σ H Q ⟨ρ, hs, F, r', rel, e, q⟩ => by
  obtain ⟨r, e1, e⟩ := bind1 e
  split at e
  ·rename_i hz
   cases e
   refine ⟨ρ, hs, F, r, rel, e1, λ xs H1 G p => ⟨by rw [← p.rp.length]; exact QfL hz, λ c hc => q _ _ G ⟨p.same.trans (QbX hc), Rp.Qix Qay (p.rp.same (QbX hc)), p.src, λ h => ⟨(p.cnt h).1, by simp only [D.nl]; exact (p.cnt h).2⟩, p.own⟩⟩⟩
  ·cases e
theorem QuE (ha : SA X es fs) : SE X (.List es pos) (Qas fs) := λ H0 A0 =>
 (Qvp (ha H0 A0)).mono λ σ H Q ⟨ρ, hs, F, r', rel, e, q⟩ => by
  obtain ⟨r, e1, e⟩ := bind1 e
  split at e
  ·rename_i hz
   cases e
   refine ⟨ρ, hs, F, r, rel, e1, λ xs H1 G p => ⟨by rw [← p.rp.length]; exact QfL hz, λ c hc => ?_⟩⟩
   have hH : H c = none := p.same.free hc
   refine q _ _ (c :: G) ⟨p.same.trans (QbX hc), Rp.Qel Qay (p.rp.same (QbX hc)) (QfL hz), λ z hz' => ?_, λ h => ⟨λ z => ?_, by simp only [D.nl, ZO, (p.cnt h).2]⟩, p.own⟩
   ·rcases Zv.mp hz' with rfl | h
    ·exact .inl hH
    ·exact p.src z h
   ·rw [ZaC]
    have := (p.cnt h).1 z
    split
    ·rename_i e'
     have e' : c = z := by simpa using e'
     subst e'
     have h0 : G.count c = 0 := ZM.mpr λ hm => by obtain ⟨vs, w⟩ := p.rp.mem c hm; rw [hc] at w; cases w
     rw [Qa3 hH]; omega
    ·exact this
  ·cases e
noncomputable def D.items : D -> Option (List D)
 | .lst xs => some xs
 | .tup xs => some xs
 | _ => none
noncomputable def Qn (fa fb : DE) : DE := λ ρ => (fa ρ).bind λ ra => (fb ρ).bind λ rb => match rb.d with
 | .int i => (ra.d.items).bind λ xs => (atI xs i).map λ d => (R.norm ⟨d, ra.fr, ra.M⟩)
 | _ => none
theorem QtS {α β : Type} {xs : List α} {i : Int} {d : α} (h : atI xs i = some d) : ∃ j : Nat, xs[j]? = some d /\ ∀ (ys : List β), ys.length = xs.length -> ∀ y, ys[j]? = some y -> atI ys i = some y := by
 unfold atI at h
 cases e : ixN xs.length i with
 | none => rw [e] at h; cases h
 | some j =>
  rw [e] at h
  refine ⟨j, h, λ ys hl y hy => ?_⟩
  unfold atI
  rw [hl, e]
  exact hy
theorem Quu (ha : SE X a fa) (hb : SE X b fb) (hs : QgY b) : SE X (.Subscript a b pos) (Qn fa fb) := λ H0 A0 =>
 (Qr1 (Qnl.or QoB) (ha H0 A0) (hb H0 A0) hs).mono λ σ H Q ⟨ρ, hs, F, r', rel, e, q⟩ => by
  obtain ⟨ra, rb, ea, eb, ek⟩ := Qnz e
  refine two rel ea eb λ x y H1 H2 G1 G2 p1 p2 => ?_
  have p1' := p1.rp.same p2.same
  have p2' := p2.rp
  have pp : Q0 X.K ρ F H H2 ra x G1 := ⟨p1.same.trans p2.same, p1', p1.src, p1.cnt, p1.own⟩
  cases hb' : rb.d with
  | int i =>
   rw [hb'] at ek p2'
   rw [p2'.int_inv]
   obtain ⟨xs, ex, ek⟩ := bind1 ek
   obtain ⟨d, ed, ek⟩ := Zd.mp ek
   subst ek
   obtain ⟨j, hj, hm⟩ := QtS (β := V) ed
   have fin : ∀ (L : List Addr) (vs : List V), Rps X.K H2 xs vs L -> (∀ z, L.count z <= G1.count z) -> (G1.length = ra.d.nl -> L.length = nls xs) -> ∃ v, atI vs i = some v /\ Q v H2 := λ L vs rl hc hn => by
    obtain ⟨v, F1, G, F2, hv, eF, rv, hx⟩ := rl.get hj
    refine ⟨v, hm vs rl.length.symm v hv, q v H2 G (Q0.norm (Q0.sub pp rv (λ z => Zx ?_ (hc z)) λ z => hx (hn z)))⟩
    rw [eF, Zad, Zad]; omega
   cases hra : ra.d with
   | lst ys =>
    rw [hra] at ex p1'
    cases ex
    obtain ⟨l, vs, L, rfl, hl, rl, zl, el⟩ := p1'.lst_inv
    have hn : G1.length = ra.d.nl -> L.length = nls xs := λ hz => by
     have := rl.QaE
     simp only [hra, D.nl] at hz
     rcases el with rfl | rfl
     ·rw [ZO] at hz; omega
     ·omega
    have hc : ∀ z, L.count z <= G1.count z := λ z => by
     rcases el with rfl | rfl
     ·rw [ZaC]; omega
     ·exact Zk _
    obtain ⟨v, h1, h2⟩ := fin L vs rl hc hn
    exact .inl ⟨l, vs, i, v, rfl, rfl, QX hl, h1, h2⟩
   | tup ys =>
    rw [hra] at ex p1'
    cases ex
    obtain ⟨l, vs, rfl, hl, rl⟩ := p1'.QaQ
    obtain ⟨v, h1, h2⟩ := fin G1 vs rl (λ z => Zk _) λ z => (by simpa only [hra, D.nl] using z)
    exact .inr ⟨l, vs, i, v, rfl, rfl, hl, h1, h2⟩
   | _ => rw [hra] at ex; cases ex
  | _ => rw [hb'] at ek; cases ek
noncomputable abbrev DO := En -> Option (Option Int)
noncomputable def QaX : DO := λ _ => some none
noncomputable def QaY (f : DE) : DO := λ ρ => (f ρ).bind λ r => match r.d with
 | .int i => some (some i)
 | _ => none
noncomputable def tVO (K : PySem.W.Frag) (H0 : Hp) (A0 : List Addr) (f : DO) : TO := λ σ H Q => ∃ ρ hs F o, Rel K H0 A0 hs ρ F σ H /\ f ρ = some o /\ ∀ H', QK H H' -> Q o H'
def SO (X : Cx) (e : Option Expr) (f : DO) : Prop := ∀ H0 A0, PO X e (tVO X.K H0 A0 f)
theorem _root_.L2.PO.mono {X : Cx} {e : Option Expr} {t t' : TO} (h : PO X e t) (m : ∀ σ H Q, t' σ H Q -> t σ H Q) : PO X e t' := by
 intro pins s σ H Q I q
 exact h pins s σ H Q I (m σ H Q q)
theorem QsJ : SO X none QaX := λ H0 A0 => QtU.mono λ σ H Q ⟨ρ, hs, F, o, rel, e, q⟩ => by
 cases e
 exact q H (QK.refl _)
theorem Qty (h : SE X a fa) : SO X (some a) (QaY fa) := λ H0 A0 => (QtN (h H0 A0)).mono λ σ H Q ⟨ρ, hs, F, o, rel, e, q⟩ => by
 obtain ⟨r, e1, e⟩ := bind1 e
 refine ⟨ρ, hs, F, r, rel, e1, λ v H1 G p => ?_⟩
 have rp := p.rp
 cases hr : r.d with
 | int i =>
  rw [hr] at e rp
  cases e
  exact ⟨i, rp.int_inv, q H1 p.same⟩
 | _ => rw [hr] at e; cases e
noncomputable def cutD (xs : List D) (lo hi : Option Int) : List D := (xs.drop (HT.sIx xs.length 0 lo)).take (HT.sIx xs.length xs.length hi - HT.sIx xs.length 0 lo)
noncomputable def QbY (fa : DE) (lo hi : DO) : DE := λ ρ => (fa ρ).bind λ ra => (lo ρ).bind λ l => (hi ρ).bind λ h => match ra.d with
 | .lst xs => some (Qan (cutD xs l h) ra.M)
 | _ => none
theorem Rps.drop : ∀ {ds : List D} {vs : List V} {F : List Addr} {K : PySem.W.Frag} {H : Hp} (n : Nat), Rps K H ds vs F -> ∃ G, Rps K H (ds.drop n) (vs.drop n) G /\ ∀ a ∈ G, a ∈ F
 | [], vs, F, K, H, n, h => by simp only [Rps] at h; rw [h.1, h.2]; exact ⟨[], by simp [Rps], λ _ h => h⟩
 | d :: ds, vs, F, K, H, 0, h => ⟨F, by simpa using h, λ _ h => h⟩
 | d :: ds, vs, F, K, H, n + 1, h => by
  simp only [Rps] at h
  obtain ⟨v, ws, F1, F2, e, eF, r, q⟩ := h
  subst e eF
  obtain ⟨G, h1, h2⟩ := Rps.drop n q
  exact ⟨G, by simpa using h1, λ a ha => Ze _ (h2 a ha)⟩
theorem Rps.take : ∀ {ds : List D} {vs : List V} {F : List Addr} {K : PySem.W.Frag} {H : Hp} (n : Nat), Rps K H ds vs F -> ∃ G, Rps K H (ds.take n) (vs.take n) G /\ ∀ a ∈ G, a ∈ F
 | [], vs, F, K, H, n, h => by simp only [Rps] at h; rw [h.1, h.2]; exact ⟨[], by simp [Rps], λ _ h => h⟩
 | d :: ds, vs, F, K, H, 0, h => ⟨[], by simp [Rps], λ _ h => by simp at h⟩
 | d :: ds, vs, F, K, H, n + 1, h => by
  simp only [Rps] at h
  obtain ⟨v, ws, F1, F2, e, eF, r, q⟩ := h
  subst e eF
  obtain ⟨G, h1, h2⟩ := Rps.take n q
  refine ⟨F1 ++ G, ?_, λ a ha => ?_⟩
  ·simp only [List.take_succ_cons, Rps]
   exact ⟨v, _, F1, G, rfl, rfl, r, h1⟩
  ·rcases ZF.mp ha with h | h
   ·exact Zg _ h
   ·exact Ze _ (h2 a h)
theorem QuL {lo hi : Option Expr} {fl fh : DO} {p2 : Pos} (ha : SE X a fa) (hl : SO X lo fl) (hh : SO X hi fh) : SE X (.Subscript a (.Slice lo hi none p2) pos) (QbY fa fl fh) := λ H0 A0 =>
 (Qq7 QsO (ha H0 A0) (hl H0 A0) (hh H0 A0)).mono λ σ H Q ⟨ρ, hs, F, r', rel, e, q⟩ => by
  obtain ⟨ra, e1, e⟩ := bind1 e
  obtain ⟨l, e2, e⟩ := bind1 e
  obtain ⟨h, e3, e⟩ := bind1 e
  refine ⟨ρ, hs, F, ra, rel, e1, λ x H1 G1 p1 => ⟨ρ, hs, F, l, rel.ext p1.same, e2, λ H2 s2 => ⟨ρ, hs, F, h, (rel.ext p1.same).ext s2, e3, λ H3 s3 => ?_⟩⟩⟩
  have rp := p1.rp.same (s2.trans s3)
  cases hra : ra.d with
  | lst xs =>
   rw [hra] at e rp
   cases e
   obtain ⟨c, vs, L, rfl, hc, rl, zl, el⟩ := rp.lst_inv
   refine ⟨c, vs, rfl, QX hc, λ p hp => ?_⟩
   obtain ⟨G2, h2, m2⟩ := rl.drop (HT.sIx xs.length 0 l)
   obtain ⟨G3, h3, m3⟩ := h2.take (HT.sIx xs.length xs.length h - HT.sIx xs.length 0 l)
   have n1 := rl.length
   rw [show Qjb vs l h = (vs.drop (HT.sIx xs.length 0 l)).take (HT.sIx xs.length xs.length h - HT.sIx xs.length 0 l) by unfold Qjb; rw [n1]]
   refine q _ _ (p :: G3) (Q0.Qan (p1.same.trans (s2.trans s3)) hp h3 ?_ (λ z hz => p1.src z ?_) p1.own)
   ·unfold cutD; rw [ZaG, List.length_drop]; omega
   ·have := m2 z (m3 z hz)
    rcases el with rfl | rfl
    ·exact Zc _ this
    ·exact this
  | _ => rw [hra] at e; cases e
noncomputable def dBf (g : List D -> Option D) (fs : DA) : DE := λ ρ => (fs ρ).bind λ r => (g r.ds).map λ d => ⟨d, true, []⟩
def Qes (K : PySem.W.Frag) (g : List D -> Option D) (r : List V -> Hp -> VK -> Prop) : Prop := ∀ ds d, g ds = some d -> d.flat = true /\ ∀ H vs F (Q : VK), Rps K H ds vs F -> (∀ v, (∀ H', Rp K H' d v []) -> Q v H) -> r vs H Q
theorem QgH {x : Str} {id : String} {g : List D -> Option D} {r : List V -> Hp -> VK -> Prop} {p : Pos} (hc : QbU X (.builtin id) r) (hk : Qes X.K g r) (hg : Gl X x) (hm : X.mg x = none) (hv : bootBuiltins x = some (.builtin id)) (ha : SA X (e :: es) fs) (hn : x ≠ "__name__") (hdb : (x == ("__debug__" : Str)) = false)
  (he : starEach (e :: es) X.env = (false, eval e X.env) :: starEach es X.env) (hpl : (backTo pos (starEach es X.env)).any (·.1) = false) : SE X (.Call (.Name x p) (e :: es) [] pos) (dBf g fs) := λ H0 A0 =>
 (QkG hc hg hm hv (ha H0 A0) hn hdb he hpl).mono λ σ H Q ⟨ρ, hs, F, r', rel, e, q⟩ => by
  obtain ⟨ra, e1, e⟩ := bind1 e
  obtain ⟨d, ed, e⟩ := Zd.mp e
  subst e
  exact ⟨ρ, hs, F, ra, rel, e1, λ vs H1 G p1 => (hk _ _ ed).2 H1 vs G Q p1.rp λ v hv => q v H1 [] (.flat p1.same (hv _) (hk _ _ ed).1)⟩
theorem Rps.one {K : PySem.W.Frag} {H : Hp} {d : D} {vs : List V} {F : List Addr} (h : Rps K H [d] vs F) : ∃ v, vs = [v] /\ Rp K H d v F := by
 simp only [Rps] at h
 obtain ⟨v, ws, F1, F2, rfl, rfl, r, rfl, rfl⟩ := h
 exact ⟨v, rfl, by simpa using r⟩
theorem Rps.two {K : PySem.W.Frag} {H : Hp} {d e : D} {vs : List V} {F : List Addr} (h : Rps K H [d, e] vs F) : ∃ v w F1 F2, vs = [v, w] /\ Rp K H d v F1 /\ Rp K H e w F2 := by
 simp only [Rps] at h
 obtain ⟨v, ws, F1, F2, rfl, rfl, r, w, ws', F3, F4, rfl, rfl, r2, rfl, rfl⟩ := h
 exact ⟨v, w, F1, F3, rfl, r, r2⟩
noncomputable def Qav : List D -> Option D
 | [.lst xs] => some (.int xs.length)
 | [.tup xs] => some (.int xs.length)
 | _ => none
theorem Qu6 {K : PySem.W.Frag} : Qes K Qav (λ xs H Q => ∃ p ys, xs = [.ref p] /\ (SqL K H p ys ∨ SqT K H p ys) /\ Q (.int ys.length) H) := λ ds d e => by
 unfold Qav at e
 split at e
 ·cases e
  refine ⟨rfl, λ H vs F Q r q => ?_⟩
  obtain ⟨v, rfl, rp⟩ := r.one
  obtain ⟨l, ws, L, rfl, hl, rl, zl, el⟩ := rp.lst_inv
  exact ⟨l, ws, rfl, .inl (QX hl), by rw [← rl.length]; exact q _ λ _ => .int_mk⟩
 ·cases e
  refine ⟨rfl, λ H vs F Q r q => ?_⟩
  obtain ⟨v, rfl, rp⟩ := r.one
  obtain ⟨l, ws, rfl, hl, rl⟩ := rp.QaQ
  exact ⟨l, ws, rfl, .inr hl, by rw [← rl.length]; exact q _ λ _ => .int_mk⟩
 ·cases e
noncomputable def QiD : List D -> Option D
 | [.int i, .int j] => some (.int (if j < i then j else i))
 | _ => none
noncomputable def Qio : List D -> Option D
 | [.int i, .int j] => some (.int (if j > i then j else i))
 | _ => none
noncomputable def Qoo : List D -> Option D
 | [.int i] => some (.int (if i < 0 then -i else i))
 | _ => none
theorem Qtv {K : PySem.W.Frag} : Qes K QiD (λ xs H Q => ∃ i j, xs = [.int i, .int j] /\ Q (.int (if j < i then j else i)) H) := λ ds d e => by
 unfold QiD at e
 split at e
 ·cases e
  refine ⟨rfl, λ H vs F Q r q => ?_⟩
  obtain ⟨v, w, F1, F2, rfl, r1, r2⟩ := r.two
  exact ⟨_, _, by rw [r1.int_inv, r2.int_inv], q _ λ _ => .int_mk⟩
 ·cases e
theorem Qsy {K : PySem.W.Frag} : Qes K Qio (λ xs H Q => ∃ i j, xs = [.int i, .int j] /\ Q (.int (if j > i then j else i)) H) := λ ds d e => by
 unfold Qio at e
 split at e
 ·cases e
  refine ⟨rfl, λ H vs F Q r q => ?_⟩
  obtain ⟨v, w, F1, F2, rfl, r1, r2⟩ := r.two
  exact ⟨_, _, by rw [r1.int_inv, r2.int_inv], q _ λ _ => .int_mk⟩
 ·cases e
theorem Qvk {K : PySem.W.Frag} : Qes K Qoo (λ xs H Q => ∃ i, xs = [.int i] /\ Q (.int (if i < 0 then -i else i)) H) := λ ds d e => by
 unfold Qoo at e
 split at e
 ·cases e
  refine ⟨rfl, λ H vs F Q r q => ?_⟩
  obtain ⟨v, rfl, r1⟩ := r.one
  exact ⟨_, by rw [r1.int_inv], q _ λ _ => .int_mk⟩
 ·cases e
noncomputable def dList (fs : DA) : DE := λ ρ => (fs ρ).bind λ r => match r.ds with
 | [.lst xs] => some (Qan xs r.M)
 | [.tup xs] => if xs.length <= sizeLine then some (Qan xs r.M) else none
 | _ => none
theorem Qtq {p : Pos} (hg : Gl X "list") (hm : X.mg "list" = none) (ha : SA X (e :: es) fs) (he : starEach (e :: es) X.env = (false, eval e X.env) :: starEach es X.env) (hpl : (backTo pos (starEach es X.env)).any (·.1) = false) :
  SE X (.Call (.Name "list" p) (e :: es) [] pos) (dList fs) := λ H0 A0 =>
 (Qpv QkR hg hm ZbH (ha H0 A0) (by decide) (by decide) he hpl).mono λ σ H Q ⟨ρ, hs, F, r', rel, e, q⟩ => by
  obtain ⟨ra, e1, e⟩ := bind1 e
  refine ⟨ρ, hs, F, ra, rel, e1, λ vs H1 G p1 => ?_⟩
  have rp := p1.rp
  have src := p1.src
  split at e
  ·rename_i xs hds
   cases e
   rw [hds] at rp
   obtain ⟨v, rfl, rq⟩ := rp.one
   obtain ⟨l, ws, L, rfl, hl, rl, zl, el⟩ := rq.lst_inv
   refine ⟨l, ws, rfl, .inl (QX hl), λ c hc => q _ _ (c :: L) (Q0.Qan p1.same hc rl zl (λ z hz => src z ?_) p1.own)⟩
   rcases el with rfl | rfl
   ·exact Zc _ hz
   ·exact hz
  ·rename_i xs hds
   split at e
   ·rename_i hz
    cases e
    rw [hds] at rp
    obtain ⟨v, rfl, rq⟩ := rp.one
    obtain ⟨l, ws, rfl, hl, rl⟩ := rq.QaQ
    exact ⟨l, ws, rfl, .inr hl, λ c hc => q _ _ (c :: G) (Q0.Qan p1.same hc rl hz src p1.own)⟩
   ·cases e
  ·cases e
end
end HS
namespace HS
open PySem PySem.Spec L2
mutual
noncomputable def D.py : D -> PyData
 | .non => .none
 | .bl b => .bool b
 | .int i => .int i
 | .str x => .str x
 | .tup xs => .tuple (pys xs)
 | .lst xs => .list (pys xs)
noncomputable def pys : List D -> List PyData
 | [] => []
 | d :: ds => d.py :: pys ds
end
theorem Qnf : ∀ ds : List D, pys ds = ds.map D.py
 | [] => rfl
 | d :: ds => by simp [pys, Qnf ds]
noncomputable def D.sim : Nat -> D -> Bool
 | _, .non => true
 | _, .bl _ => true
 | _, .int _ => true
 | _, .str x => PyData.canLay0 (.str x)
 | 0, .tup xs => xs.isEmpty
 | 0, .lst xs => xs.isEmpty
 | n + 1, .tup xs => xs.all (D.sim n)
 | n + 1, .lst xs => xs.all (D.sim n)
theorem Qef : ∀ {ds : List D}, (∀ d ∈ ds, d.py.canLay0 = true) -> PyData.canLayAll0 (pys ds) = true
 | [], _ => rfl
 | d :: ds, h => by
  simp only [pys, PyData.canLayAll0, Zl]
  exact ⟨h d Zi, Qef λ e he => h e (Zc _ he)⟩
theorem QeW {n : Nat} : ∀ {ds : List D}, (∀ d ∈ ds, d.py.depth <= n) -> PyData.depthAll (pys ds) <= n
 | [], _ => ZX _
 | d :: ds, h => by
  simp only [pys, PyData.depthAll]
  exact Nat.max_le.mpr ⟨h d Zi, QeW λ e he => h e (Zc _ he)⟩
theorem QbA : ∀ (n : Nat) (d : D), d.sim n = true -> d.py.canLay0 = true /\ d.py.depth <= n + 1
 | n, .non, _ => by simp [D.py, PyData.canLay0, PyData.depth]
 | n, .bl _, _ => by simp [D.py, PyData.canLay0, PyData.depth]
 | n, .int _, _ => by simp [D.py, PyData.canLay0, PyData.depth]
 | n, .str x, h => by
  simp only [D.py, PyData.depth]
  refine ⟨?_, ZX _⟩
  cases n <;> exact h
 | 0, .tup xs, h => by
  have : xs = [] := by simpa [D.sim] using h
  subst this
  simp [D.py, pys, PyData.canLay0, PyData.canLayAll0, PyData.depth, PyData.depthAll]
 | 0, .lst xs, h => by
  have : xs = [] := by simpa [D.sim] using h
  subst this
  simp [D.py, pys, PyData.canLay0, PyData.canLayAll0, PyData.depth, PyData.depthAll]
 | n + 1, .tup xs, h => by
  simp only [D.sim, ZaH] at h
  simp only [D.py, PyData.canLay0, PyData.depth]
  exact ⟨Qef λ d hd => (QbA n d (h d hd)).1, Zbi (QeW λ d hd => (QbA n d (h d hd)).2) 1⟩
 | n + 1, .lst xs, h => by
  simp only [D.sim, ZaH] at h
  simp only [D.py, PyData.canLay0, PyData.depth]
  exact ⟨Qef λ d hd => (QbA n d (h d hd)).1, Zbi (QeW λ d hd => (QbA n d (h d hd)).2) 1⟩
noncomputable def deq (a b : D) : Bool := PyData.eqv a.py b.py
theorem Qlt {n : Nat} {d : D} (h : d.sim n = true) : deq d d = true := SeqAt.eqv_refl _ (QbA n d h).1
section
variable {X : Cx} {pins : List (Addr × Obj)} {σ : L2.St} {H : Hp} {s : Shared}
mutual
theorem Rp.reads (I : Inv X pins σ H s) : ∀ {d : D} {v : V} {F : List Addr} {u : Value}, Rp X.K H d v F -> RelV v u -> ∃ as, Reads s.heap u d.py as
 | .non, v, _, u, h, r => by
  rw [h.QjD] at r
  cases (show u = Value.none from r)
  exact ⟨_, .none⟩
 | .bl b, v, _, u, h, r => by
  rw [h.QfZ] at r
  cases (show u = Value.bool b from r)
  exact ⟨_, .bool b⟩
 | .int i, v, _, u, h, r => by
  rw [h.int_inv] at r
  obtain ⟨t, rfl⟩ := (show ∃ t, u = Value.int i t from r)
  exact ⟨_, .int i t⟩
 | .str i, v, _, u, h, r => by
  rw [h.str_inv] at r
  obtain ⟨t, rfl⟩ := (show ∃ t, u = Value.str i t from r)
  exact ⟨_, .str i t⟩
 | .tup ds, v, _, u, h, r => by
  obtain ⟨a, vs, rfl, hq, rs⟩ := h.QaQ
  cases (show u = Value.ref a from r)
  obtain ⟨its, rv, ⟨o, h1, h2, n, h3⟩, _⟩ := I.tuple hq
  obtain ⟨as, ra⟩ := Rps.reads I rs rv
  exact ⟨_, .tuple h1 h2 h3 (by simpa using ra)⟩
 | .lst ds, v, _, u, h, r => by
  simp only [Rp] at h
  obtain ⟨hz, a, vs, rfl, h⟩ := h
  have key : ∃ G, (H a = some (.lst vs) ∨ Fix X.K H a vs) /\ Rps X.K H ds vs G := by
   rcases h with ⟨G, _, q, rs⟩ | ⟨q, rs⟩
   ·exact ⟨G, .inl q, rs⟩
   ·exact ⟨_, .inr q, rs⟩
  obtain ⟨G, hq, rs⟩ := key
  cases (show u = Value.ref a from r)
  obtain ⟨_, its, n, rv, _, e⟩ := I.QkX hq
  obtain ⟨as, ra⟩ := Rps.reads I rs rv
  exact ⟨_, .list e rfl rfl (by simpa using ra)⟩
theorem Rps.reads (I : Inv X pins σ H s) : ∀ {ds : List D} {vs : List V} {F : List Addr} {us : List Value}, Rps X.K H ds vs F -> Qy vs us -> ∃ as, ReadsAll s.heap us (pys ds) as
 | [], vs, _, us, h, r => by
  simp only [Rps] at h
  rw [h.1] at r
  cases r
  exact ⟨_, .nil⟩
 | d :: ds, vs, _, us, h, r => by
  simp only [Rps] at h
  obtain ⟨v, ws, F1, F2, rfl, rfl, h1, h2⟩ := h
  cases r with
  | cons r rr =>
   obtain ⟨as, ra⟩ := Rp.reads I h1 r
   obtain ⟨bs, rb⟩ := Rps.reads I h2 rr
   exact ⟨_, .cons ra rb⟩
end
end
noncomputable def gEq (a b : D) : Option D := if a.sim 8 && b.sim 8 then some (.bl (deq a b)) else none
noncomputable def gNe (a b : D) : Option D := if a.sim 8 && b.sim 8 then some (.bl (!deq a b)) else none
noncomputable def gIn (neg : Bool) (a b : D) : Option D := match b with
 | .lst xs => if a.sim 8 && b.sim 8 then some (.bl (if neg then !(xs.any λ y => deq y a) else xs.any λ y => deq y a)) else none
 | .tup xs => if a.sim 8 && b.sim 8 then some (.bl (if neg then !(xs.any λ y => deq y a) else xs.any λ y => deq y a)) else none
 | _ => none
noncomputable def QuI (K : PySem.W.Frag) : R2 := λ x y H Q => ∃ a b F G, Rp K H a x F /\ Rp K H b y G /\ a.sim 8 = true /\ b.sim 8 = true /\ Q (.bl (deq a b)) H
noncomputable def QuG (K : PySem.W.Frag) : R2 := λ x y H Q => ∃ a b F G, Rp K H a x F /\ Rp K H b y G /\ a.sim 8 = true /\ b.sim 8 = true /\ Q (.bl (!deq a b)) H
section
variable {X : Cx}
theorem QuH (hu : X.A.units + 64 < cLine) : OpR X (compareOp .Eq) (QuI X.K) := by
 intro pins s σ H x y v u Q I rx ry h
 obtain ⟨a, b, F, G, ha, hb, sa, sb, q⟩ := h
 obtain ⟨as, ra⟩ := ha.reads I rx
 obtain ⟨bs, rb⟩ := hb.reads I ry
 have h1 := QbA 8 a sa
 have h2 := QbA 8 b sb
 exact SeqAt.compareEq_reads ra rb h1.1 h2.1 (by have := Nat.min_le_left a.py.depth b.py.depth; omega) ⟨.bl _, H, I, rfl, q⟩
theorem QvB (hu : X.A.units + 64 < cLine) : OpR X (compareOp .NotEq) (QuG X.K) := by
 intro pins s σ H x y v u Q I rx ry h
 obtain ⟨a, b, F, G, ha, hb, sa, sb, q⟩ := h
 obtain ⟨as, ra⟩ := ha.reads I rx
 obtain ⟨bs, rb⟩ := hb.reads I ry
 have h1 := QbA 8 a sa
 have h2 := QbA 8 b sb
 exact SeqAt.compareNe_reads ra rb h1.1 h2.1 (by have := Nat.min_le_left a.py.depth b.py.depth; omega) ⟨.bl _, H, I, rfl, q⟩
theorem Qv4 {K : PySem.W.Frag} : QbS K gEq (QuI K) := λ a b d e => by
 unfold gEq at e
 split at e
 ·rename_i h
  simp only [Zl] at h
  cases e
  exact ⟨rfl, λ H x y F G Q ha hb q => ⟨a, b, F, G, ha, hb, h.1, h.2, q _ λ _ => .Qdb⟩⟩
 ·cases e
theorem Qv8 {K : PySem.W.Frag} : QbS K gNe (QuG K) := λ a b d e => by
 unfold gNe at e
 split at e
 ·rename_i h
  simp only [Zl] at h
  cases e
  exact ⟨rfl, λ H x y F G Q ha hb q => ⟨a, b, F, G, ha, hb, h.1, h.2, q _ λ _ => .Qdb⟩⟩
 ·cases e
noncomputable def Qrx (K : PySem.W.Frag) (neg : Bool) : R2 := λ x y H Q => ∃ a b F G xs, Rp K H a x F /\ Rp K H b y G /\ a.sim 8 = true /\ b.sim 8 = true /\ (b = .lst xs ∨ b = .tup xs) /\ Q (.bl (if neg then !(xs.any λ y => deq y a) else xs.any λ y => deq y a)) H
theorem Qox (xs : List D) (a : D) : ((pys xs).any λ y => PyData.eqv y a.py) = xs.any λ y => deq y a := by
 rw [Qnf, List.any_map]; rfl
theorem Qug (hu : X.A.units + 64 < cLine) : OpR X (compareOp .In) (Qrx X.K false) := by
 intro pins s σ H x y v u Q I rx ry h
 obtain ⟨a, b, F, G, xs, ha, hb, sa, sb, hk, q⟩ := h
 obtain ⟨as, ra⟩ := ha.reads I rx
 obtain ⟨bs, rb⟩ := hb.reads I ry
 have h1 := QbA 8 a sa
 have h2 := QbA 8 b sb
 have q' : Q (.bl ((pys xs).any λ y => PyData.eqv y a.py)) H := by rw [Qox]; exact q
 rcases hk with rfl | rfl
 ·exact SeqAt.in_list_reads rb ra h2.1 h1.1 (by have := Zbh (PyData.depthAll (pys xs)) a.py.depth; omega) ⟨.bl _, H, I, rfl, q'⟩
 ·exact SeqAt.in_tuple_reads rb ra h2.1 h1.1 (by have := Zbh (PyData.depthAll (pys xs)) a.py.depth; omega) ⟨.bl _, H, I, rfl, q'⟩
theorem Qp6 (hu : X.A.units + 64 < cLine) : OpR X (compareOp .NotIn) (Qrx X.K true) := by
 intro pins s σ H x y v u Q I rx ry h
 obtain ⟨a, b, F, G, xs, ha, hb, sa, sb, hk, q⟩ := h
 obtain ⟨as, ra⟩ := ha.reads I rx
 obtain ⟨bs, rb⟩ := hb.reads I ry
 have h1 := QbA 8 a sa
 have h2 := QbA 8 b sb
 have q' : Q (.bl (!(pys xs).any λ y => PyData.eqv y a.py)) H := by rw [Qox]; exact q
 rcases hk with rfl | rfl
 ·exact SeqAt.notIn_list_reads rb ra h2.1 h1.1 (by have := Zbh (PyData.depthAll (pys xs)) a.py.depth; omega) ⟨.bl _, H, I, rfl, q'⟩
 ·exact SeqAt.notIn_tuple_reads rb ra h2.1 h1.1 (by have := Zbh (PyData.depthAll (pys xs)) a.py.depth; omega) ⟨.bl _, H, I, rfl, q'⟩
theorem Qr6 {K : PySem.W.Frag} {neg : Bool} : QbS K (gIn neg) (Qrx K neg) := λ a b d e => by
 unfold gIn at e
 split at e
 ·split at e
  ·rename_i h
   simp only [Zl] at h
   cases e
   exact ⟨rfl, λ H x y F G Q ha hb q => ⟨a, _, F, G, _, ha, hb, h.1, h.2, .inl rfl, q _ λ _ => .Qdb⟩⟩
  ·cases e
 ·split at e
  ·rename_i h
   simp only [Zl] at h
   cases e
   exact ⟨rfl, λ H x y F G Q ha hb q => ⟨a, _, F, G, _, ha, hb, h.1, h.2, .inr rfl, q _ λ _ => .Qdb⟩⟩
  ·cases e
 ·cases e
noncomputable def D.tyN : D -> String
 | .non => "NoneType" | .bl _ => "bool" | .int _ => "int" | .str _ => "str" | .tup _ => "tuple" | .lst _ => "list"
noncomputable def D.isa (T : String) (d : D) : Option Bool := if T == "int" || T == "bool" || T == "list" || T == "tuple" || T == "str" then some (d.tyN == T || (d.tyN == "bool" && T == "int")) else none
theorem Qut {pins : List (Addr × Obj)} {σ : L2.St} {H : Hp} {s : Shared} {A : Around} {E Q : Value -> Shared -> Prop} {d : D} {v : V} {F : List Addr} {u : Value} {T : String} {b : Bool} (I : Inv X pins σ H s) (rp : Rp X.K H d v F) (rx : RelV v u) (e : d.isa T = some b) (h : ∀ tk, Q (.bool b) { s with toks := tk }) :
  wpAny (model X.prog X.w) A (call (.builtin "isinstance") [u, .type T]) Q E s := by
 have kit : PySem.W.kitOne X.K (.type d.tyN) (.type T) = some b := by
  unfold D.isa at e
  split at e
  ·rename_i hT
   cases e
   simp only [ZbO, beq_iff_eq] at hT
   rcases hT with (((rfl | rfl) | rfl) | rfl) | rfl <;> cases d <;> rfl
  ·cases e
 cases d with
 | non => rw [rp.QjD] at rx; cases (show u = Value.none from rx); exact ZaJ PySem.W.kitx_none I.kIn True.intro kit (λ z => nomatch z) h
 | bl y => rw [rp.QfZ] at rx; cases (show u = Value.bool y from rx); exact ZaJ PySem.W.kitx_bool I.kIn True.intro kit (λ z => nomatch z) h
 | int i => rw [rp.int_inv] at rx; obtain ⟨t, q⟩ := (show ∃ t, u = Value.int i t from rx); cases q; exact ZaJ PySem.W.kitx_int I.kIn True.intro kit (λ z => nomatch z) h
 | str y => rw [rp.str_inv] at rx; obtain ⟨t, q⟩ := (show ∃ t, u = Value.str y t from rx); cases q; exact ZaJ PySem.W.kitx_str I.kIn True.intro kit (λ z => nomatch z) h
 | tup ds =>
  obtain ⟨a, vs, rfl, hq, _⟩ := rp.QaQ
  cases (show u = Value.ref a from rx)
  obtain ⟨its, rv, ⟨o, h1, h2, n, h3⟩, _⟩ := I.tuple hq
  exact ZaJ PySem.W.kitx_tuple I.kIn ⟨o, h1, h2⟩ kit (λ z => nomatch z) h
 | lst ds =>
  obtain ⟨a, vs, G, rfl, hq, _⟩ := rp.lst_inv
  cases (show u = Value.ref a from rx)
  obtain ⟨_, its, n, rv, _, e1⟩ := I.QkX hq
  exact ZaJ PySem.W.kitx_list I.kIn ⟨_, e1, rfl⟩ kit (λ z => nomatch z) h
noncomputable def QwK (K : PySem.W.Frag) : List V -> Hp -> VK -> Prop := λ xs H Q => ∃ x T d F b, xs = [x, .ty T] /\ Rp K H d x F /\ d.isa T = some b /\ Q (.bl b) H
theorem QqR : QbU X (.builtin "isinstance") (QwK X.K) := by
 intro pins s σ H xs us Q I r h
 obtain ⟨x, T, d, F, b, rfl, rp, e, q⟩ := h
 obtain ⟨u, w, rfl, ru, rw'⟩ := vals2 r
 cases (show w = Value.type T from rw')
 exact Qut I rp ru e λ tk => ⟨.bl b, H, I.tok _, rfl, q⟩
noncomputable def Qi2 (T : String) (fa : DE) : DE := λ ρ => (fa ρ).bind λ r => (r.d.isa T).map λ b => ⟨.bl b, true, []⟩
theorem Qum {a : Expr} {fa : DE} {T : String} {x : Str} {p p2 pos : Pos} (hg : Gl X "isinstance") (hm : X.mg "isinstance" = none) (ha : SE X a fa) (hT : PE X (.Name x p2) (tC (.ty T)))
  (he : starEach [a, .Name x p2] X.env = (false, eval a X.env) :: starEach [.Name x p2] X.env) : SE X (.Call (.Name "isinstance" p) [a, .Name x p2] [] pos) (Qi2 T fa) := λ H0 A0 =>
 (QkG QqR hg hm PyProof.Rows.boot_isinstance (Qat (ha H0 A0) (Qat hT QcR) he) (by decide) (by decide) he (by rfl)).mono λ σ H Q ⟨ρ, hs, F, r', rel, e, q⟩ => by
  obtain ⟨r, e1, e⟩ := bind1 e
  obtain ⟨b, eb, e⟩ := Zd.mp e
  subst e
  exact ⟨ρ, hs, F, r, rel, e1, λ v H1 G p => ⟨v, T, r.d, G, b, rfl, p.rp, eb, q _ H1 [] (.flat p.same .Qdb)⟩⟩
noncomputable def D.tru : D -> Option Bool
 | .non => some false
 | .bl b => some b
 | .int i => some (i != 0)
 | .lst xs => some (!xs.isEmpty)
 | .tup xs => some (!xs.isEmpty)
 | .str _ => none
theorem Qkr {K : PySem.W.Frag} {H : Hp} {d : D} {v : V} {F : List Addr} {b : Bool} (h : Rp K H d v F) (e : d.tru = some b) : Qrc K v H b := by
 have emp : ∀ {ds : List D} {vs : List V} {G : List Addr}, Rps K H ds vs G -> (!ds.isEmpty) = !vs.isEmpty := λ {ds vs G} r => by
  have := r.length
  cases ds <;> cases vs <;> simp_all
 cases d with
 | non => rw [h.QjD]; cases e; exact rfl
 | bl c => rw [h.QfZ]; cases e; exact rfl
 | int i => rw [h.int_inv]; cases e; exact rfl
 | str i => cases e
 | tup ds => cases e; obtain ⟨a, vs, rfl, hq, r⟩ := h.QaQ; exact .inr (.inl ⟨vs, hq, emp r⟩)
 | lst ds => cases e; obtain ⟨a, vs, G, rfl, hq, r, _⟩ := h.lst_inv; exact .inl ⟨vs, QX hq, emp r⟩
noncomputable def QI (fa : DE) : DT := λ ρ => (fa ρ).bind λ r => r.d.tru
noncomputable def Qfw (f g : DT) : DT := λ ρ => (f ρ).bind λ b => if b = true then g ρ else some false
noncomputable def bOr (f g : DT) : DT := λ ρ => (f ρ).bind λ b => if b = true then some true else g ρ
noncomputable def Qdj (f : DT) : DT := λ ρ => (f ρ).bind λ b => some (!b)
def SW (X : Cx) (e : Expr) (f : DT) : Prop := ∀ H0 A0, PW X e (tVT X.K H0 A0 f)
theorem _root_.L2.PW.mono {X : Cx} {e : Expr} {t t' : TT} (h : PW X e t) (m : ∀ σ H Q, t' σ H Q -> t σ H Q) : PW X e t' := λ wh pins s σ H Q I q => h wh pins s σ H Q I (m σ H Q q)
variable {a b e : Expr} {fa fb : DE} {ga gb gc : DT} {pos : Pos} {rest : List Expr}
theorem Qus (ha : SE X a fa) (he : ∀ whole, isTrue a X.env whole = (do let v ← whole; standAt a.pos; holding [v] (truthy v))) : ST X a (QI fa) := λ H0 A0 =>
 (QrA (ha H0 A0) he).mono λ σ H Q ⟨ρ, hs, F, b, rel, e, q⟩ => by
  obtain ⟨r, e1, e⟩ := bind1 e
  exact ⟨ρ, hs, F, r, rel, e1, λ v H1 G p => ⟨b, Qkr p.rp e, q H1 p.same⟩⟩
theorem Quf {op : CmpOp} {g : D -> D -> Option D} {r : R2} (ho : OpR X (compareOp op) r) (hg : QbS X.K g r) (hbl : ∀ a b d, g a b = some d -> ∃ k, d = .bl k) (ha : SE X a fa) (hb : SE X b fb) (hm : behindInMarks op b = false) : ST X (.Compare a [op] [b] pos) (QI (dOp g fa fb)) := λ H0 A0 =>
 (Qsm ho (ha H0 A0) (hb H0 A0) hm).mono λ σ H Q ⟨ρ, hs, F, k, rel, e, q⟩ => by
  obtain ⟨r', e0, e⟩ := bind1 e
  obtain ⟨ra, rb, d, ea, eb, eg, rfl⟩ := Qjw e0
  obtain ⟨k', rfl⟩ := hbl _ _ _ eg
  cases e
  refine two rel ea eb λ x y H1 H2 G1 G2 p1 p2 => (hg _ _ _ eg).2 H2 x y G1 G2 _ (p1.rp.same p2.same) p2.rp λ v hv => ?_
  exact ⟨_, (hv H2).QfZ, q H2 (p1.same.trans p2.same)⟩
theorem Qu1 (ha : ST X a ga) : ST X (.UnaryOp .Not a pos) (Qdj ga) := λ H0 A0 =>
 (Qve (ha H0 A0)).mono λ σ H Q ⟨ρ, hs, F, b, rel, e, q⟩ => by
  obtain ⟨c, e1, e⟩ := bind1 e
  cases e
  exact ⟨ρ, hs, F, c, rel, e1, λ H1 s1 => q H1 s1⟩
theorem Qsj (ha : ST X a ga) : SW X (.BoolOp .And [a] pos) ga := λ H0 A0 => Qtj (ha H0 A0)
theorem Qu8 (ha : ST X a ga) : SW X (.BoolOp .Or [a] pos) ga := λ H0 A0 => Quh (ha H0 A0)
theorem QuD (ha : ST X a ga) (hb : SW X (.BoolOp .And (b :: rest) pos) gb) : SW X (.BoolOp .And (a :: b :: rest) pos) (Qfw ga gb) := λ H0 A0 =>
 (Quz (ha H0 A0) (hb H0 A0)).mono λ σ H Q ⟨ρ, hs, F, c, rel, e, q⟩ => by
  obtain ⟨d, e1, e⟩ := bind1 e
  refine ⟨ρ, hs, F, d, rel, e1, λ H1 s1 => ?_⟩
  cases d with
  | true => exact ⟨ρ, hs, F, c, rel.ext s1, e, λ H2 s2 => q H2 (s1.trans s2)⟩
  | false => cases e; exact q H1 s1
theorem Qwd (ha : ST X a ga) (hb : SW X (.BoolOp .Or (b :: rest) pos) gb) : SW X (.BoolOp .Or (a :: b :: rest) pos) (bOr ga gb) := λ H0 A0 =>
 (Qwl (ha H0 A0) (hb H0 A0)).mono λ σ H Q ⟨ρ, hs, F, c, rel, e, q⟩ => by
  obtain ⟨d, e1, e⟩ := bind1 e
  refine ⟨ρ, hs, F, d, rel, e1, λ H1 s1 => ?_⟩
  cases d with
  | true => cases e; exact q H1 s1
  | false => exact ⟨ρ, hs, F, c, rel.ext s1, e, λ H2 s2 => q H2 (s1.trans s2)⟩
theorem SW.st (h : SW X e ga) : ST X e ga := λ H0 A0 => (h H0 A0).pt
noncomputable def QdD (fa fb : DE) : DE := λ ρ => (fa ρ).bind λ ra => (ra.d.tru).bind λ b => if b = true then fb ρ else some ra
noncomputable def dOr (fa fb : DE) : DE := λ ρ => (fa ρ).bind λ ra => (ra.d.tru).bind λ b => if b = true then some ra else fb ρ
noncomputable def Qqt (fa : DE) : DE := λ ρ => (fa ρ).bind λ ra => (ra.d.tru).bind λ b => some ⟨.bl (!b), true, []⟩
theorem QpJ {op} (h : SE X a fa) : SE X (.BoolOp op [a] pos) fa := λ H0 A0 => QuA (h H0 A0)
theorem Q0.ext {K : PySem.W.Frag} {ρ : En} {F : Nat -> List Addr} {H H1 H2 : Hp} {r : R} {v : V} {G : List Addr} (s : QK H H1) (p : Q0 K ρ F H1 H2 r v G) {H0 : Hp} {A0 : List Addr} {hs : List (V × D × List Addr)} {σ : L2.St} (rel : Rel K H0 A0 hs ρ F σ H) : Q0 K ρ F H H2 r v G where
 same := s.trans p.same
 rp := p.rp
 src := λ a ha => (p.src a ha).elim (λ z => .inl (s.free z)) .inr
 cnt := λ h => ⟨λ a => Zx ((p.cnt h).1 a) (Zbi (by
  cases q : H1 a with
  | none => rw [Qa3 q, Qa3 (s.free q)]; exact Zk _
  | some o => rw [Qdt q]; exact ZX _) _), (p.cnt h).2⟩
 own := p.own
theorem QuB (ha : SE X a fa) (hb : SE X (.BoolOp .And (b :: rest) pos) fb) : SE X (.BoolOp .And (a :: b :: rest) pos) (QdD fa fb) := λ H0 A0 => by
 intro pins s σ H Q I ⟨ρ, hs, F, r, rel, e, q⟩
 obtain ⟨ra, e1, e⟩ := bind1 e
 obtain ⟨c, e2, e⟩ := bind1 e
 refine PyProof.Rows.BoolOp_and (thn (ha H0 A0 pins s σ H _ I ⟨ρ, hs, F, ra, rel, e1, λ v H' G p => (⟨G, p⟩ : ∃ G, Q0 X.K ρ F H H' ra v G)⟩) λ v s1 ⟨x, H1, I1, r1, G, p⟩ => ?_)
 refine thn (Qil pins s1 σ H1 x v (λ k H2 => k = c /\ H2 = H1) I1 r1 ⟨c, Qkr p.rp e2, rfl, rfl⟩) λ k s2 ⟨H2, I2, e3, e4⟩ => ?_
 subst e3 e4
 cases k with
 | true => exact hb H0 A0 pins s2 σ _ Q I2 ⟨ρ, hs, F, r, rel.ext p.same, e, λ w H3 G3 p3 => q w H3 G3 (p3.ext p.same rel)⟩
 | false => cases e; exact ⟨x, _, I2, r1, q x _ G p⟩
theorem Qwp (ha : SE X a fa) (hb : SE X (.BoolOp .Or (b :: rest) pos) fb) : SE X (.BoolOp .Or (a :: b :: rest) pos) (dOr fa fb) := λ H0 A0 => by
 intro pins s σ H Q I ⟨ρ, hs, F, r, rel, e, q⟩
 obtain ⟨ra, e1, e⟩ := bind1 e
 obtain ⟨c, e2, e⟩ := bind1 e
 refine PyProof.Rows.BoolOp_or (thn (ha H0 A0 pins s σ H _ I ⟨ρ, hs, F, ra, rel, e1, λ v H' G p => (⟨G, p⟩ : ∃ G, Q0 X.K ρ F H H' ra v G)⟩) λ v s1 ⟨x, H1, I1, r1, G, p⟩ => ?_)
 refine thn (Qil pins s1 σ H1 x v (λ k H2 => k = c /\ H2 = H1) I1 r1 ⟨c, Qkr p.rp e2, rfl, rfl⟩) λ k s2 ⟨H2, I2, e3, e4⟩ => ?_
 subst e3 e4
 cases k with
 | false => exact hb H0 A0 pins s2 σ _ Q I2 ⟨ρ, hs, F, r, rel.ext p.same, e, λ w H3 G3 p3 => q w H3 G3 (p3.ext p.same rel)⟩
 | true => cases e; exact ⟨x, _, I2, r1, q x _ G p⟩
theorem Qua (ha : SE X a fa) : SE X (.UnaryOp .Not a pos) (Qqt fa) := λ H0 A0 => by
 intro pins s σ H Q I ⟨ρ, hs, F, r, rel, e, q⟩
 obtain ⟨ra, e1, e⟩ := bind1 e
 obtain ⟨c, e2, e⟩ := bind1 e
 cases e
 refine PyProof.Rows.UnaryOp_ (thn (ha H0 A0 pins s σ H _ I ⟨ρ, hs, F, ra, rel, e1, λ v H' G p => (⟨G, p⟩ : ∃ G, Q0 X.K ρ F H H' ra v G)⟩) λ v s1 ⟨x, H1, I1, r1, G, p⟩ => ?_)
 refine PyProof.Rows.not_of (thn (Qil pins s1 σ H1 x v (λ k H2 => k = c /\ H2 = H1) I1 r1 ⟨c, Qkr p.rp e2, rfl, rfl⟩) λ k s2 ⟨H2, I2, e3, e4⟩ => ?_)
 subst e3 e4
 exact ⟨.bl (!k), _, I2, rfl, q _ _ [] (.flat p.same .Qdb)⟩
noncomputable def QhA (fa : DE) : DE := λ ρ => (fa ρ).bind λ ra => match ra.d with
 | .int i => some ⟨.int (-i), true, []⟩
 | _ => none
theorem Qvl (ha : SE X a fa) : SE X (.UnaryOp .USub a pos) (QhA fa) := λ H0 A0 =>
 (Qwr Qvy (ha H0 A0)).mono λ σ H Q ⟨ρ, hs, F, r, rel, e, q⟩ => by
  obtain ⟨ra, e1, e⟩ := bind1 e
  refine ⟨ρ, hs, F, ra, rel, e1, λ v H1 G p => ?_⟩
  have rp := p.rp
  cases hr : ra.d with
  | int i =>
   rw [hr] at e rp
   cases e
   exact ⟨i, rp.int_inv, q _ H1 [] (.flat p.same .int_mk)⟩
  | _ => rw [hr] at e; cases e
end
end HS
namespace HS
open PySem PySem.Spec L2
section
variable {K : PySem.W.Frag} {H0 H H' : Hp} {A0 : List Addr} {hs : List (V × D × List Addr)} {ρ ρ' : En} {F : Nat -> List Addr} {σ : L2.St}
def Qcs (ρ ρ' : En) : Prop := ρ'.length = ρ.length /\ ∀ (i : Nat) d b, ρ'[i]? = some (some (d, b)) -> ∃ b', ρ[i]? = some (some (d, b')) /\ (b = true -> b' = true)
theorem Qcs.refl : Qcs ρ ρ := ⟨rfl, λ i d b h => ⟨b, h, id⟩⟩
theorem Qcs.trans {ρ'' : En} (a : Qcs ρ ρ') (b : Qcs ρ' ρ'') : Qcs ρ ρ'' := ⟨b.1.trans a.1, λ i d c h => by
 obtain ⟨c', h1, h2⟩ := b.2 i d c h
 obtain ⟨c'', h3, h4⟩ := a.2 i d c' h1
 exact ⟨c'', h3, λ z => h4 (h2 z)⟩⟩
theorem Rel.weak (r : Rel K H0 A0 hs ρ F σ H) (w : Qcs ρ ρ') : Rel K H0 A0 hs ρ' F σ H where
 len := w.1.trans r.len
 val := λ i d b e => let ⟨b', h, _⟩ := w.2 i d b e; r.val i d b' h
 own := λ i d e => by
  obtain ⟨b', h, hb⟩ := w.2 i d true e
  have : b' = true := hb rfl
  subst this
  obtain ⟨h1, h2, h3, h4, h5⟩ := r.own i d h
  exact ⟨h1, h2, h3, λ j d' b' hj e' => let ⟨b'', h', _⟩ := w.2 j d' b' e'; h4 j d' b'' hj h', h5⟩
 src := λ i d b e => let ⟨b', h, _⟩ := w.2 i d b e; r.src i d b' h
 held := r.held
 same := r.same
noncomputable def kill : List Nat -> En -> En
 | [], ρ => ρ
 | i :: M, ρ => kill M (ρ.set i none)
noncomputable def Qa5 : List Nat -> En -> En
 | [], ρ => ρ
 | i :: M, ρ => Qa5 M (match ρ[i]? with
  | some (some (d, _)) => ρ.set i (some (d, false))
  | _ => ρ)
theorem QoK (i : Nat) : Qcs ρ (ρ.set i none) := ⟨by simp, λ j d b h => by
 by_cases hj : i = j
 ·subst hj
  by_cases hl : i < ρ.length
  ·rw [Zy hl] at h; cases h
  ·rw [Zo (by simp; omega)] at h; cases h
 ·rw [Zj hj] at h
  exact ⟨b, h, id⟩⟩
theorem Qcw : ∀ (M : List Nat) (ρ : En), Qcs ρ (kill M ρ)
 | [], ρ => .refl
 | i :: M, ρ => (QoK i).trans (Qcw M _)
theorem Qgi : ∀ (M : List Nat) (ρ : En) (i : Nat) (d : D) (b : Bool), i ∈ M -> (kill M ρ)[i]? = some (some (d, b)) -> False
 | [], ρ, i, d, b, h, _ => by simp at h
 | j :: M, ρ, i, d, b, h, e => by
  rcases Zv.mp h with rfl | h
  ·obtain ⟨b', e', _⟩ := (Qcw M (ρ.set i none)).2 i d b e
   by_cases hl : i < ρ.length
   ·rw [Zy hl] at e'; cases e'
   ·rw [Zo (by simp; omega)] at e'; cases e'
  ·exact Qgi M _ i d b h e
theorem QrT (i : Nat) : Qcs ρ (match ρ[i]? with
  | some (some (d, _)) => ρ.set i (some (d, false))
  | _ => ρ) := by
 split
 ·rename_i d b e
  refine ⟨by simp, λ j d' b' h => ?_⟩
  by_cases hj : i = j
  ·subst hj
   have hl : i < ρ.length := (Zf.mp e).1
   rw [Zy hl] at h
   cases h
   exact ⟨b, e, λ z => by cases z⟩
  ·rw [Zj hj] at h
   exact ⟨b', h, id⟩
 ·exact .refl
theorem Qbs : ∀ (M : List Nat) (ρ : En), Qcs ρ (Qa5 M ρ)
 | [], ρ => .refl
 | i :: M, ρ => (QrT i).trans (Qbs M _)
theorem Qim : ∀ (M : List Nat) (ρ : En) (i : Nat) (d : D), i ∈ M -> (Qa5 M ρ)[i]? = some (some (d, true)) -> False
 | [], ρ, i, d, h, _ => by simp at h
 | j :: M, ρ, i, d, h, e => by
  rcases Zv.mp h with rfl | h
  ·obtain ⟨b', e', hb⟩ := (Qbs M _).2 i d true e
   have : b' = true := hb rfl
   subst this
   split at e'
   ·rename_i d' b e1
    have hl : i < ρ.length := (Zf.mp e1).1
    rw [Zy hl] at e'
    cases e'
   ·rename_i h1
    exact h1 d true e'
  ·exact Qim M _ i d h e
def Shr (H0 : Hp) (A0 : List Addr) (ρ : En) (F : Nat -> List Addr) (G : List Addr) : Prop :=
 ∀ a ∈ G, (H0 a = none ∨ a ∈ A0) /\ ∀ (i : Nat) d, ρ[i]? = some (some (d, true)) -> a ∉ F i
theorem Shr.of (r : Rel K H0 A0 hs ρ F σ H) {M : List Nat} {G : List Addr} (s : Src ρ F H M G) : Shr H0 A0 (Qa5 M ρ) F G := λ a ha => by
 have w := Qbs M ρ
 rcases s a ha with h | ⟨i, d, b, e, m, hm⟩
 ·refine ⟨.inl (r.same.free h), λ j d' e' hj => ?_⟩
  obtain ⟨b', e2, _⟩ := w.2 j d' true e'
  obtain ⟨vs, q⟩ := r.mem e2 hj
  rw [h] at q; cases q
 ·refine ⟨r.src i d b e a m, λ j d' e' hj => ?_⟩
  obtain ⟨b', e2, hb⟩ := w.2 j d' true e'
  have : b' = true := hb rfl
  subst this
  by_cases hij : i = j
  ·subst hij
   rw [e] at e2
   cases e2
   exact Qim M ρ i _ (hm rfl) e'
  ·exact (r.own j d' e2).2.2.2.1 i d b hij e a hj m
theorem Rel.QqH (r : Rel K H0 A0 hs ρ F σ H) {i : Nat} {d : D} {v : V} {G : List Addr} (rp : Rp K H d v G) (sh : Shr H0 A0 ρ F G) :
  Rel K H0 A0 hs (ρ.set i (some (d, d.flat))) (λ j => if j = i then G else F j) (σ.set i (some v)) H where
 len := by simp [r.len]
 val := λ j d' b e => by
  by_cases hj : j = i
  ·subst hj
   have hl : j < ρ.length := by
    by_cases hl : j < ρ.length
    ·exact hl
    ·rw [Zo (by simp; omega)] at e; cases e
   rw [Zy hl] at e
   cases e
   exact ⟨v, by rw [Zy (by rw [← r.len]; exact hl)], by rw [if_pos rfl]; exact rp⟩
  ·rw [Zj (Ne.symm hj)] at e
   obtain ⟨w, h1, h2⟩ := r.val j d' b e
   exact ⟨w, by rw [Zj (Ne.symm hj)]; exact h1, by rw [if_neg hj]; exact h2⟩
 own := λ j d' e => by
  by_cases hj : j = i
  ·subst hj
   have hl : j < ρ.length := by
    by_cases hl : j < ρ.length
    ·exact hl
    ·rw [Zo (by simp; omega)] at e; cases e
   rw [Zy hl] at e
   have e1 := Option.some.inj (Option.some.inj e)
   have ed : d = d' := congrArg Prod.fst e1
   have ef : d.flat = true := congrArg Prod.snd e1
   subst ed
   have := rp.Qcp ef
   subst this
   rw [if_pos rfl]
   exact ⟨(QdC d ef).symm, Zay, λ a ha => by simp at ha, λ _ _ _ _ _ a ha => by simp at ha, λ _ _ a ha => by simp at ha⟩
  ·rw [Zj (Ne.symm hj)] at e
   obtain ⟨h1, h2, h3, h4, h5⟩ := r.own j d' e
   rw [if_neg hj]
   refine ⟨h1, h2, h3, λ k d'' b hk ek a ha => ?_, h5⟩
   by_cases hki : k = i
   ·subst hki
    rw [if_pos rfl]
    exact λ hG => (sh a hG).2 j d' e ha
   ·rw [Zj (Ne.symm hki)] at ek
    rw [if_neg hki]
    exact h4 k d'' b hk ek a ha
 src := λ j d' b e a ha => by
  by_cases hj : j = i
  ·subst hj
   rw [if_pos rfl] at ha
   exact (sh a ha).1
  ·rw [Zj (Ne.symm hj)] at e
   rw [if_neg hj] at ha
   exact r.src j d' b e a ha
 held := r.held
 same := r.same
theorem QvS (r : Rel K H0 A0 hs ρ F σ H) {M : List Nat} (ow : QaZ ρ M) (nd : M.Nodup) (a : Addr) : ((M.map F).flatten).count a <= 1 := by
 induction M with
 | nil => simp
 | cons i M ih =>
  rw [ZG, Zac, Zad]
  obtain ⟨h1, h2⟩ := ZaB.mp nd
  have ih' := ih (λ j hj => ow j (Zc _ hj)) h2
  obtain ⟨d, e⟩ := ow i Zi
  obtain ⟨_, nd1, _, apart, _⟩ := r.own i d e
  by_cases ha : a ∈ F i
  ·have c1 : (F i).count a <= 1 := Zat.mp nd1 a
   have c2 : ((M.map F).flatten).count a = 0 := ZM.mpr λ hm => by
    obtain ⟨l, hl, hal⟩ := Zbg.mp hm
    obtain ⟨j, hj, rfl⟩ := ZQ.mp hl
    obtain ⟨d', e'⟩ := ow j (Zc _ hj)
    exact apart j d' true (λ z => h1 (z ▸ hj)) e' a ha hal
   omega
  ·have : (F i).count a = 0 := ZM.mpr ha
   omega
theorem Q0.fresh (r : Rel K H0 A0 hs ρ F σ H) {rr : R} {v : V} {G : List Addr} (p : Q0 K ρ F H H' rr v G) (hf : rr.fr = true) (nd : rr.M.Nodup) :
  G.Nodup /\ ∀ a ∈ G, H0 a = none /\ (H a = none ∨ ∃ i d, i ∈ rr.M /\ ρ[i]? = some (some (d, true)) /\ a ∈ F i) := by
 obtain ⟨c, _⟩ := p.cnt hf
 refine ⟨Zat.mpr λ a => ?_, λ a ha => ?_⟩
 ·have h1 := c a
  have h2 := QvS r p.own nd a
  cases q : H a with
  | none => rw [Qa3 q, r.fl0 p.own q] at h1; omega
  | some o => rw [Qdt q] at h1; omega
 ·cases q : H a with
  | none => exact ⟨r.same.free q, .inl rfl⟩
  | some o =>
   have h1 := c a
   rw [Qdt q] at h1
   have h2 : 0 < G.count a := Zap.mpr ha
   obtain ⟨l, hl, hal⟩ := Zbg.mp (Zap.mp (by omega : 0 < ((rr.M.map F).flatten).count a))
   obtain ⟨i, hi, rfl⟩ := ZQ.mp hl
   obtain ⟨d, e⟩ := p.own i hi
   exact ⟨(r.own i d e).2.2.1 a hal, .inr ⟨i, d, hi, e, hal⟩⟩
theorem Rel.Qxe (r : Rel K H0 A0 hs ρ F σ H) {i : Nat} {rr : R} {v : V} {G : List Addr} (p : Q0 K ρ F H H' rr v G) (hf : rr.fr = true) (nd : rr.M.Nodup) :
  Rel K H0 A0 hs ((kill rr.M ρ).set i (some (rr.d, true))) (λ j => if j = i then G else F j) (σ.set i (some v)) H' := by
 have r1 := (r.ext p.same).weak (Qcw rr.M ρ)
 obtain ⟨gn, gs⟩ := p.fresh r hf nd
 have gl := (p.cnt hf).2
 have apart : ∀ (j : Nat) d b, (kill rr.M ρ)[j]? = some (some (d, b)) -> ∀ a ∈ G, a ∉ F j := λ j d b e a ha hj => by
  obtain ⟨b', e', _⟩ := (Qcw rr.M ρ).2 j d b e
  rcases (gs a ha).2 with q | ⟨k, d', hk, ek, hak⟩
  ·obtain ⟨vs, w⟩ := r.mem e' hj
   rw [q] at w; cases w
  ·have hjk : j ≠ k := λ z => by subst z; exact Qgi rr.M ρ j d b hk e
   exact (r.own k d' ek).2.2.2.1 j d b' hjk e' a hak hj
 have apartH : ∀ t ∈ hs, ∀ a ∈ G, a ∉ t.2.2 := λ t ht a ha hj => by
  rcases (gs a ha).2 with q | ⟨k, d', hk, ek, hak⟩
  ·obtain ⟨vs, w⟩ := (r.held t ht).1.mem a hj
   rw [q] at w; cases w
  ·exact (r.own k d' ek).2.2.2.2 t ht a hak hj
 have lt : ∀ {j : Nat} {x : Option (D × Bool)} {y : D × Bool}, ((kill rr.M ρ).set j x)[j]? = some (some y) -> j < (kill rr.M ρ).length := λ {j x y} e => by
  by_cases hl : j < (kill rr.M ρ).length
  ·exact hl
  ·rw [Zo (by simp; omega)] at e; cases e
 refine ⟨by simp [r1.len], λ j d b e => ?_, λ j d e => ?_, λ j d b e a ha => ?_, r1.held, r1.same⟩
 ·by_cases hj : j = i
  ·subst hj
   have hl := lt e
   rw [Zy hl] at e
   cases e
   exact ⟨v, by rw [Zy (by rw [← r1.len]; exact hl)], by rw [if_pos rfl]; exact p.rp⟩
  ·rw [Zj (Ne.symm hj)] at e
   obtain ⟨w, h1, h2⟩ := r1.val j d b e
   exact ⟨w, by rw [Zj (Ne.symm hj)]; exact h1, by rw [if_neg hj]; exact h2⟩
 ·by_cases hj : j = i
  ·subst hj
   have hl := lt e
   rw [Zy hl] at e
   cases e
   rw [if_pos rfl]
   refine ⟨gl, gn, λ a ha => (gs a ha).1, λ k d' b hk ek a ha => ?_, apartH⟩
   rw [Zj (Ne.symm hk)] at ek
   rw [if_neg hk]
   exact apart k d' b ek a ha
  ·rw [Zj (Ne.symm hj)] at e
   obtain ⟨h1, h2, h3, h4, h5⟩ := r1.own j d e
   rw [if_neg hj]
   refine ⟨h1, h2, h3, λ k d' b hk ek a ha => ?_, h5⟩
   by_cases hki : k = i
   ·subst hki
    rw [if_pos rfl]
    exact λ hG => apart j d true e a hG ha
   ·rw [Zj (Ne.symm hki)] at ek
    rw [if_neg hki]
    exact h4 k d' b hk ek a ha
 ·by_cases hj : j = i
  ·subst hj
   rw [if_pos rfl] at ha
   exact .inl (gs a ha).1
  ·rw [Zj (Ne.symm hj)] at e
   rw [if_neg hj] at ha
   exact r1.src j d b e a ha
noncomputable def asg (i : Nat) (r : R) (ρ : En) : En :=
 if r.norm.fr && decide r.norm.M.Nodup then (kill r.norm.M ρ).set i (some (r.d, true)) else (Qa5 r.norm.M ρ).set i (some (r.d, r.d.flat))
theorem Rel.asg (r : Rel K H0 A0 hs ρ F σ H) {i : Nat} {rr : R} {v : V} {G : List Addr} (p : Q0 K ρ F H H' rr v G) : ∃ F', Rel K H0 A0 hs (asg i rr ρ) F' (σ.set i (some v)) H' := by
 have p' := p.norm
 unfold HS.asg
 split
 ·rename_i h
  simp only [Zl, decide_eq_true_eq] at h
  have := r.Qxe (i := i) p' h.1 h.2
  rw [rr.QcS] at this
  exact ⟨_, this⟩
 ·have r1 := (r.ext p'.same).weak (Qbs rr.norm.M ρ)
  have rp := p'.rp
  rw [rr.QcS] at rp
  have sh := Shr.of r p'.src
  exact ⟨_, r1.QqH rp sh⟩
theorem Rel.hold (r : Rel K H0 A0 hs ρ F σ H) {ts : List (V × D × List Addr)} (h : ∀ t ∈ ts, Rp K H t.2.1 t.1 t.2.2 /\ Shr H0 A0 ρ F t.2.2) : Rel K H0 A0 (ts ++ hs) ρ F σ H where
 len := r.len
 val := r.val
 own := λ i d e => by
  obtain ⟨h1, h2, h3, h4, h5⟩ := r.own i d e
  refine ⟨h1, h2, h3, h4, λ t ht a ha hm => ?_⟩
  rcases ZF.mp ht with z | z
  ·exact ((h t z).2 a hm).2 i d e ha
  ·exact h5 t z a ha hm
 src := r.src
 held := λ t ht => by
  rcases ZF.mp ht with z | z
  ·exact ⟨(h t z).1, λ a ha => ((h t z).2 a ha).1⟩
  ·exact r.held t z
 same := r.same
theorem Rel.QoF {ts : List (V × D × List Addr)} (r : Rel K H0 A0 (ts ++ hs) ρ F σ H) : Rel K H0 A0 hs ρ F σ H where
 len := r.len
 val := r.val
 own := λ i d e => let ⟨h1, h2, h3, h4, h5⟩ := r.own i d e; ⟨h1, h2, h3, h4, λ t ht => h5 t (Ze _ ht)⟩
 src := r.src
 held := λ t ht => r.held t (Ze _ ht)
 same := r.same
end
end HS
namespace HS
open PySem PySem.Spec L2
structure Ret (K : PySem.W.Frag) (H0 : Hp) (A0 : List Addr) (d : D) (fr : Bool) (v : V) (H' : Hp) (G : List Addr) : Prop where
 same : QK H0 H'
 rp : Rp K H' d v G
 src : ∀ a ∈ G, H0 a = none ∨ a ∈ A0
 cnt : fr = true -> G.Nodup /\ G.length = d.nl /\ ∀ a ∈ G, H0 a = none
noncomputable abbrev Den := List D -> Option (D × Bool)
noncomputable def spV (K : PySem.W.Frag) (n : Nat) (den : Den) : Sp := λ vs H Q _ => ∃ ds F d fr, Rps K H ds vs F /\ ds.length = n /\ den ds = some (d, fr) /\ ∀ v H' G, Ret K H F d fr v H' G -> Q v H'
theorem QsZ {K : PySem.W.Frag} {n : Nat} {den : Den} {ps : List Str} (hn : ps.length = n) : ∀ vs H Q E, spV K n den vs H Q E -> vs.length = ps.length := λ vs H Q E ⟨ds, F, d, fr, r, hl, _⟩ => by rw [hn, ← hl, r.length]
noncomputable def Qr (n : Nat) (den : Den) (dfl : List D) (fs : DA) : DE := λ ρ => (fs ρ).bind λ r => if r.ds.length + dfl.length = n then (den (r.ds ++ dfl)).map λ q => if q.2 = true then ⟨q.1, true, []⟩ else R.norm ⟨q.1, false, r.M⟩ else none
section
variable {X : Cx} {e : Expr} {es : List Expr} {fs : DA} {pos p : Pos} {x : Str} {n k : Nat} {f : Addr} {fd : FuncData} {ps : List Str} {den : Den} {dfl : List D} {dvs : List V} {ds : List Value}
theorem QjW {σ : L2.St} {H H0 : Hp} {A0 : List Addr} {Q : VK} (hdf : ∀ H, Rps X.K H dfl dvs []) : tV X.K H0 A0 (Qr n den dfl fs) σ H Q -> QnY (spV X.K n den) dvs E0 (tVA X.K H0 A0 fs) σ H Q := λ ⟨ρ, hs, F, r, rel, e, q⟩ => by
 obtain ⟨ra, e1, e⟩ := bind1 e
 split at e
 ·rename_i hl
  obtain ⟨⟨d, fr⟩, e2, e⟩ := Zd.mp e
  refine ⟨ρ, hs, F, ra, rel, e1, λ vs H1 G p1 => ⟨ra.ds ++ dfl, G ++ [], d, fr, p1.rp.append (hdf H1), by rw [Zq]; exact hl, e2, λ v H2 G2 rt => ?_⟩⟩
  subst e
  have src : Src ρ F H ra.M G2 := λ a ha => by
   rcases rt.src a ha with z | z
   ·exact .inl (p1.same.free z)
   ·rw [ZbL] at z
    exact p1.src a z
  split at q
  ·rename_i hf
   have hf : fr = true := hf
   obtain ⟨nd, hn, fresh⟩ := rt.cnt hf
   have hH : ∀ a ∈ G2, H a = none := λ a ha => p1.same.free (fresh a ha)
   refine q v H2 G2 ⟨p1.same.trans rt.same, rt.rp, λ a ha => .inl (hH a ha), λ _ => ⟨λ a => ?_, hn⟩, QaZ.nil⟩
   by_cases ha : a ∈ G2
   ·rw [Qa3 (hH a ha)]; have := Zat.mp nd a; omega
   ·rw [ZM.mpr ha]; exact ZX _
  ·refine q v H2 G2 (Q0.norm ⟨p1.same.trans rt.same, rt.rp, src, λ z => (by cases z), p1.own⟩)
 ·cases e
theorem QtK (Fk : Qct X.prog X.w X.K X.mg X.base CX0 k f fd ps (spV X.K n den)) (hr : QaA k X.A) (hg : Gl X x) (hm : X.mg x = some (.ref f)) (hk : PySem.W.keepIn X.K (.ref f) = true) (hb : Binds X.K fd ps ds) (hd : Qy dvs ds) (hdf : ∀ H, Rps X.K H dfl dvs [])
  (ha : SA X (e :: es) fs) (hdb : (x == ("__debug__" : Str)) = false) (he : starEach (e :: es) X.env = (false, eval e X.env) :: starEach es X.env) (hpl : (backTo pos (starEach es X.env)).any (·.1) = false) :
  SE X (.Call (.Name x p) (e :: es) [] pos) (Qr n den dfl fs) := λ H0 A0 =>
 (Qsg Fk hr hg hm hk hb hd Qr3 (ha H0 A0) hdb he hpl).mono λ σ H Q h => QjW hdf h
theorem QqT (Fk : Qct X.prog X.w X.K X.mg X.base CX0 k f fd ps (spV X.K n den)) (hr : QaA k X.A) (hg : Gl X x) (hm : X.mg x = some (.ref f)) (hk : PySem.W.keepIn X.K (.ref f) = true) (hb : Binds X.K fd ps ds) (hd : Qy dvs ds) (hdf : ∀ H, Rps X.K H dfl dvs [])
  (hdb : (x == ("__debug__" : Str)) = false) : SE X (.Call (.Name x p) [] [] pos) (Qr n den dfl Qf) := λ H0 A0 =>
 (Qry Fk hr hg hm hk hb hd Qr3 hdb).mono λ σ H Q h => by
  have h' := QjW (X := X) (H0 := H0) (A0 := A0) hdf h
  obtain ⟨ρ, hs, F, r, rel, e, q⟩ := h'
  cases e
  exact q [] H [] ⟨QK.refl _, by simp [Rps], Src.nil, λ _ => ⟨Cnt.nil, rfl⟩, QaZ.nil⟩
end
structure IR where
 items : List D
 M : List Nat
noncomputable abbrev DI := En -> Option IR
def Qjz (K : PySem.W.Frag) (H : Hp) (ts : List (V × D × List Addr)) : Prop := ∀ t ∈ ts, Rp K H t.2.1 t.1 t.2.2
structure Walk (K : PySem.W.Frag) (J : It) (ts : List (V × D × List Addr)) (ds : List D) : Prop where
 stop : ∀ H, Qjz K H ts -> J.stop ds.length H
 go : ∀ i H, i < ds.length -> Qjz K H ts -> J.go i H
 yld : ∀ (i : Nat) d H x H', ds[i]? = some d -> Qjz K H ts -> J.yld i H x H' -> QK H H' /\ ∃ G, Rp K H' d x G /\ ∀ a ∈ G, ∃ t ∈ ts, a ∈ t.2.2
noncomputable def tI (K : PySem.W.Frag) (H0 : Hp) (A0 : List Addr) (f : DI) : TI := λ σ H Rr => ∃ ρ hs F ir, Rel K H0 A0 hs ρ F σ H /\ f ρ = some ir ∧
 ∀ J H1 ts, QK H H1 -> Walk K J ts ir.items -> (∀ t ∈ ts, Rp K H1 t.2.1 t.1 t.2.2 /\ Src ρ F H ir.M t.2.2) -> QaZ ρ ir.M -> ir.items.length <= sizeLine -> Rr J H1
def SI (X : Cx) (tg e : Expr) (f : DI) : Prop := ∀ H0 A0, PI X tg e (tI X.K H0 A0 f)
theorem _root_.L2.PI.mono {X : Cx} {tg e : Expr} {t t' : TI} (h : PI X tg e t) (m : ∀ σ H Q, t' σ H Q -> t σ H Q) : PI X tg e t' := λ pins s σ H Q I q => h pins s σ H Q I (m σ H Q q)
section
variable {X : Cx} {tg a b : Expr} {fa fb : DE} {fs : DA} {pos p : Pos}
theorem Rps.nth {K : PySem.W.Frag} {H : Hp} {ds : List D} {vs : List V} {F : List Addr} {i : Nat} {d : D} (h : Rps K H ds vs F) (e : ds[i]? = some d) : ∃ v G, vs[i]? = some v /\ Rp K H d v G /\ ∀ a ∈ G, a ∈ F := by
 obtain ⟨v, F1, G, F2, h1, h2, h3, _⟩ := h.get e
 exact ⟨v, G, h1, h3, λ a ha => by rw [h2]; exact Ze _ (Zg _ ha)⟩
noncomputable def QwZ (K : PySem.W.Frag) (tl : TE) : TI := λ σ H Rr => tl σ H λ x H1 => (∃ a, x = .ref a /\ (∃ xs, SqL K H1 a xs) /\ Rr (Itl K a) H1) ∨ (∃ a, x = .ref a /\ (∃ xs, SqT K H1 a xs) /\ Rr (Itt K a) H1)
theorem Qvd {l : Expr} {tl : TE} (hl : PE X l tl) : PI X tg l (QwZ X.K tl) := by
 intro pins s σ H Rr I h
 refine thn (hl pins s σ H _ I h) λ v s1 ⟨x, H1, I1, r1, q1⟩ => ?_
 rcases q1 with ⟨a, e, ⟨xs, hq⟩, q⟩ | ⟨a, e, ⟨xs, hq⟩, q⟩
 ·subst e
  cases r1
  obtain ⟨its, rv, pl, hz⟩ := I1.list hq
  refine wpAny_pyIter_list pl.isList ⟨s1.heap.objs.size, [s1.heap.objs.size], _, _, H1, rfl, I1.kept (t' := s1.toks) λ b o e => Zb _ e, QoJ a _, ⟨_, Zw _ rfl, rfl, rfl⟩, λ b hb => ?_, q⟩
  have e : b = s1.heap.objs.size := by simpa using hb
  subst e
  exact I1.Qho (Zk _) (I1.hok.fresh (Zk _))
 ·subst e
  cases r1
  obtain ⟨its, rv, pl, hz⟩ := I1.tuple hq
  refine wpAny_pyIter_tuple (show s1.heap.IsTuple a its.toArray from pl) ⟨s1.heap.objs.size, [s1.heap.objs.size], _, _, H1, rfl, I1.kept (t' := s1.toks) λ b o e => Zb _ e, Qoc a _, ⟨_, Zw _ rfl, rfl, rfl⟩, λ b hb => ?_, q⟩
  have e : b = s1.heap.objs.size := by simpa using hb
  subst e
  exact I1.Qho (Zk _) (I1.hok.fresh (Zk _))
noncomputable def QY (fa : DE) : DI := λ ρ => (fa ρ).bind λ r => match r.d with
 | .lst xs => some ⟨xs, r.M⟩
 | .tup xs => if xs.length <= sizeLine then some ⟨xs, r.M⟩ else none
 | _ => none
theorem Qps {K : PySem.W.Frag} {c : Addr} {ds : List D} {G : List Addr} : Walk K (Itl K c) [(.ref c, .lst ds, G)] ds where
 stop := λ H h => by
  obtain ⟨l, vs, L, e, hl, rl, zl, el⟩ := (h _ (ZE.mpr rfl)).lst_inv
  cases e
  exact ⟨vs, QX hl, by rw [rl.length]; exact Zk _⟩
 go := λ i H hi h => by
  obtain ⟨l, vs, L, e, hl, rl, zl, el⟩ := (h _ (ZE.mpr rfl)).lst_inv
  cases e
  have : i < vs.length := by rw [← rl.length]; exact hi
  exact ⟨vs, vs[i], QX hl, by simp [this]⟩
 yld := λ i d H x H' e h y => by
  obtain ⟨l, vs, L, e1, hl, rl, zl, el⟩ := (h _ (ZE.mpr rfl)).lst_inv
  cases e1
  obtain ⟨rfl, y⟩ := y
  obtain ⟨v, G', h1, h2, h3⟩ := rl.nth e
  have := y vs (QX hl)
  rw [h1] at this
  cases this
  refine ⟨QK.refl _, G', h2, λ z hz => ⟨_, ZE.mpr rfl, ?_⟩⟩
  have := h3 z hz
  rcases el with rfl | rfl
  ·exact Zc _ this
  ·exact this
theorem Qrn {K : PySem.W.Frag} {c : Addr} {ds : List D} {G : List Addr} : Walk K (Itt K c) [(.ref c, .tup ds, G)] ds where
 stop := λ H h => by
  obtain ⟨l, vs, e, hl, rl⟩ := (h _ (ZE.mpr rfl)).QaQ
  cases e
  exact ⟨vs, hl, by rw [rl.length]; exact Zk _⟩
 go := λ i H hi h => by
  obtain ⟨l, vs, e, hl, rl⟩ := (h _ (ZE.mpr rfl)).QaQ
  cases e
  have : i < vs.length := by rw [← rl.length]; exact hi
  exact ⟨vs, vs[i], hl, by simp [this]⟩
 yld := λ i d H x H' e h y => by
  obtain ⟨l, vs, e1, hl, rl⟩ := (h _ (ZE.mpr rfl)).QaQ
  cases e1
  obtain ⟨rfl, y⟩ := y
  obtain ⟨v, G', h1, h2, h3⟩ := rl.nth e
  have := y vs hl
  rw [h1] at this
  cases this
  exact ⟨QK.refl _, G', h2, λ z hz => ⟨_, ZE.mpr rfl, h3 z hz⟩⟩
theorem Quo (ha : SE X a fa) : SI X tg a (QY fa) := λ H0 A0 => (Qvd (ha H0 A0)).mono λ σ H Rr ⟨ρ, hs, F, ir, rel, e, q⟩ => by
 obtain ⟨r, e1, e⟩ := bind1 e
 refine ⟨ρ, hs, F, r, rel, e1, λ v H1 G p => ?_⟩
 have rp := p.rp
 cases hr : r.d with
 | lst xs =>
  rw [hr] at e rp
  cases e
  obtain ⟨c, vs, L, rfl, hl, rl, zl, el⟩ := rp.lst_inv
  refine .inl ⟨c, rfl, ⟨vs, QX hl⟩, q _ H1 [(.ref c, .lst xs, G)] p.same Qps (λ t ht => ?_) p.own zl⟩
  rw [ZE.mp ht]
  exact ⟨rp, p.src⟩
 | tup xs =>
  rw [hr] at e rp
  dsimp only at e
  split at e
  ·rename_i hz
   cases e
   obtain ⟨c, vs, rfl, hl, rl⟩ := rp.QaQ
   refine .inr ⟨c, rfl, ⟨vs, hl⟩, q _ H1 [(.ref c, .tup xs, G)] p.same Qrn (λ t ht => ?_) p.own hz⟩
   rw [ZE.mp ht]
   exact ⟨rp, p.src⟩
  ·cases e
 | _ => rw [hr] at e; cases e
noncomputable def Qgd (lo : Int) (n : Nat) : List D := (List.range n).map λ (k : Nat) => .int (lo + (k : Int))
theorem QfS {lo : Int} {n : Nat} : (Qgd lo n).length = n := by simp [Qgd]
theorem QrU {lo : Int} {n i : Nat} {d : D} (h : (Qgd lo n)[i]? = some d) : i < n /\ d = .int (lo + i) := by
 unfold Qgd at h
 rw [Zm] at h
 cases q : (List.range n)[i]? with
 | none => rw [q] at h; cases h
 | some k =>
  rw [q] at h
  obtain ⟨h1, h2⟩ := Zf.mp q
  simp at h1 h2
  subst h2
  exact ⟨h1, (Option.some.inj h).symm⟩
theorem QiO {K : PySem.W.Frag} {lo : Int} {n : Nat} : Walk K (Itr lo n) [] (Qgd lo n) where
 stop := λ H _ => by rw [QfS]; exact Zk _
 go := λ i H hi _ => by rw [QfS] at hi; exact hi
 yld := λ i d H x H' e _ y => by
  obtain ⟨h1, rfl⟩ := QrU e
  obtain ⟨rfl, rfl⟩ := y
  exact ⟨QK.refl _, [], .int_mk, λ z hz => by simp at hz⟩
noncomputable def Qau (fa : DE) : DI := λ ρ => (fa ρ).bind λ r => match r.d with
 | .int j => if j <= 16777216 /\ -(2 ^ 62) <= j then some ⟨Qgd 0 j.toNat, []⟩ else none
 | _ => none
noncomputable def Qd6 (fa fb : DE) : DI := λ ρ => (fa ρ).bind λ r => (fb ρ).bind λ r' => match r.d, r'.d with
 | .int i, .int j => if j - i <= 16777216 /\ -(2 ^ 62) <= i /\ i < 2 ^ 62 /\ -(2 ^ 62) <= j /\ j < 2 ^ 62 then some ⟨Qgd i (j - i).toNat, []⟩ else none
 | _, _ => none
theorem Qfk : (sizeLine : Nat) = 16777216 := sizeLine_eq
theorem Qpw (hg : Gl X "range") (hm : X.mg "range" = none) (ha : SE X a fa) (hs : starEach [a] X.env = [(false, eval a X.env)]) : SI X tg (.Call (.Name "range" p) [a] [] pos) (Qau fa) := λ H0 A0 =>
 (QpV hg hm (Qat (ha H0 A0) QcR hs) hs).mono λ σ H Rr ⟨ρ, hs, F, ir, rel, e, q⟩ => by
  obtain ⟨r, e1, e⟩ := bind1 e
  refine ⟨ρ, hs, F, r, rel, e1, λ v H1 G pp => ?_⟩
  have rp := pp.rp
  cases hr : r.d with
  | int j =>
   rw [hr] at e rp
   dsimp only at e
   split at e
   ·rename_i hz
    cases e
    rw [rp.int_inv]
    refine ⟨j, rfl, hz.2, by omega, q _ H1 [] pp.same QiO (λ t ht => by simp at ht) QaZ.nil ?_⟩
    rw [QfS, Qfk]; omega
   ·cases e
  | _ => rw [hr] at e; cases e
theorem Qpl (hg : Gl X "range") (hm : X.mg "range" = none) (ha : SE X a fa) (hb : SE X b fb) (hs : starEach [a, b] X.env = [(false, eval a X.env), (false, eval b X.env)]) (hs2 : starEach [b] X.env = [(false, eval b X.env)]) :
  SI X tg (.Call (.Name "range" p) [a, b] [] pos) (Qd6 fa fb) := λ H0 A0 =>
 (Qo3 hg hm (Qat (ha H0 A0) (Qat (hb H0 A0) QcR hs2) (by rw [hs, hs2])) hs hs2).mono λ σ H Rr ⟨ρ, hs, F, ir, rel, e, q⟩ => by
  obtain ⟨r, e1, e⟩ := bind1 e
  obtain ⟨r', e2, e⟩ := bind1 e
  refine ⟨ρ, hs, F, r, rel, e1, λ v H1 G pp => ⟨ρ, hs, F, r', rel.ext pp.same, e2, λ v' H2 G' pp' => ?_⟩⟩
  have rp := pp.rp.same pp'.same
  have rp' := pp'.rp
  cases hr : r.d with
  | int i =>
   cases hr' : r'.d with
   | int j =>
    rw [hr, hr'] at e
    rw [hr] at rp
    rw [hr'] at rp'
    dsimp only at e
    split at e
    ·rename_i hz
     cases e
     rw [rp.int_inv, rp'.int_inv]
     refine ⟨i, j, rfl, hz.2, q _ H2 [] (pp.same.trans pp'.same) QiO (λ t ht => by simp at ht) QaZ.nil ?_⟩
     rw [QfS, Qfk]; omega
    ·cases e
   | _ => rw [hr, hr'] at e; cases e
  | _ => rw [hr] at e; cases e
noncomputable def QdK (ds : List D) : List D := ds.zipIdx.map λ q => .tup [.int q.2, q.1]
theorem Qf3 {ds : List D} : (QdK ds).length = ds.length := by simp [QdK]
theorem QoU {ds : List D} {i : Nat} {d : D} (h : (QdK ds)[i]? = some d) : ∃ e, ds[i]? = some e /\ d = .tup [.int i, e] := by
 unfold QdK at h
 rw [Zm, List.getElem?_zipIdx] at h
 cases q : ds[i]? with
 | none => rw [q] at h; cases h
 | some e => rw [q] at h; simp at h; exact ⟨e, rfl, h.symm⟩
theorem Qoy {K : PySem.W.Frag} {c : Addr} {ds : List D} {G : List Addr} : Walk K (Ite K c) [(.ref c, .lst ds, G)] (QdK ds) where
 stop := λ H h => by
  obtain ⟨l, vs, L, e, hl, rl, zl, el⟩ := (h _ (ZE.mpr rfl)).lst_inv
  cases e
  exact ⟨vs, QX hl, by rw [Qf3, rl.length]; exact Zk _⟩
 go := λ i H hi h => by
  obtain ⟨l, vs, L, e, hl, rl, zl, el⟩ := (h _ (ZE.mpr rfl)).lst_inv
  cases e
  rw [Qf3] at hi
  have : i < vs.length := by rw [← rl.length]; exact hi
  exact ⟨vs, vs[i], QX hl, by simp [this]⟩
 yld := λ i d H x H' e h y => by
  obtain ⟨l, vs, L, e1, hl, rl, zl, el⟩ := (h _ (ZE.mpr rfl)).lst_inv
  cases e1
  obtain ⟨d', e', rfl⟩ := QoU e
  obtain ⟨pp, u, rfl, hp, rfl, y⟩ := y
  obtain ⟨v, G', h1, h2, h3⟩ := rl.nth e'
  have := y vs (QX hl)
  rw [h1] at this
  cases this
  have s := QbX (o := .tup [.int i, u]) hp
  refine ⟨s, G', Rp.Qix Qay ?_, λ z hz => ⟨_, ZE.mpr rfl, ?_⟩⟩
  ·simp only [Rps]
   exact ⟨.int i, [u], [], G', rfl, rfl, .int_mk, u, [], G', [], rfl, by simp, h2.same s, rfl, rfl⟩
  ·have := h3 z hz
   rcases el with rfl | rfl
   ·exact Zc _ this
   ·exact this
noncomputable def Qgm (fa : DE) : DI := λ ρ => (fa ρ).bind λ r => match r.d with
 | .lst xs => some ⟨QdK xs, r.M⟩
 | _ => none
theorem QsW {es : List Expr} {tk : Nat} {tpos : Pos} (hg : Gl X "enumerate") (hm : X.mg "enumerate" = none) (ha : SE X a fa) (hs : starEach [a] X.env = [(false, eval a X.env)]) : SI X (.Tuple es tk tpos) (.Call (.Name "enumerate" p) [a] [] pos) (Qgm fa) := λ H0 A0 =>
 (Qtk hg hm (Qat (ha H0 A0) QcR hs) hs).mono λ σ H Rr ⟨ρ, hs, F, ir, rel, e, q⟩ => by
  obtain ⟨r, e1, e⟩ := bind1 e
  refine ⟨ρ, hs, F, r, rel, e1, λ v H1 G pp => ?_⟩
  have rp := pp.rp
  cases hr : r.d with
  | lst xs =>
   rw [hr] at e rp
   cases e
   obtain ⟨c, vs, L, rfl, hl, rl, zl, el⟩ := rp.lst_inv
   refine ⟨c, rfl, ⟨vs, QX hl⟩, q _ H1 [(.ref c, .lst xs, G)] pp.same Qoy (λ t ht => ?_) pp.own (by rw [Qf3]; exact zl)⟩
   rw [ZE.mp ht]
   exact ⟨rp, pp.src⟩
  | _ => rw [hr] at e; cases e
noncomputable def Qgs (xs ys : List D) : List D := (xs.zip ys).map λ q => .tup [q.1, q.2]
theorem QhR {xs ys : List D} : (Qgs xs ys).length = min xs.length ys.length := by simp [Qgs]
theorem Qqw {xs ys : List D} {i : Nat} {d : D} (h : (Qgs xs ys)[i]? = some d) : ∃ e f, xs[i]? = some e /\ ys[i]? = some f /\ d = .tup [e, f] := by
 unfold Qgs at h
 rw [Zm] at h
 cases q : (xs.zip ys)[i]? with
 | none => rw [q] at h; cases h
 | some e =>
  rw [q] at h
  obtain ⟨h1, h2⟩ := Zan.mp q
  exact ⟨e.1, e.2, h1, h2, (Option.some.inj h).symm⟩
theorem QrS {K : PySem.W.Frag} {c c' : Addr} {xs ys : List D} {G G' : List Addr} : Walk K (Itz K c c') [(.ref c, .lst xs, G), (.ref c', .lst ys, G')] (Qgs xs ys) where
 stop := λ H h => by
  obtain ⟨l, vs, L, e, hl, rl, zl, el⟩ := (h _ (Zi)).lst_inv
  obtain ⟨l', vs', L', e', hl', rl', zl', el'⟩ := (h _ (Zc _ Zi)).lst_inv
  cases e
  cases e'
  refine ⟨vs, vs', QX hl, QX hl', ?_⟩
  rw [QhR, ← rl.length, ← rl'.length]; omega
 go := λ i H hi h => by
  obtain ⟨l, vs, L, e, hl, rl, zl, el⟩ := (h _ (Zi)).lst_inv
  obtain ⟨l', vs', L', e', hl', rl', zl', el'⟩ := (h _ (Zc _ Zi)).lst_inv
  cases e
  cases e'
  rw [QhR] at hi
  have h1 : i < vs.length := by rw [← rl.length]; omega
  have h2 : i < vs'.length := by rw [← rl'.length]; omega
  exact ⟨vs, vs', vs[i], vs'[i], QX hl, QX hl', by simp [h1], by simp [h2]⟩
 yld := λ i d H x H' e h y => by
  obtain ⟨l, vs, L, e1, hl, rl, zl, el⟩ := (h _ (Zi)).lst_inv
  obtain ⟨l', vs', L', e1', hl', rl', zl', el'⟩ := (h _ (Zc _ Zi)).lst_inv
  cases e1
  cases e1'
  obtain ⟨d1, d2, ea, eb, rfl⟩ := Qqw e
  obtain ⟨pp, u, u', rfl, hp, rfl, y, y'⟩ := y
  obtain ⟨v, G1, h1, h2, h3⟩ := rl.nth ea
  obtain ⟨v', G2, h1', h2', h3'⟩ := rl'.nth eb
  have := y vs (QX hl)
  rw [h1] at this
  cases this
  have := y' vs' (QX hl')
  rw [h1'] at this
  cases this
  have s := QbX (o := .tup [u, u']) hp
  refine ⟨s, G1 ++ G2, Rp.Qix Qay ?_, λ z hz => ?_⟩
  ·simp only [Rps]
   exact ⟨u, [u'], G1, G2, rfl, rfl, h2.same s, u', [], G2, [], rfl, by simp, h2'.same s, rfl, rfl⟩
  ·rcases ZF.mp hz with hz | hz
   ·refine ⟨_, Zi, ?_⟩
    have := h3 z hz
    rcases el with rfl | rfl
    ·exact Zc _ this
    ·exact this
   ·refine ⟨_, Zc _ Zi, ?_⟩
    have := h3' z hz
    rcases el' with rfl | rfl
    ·exact Zc _ this
    ·exact this
noncomputable def QaR (fa fb : DE) : DI := λ ρ => (fa ρ).bind λ r => (fb ρ).bind λ r' => match r.d, r'.d with
 | .lst xs, .lst ys => some ⟨Qgs xs ys, r.M ++ r'.M⟩
 | _, _ => none
theorem QuM {es : List Expr} {tk : Nat} {tpos : Pos} (hg : Gl X "zip") (hm : X.mg "zip" = none) (ha : SE X a fa) (hb : SE X b fb) (hs : starEach [a, b] X.env = [(false, eval a X.env), (false, eval b X.env)]) (hs2 : starEach [b] X.env = [(false, eval b X.env)]) :
  SI X (.Tuple es tk tpos) (.Call (.Name "zip" p) [a, b] [] pos) (QaR fa fb) := λ H0 A0 =>
 (QuN hg hm (Qat (ha H0 A0) (Qat (hb H0 A0) QcR hs2) (by rw [hs, hs2])) hs hs2).mono λ σ H Rr ⟨ρ, hs, F, ir, rel, e, q⟩ => by
  obtain ⟨r, e1, e⟩ := bind1 e
  obtain ⟨r', e2, e⟩ := bind1 e
  refine ⟨ρ, hs, F, r, rel, e1, λ v H1 G pp => ⟨ρ, hs, F, r', rel.ext pp.same, e2, λ v' H2 G' pp' => ?_⟩⟩
  have rp := pp.rp.same pp'.same
  have rp' := pp'.rp
  cases hr : r.d with
  | lst xs =>
   cases hr' : r'.d with
   | lst ys =>
    rw [hr, hr'] at e
    rw [hr] at rp
    rw [hr'] at rp'
    cases e
    obtain ⟨c, vs, L, rfl, hl, rl, zl, el⟩ := rp.lst_inv
    obtain ⟨c', vs', L', rfl, hl', rl', zl', el'⟩ := rp'.lst_inv
    refine ⟨c, c', rfl, ⟨vs, QX hl⟩, ⟨vs', QX hl'⟩, q _ H2 [(.ref c, .lst xs, G), (.ref c', .lst ys, G')] (pp.same.trans pp'.same) QrS (λ t ht => ?_) (pp.own.append pp'.own) (by rw [QhR]; omega)⟩
    have sa := pp.src.append pp'.src pp.same
    rcases Zv.mp ht with rfl | ht
    ·exact ⟨rp, λ z hz => sa z (Zg _ hz)⟩
    ·rw [ZE.mp ht]
     exact ⟨rp', λ z hz => sa z (Ze _ hz)⟩
   | _ => rw [hr, hr'] at e; cases e
  | _ => rw [hr] at e; cases e
end
end HS
namespace HS
open PySem L2
noncomputable def QeS (xs ys zs : List D) : List D := (xs.zip (ys.zip zs)).map λ q => .tup [q.1, q.2.1, q.2.2]
theorem Qpc {xs ys zs : List D} {i : Nat} {d : D} (h : (QeS xs ys zs)[i]? = some d) : ∃ e f g, xs[i]? = some e /\ ys[i]? = some f /\ zs[i]? = some g /\ d = .tup [e, f, g] := by
 unfold QeS at h
 rw [Zm] at h
 cases q : (xs.zip (ys.zip zs))[i]? with
 | none => rw [q] at h; cases h
 | some e =>
  rw [q] at h
  obtain ⟨h1, h2⟩ := Zan.mp q
  obtain ⟨h3, h4⟩ := Zan.mp h2
  exact ⟨e.1, e.2.1, e.2.2, h1, h3, h4, (Option.some.inj h).symm⟩
theorem Qf5 {xs ys zs : List D} (h1 : xs.length = ys.length) (h2 : ys.length = zs.length) : (QeS xs ys zs).length = xs.length := by
 simp [QeS]; omega
theorem Qow {K : PySem.W.Frag} {c c' c'' : Addr} {xs ys zs : List D} {G G' G'' : List Addr} (n1 : xs.length = ys.length) (n2 : ys.length = zs.length) : Walk K (QqK K c c' c'') [(.ref c, .lst xs, G), (.ref c', .lst ys, G'), (.ref c'', .lst zs, G'')] (QeS xs ys zs) := by
 have inv : ∀ H, Qjz K H [(.ref c, .lst xs, G), (.ref c', .lst ys, G'), (.ref c'', .lst zs, G'')] -> (∃ vs L, SqL K H c vs /\ Rps K H xs vs L /\ ∀ a ∈ L, a ∈ G) /\ (∃ vs L, SqL K H c' vs /\ Rps K H ys vs L /\ ∀ a ∈ L, a ∈ G') /\ ∃ vs L, SqL K H c'' vs /\ Rps K H zs vs L /\ ∀ a ∈ L, a ∈ G'' := λ H h => by
  have one : ∀ {p : Addr} {ds : List D} {G : List Addr}, Rp K H (.lst ds) (.ref p) G -> ∃ vs L, SqL K H p vs /\ Rps K H ds vs L /\ ∀ a ∈ L, a ∈ G := λ {p ds G} r => by
   obtain ⟨l, vs, L, e, hl, rl, zl, el⟩ := r.lst_inv
   cases e
   refine ⟨vs, L, QX hl, rl, λ a ha => ?_⟩
   rcases el with rfl | rfl
   ·exact Zc _ ha
   ·exact ha
  exact ⟨one (h _ Zi), one (h _ (Zc _ Zi)), one (h _ (Zc _ (Zc _ Zi)))⟩
 refine ⟨λ H h => ?_, λ i H hi h => ?_, λ i d H x H' e h y => ?_⟩
 ·obtain ⟨⟨vs, L, hl, rl, el⟩, _⟩ := inv H h
  exact ⟨vs, hl, by rw [Qf5 n1 n2, ← rl.length]; omega⟩
 ·obtain ⟨⟨vs, L, hl, rl, el⟩, ⟨vs', L', hl', rl', el'⟩, ⟨vs'', L'', hl'', rl'', el''⟩⟩ := inv H h
  rw [Qf5 n1 n2] at hi
  have h1 : i < vs.length := by rw [← rl.length]; omega
  have h2 : i < vs'.length := by rw [← rl'.length]; omega
  have h3 : i < vs''.length := by rw [← rl''.length]; omega
  exact ⟨vs, vs', vs'', vs[i], vs'[i], vs''[i], hl, hl', hl'', by simp [h1], by simp [h2], by simp [h3]⟩
 ·obtain ⟨⟨vs, L, hl, rl, el⟩, ⟨vs', L', hl', rl', el'⟩, ⟨vs'', L'', hl'', rl'', el''⟩⟩ := inv H h
  obtain ⟨d1, d2, d3, ea, eb, ec, rfl⟩ := Qpc e
  obtain ⟨pp, u, u', u'', rfl, hp, rfl, y, y', y''⟩ := y
  obtain ⟨v, G1, h1, h2, h3⟩ := rl.nth ea
  obtain ⟨v', G2, h1', h2', h3'⟩ := rl'.nth eb
  obtain ⟨v'', G3, h1'', h2'', h3''⟩ := rl''.nth ec
  have q := y vs hl
  rw [h1] at q
  cases q
  have q := y' vs' hl'
  rw [h1'] at q
  cases q
  have q := y'' vs'' hl''
  rw [h1''] at q
  cases q
  have s := QbX (o := .tup [u, u', u'']) hp
  refine ⟨s, G1 ++ (G2 ++ G3), Rp.Qix Qay ?_, λ z hz => ?_⟩
  ·simp only [Rps]
   exact ⟨u, [u', u''], G1, G2 ++ G3, rfl, rfl, h2.same s, u', [u''], G2, G3, rfl, rfl, h2'.same s, u'', [], G3, [], rfl, by simp, h2''.same s, rfl, rfl⟩
  ·rcases ZF.mp hz with hz | hz
   ·exact ⟨_, Zi, el _ (h3 z hz)⟩
   ·rcases ZF.mp hz with hz | hz
    ·exact ⟨_, Zc _ Zi, el' _ (h3' z hz)⟩
    ·exact ⟨_, Zc _ (Zc _ Zi), el'' _ (h3'' z hz)⟩
noncomputable def Qff (fa fb fc : DE) : DI := λ ρ => (fa ρ).bind λ r => (fb ρ).bind λ r' => (fc ρ).bind λ r'' => match r.d, r'.d, r''.d with
 | .lst xs, .lst ys, .lst zs => if xs.length = ys.length /\ ys.length = zs.length then some ⟨QeS xs ys zs, r.M ++ (r'.M ++ r''.M)⟩ else none
 | _, _, _ => none
section
variable {X : Cx} {a b c : Expr} {fa fb fc : DE} {pos p : Pos}
theorem QtO {es : List Expr} {tk : Nat} {tpos : Pos} (hg : Gl X "zip") (hm : X.mg "zip" = none) (ha : SE X a fa) (hb : SE X b fb) (hc : SE X c fc) (hs : starEach [a, b, c] X.env = (false, eval a X.env) :: starEach [b, c] X.env) (hs2 : starEach [b, c] X.env = (false, eval b X.env) :: starEach [c] X.env) (hs3 : starEach [c] X.env = [(false, eval c X.env)]) :
  SI X (.Tuple es tk tpos) (.Call (.Name "zip" p) [a, b, c] [] pos) (Qff fa fb fc) := λ H0 A0 =>
 (Qsv hg hm (Qat (ha H0 A0) (Qat (hb H0 A0) (Qat (hc H0 A0) QcR hs3) hs2) hs) hs (by rw [hs2, hs3]; rfl)).mono λ σ H Rr ⟨ρ, hs, F, ir, rel, e, q⟩ => by
  obtain ⟨r, e1, e⟩ := bind1 e
  obtain ⟨r', e2, e⟩ := bind1 e
  obtain ⟨r'', e3, e⟩ := bind1 e
  refine ⟨ρ, hs, F, r, rel, e1, λ v H1 G pp => ⟨ρ, hs, F, r', rel.ext pp.same, e2, λ v' H2 G' pp' => ⟨ρ, hs, F, r'', (rel.ext pp.same).ext pp'.same, e3, λ v'' H3 G'' pp'' => ?_⟩⟩⟩
  have rp := (pp.rp.same pp'.same).same pp''.same
  have rp' := pp'.rp.same pp''.same
  have rp'' := pp''.rp
  cases hr : r.d with
  | lst xs =>
   cases hr' : r'.d with
   | lst ys =>
    cases hr'' : r''.d with
    | lst zs =>
     rw [hr, hr', hr''] at e
     rw [hr] at rp
     rw [hr'] at rp'
     rw [hr''] at rp''
     dsimp only at e
     split at e
     ·rename_i hn
      cases e
      obtain ⟨c1, vs, L, rfl, hl, rl, zl, el⟩ := rp.lst_inv
      obtain ⟨c2, vs', L', rfl, hl', rl', zl', el'⟩ := rp'.lst_inv
      obtain ⟨c3, vs'', L'', rfl, hl'', rl'', zl'', el''⟩ := rp''.lst_inv
      refine ⟨c1, c2, c3, rfl, ⟨vs, QX hl⟩, ⟨vs', QX hl'⟩, ⟨vs'', QX hl''⟩, q _ H3 [(.ref c1, .lst xs, G), (.ref c2, .lst ys, G'), (.ref c3, .lst zs, G'')] ((pp.same.trans pp'.same).trans pp''.same) (Qow hn.1 hn.2) (λ t ht => ?_) (pp.own.append (pp'.own.append pp''.own)) (by rw [Qf5 hn.1 hn.2]; exact zl)⟩
      have sb := pp'.src.append pp''.src pp'.same
      have sa := pp.src.append sb pp.same
      rcases Zv.mp ht with rfl | ht
      ·exact ⟨rp, λ z hz => sa z (Zg _ hz)⟩
      ·rcases Zv.mp ht with rfl | ht
       ·exact ⟨rp', λ z hz => sa z (Ze _ (Zg _ hz))⟩
       ·rw [ZE.mp ht]
        exact ⟨rp'', λ z hz => sa z (Ze _ (Ze _ hz))⟩
     ·cases e
    | _ => rw [hr, hr', hr''] at e; cases e
   | _ => rw [hr, hr'] at e; cases e
  | _ => rw [hr] at e; cases e
end
end HS
namespace HS
open PySem PySem.Spec L2
inductive Tg where
 | nm (i : Nat)
 | tp (is : List Nat)
noncomputable def Tg.slots : Tg -> List Nat
 | .nm i => [i]
 | .tp is => is
noncomputable def QeB : List Nat -> List D -> En -> En
 | i :: is, d :: ds, ρ => QeB is ds (ρ.set i (some (d, d.flat)))
 | _, _, ρ => ρ
noncomputable def Qcr : Tg -> D -> En -> Option En
 | .nm i, d, ρ => some (ρ.set i (some (d, d.flat)))
 | .tp is, .tup xs, ρ => if xs.length = is.length then some (QeB is xs ρ) else none
 | .tp _, _, _ => none
noncomputable def tG (K : PySem.W.Frag) (H0 : Hp) (A0 : List Addr) (t : Tg) : TG := λ v σ H Q => ∃ ρ hs F d G ρ', Rel K H0 A0 hs ρ F σ H /\ Rp K H d v G /\ Shr H0 A0 ρ F G /\ Qcr t d ρ = some ρ' ∧
 ∀ σ' F', Rel K H0 A0 hs ρ' F' σ' H -> (∀ j, j ∉ t.slots -> σ'[j]? = σ[j]?) -> (∀ j a, a ∈ F' j -> a ∈ F j ∨ a ∈ G) -> Q σ' H
def SG (X : Cx) (tg : Expr) (t : Tg) : Prop := ∀ H0 A0, PG X tg (tG X.K H0 A0 t)
theorem _root_.L2.PG.mono {X : Cx} {tg : Expr} {t t' : TG} (h : PG X tg t) (m : ∀ v σ H Q, t' v σ H Q -> t v σ H Q) : PG X tg t' := λ pins s σ H v u Q I r q => h pins s σ H v u Q I r (m v σ H Q q)
noncomputable def Qh7 : List Nat -> TGs
 | [] => QuK
 | i :: is => Qr9 (QgE i) (Qh7 is)
theorem Shr.set {H0 : Hp} {A0 : List Addr} {ρ : En} {F : Nat -> List Addr} {G G1 : List Addr} {i : Nat} {d : D} (h : Shr H0 A0 ρ F G) (hf : d.flat = true -> G1 = []) : Shr H0 A0 (ρ.set i (some (d, d.flat))) (λ j => if j = i then G1 else F j) G := λ a ha => by
 refine ⟨(h a ha).1, λ j d' e => ?_⟩
 by_cases hj : j = i
 ·subst hj
  show ¬ a ∈ (if j = j then G1 else F j)
  rw [if_pos rfl]
  have hl : j < ρ.length := by
   by_cases hl : j < ρ.length
   ·exact hl
   ·rw [Zo (by simp; omega)] at e; cases e
  rw [Zy hl] at e
  have e1 := Option.some.inj (Option.some.inj e)
  rw [hf (congrArg Prod.snd e1)]
  simp
 ·rw [Zj (Ne.symm hj)] at e
  show ¬ a ∈ (if j = i then G1 else F j)
  rw [if_neg hj]
  exact (h a ha).2 j d' e
theorem Qlu {K : PySem.W.Frag} {H0 : Hp} {A0 : List Addr} {hs : List (V × D × List Addr)} : ∀ (is : List Nat) (ds : List D) (vs : List V) (ρ : En) (F : Nat -> List Addr) (σ : L2.St) (H : Hp) (G : List Addr) (Q : L2.St -> Hp -> Prop),
  Rel K H0 A0 hs ρ F σ H -> Rps K H ds vs G -> Shr H0 A0 ρ F G -> ds.length = is.length →
  (∀ σ' F', Rel K H0 A0 hs (QeB is ds ρ) F' σ' H -> (∀ j, j ∉ is -> σ'[j]? = σ[j]?) -> (∀ j a, a ∈ F' j -> a ∈ F j ∨ a ∈ G) -> Q σ' H) -> Qh7 is vs σ H Q
 | [], ds, vs, ρ, F, σ, H, G, Q, rel, rp, sh, hl, q => by
  have : ds = [] := by simpa using hl
  subst this
  simp only [Rps] at rp
  exact ⟨rp.1, q σ F rel (λ _ _ => rfl) λ _ _ h => .inl h⟩
 | i :: is, [], vs, ρ, F, σ, H, G, Q, rel, rp, sh, hl, q => by simp at hl
 | i :: is, d :: ds, vs, ρ, F, σ, H, G, Q, rel, rp, sh, hl, q => by
  simp only [Rps] at rp
  obtain ⟨v, ws, G1, G2, rfl, rfl, r1, r2⟩ := rp
  refine ⟨v, ws, rfl, ?_⟩
  have sh1 : Shr H0 A0 ρ F G1 := λ a ha => sh a (Zg _ ha)
  have sh2 : Shr H0 A0 ρ F G2 := λ a ha => sh a (Ze _ ha)
  refine Qlu is ds ws _ _ _ H G2 Q (rel.QqH (i := i) r1 sh1) r2 (sh2.set r1.Qcp) (by simpa using hl) λ σ' F' rel' k m => q σ' F' rel' (λ j hj => ?_) λ j a ha => ?_
  ·have h1 : j ≠ i := λ z => hj (by rw [z]; exact Zi)
   rw [k j λ z => hj (Zc _ z), Zj (Ne.symm h1)]
  ·rcases m j a ha with z | z
   ·by_cases hj : j = i
    ·rw [if_pos hj] at z; exact .inr (Zg _ z)
    ·rw [if_neg hj] at z; exact .inl z
   ·exact .inr (Ze _ z)
section
variable {X : Cx} {tg : Expr} {pos : Pos}
theorem Qsq {i : Nat} {x : Str} (h : PG X (.Name x pos) (QgE i)) : SG X (.Name x pos) (.nm i) := λ H0 A0 => h.mono λ v σ H Q ⟨ρ, hs, F, d, G, ρ', rel, rp, sh, e, q⟩ => by
 cases e
 refine q _ _ (rel.QqH (i := i) rp sh) (λ j hj => ?_) λ j a ha => ?_
 ·have : j ≠ i := λ z => hj (by simp [Tg.slots, z])
  rw [Zj (Ne.symm this)]
 ·by_cases hj : j = i
  ·rw [if_pos hj] at ha; exact .inr ha
  ·rw [if_neg hj] at ha; exact .inl ha
theorem QvD {es : List Expr} {k : Nat} {is : List Nat} (hc : X.calm = true) (h : PGs X es (Qh7 is)) (hn : (assignEach es X.env).length = is.length) (hst : (assignEach es X.env).findIdx? (·.1) = none) : SG X (.Tuple es k pos) (.tp is) := λ H0 A0 =>
 (Qt7 hc h hn hst).mono λ v σ H Q ⟨ρ, hs, F, d, G, ρ', rel, rp, sh, e, q⟩ => by
  cases d with
  | tup xs =>
   simp only [Qcr] at e
   split at e
   ·rename_i hl
    cases e
    obtain ⟨a, vs, rfl, hq, rs⟩ := rp.QaQ
    exact ⟨a, vs, rfl, hq, by rw [← rs.length]; exact hl, Qlu is xs vs ρ F σ H G Q rel rs sh hl q⟩
   ·cases e
  | _ => simp only [Qcr] at e; cases e
end
noncomputable def QdZ (cap : List (Option Nat)) (ρ : En) : En := cap.map λ o => o.bind λ i => match ρ[i]? with
 | some (some (d, _)) => some (d, d.flat)
 | _ => none
noncomputable def Qn4 (cap : List (Option Nat)) (ρ : En) : List Nat := cap.filterMap λ o => o.bind λ i => match ρ[i]? with
 | some (some (d, b)) => if b && !d.flat then some i else none
 | _ => none
noncomputable def QeR (t : Tg) (ft : DT) (fe : DE) (ρc : En) (acc : List D × Bool) (d : D) : Option (List D × Bool) :=
 (Qcr t d ρc).bind λ ρ1 => (ft ρ1).bind λ c => if c = true then (fe ρ1).map λ r => (acc.1 ++ [r.d], acc.2 && r.norm.fr) else some acc
noncomputable def QF (fi : DI) (t : Tg) (cap : List (Option Nat)) (ft : DT) (fe : DE) : DE := λ ρ => (fi ρ).bind λ ir =>
 (ir.items.foldlM (QeR t ft fe (QdZ cap ρ)) ([], true)).map λ q => if q.2 = true then ⟨.lst q.1, true, []⟩ else ⟨.lst q.1, false, ir.M ++ Qn4 cap ρ⟩
def QcC (ρ : En) : Prop := ∀ (j : Nat) d, ρ[j]? = some (some (d, true)) -> d.flat = true
theorem QcC.set {ρ : En} (h : QcC ρ) (i : Nat) (d : D) : QcC (ρ.set i (some (d, d.flat))) := λ j d' e => by
 by_cases hj : j = i
 ·subst hj
  have hl : j < ρ.length := by
   by_cases hl : j < ρ.length
   ·exact hl
   ·rw [Zo (by simp; omega)] at e; cases e
  rw [Zy hl] at e
  have e1 := Option.some.inj (Option.some.inj e)
  have h1 : d = d' := congrArg Prod.fst e1
  have h2 : d.flat = true := congrArg Prod.snd e1
  rw [← h1]; exact h2
 ·rw [Zj (Ne.symm hj)] at e
  exact h j d' e
theorem QcC.QeB : ∀ (is : List Nat) (ds : List D) {ρ : En}, QcC ρ -> QcC (QeB is ds ρ)
 | [], _, _, h => h
 | _ :: _, [], _, h => h
 | i :: is, d :: ds, _, h => QcC.QeB is ds (h.set i d)
theorem QcC.bind {t : Tg} {d : D} {ρ ρ' : En} (h : QcC ρ) (e : Qcr t d ρ = some ρ') : QcC ρ' := by
 cases t with
 | nm i => cases e; exact h.set i d
 | tp is =>
  cases d with
  | tup xs =>
   simp only [Qcr] at e
   split at e
   ·cases e; exact h.QeB is xs
   ·cases e
  | _ => simp only [Qcr] at e; cases e
theorem QhM (cap : List (Option Nat)) (ρ : En) : QcC (QdZ cap ρ) := λ j d e => by
 unfold QdZ at e
 rw [Zm] at e
 cases q : cap[j]? with
 | none => rw [q] at e; cases e
 | some o =>
  rw [q] at e
  cases o with
  | none => cases e
  | some i =>
   simp only [ZP, Za, Option.some.injEq] at e
   split at e
   ·have e1 := Option.some.inj e
    have h1 := congrArg Prod.fst e1
    have h2 := congrArg Prod.snd e1
    dsimp only at h1 h2
    rw [← h1]; exact h2
   ·cases e
theorem QjY {cap : List (Option Nat)} {ρ : En} {j : Nat} {d : D} {b : Bool} (e : (QdZ cap ρ)[j]? = some (some (d, b))) : ∃ i b', cap[j]? = some (some i) /\ ρ[i]? = some (some (d, b')) := by
 unfold QdZ at e
 rw [Zm] at e
 cases q : cap[j]? with
 | none => rw [q] at e; cases e
 | some o =>
  rw [q] at e
  cases o with
  | none => cases e
  | some i =>
   simp only [ZP, Za, Option.some.injEq] at e
   split at e
   ·rename_i d' b' hi
    have e1 := Option.some.inj e
    have h1 : d' = d := congrArg Prod.fst e1
    subst h1
    exact ⟨i, b', rfl, hi⟩
   ·cases e
def Qlr (X : Cx) (ifs : List Expr) (f : DT) : Prop := ∀ H0 A0, PTs X ifs (tVT X.K H0 A0 f)
noncomputable def QL : DT := λ _ => some true
theorem Qq5 {X : Cx} : Qlr X [] QL := λ H0 A0 pins s σ H Q I ⟨ρ, hs, F, b, rel, e, q⟩ => by
 cases e
 exact QsR pins s σ H Q I (q H (QK.refl _))
theorem QqJ {X : Cx} {c : Expr} {f : DT} (h : ST X c f) : Qlr X [c] f := λ H0 A0 => Qsf (h H0 A0)
structure Qkq (X : Cx) (N' : List Str) (scope : Scope) (cap : List (Option Nat)) (tgs : List Nat) : Prop where
 len : cap.length = N'.length
 get : ∀ (j i : Nat), cap[j]? = some (some i) -> ∃ x, N'[j]? = some x /\ scope.names.lookup x = some .free /\ X.N[i]? = some x /\ (X.env.kindOf x = some .cell ∨ X.env.kindOf x = some .free)
 apart : ∀ (j i : Nat), cap[j]? = some (some i) -> j ∉ tgs
theorem join_some {α : Type} {o : Option (Option α)} {v : α} (h : o.join = some v) : o = some (some v) := by
 cases o with
 | none => cases h
 | some p => cases p with
  | none => cases h
  | some x => exact h ▸ rfl
theorem QjS {X : Cx} {N' : List Str} {scope : Scope} {fi : DI} {t : Tg} {cap : List (Option Nat)} {ft : DT} {fe : DE} {H0 : Hp} {A0 : List Addr} {σ : L2.St} {H : Hp} {Q : VK} (hc : Qkq X N' scope cap t.slots) :
  tV X.K H0 A0 (QF fi t cap ft fe) σ H Q -> Qkt (tI X.K H0 A0 fi) (Qh5 X N' scope) (tG X.K (λ _ => none) [] t) (tVT X.K (λ _ => none) [] ft) (tV X.K (λ _ => none) [] fe) σ H Q := λ ⟨ρ, hs, F, r, rel, e, q⟩ => by
 obtain ⟨ir, e1, e⟩ := bind1 e
 obtain ⟨⟨xs, f⟩, ef, e⟩ := Zd.mp e
 subst e
 refine ⟨ρ, hs, F, ir, rel, e1, λ J H1 ts s1 wk hts ow hz => ?_⟩
 refine ⟨cap.map λ o => o.bind λ i => σ[i]?.join, ⟨by simp [hc.len], λ j x v hN hv => ?_⟩, λ Dl hD => ?_⟩
 ·rw [Zm] at hv
  cases qc : cap[j]? with
  | none => rw [qc] at hv; cases hv
  | some o =>
   rw [qc] at hv
   cases o with
   | none => cases hv
   | some i =>
    simp only [ZP, Za, Option.some.injEq] at hv
    obtain ⟨y, h1, h2, h3, h4⟩ := hc.get j i qc
    rw [hN] at h1; cases h1
    exact ⟨h2, i, h3, join_some hv, h4⟩
 generalize hσc : (cap.map λ o => o.bind λ i => σ[i]?.join) = σc
 generalize hρc : QdZ cap ρ = ρc at ef
 have hF0 : ∃ Fc : Nat -> List Addr, Fc = λ j => match cap[j]? with
  | some (some i) => (match ρ[i]? with
   | some (some _) => F i
   | _ => [])
  | _ => [] := ⟨_, rfl⟩
 obtain ⟨Fc, hFc⟩ := hF0
 have rel1 := rel.ext s1
 have relC : ∀ H2, QK H1 H2 -> Rel X.K (λ _ => none) [] [] ρc Fc σc H2 := λ H2 s2 => by
  refine ⟨by rw [← hρc, ← hσc]; simp [QdZ], λ j d b e => ?_, λ j d e => ?_, λ j d b e a ha => .inl rfl, λ t ht => (by simp at ht), λ b o z => (by cases z)⟩
  ·rw [← hρc] at e
   obtain ⟨i, b', h1, h2⟩ := QjY e
   obtain ⟨v, h3, h4⟩ := (rel1.ext s2).val i d b' h2
   refine ⟨v, ?_, ?_⟩
   ·rw [← hσc, Zm, h1]
    simp only [ZP, Za, h3, Option.join_some]
   ·rw [hFc]; simp only [h1, h2]; exact h4
  ·have hf : d.flat = true := QhM cap ρ j d (by rw [hρc]; exact e)
   have : Fc j = [] := by
    rw [← hρc] at e
    obtain ⟨i, b', h1, h2⟩ := QjY e
    obtain ⟨v, h3, h4⟩ := rel1.val i d b' h2
    rw [hFc]; simp only [h1, h2]; exact h4.Qcp hf
   rw [this]
   exact ⟨(QdC d hf).symm, Zay, λ a ha => (by simp at ha), λ _ _ _ _ _ a ha => (by simp at ha), λ t ht => (by simp at ht)⟩
 have shC : ∀ G, Shr (λ _ => none) [] ρc Fc G := λ G a ha => ⟨.inl rfl, λ j d e hj => by
  have h0 := (relC H1 (QK.refl _)).own j d e
  have hf : d.flat = true := QhM cap ρ j d (by rw [hρc]; exact e)
  have : (Fc j).length = 0 := by rw [h0.1, QdC d hf]
  rw [Zae this] at hj
  simp at hj⟩
 have hSh : QcC ρc := by rw [← hρc]; exact QhM cap ρ
 have heldOf : ∀ H2, QK H1 H2 -> Qjz X.K H2 ts := λ H2 s2 t ht => (hts t ht).1.same s2
 have oldOf : ∀ a, ((∃ t ∈ ts, a ∈ t.2.2) ∨ ∃ j, a ∈ Fc j) -> (∃ vs, H1 a = some (.lst vs)) /\ (H a = none ∨ ∃ (i : Nat) (d : D) (b : Bool), ρ[i]? = some (some (d, b)) /\ a ∈ F i /\ (b = true -> i ∈ ir.M ++ Qn4 cap ρ)) := λ a ha => by
  rcases ha with ⟨t, ht, ha⟩ | ⟨j, ha⟩
  ·refine ⟨(hts t ht).1.mem a ha, ?_⟩
   rcases (hts t ht).2 a ha with z | ⟨i, d, b, e, m, w⟩
   ·exact .inl z
   ·exact .inr ⟨i, d, b, e, m, λ hb => Zg _ (w hb)⟩
  ·have ha0 := ha
   rw [hFc] at ha
   dsimp only at ha
   split at ha
   ·rename_i i hi
    split at ha
    ·rename_i db hdb
     obtain ⟨d, b⟩ := db
     obtain ⟨v, h3, h4⟩ := rel1.val i d b hdb
     refine ⟨h4.mem a ha, .inr ⟨i, d, b, hdb, ha, λ hb => Ze _ ?_⟩⟩
     unfold Qn4
     refine ZaU.mpr ⟨some i, ZY hi, ?_⟩
     simp only [Za, hdb]
     have hnf : d.flat = false := by
      cases hf : d.flat with
      | false => rfl
      | true => rw [h4.Qcp hf] at ha; simp at ha
     rw [hb, hnf]; rfl
    ·simp at ha
   ·simp at ha
 have fresh5 : ∀ H2, QK H1 H2 -> ∀ a, H2 a = none -> H1 a = none := λ H2 s2 a h => s2.free h
 refine ⟨λ i m acc H2 => m = ir.items.length - i /\ i <= ir.items.length /\ QK H1 H2 /\ H2 Dl = some (.lst acc) /\ ∃ (ys : List D) (g : Bool) (G : List Addr), (ir.items.drop i).foldlM (QeR t ft fe ρc) (ys, g) = some (xs, f) /\ Rps X.K H2 ys acc G /\ ys.length <= i ∧
  (∀ a ∈ G, a ≠ Dl /\ (H1 a = none ∨ (∃ t ∈ ts, a ∈ t.2.2) ∨ ∃ j, a ∈ Fc j)) /\ (g = true -> G.length = nls ys /\ ∀ a, G.count a <= nw H1 a), ⟨ir.items.length, rfl, ZX _, QbX hD, Qay, [], true, [], by simpa using ef, by simp [Rps], Zk _, λ a ha => (by simp at ha), λ _ => ⟨rfl, λ a => by simp⟩⟩, ?_⟩
 rintro i m acc H2 ⟨rfl, hi, s2, eD, ys, g, G, hfold, rps, hlen, hG, hcnt⟩
 by_cases hlt : i < ir.items.length
 ·refine .inr ⟨wk.go i H2 hlt (heldOf H2 s2), λ x H3 hy => ?_⟩
  obtain ⟨s3, G0, rp0, hG0⟩ := wk.yld i ir.items[i] H2 x H3 (by simp [hlt]) (heldOf H2 s2) hy
  rw [Zao hlt, ZbB] at hfold
  obtain ⟨acc1, hstep, hrest⟩ := bind1 hfold
  unfold QeR at hstep
  obtain ⟨ρ1, eb, hstep⟩ := bind1 hstep
  obtain ⟨c, ec, hstep⟩ := bind1 hstep
  have sh1 : QcC ρ1 := hSh.bind eb
  refine ⟨ρc, [], Fc, ir.items[i], G0, ρ1, relC H3 (s2.trans s3), rp0, shC G0, eb, λ σ2 F2 rel2 keep mem2 => ⟨λ j v hv => ?_, ρ1, [], F2, c, rel2, ec, λ H5 s5 => ?_⟩⟩
  ·have hj : j ∉ t.slots := λ hj => by
    rw [← hσc, Zm] at hv
    cases qc : cap[j]? with
    | none => rw [qc] at hv; cases hv
    | some o =>
     cases o with
     | none => rw [qc] at hv; cases hv
     | some k => exact hc.apart j k qc hj
   rw [keep j hj]; exact hv
  have s15 : QK H1 H5 := (s2.trans s3).trans s5
  have eD5 : H5 Dl = some (.lst acc) := s5 _ _ (s3 _ _ eD)
  cases c with
  | false =>
   rw [if_neg Zag] at hstep
   refine Qp9 ?_
   cases hstep
   exact ⟨_, by omega, rfl, hlt, s15, eD5, ys, g, G, hrest, rps.same (s3.trans s5), by omega, hG, hcnt⟩
  | true =>
   rw [if_pos rfl] at hstep
   refine Qqu ?_
   obtain ⟨rr, er, hstep⟩ := Zd.mp hstep
   subst hstep
   refine ⟨ρ1, [], F2, rr, rel2.ext s5, er, λ y H6 Ge pe => ?_⟩
   have eD6 : H6 Dl = some (.lst acc) := pe.same _ _ eD5
   have s16 := s15.trans pe.same
   refine ⟨eD6, ?_, _, by omega, rfl, hlt, ?_⟩
   ·rw [← rps.length]; exact Zaq hlen (Zu hlt hz)
   have hGe : ∀ a ∈ Ge, a ≠ Dl /\ (H1 a = none ∨ (∃ t ∈ ts, a ∈ t.2.2) ∨ ∃ j, a ∈ Fc j) := λ a ha => by
    rcases pe.src a ha with z | ⟨j, d, b, ej, hj, _⟩
    ·exact ⟨λ w => (by rw [w, eD5] at z; cases z), .inl (s15.free z)⟩
    ·have h1 : (∃ t ∈ ts, a ∈ t.2.2) ∨ ∃ j, a ∈ Fc j := by
      rcases mem2 j a hj with w | w
      ·exact .inr ⟨j, w⟩
      ·exact .inl (hG0 a w)
     obtain ⟨⟨vs, w⟩, _⟩ := oldOf a h1
     exact ⟨λ w' => (by rw [w', hD] at w; cases w), .inr h1⟩
   have nD : Dl ∉ G := λ h => (hG _ h).1 rfl
   have nDe : Dl ∉ Ge := λ h => (hGe _ h).1 rfl
   have sU : QK H1 (L2.upd H6 Dl (.lst (acc ++ [y]))) := λ b o hb => by rw [QO (Qbm hb hD)]; exact s16 b o hb
   refine ⟨sU, Qay, ys ++ [rr.d], g && rr.norm.fr, G ++ Ge, hrest, ?_, by rw [Zq, Zbc]; omega, λ a ha => ?_, λ hg => ?_⟩
   ·refine Rps.append ((rps.same ((s3.trans s5).trans pe.same)).upd eD6 nD) ?_
    simp only [Rps]
    exact ⟨y, [], Ge, [], rfl, by simp, pe.rp.upd eD6 nDe, rfl, rfl⟩
   ·rcases ZF.mp ha with h | h
    ·exact hG a h
    ·exact hGe a h
   ·simp only [Zl] at hg
    obtain ⟨l1, c1⟩ := hcnt hg.1
    have pn := pe.norm
    obtain ⟨c2, l2⟩ := pn.cnt hg.2
    rw [rr.QcS] at l2
    have nlapp : ∀ (as bs : List D), nls (as ++ bs) = nls as + nls bs := λ as bs => by
     induction as with
     | nil => simp [nls]
     | cons a as ih => simp only [ZbA, nls, ih]; omega
    refine ⟨by rw [Zq, l1, l2, nlapp]; simp [nls], λ a => ?_⟩
    have fl : ((rr.norm.M.map F2).flatten).count a = 0 := by
     rw [ZM]
     intro hm
     obtain ⟨l, hl, hal⟩ := Zbg.mp hm
     obtain ⟨j, hj, rfl⟩ := ZQ.mp hl
     obtain ⟨d, ej⟩ := pn.own j hj
     have hf := sh1 j d ej
     obtain ⟨v, _, rv⟩ := rel2.val j d true ej
     rw [rv.Qcp hf] at hal
     simp at hal
    have h1 := c1 a
    have h2 := c2 a
    rw [fl] at h2
    rw [Zad]
    cases q5 : H5 a with
    | some o => rw [Qdt q5] at h2; omega
    | none =>
     rw [Qa3 q5] at h2
     have h0 : G.count a = 0 := ZM.mpr λ hm => by
      obtain ⟨vs, w⟩ := rps.mem a hm
      rw [s5 _ _ (s3 _ _ w)] at q5; cases q5
     rw [Qa3 (s15.free q5)]
     omega
 ·have hn : i = ir.items.length := by omega
  subst hn
  refine .inl ⟨wk.stop H2 (heldOf H2 s2), ?_⟩
  rw [List.drop_length] at hfold
  have : (ys, g) = (xs, f) := Option.some.inj hfold
  cases this
  have rp : Rp X.K H2 (.lst xs) (.ref Dl) (Dl :: G) := Rp.Qel eD rps (Zx hlen hz)
  have hHD : H Dl = none := s1.free hD
  split at q
  ·rename_i hg
   have hg : f = true := hg
   obtain ⟨l1, c1⟩ := hcnt hg
   have hn : ∀ a ∈ G, H1 a = none := λ a ha => by
    have := c1 a
    have h2 : 0 < G.count a := Zap.mpr ha
    cases w : H1 a with
    | none => rfl
    | some o => rw [Qdt w] at this; omega
   refine q _ H2 (Dl :: G) ⟨s1.trans s2, rp, λ a ha => ?_, λ _ => ⟨λ a => ?_, by simp only [D.nl, ZO, l1]⟩, QaZ.nil⟩
   ·rcases Zv.mp ha with rfl | h
    ·exact .inl hHD
    ·exact .inl (s1.free (hn a h))
   ·rw [ZaC]
    have h1 := c1 a
    split
    ·rename_i w
     have w : Dl = a := by simpa using w
     subst w
     have h0 : G.count Dl = 0 := ZM.mpr λ h => (hG _ h).1 rfl
     rw [Qa3 hHD]; omega
    ·cases w : H1 a with
     | none => rw [Qa3 w] at h1; rw [Qa3 (s1.free w)]; omega
     | some o => rw [Qdt w] at h1; omega
  ·refine q _ H2 (Dl :: G) ⟨s1.trans s2, rp, λ a ha => ?_, λ z => (by cases z), ?_⟩
   ·rcases Zv.mp ha with rfl | h
    ·exact .inl hHD
    ·rcases (hG a h).2 with z | z
     ·exact .inl (s1.free z)
     ·exact (oldOf a z).2
   ·refine ow.append λ i hi => ?_
    unfold Qn4 at hi
    obtain ⟨o, _, ho⟩ := ZaU.mp hi
    cases o with
    | none => cases ho
    | some k =>
     simp only [Za] at ho
     split at ho
     ·rename_i d b hk
      split at ho
      ·rename_i hb
       cases ho
       simp only [Zl] at hb
       rw [hb.1] at hk
       exact ⟨d, hk⟩
      ·cases ho
     ·cases ho
section
variable {X : Cx} {tg iter elt : Expr} {ifs : List Expr} {scope : Scope} {N' : List Str} {pos : Pos} {fi : DI} {t : Tg} {cap : List (Option Nat)} {ft : DT} {fe : DE}
theorem QsX (hcalm : X.calm = true) (S : QdM X N' scope) (hi : SI X tg iter fi) (hcap : Qkq X N' scope cap t.slots)
  (hin : ∀ cl C fp s3 H3, SG (cxc X N' scope cl C fp s3 H3) tg t /\ Qlr (cxc X N' scope cl C fp s3 H3) ifs ft /\ SE (cxc X N' scope cl C fp s3 H3) elt fe) (hs : ∀ x, foldedSetIterable iter X.env x = pure x) :
  SE X (.ListComp elt [⟨tg, iter, ifs, 0⟩] scope pos) (QF fi t cap ft fe) := λ H0 A0 =>
 (Qnv hcalm S (hi H0 A0) (λ cl C fp s3 H3 => ⟨(hin cl C fp s3 H3).1 _ _, (hin cl C fp s3 H3).2.1 _ _, (hin cl C fp s3 H3).2.2 _ _⟩) hs).mono λ σ H Q h => QjS hcap h
end
end HS
namespace HS
open PySem PySem.Spec L2
inductive Out where
 | nx (ρ : En)
 | bk (ρ : En)
 | ct (ρ : En)
 | rt (d : D) (fr : Bool)
noncomputable abbrev DS := En -> Option Out
noncomputable def Fits (K : PySem.W.Frag) (H0 : Hp) (A0 : List Addr) (hs : List (V × D × List Addr)) (E : Ends) : Out -> Prop
 | .nx ρ => ∀ σ H F, Rel K H0 A0 hs ρ F σ H -> E.nx σ H
 | .bk ρ => ∀ σ H F, Rel K H0 A0 hs ρ F σ H -> E.bk σ H
 | .ct ρ => ∀ σ H F, Rel K H0 A0 hs ρ F σ H -> E.ct σ H
 | .rt d fr => ∀ v H G, Ret K H0 A0 d fr v H G -> E.rt v H
noncomputable def tS (K : PySem.W.Frag) (H0 : Hp) (A0 : List Addr) (f : DS) : TS := λ E σ H => ∃ ρ hs F o, Rel K H0 A0 hs ρ F σ H /\ f ρ = some o /\ Fits K H0 A0 hs E o
def S1 (X : Cx) (st : Stmt) (f : DS) : Prop := ∀ H0 A0, PS X st (tS X.K H0 A0 f)
def SS (X : Cx) (sts : List Stmt) (f : DS) : Prop := ∀ H0 A0, PSs X sts (tS X.K H0 A0 f)
theorem _root_.L2.PS.mono {X : Cx} {st : Stmt} {t t' : TS} (h : PS X st t) (m : ∀ D σ H, t' D σ H -> t D σ H) : PS X st t' := λ pins s σ H D I q => h pins s σ H D I (m D σ H q)
theorem _root_.L2.PSs.mono {X : Cx} {st : List Stmt} {t t' : TS} (h : PSs X st t) (m : ∀ D σ H, t' D σ H -> t D σ H) : PSs X st t' := λ pins s σ H D I q => h pins s σ H D I (m D σ H q)
noncomputable def Qm : DS := λ ρ => some (.nx ρ)
noncomputable def Qe (f g : DS) : DS := λ ρ => (f ρ).bind λ o => match o with
 | .nx ρ' => g ρ'
 | .bk ρ' => some (.bk ρ')
 | .ct ρ' => some (.ct ρ')
 | .rt d fr => some (.rt d fr)
noncomputable def Qra : DS := λ ρ => some (.bk ρ)
noncomputable def QrM : DS := λ ρ => some (.ct ρ)
noncomputable def Qp (i : Nat) (fa : DE) : DS := λ ρ => (fa ρ).bind λ r => some (.nx (asg i r ρ))
noncomputable def Qbn (fa : DE) : DE := λ ρ => (fa ρ).map λ r => ⟨r.d, false, r.M⟩
noncomputable def QM (fa : DE) : DS := λ ρ => (fa ρ).bind λ r => some (.rt r.d (r.norm.fr && decide r.norm.M.Nodup))
noncomputable def QnS : DS := λ _ => some (.rt .non true)
noncomputable def QdX (fa : DE) : DS := λ ρ => (fa ρ).bind λ _ => some (.nx ρ)
noncomputable def sIf (g : DT) (f1 f2 : DS) : DS := λ ρ => (g ρ).bind λ b => if b = true then f1 ρ else f2 ρ
noncomputable def QcU (t : Tg) (fb : DS) : List D -> DS
 | [], ρ => some (.nx ρ)
 | d :: ds, ρ => (Qcr t d ρ).bind λ ρ1 => (fb ρ1).bind λ o => match o with
  | .nx ρ2 => QcU t fb ds ρ2
  | .ct ρ2 => QcU t fb ds ρ2
  | .bk ρ2 => some (.nx ρ2)
  | .rt d fr => some (.rt d fr)
noncomputable def QaV (fi : DI) (t : Tg) (fb : DS) : DS := λ ρ => (fi ρ).bind λ ir => QcU t fb ir.items (Qa5 ir.M ρ)
noncomputable def QaJ (g : DT) (fb : DS) : Nat -> DS
 | 0, _ => none
 | n + 1, ρ => (g ρ).bind λ b => if b = true then (fb ρ).bind λ o => match o with
  | .nx ρ2 => QaJ g fb n ρ2
  | .ct ρ2 => QaJ g fb n ρ2
  | .bk ρ2 => some (.nx ρ2)
  | .rt d fr => some (.rt d fr)
  else some (.nx ρ)
section
variable {X : Cx} {st : Stmt} {sts : List Stmt} {e : Expr} {fa : DE} {f g : DS} {gc : DT} {pos : Pos}
theorem QvE : SS X [] Qm := λ H0 A0 => Qst.mono λ E σ H ⟨ρ, hs, F, o, rel, e, q⟩ => by
 cases e
 exact q σ H F rel
theorem Qsk (h1 : S1 X st f) (h2 : SS X sts g) : SS X (st :: sts) (Qe f g) := λ H0 A0 => (Qrt (h1 H0 A0) (h2 H0 A0)).mono λ E σ H ⟨ρ, hs, F, o, rel, e, q⟩ => by
 obtain ⟨o1, e1, e⟩ := bind1 e
 refine ⟨ρ, hs, F, o1, rel, e1, ?_⟩
 cases o1 with
 | nx ρ' => exact λ σ' H' F' rel' => ⟨ρ', hs, F', o, rel', e, q⟩
 | bk ρ' => cases e; exact q
 | ct ρ' => cases e; exact q
 | rt d fr => cases e; exact q
theorem Qs9 : S1 X (.Pass pos) Qm := λ H0 A0 => Qs1.mono λ E σ H ⟨ρ, hs, F, o, rel, e, q⟩ => by
 cases e
 exact q σ H F rel
theorem Qqs : S1 X (.Break pos) Qra := λ H0 A0 => QrF.mono λ E σ H ⟨ρ, hs, F, o, rel, e, q⟩ => by
 cases e
 exact q σ H F rel
theorem QsC : S1 X (.Continue pos) QrM := λ H0 A0 => Qmn.mono λ E σ H ⟨ρ, hs, F, o, rel, e, q⟩ => by
 cases e
 exact q σ H F rel
theorem Qrf (h : SE X e fa) : SE X e (Qbn fa) := λ H0 A0 => (h H0 A0).mono λ σ H Q ⟨ρ, hs, F, r, rel, e, q⟩ => by
 obtain ⟨r', e1, rfl⟩ := Zd.mp e
 exact ⟨ρ, hs, F, r', rel, e1, λ v H' G p => q v H' G ⟨p.same, p.rp, p.src, λ z => (by cases z), p.own⟩⟩
theorem Qlm {i : Nat} (h : ∀ H0 A0, PS X st (Qk7 (tV X.K H0 A0 fa) (QgE i))) : S1 X st (Qp i fa) := λ H0 A0 => (h H0 A0).mono λ E σ H ⟨ρ, hs, F, o, rel, e, q⟩ => by
 obtain ⟨r, e1, e⟩ := bind1 e
 cases e
 refine ⟨ρ, hs, F, r, rel, e1, λ v H' G p => ?_⟩
 obtain ⟨F', rel'⟩ := rel.asg (i := i) p
 exact q _ _ F' rel'
theorem Qsh (h : PS X st (Qkx (tV X.K H0 A0 fa))) : PS X st (tS X.K H0 A0 (QdX fa)) := h.mono λ E σ H ⟨ρ, hs, F, o, rel, e, q⟩ => by
 obtain ⟨r, e1, e⟩ := bind1 e
 cases e
 exact ⟨ρ, hs, F, r, rel, e1, λ v H' G p => q σ H' F (rel.ext p.same)⟩
theorem Rel.ret {K : PySem.W.Frag} {H0 H H' : Hp} {A0 : List Addr} {hs : List (V × D × List Addr)} {ρ : En} {F : Nat -> List Addr} {σ : L2.St} (rel : Rel K H0 A0 hs ρ F σ H) {r : R} {v : V} {G : List Addr} (p : Q0 K ρ F H H' r v G) : Ret K H0 A0 r.d (r.norm.fr && decide r.norm.M.Nodup) v H' G where
 same := rel.same.trans p.same
 rp := p.rp
 src := λ a ha => by
  rcases p.src a ha with z | ⟨i, d, b, e, m, _⟩
  ·exact .inl (rel.same.free z)
  ·exact rel.src i d b e a m
 cnt := λ h => by
  simp only [Zl, decide_eq_true_eq] at h
  have p' := p.norm
  obtain ⟨h1, h2⟩ := p'.fresh rel h.1 h.2
  have h3 := (p'.cnt h.1).2
  rw [r.QcS] at h3
  exact ⟨h1, h3, λ a ha => (h2 a ha).1⟩
theorem QuY (he : SE X e fa) : S1 X (.Return (some e) pos) (QM fa) := λ H0 A0 => (Qvn (he H0 A0)).mono λ E σ H ⟨ρ, hs, F, o, rel, e, q⟩ => by
 obtain ⟨r, e1, e⟩ := bind1 e
 cases e
 exact ⟨ρ, hs, F, r, rel, e1, λ v H' G p => q v H' G (rel.ret p)⟩
theorem Qtt : S1 X (.Return none pos) QnS := λ H0 A0 => QtM.mono λ E σ H ⟨ρ, hs, F, o, rel, e, q⟩ => by
 cases e
 exact q .non H [] ⟨rel.same, .Qh8, λ a ha => (by simp at ha), λ _ => ⟨Zay, rfl, λ a ha => (by simp at ha)⟩⟩
theorem QvQ {c : Expr} {a b : List Stmt} (hc : ST X c gc) (ha : SS X a f) (hb : SS X b g) : S1 X (.If c a b pos) (sIf gc f g) := λ H0 A0 => (QwB (hc H0 A0) (ha H0 A0) (hb H0 A0)).mono λ E σ H ⟨ρ, hs, F, o, rel, e, q⟩ => by
 obtain ⟨c, e1, e⟩ := bind1 e
 refine ⟨ρ, hs, F, c, rel, e1, λ H1 s1 => ?_⟩
 cases c with
 | true => exact Qqu ⟨ρ, hs, F, o, rel.ext s1, e, q⟩
 | false => exact Qp9 ⟨ρ, hs, F, o, rel.ext s1, e, q⟩
theorem QvG {tg iter : Expr} {body : List Stmt} {fi : DI} {t : Tg} (hp : PassesOwn (model X.prog X.w) X.A X.env X.xe) (hc : X.calm = true) (hi : SI X tg iter fi) (hg : SG X tg t) (hb : SS X body f) (hs : ∀ x, foldedSetIterable iter X.env x = pure x) :
  S1 X (.For tg iter body [] pos) (QaV fi t f) := λ H0 A0 => (Qun hp hc (hi H0 A0) (hg H0 A0) (hb H0 A0) hs).mono λ E σ H ⟨ρ, hs, F, o, rel, e, q⟩ => by
 obtain ⟨ir, e1, e⟩ := bind1 e
 refine ⟨ρ, hs, F, ir, rel, e1, λ J H1 ts s1 wk hts ow hz => ?_⟩
 have rel1 : Rel X.K H0 A0 (ts ++ hs) (Qa5 ir.M ρ) F σ H1 := ((rel.ext s1).weak (Qbs ir.M ρ)).hold λ t ht => ⟨(hts t ht).1, Shr.of rel (hts t ht).2⟩
 refine ⟨λ i m σ' H' => m = ir.items.length - i /\ i <= ir.items.length /\ ∃ ρi Fi, Rel X.K H0 A0 (ts ++ hs) ρi Fi σ' H' /\ QcU t f (ir.items.drop i) ρi = some o, ⟨_, rfl, ZX _, _, F, rel1, by simpa using e⟩, ?_⟩
 rintro i m σ' H' ⟨rfl, hi', ρi, Fi, reli, ei⟩
 have held : Qjz X.K H' ts := λ t ht => (reli.held t (Zg _ ht)).1
 by_cases hlt : i < ir.items.length
 ·rw [Zao hlt] at ei
  unfold QcU at ei
  obtain ⟨ρ1, eb, ei⟩ := bind1 ei
  obtain ⟨o1, eo, ei⟩ := bind1 ei
  refine .inr ⟨wk.go i H' hlt held, λ σ2 H2 => ∃ ρ2 F2, Rel X.K H0 A0 (ts ++ hs) ρ2 F2 σ2 H2 /\ QcU t f (ir.items.drop (i + 1)) ρ2 = some o, λ σ2 H2 ⟨ρ2, F2, rel2, e2⟩ => ⟨_, by omega, rfl, hlt, ρ2, F2, rel2, e2⟩, λ x H2 hy => ?_⟩
  obtain ⟨s2, G0, rp0, hG0⟩ := wk.yld i ir.items[i] H' x H2 (by simp [hlt]) held hy
  have shr : Shr H0 A0 ρi Fi G0 := λ a ha => by
   obtain ⟨t, ht, hat⟩ := hG0 a ha
   exact ⟨(reli.held t (Zg _ ht)).2 a hat, λ j d ej hj => (reli.own j d ej).2.2.2.2 t (Zg _ ht) a hj hat⟩
  refine ⟨ρi, ts ++ hs, Fi, ir.items[i], G0, ρ1, reli.ext s2, rp0, shr, eb, λ σ3 F3 rel3 _ _ => ⟨ρ1, ts ++ hs, F3, o1, rel3, eo, ?_⟩⟩
  cases o1 with
  | nx ρ2 => exact λ σ4 H4 F4 rel4 => ⟨ρ2, F4, rel4, ei⟩
  | ct ρ2 => exact λ σ4 H4 F4 rel4 => ⟨ρ2, F4, rel4, ei⟩
  | bk ρ2 => cases ei; exact λ σ4 H4 F4 rel4 => q σ4 H4 F4 rel4.QoF
  | rt d fr => cases ei; exact q
 ·have hn : i = ir.items.length := by omega
  subst hn
  rw [List.drop_length] at ei
  cases ei
  exact .inl ⟨wk.stop H' held, q σ' H' Fi reli.QoF⟩
theorem Qqr {c : Expr} {body : List Stmt} {n : Nat} (hp : PassesOwn (model X.prog X.w) X.A X.env X.xe) (hc : ST X c gc) (hb : SS X body f) : S1 X (.While c body [] pos) (QaJ gc f n) := λ H0 A0 => (Qqy hp (hc H0 A0) (hb H0 A0)).mono λ E σ H ⟨ρ, hs, F, o, rel, e, q⟩ => by
 refine ⟨λ m σ' H' => ∃ ρi Fi, Rel X.K H0 A0 hs ρi Fi σ' H' /\ QaJ gc f m ρi = some o, ⟨n, ρ, F, rel, e⟩, ?_⟩
 rintro m σ' H' ⟨ρi, Fi, reli, ei⟩
 cases m with
 | zero => cases ei
 | succ m =>
  unfold QaJ at ei
  obtain ⟨b, eb, ei⟩ := bind1 ei
  refine ⟨ρi, hs, Fi, b, reli, eb, λ H1 s1 => ?_⟩
  cases b with
  | false =>
   rw [if_neg Zag] at ei
   cases ei
   exact Qp9 (q σ' H1 Fi (reli.ext s1))
  | true =>
   rw [if_pos rfl] at ei
   obtain ⟨o1, eo, ei⟩ := bind1 ei
   refine Qqu ⟨λ σ2 H2 => ∃ ρ2 F2, Rel X.K H0 A0 hs ρ2 F2 σ2 H2 /\ QaJ gc f m ρ2 = some o, λ σ2 H2 h => ⟨m, ZaO _, h⟩, ρi, hs, Fi, o1, reli.ext s1, eo, ?_⟩
   cases o1 with
   | nx ρ2 => exact λ σ4 H4 F4 rel4 => ⟨ρ2, F4, rel4, ei⟩
   | ct ρ2 => exact λ σ4 H4 F4 rel4 => ⟨ρ2, F4, rel4, ei⟩
   | bk ρ2 => cases ei; exact λ σ4 H4 F4 rel4 => q σ4 H4 F4 rel4
   | rt d fr => cases ei; exact q
end
end HS
namespace HS
open PySem PySem.Spec L2
section
variable {K : PySem.W.Frag} {H H' : Hp}
theorem Rps.split : ∀ {ds : List D} {vs : List V} {F : List Addr} {j : Nat} {d : D}, Rps K H ds vs F -> ds[j]? = some d →
  ∃ F1 G F2 v, F = F1 ++ (G ++ F2) /\ vs[j]? = some v /\ Rps K H (ds.take j) (vs.take j) F1 /\ Rp K H d v G /\ Rps K H (ds.drop (j + 1)) (vs.drop (j + 1)) F2
 | [], _, _, _, _, _, e => by simp at e
 | d :: ds, _, _, 0, _, h, e => by
  simp only [Rps] at h
  obtain ⟨v, ws, F1, F2, rfl, rfl, r, q⟩ := h
  simp at e; subst e
  exact ⟨[], F1, F2, v, rfl, by simp, by simp [Rps], r, by simpa using q⟩
 | d :: ds, _, _, j + 1, _, h, e => by
  simp only [Rps] at h
  obtain ⟨v, ws, F1, F2, rfl, rfl, r, q⟩ := h
  obtain ⟨G1, G, G2, v', h1, h2, h3, h4, h5⟩ := Rps.split q (j := j) (by simpa using e)
  refine ⟨F1 ++ G1, G, G2, v', by rw [h1, ZaK], by simpa using h2, ?_, h4, by simpa using h5⟩
  simp only [List.take_succ_cons, Rps]
  exact ⟨v, _, F1, G1, rfl, rfl, r, h3⟩
theorem Rps.join {ds : List D} {vs : List V} {F1 G F2 : List Addr} {j : Nat} {d : D} {v : V} (h1 : Rps K H (ds.take j) (vs.take j) F1) (hd : Rp K H d v G) (h2 : Rps K H (ds.drop (j + 1)) (vs.drop (j + 1)) F2) (hj : j < ds.length) (hv : vs[j]? = some v) :
  Rps K H (ds.set j d) vs (F1 ++ (G ++ F2)) := by
 have e1 : ds.set j d = ds.take j ++ d :: ds.drop (j + 1) := Zaz .. |>.trans (by rw [if_pos hj])
 have hjv : j < vs.length := (Zf.mp hv).1
 have hve : vs[j] = v := (Zf.mp hv).2
 have e2 : vs = vs.take j ++ v :: vs.drop (j + 1) := by
  rw [← hve, ← Zao hjv, Zbd]
 rw [e1, e2]
 refine h1.append ?_
 simp only [Rps]
 refine ⟨v, _, G, F2, rfl, rfl, hd, h2⟩
theorem Rps.Qr0 {ds : List D} {vs : List V} {F1 G F2 : List Addr} {j : Nat} {d : D} {v : V} (h1 : Rps K H (ds.take j) (vs.take j) F1) (hd : Rp K H d v G) (h2 : Rps K H (ds.drop (j + 1)) (vs.drop (j + 1)) F2) (hj : j < ds.length) (hv : j < vs.length) :
  Rps K H (ds.set j d) (vs.set j v) (F1 ++ (G ++ F2)) := by
 have e1 : ds.set j d = ds.take j ++ d :: ds.drop (j + 1) := Zaz .. |>.trans (by rw [if_pos hj])
 have e2 : vs.set j v = vs.take j ++ v :: vs.drop (j + 1) := Zaz .. |>.trans (by rw [if_pos hv])
 rw [e1, e2]
 refine h1.append ?_
 simp only [Rps]
 exact ⟨v, _, G, F2, rfl, rfl, hd, h2⟩
noncomputable def Focus (K : PySem.W.Frag) (H : Hp) : List Int -> D -> V -> List Addr -> D -> V -> List Addr -> Prop
 | [], d, v, F, dm, w, Gm => dm = d /\ w = v /\ Gm = F /\ Rp K H d v F
 | i :: is, d, v, F, dm, w, Gm => ∃ (ds : List D) (a : Addr) (vs : List V) (j : Nat) (F1 G F2 : List Addr) (d' : D) (v' : V), v = .ref a /\ ixN ds.length i = some j ∧
   ((d = .lst ds /\ ds.length <= sizeLine /\ ((F = a :: (F1 ++ (G ++ F2)) /\ H a = some (.lst vs)) ∨ (F = F1 ++ (G ++ F2) /\ Fix K H a vs))) ∨ (d = .tup ds /\ F = F1 ++ (G ++ F2) /\ SqT K H a vs)) ∧
   Rps K H (ds.take j) (vs.take j) F1 /\ Rps K H (ds.drop (j + 1)) (vs.drop (j + 1)) F2 /\ ds[j]? = some d' /\ vs[j]? = some v' /\ ds.length = vs.length /\ Focus K H is d' v' G dm w Gm
theorem Focus.same (s : QK H H') : ∀ {is : List Int} {d : D} {v : V} {F : List Addr} {dm : D} {w : V} {Gm : List Addr}, Focus K H is d v F dm w Gm -> Focus K H' is d v F dm w Gm
 | [], _, _, _, _, _, _, h => ⟨h.1, h.2.1, h.2.2.1, h.2.2.2.same s⟩
 | i :: is, _, _, _, _, _, _, h => by
  obtain ⟨ds, a, vs, j, F1, G, F2, d', v', h1, h2, h3, h4, h5, h6, h7, h8, h9⟩ := h
  refine ⟨ds, a, vs, j, F1, G, F2, d', v', h1, h2, ?_, h4.same s, h5.same s, h6, h7, h8, h9.same s⟩
  rcases h3 with ⟨e, z, q⟩ | ⟨e, eF, q⟩
  ·refine .inl ⟨e, z, ?_⟩
   rcases q with ⟨eF, q⟩ | ⟨eF, q⟩
   ·exact .inl ⟨eF, s _ _ q⟩
   ·exact .inr ⟨eF, Qlh s q⟩
  ·exact .inr ⟨e, eF, QlR s q⟩
theorem Focus.rp : ∀ {is : List Int} {d : D} {v : V} {F : List Addr} {dm : D} {w : V} {Gm : List Addr}, Focus K H is d v F dm w Gm -> Rp K H dm w Gm
 | [], _, _, _, _, _, _, h => by
  obtain ⟨rfl, rfl, rfl, r⟩ := h
  exact r
 | i :: is, _, _, _, _, _, _, h => by
  obtain ⟨ds, a, vs, j, F1, G, F2, d', v', h1, h2, h3, h4, h5, h6, h7, h8, h9⟩ := h
  exact h9.rp
theorem Focus.QoR : ∀ {is : List Int} {d : D} {v : V} {F : List Addr} {dm : D} {w : V} {Gm : List Addr}, Focus K H is d v F dm w Gm -> Rp K H d v F
 | [], _, _, _, _, _, _, h => h.2.2.2
 | i :: is, _, _, _, _, _, _, h => by
  obtain ⟨ds, a, vs, j, F1, G, F2, d', v', rfl, h2, h3, h4, h5, h6, h7, h8, h9⟩ := h
  have hjl : j < ds.length := (Zf.mp h6).1
  have hdj : ds[j] = d' := (Zf.mp h6).2
  have j1 := Rps.join h4 h9.QoR h5 hjl h7
  rw [show ds.set j d' = ds by rw [← hdj]; exact List.set_getElem_self hjl] at j1
  rcases h3 with ⟨rfl, hz, ⟨rfl, q⟩ | ⟨rfl, q⟩⟩ | ⟨rfl, rfl, q⟩
  ·exact Rp.Qel q j1 hz
  ·simp only [Rp]
   exact ⟨hz, a, vs, rfl, .inr ⟨q, j1⟩⟩
  ·simp only [Rp]
   exact ⟨a, vs, rfl, q, j1⟩
theorem Focus.one {d : D} {v : V} {F : List Addr} {ds : List D} {i : Int} {d' : D} (r : Rp K H d v F) (hd : d.items = some ds) (hi : atI ds i = some d') :
  ∃ a vs v' G, v = .ref a /\ ((d = .lst ds /\ SqL K H a vs) ∨ (d = .tup ds /\ SqT K H a vs)) /\ atI vs i = some v' /\ Focus K H [i] d v F d' v' G := by
 unfold atI at hi
 cases hj : ixN ds.length i with
 | none => rw [hj] at hi; cases hi
 | some j =>
  rw [hj] at hi
  have hdj : ds[j]? = some d' := hi
  have fin : ∀ (vs : List V) (L : List Addr), Rps K H ds vs L -> ∃ v' G F1 F2, L = F1 ++ (G ++ F2) /\ vs[j]? = some v' /\ atI vs i = some v' /\ Rps K H (ds.take j) (vs.take j) F1 /\ Rp K H d' v' G /\ Rps K H (ds.drop (j + 1)) (vs.drop (j + 1)) F2 /\ ds.length = vs.length := λ vs L rl => by
   obtain ⟨F1, G, F2, v', h1, h2, h3, h4, h5⟩ := rl.split hdj
   refine ⟨v', G, F1, F2, h1, h2, ?_, h3, h4, h5, rl.length⟩
   unfold atI
   rw [← rl.length, hj]
   exact h2
  cases d with
  | lst xs =>
   cases hd
   simp only [Rp] at r
   obtain ⟨hz, a, vs, rfl, ⟨L, rfl, q, rl⟩ | ⟨q, rl⟩⟩ := r
   ·obtain ⟨v', G, F1, F2, h1, h2, h3, h4, h5, h6, h7⟩ := fin vs L rl
    exact ⟨a, vs, v', G, rfl, .inl ⟨rfl, SqL.of q⟩, h3, ds, a, vs, j, F1, G, F2, d', v', rfl, hj, .inl ⟨rfl, hz, .inl ⟨by rw [h1], q⟩⟩, h4, h6, hdj, h2, h7, rfl, rfl, rfl, h5⟩
   ·obtain ⟨v', G, F1, F2, h1, h2, h3, h4, h5, h6, h7⟩ := fin vs _ rl
    exact ⟨a, vs, v', G, rfl, .inl ⟨rfl, q.sq⟩, h3, ds, a, vs, j, F1, G, F2, d', v', rfl, hj, .inl ⟨rfl, hz, .inr ⟨h1, q⟩⟩, h4, h6, hdj, h2, h7, rfl, rfl, rfl, h5⟩
  | tup xs =>
   cases hd
   obtain ⟨a, vs, rfl, q, rl⟩ := r.QaQ
   obtain ⟨v', G, F1, F2, h1, h2, h3, h4, h5, h6, h7⟩ := fin vs _ rl
   exact ⟨a, vs, v', G, rfl, .inr ⟨rfl, q⟩, h3, ds, a, vs, j, F1, G, F2, d', v', rfl, hj, .inr ⟨rfl, h1, q⟩, h4, h6, hdj, h2, h7, rfl, rfl, rfl, h5⟩
  | _ => cases hd
theorem Focus.snoc : ∀ {is : List Int} {d : D} {v : V} {F : List Addr} {dm : D} {w : V} {Gm : List Addr} {i : Int} {d' : D} {v' : V} {G : List Addr}, Focus K H is d v F dm w Gm -> Focus K H [i] dm w Gm d' v' G -> Focus K H (is ++ [i]) d v F d' v' G
 | [], _, _, _, _, _, _, _, _, _, _, h, g => by
  obtain ⟨rfl, rfl, rfl, r⟩ := h
  exact g
 | k :: is, _, _, _, _, _, _, _, _, _, _, h, g => by
  obtain ⟨ds, a, vs, j, F1, G, F2, d', v', h1, h2, h3, h4, h5, h6, h7, h8, h9⟩ := h
  exact ⟨ds, a, vs, j, F1, G, F2, d', v', h1, h2, h3, h4, h5, h6, h7, h8, h9.snoc g⟩
noncomputable def Qa8 : D -> List Int -> Option D
 | d, [] => some d
 | d, i :: is => (d.items).bind λ ds => (atI ds i).bind λ d' => Qa8 d' is
theorem Qia : ∀ {is : List Int} {d : D} {i : Int} {d' : D}, Qa8 d (is ++ [i]) = some d' -> ∃ dm ds, Qa8 d is = some dm /\ dm.items = some ds /\ atI ds i = some d'
 | [], d, i, d', h => by
  obtain ⟨ds, h1, h⟩ := bind1 h
  obtain ⟨d'', h2, h⟩ := bind1 h
  cases h
  exact ⟨d, ds, rfl, h1, h2⟩
 | k :: is, d, i, d', h => by
  obtain ⟨ds, h1, h⟩ := bind1 h
  obtain ⟨d'', h2, h⟩ := bind1 h
  obtain ⟨dm, es, h3, h4, h5⟩ := Qia h
  refine ⟨dm, es, ?_, h4, h5⟩
  simp only [Qa8, h1, h2, Za, h3]
noncomputable def QaN : List Int -> D -> D -> D
 | [], _, new => new
 | i :: is, .lst ds, new => match ixN ds.length i with
  | some j => .lst (ds.set j (QaN is (ds.getD j .non) new))
  | none => .lst ds
 | i :: is, .tup ds, new => match ixN ds.length i with
  | some j => .tup (ds.set j (QaN is (ds.getD j .non) new))
  | none => .tup ds
 | _ :: _, d, _ => d
theorem Qg1 : ∀ {ds : List D} {j : Nat} {d e : D}, ds[j]? = some d -> nls (ds.set j e) + d.nl = nls ds + e.nl
 | [], _, _, _, h => by simp at h
 | x :: ds, 0, d, e, h => by simp at h; subst h; simp only [List.set_cons_zero, nls]; omega
 | x :: ds, j + 1, d, e, h => by
  have := Qg1 (ds := ds) (j := j) (e := e) (by simpa using h)
  simp only [List.set_cons_succ, nls]; omega
theorem Qd1 : ∀ (as bs : List D), nls (as ++ bs) = nls as + nls bs
 | [], bs => by simp [nls]
 | a :: as, bs => by simp only [ZbA, nls, Qd1 as bs]; omega
theorem Focus.mut {p : Addr} {dsm ds' : List D} {vs' : List V} {G' : List Addr} : ∀ {is : List Int} {d : D} {v : V} {F : List Addr} {Gm : List Addr}, Focus K H is d v F (.lst dsm) (.ref p) Gm -> F.Nodup -> F.length = d.nl →
  ∃ vsm Gp, H p = some (.lst vsm) /\ Gm = p :: Gp /\ Rps K H dsm vsm Gp /\ Gp.length = nls dsm /\ p ∈ F /\ (∀ a ∈ Gp, a ∈ F) /\ p ∉ Gp ∧
   (Rps K (upd H p (.lst vs')) ds' vs' G' -> ds'.length <= sizeLine -> G'.length = nls ds' →
    ∃ F', Rp K (upd H p (.lst vs')) (QaN is d (.lst ds')) v F' /\ F'.length = (QaN is d (.lst ds')).nl /\ ∀ a, F'.count a + Gp.count a = F.count a + G'.count a)
 | [], d, v, F, Gm, h, nd, hl => by
  obtain ⟨rfl, rfl, rfl, r⟩ := h
  simp only [Rp] at r
  obtain ⟨hz, a, vs, e, h⟩ := r
  cases e
  rcases h with ⟨L, rfl, q, rl⟩ | ⟨q, rl⟩
  ·obtain ⟨n1, n2⟩ := ZaB.mp nd
   have hl' : L.length = nls dsm := by simp only [D.nl, ZO] at hl; omega
   refine ⟨vs, L, q, rfl, rl, hl', Zi, λ a ha => Zc _ ha, n1, λ r' hz' hl2 => ⟨p :: G', Rp.Qel Qay r' hz', ?_, λ a => ?_⟩⟩
   ·simp only [QaN, D.nl, ZO, hl2]
   ·rw [ZaC, ZaC]; omega
  ·have := rl.QaE
   simp only [D.nl] at hl
   omega
 | i :: is, d, v, F, Gm, h, nd, hl => by
  obtain ⟨ds, a, vs, j, F1, G, F2, d', v', rfl, hj, h3, h4, h5, h6, h7, h8, h9⟩ := h
  have hjl : j < ds.length := (Zf.mp h6).1
  have gd : ds.getD j .non = d' := by rw [Zai, h6]; rfl
  have l1 := h4.QaE
  have l2 := h5.QaE
  have l3 := h9.QoR.QaE
  have nlsplit : nls (ds.take j) + (d'.nl + nls (ds.drop (j + 1))) = nls ds := by
   have e1 : ds = ds.take j ++ d' :: ds.drop (j + 1) := by
    have : ds[j] = d' := (Zf.mp h6).2
    rw [← this, ← Zao hjl, Zbd]
   have e2 := congrArg nls e1
   rw [Qd1] at e2
   simp only [nls] at e2
   exact e2.symm
  have core : (F1 ++ (G ++ F2)).Nodup -> (F1 ++ (G ++ F2)).length = nls ds -> _ := λ nd' hl' => by
   simp only [Zq] at hl'
   have hG : G.length = d'.nl := by omega
   have ndG : G.Nodup := (Zba.mp (Zba.mp nd').2.1).1
   exact (h9.mut (vs' := vs') (ds' := ds') (G' := G') ndG hG)
  have apart : (F1 ++ (G ++ F2)).Nodup -> p ∈ G -> p ∉ F1 /\ p ∉ F2 := λ nd' hp => by
   have n1 := Zba.mp nd'
   have n2 := Zba.mp n1.2.1
   exact ⟨λ h => n1.2.2 p h p (Zg _ hp) rfl, λ h => n2.2.2 p hp p h rfl⟩
  have cnt : ∀ (G'' Gp : List Addr), (∀ a, G''.count a + Gp.count a = G.count a + G'.count a) -> ∀ a, (F1 ++ (G'' ++ F2)).count a + Gp.count a = (F1 ++ (G ++ F2)).count a + G'.count a := λ G'' Gp hc a => by
   have := hc a
   simp only [Zad]; omega
  rcases h3 with ⟨rfl, hz, ⟨rfl, q⟩ | ⟨rfl, q⟩⟩ | ⟨rfl, rfl, q⟩
  ·
   obtain ⟨n1, n2⟩ := ZaB.mp nd
   have hl' : (F1 ++ (G ++ F2)).length = nls ds := by simp only [D.nl, ZO] at hl; omega
   obtain ⟨vsm, Gp, e1, e2, e3, e4, e5, e6, e7, e8⟩ := core n2 hl'
   have ap := apart n2 e5
   have hap : a ≠ p := λ z => n1 (by rw [z]; exact Ze _ (Zg _ e5))
   refine ⟨vsm, Gp, e1, e2, e3, e4, Zc _ (Ze _ (Zg _ e5)), λ b hb => Zc _ (Ze _ (Zg _ (e6 b hb))), e7, λ r' hz' hl2 => ?_⟩
   obtain ⟨G'', f1, f2, f3⟩ := e8 r' hz' hl2
   have j1 := Rps.join (h4.upd (ys := vs') e1 ap.1) f1 (h5.upd (ys := vs') e1 ap.2) hjl h7
   refine ⟨a :: (F1 ++ (G'' ++ F2)), ?_, ?_, λ b => ?_⟩
   ·simp only [QaN, hj, gd]
    exact Rp.Qel (by rw [QO hap]; exact q) j1 (by rw [ZaS]; exact hz)
   ·have := Qg1 (ds := ds) (j := j) (e := QaN is d' (.lst ds')) h6
    simp only [QaN, hj, gd, D.nl, ZO, Zq, f2] at hl' ⊢
    omega
   ·have := cnt G'' Gp f3 b
    rw [ZaC, ZaC]; omega
  ·have : (F1 ++ (G ++ F2)).length <= nls ds := by simp only [Zq]; omega
   simp only [D.nl] at hl
   omega
  ·
   have hl' : (F1 ++ (G ++ F2)).length = nls ds := by simpa only [D.nl] using hl
   obtain ⟨vsm, Gp, e1, e2, e3, e4, e5, e6, e7, e8⟩ := core nd hl'
   have ap := apart nd e5
   refine ⟨vsm, Gp, e1, e2, e3, e4, Ze _ (Zg _ e5), λ b hb => Ze _ (Zg _ (e6 b hb)), e7, λ r' hz' hl2 => ?_⟩
   obtain ⟨G'', f1, f2, f3⟩ := e8 r' hz' hl2
   have j1 := Rps.join (h4.upd (ys := vs') e1 ap.1) f1 (h5.upd (ys := vs') e1 ap.2) hjl h7
   refine ⟨F1 ++ (G'' ++ F2), ?_, ?_, cnt G'' Gp f3⟩
   ·simp only [QaN, hj, gd, Rp]
    exact ⟨a, vs, rfl, QmZ e1 q, j1⟩
   ·have := Qg1 (ds := ds) (j := j) (e := QaN is d' (.lst ds')) h6
    simp only [QaN, hj, gd, D.nl, Zq, f2] at hl' ⊢
    omega
end
end HS
namespace HS
open PySem PySem.Spec L2
section
variable {K : PySem.W.Frag} {H0 H H1 H2 : Hp} {A0 : List Addr} {hs : List (V × D × List Addr)} {ρ : En} {F : Nat -> List Addr} {σ : L2.St}
theorem Rel.mut (rel : Rel K H0 A0 hs ρ F σ H) {r : R} {vn : V} {Gn : List Addr} (p : Q0 K ρ F H H1 r vn Gn) (hf : r.fr = true) (nd : r.M.Nodup) (s12 : QK H1 H2) {x : Nat} {d : D} (hx : ρ[x]? = some (some (d, true))) (hxM : x ∉ r.M) {v0 : V} (hv0 : σ[x]? = some (some v0))
  {dnew : D} {q : Addr} {F' : List Addr} {vsm vs' : List V} (e1 : H2 q = some (.lst vsm)) (e5 : q ∈ F x) (f1 : Rp K (upd H2 q (.lst vs')) dnew v0 F') (f2 : F'.length = dnew.nl) (cF : ∀ a, F'.count a <= (F x).count a + Gn.count a) :
  ∃ F', Rel K H0 A0 hs ((kill r.M ρ).set x (some (dnew, true))) F' σ (upd H2 q (.lst vs')) := by
 obtain ⟨ol, on, o0, oap, oh⟩ := rel.own x d hx
 obtain ⟨gn, gs⟩ := p.fresh rel hf nd
 have rel2 := (rel.ext p.same).ext s12
 have relk := rel2.weak (Qcw r.M ρ)
 have apn : ∀ a ∈ Gn, a ∉ F x := λ a ha hax => by
  rcases (gs a ha).2 with z | ⟨k, d', hk, ek, hak⟩
  ·obtain ⟨vs, w⟩ := rel.mem hx hax
   rw [z] at w; cases w
  ·have : k ≠ x := λ z => hxM (z ▸ hk)
   exact oap k d' true this ek a hax hak
 have memF : ∀ a ∈ F', a ∈ F x ∨ a ∈ Gn := λ a ha => by
  have h1 := cF a
  have h2 : 0 < F'.count a := Zap.mpr ha
  by_cases h : a ∈ F x
  ·exact .inl h
  ·rw [ZM.mpr h] at h1
   exact .inr (Zap.mp (by omega))
 have apart : ∀ (j : Nat) d' b, j ≠ x -> (kill r.M ρ)[j]? = some (some (d', b)) -> ∀ a ∈ F', a ∉ F j := λ j d' b hj e a ha haj => by
  obtain ⟨b', e', _⟩ := (Qcw r.M ρ).2 j d' b e
  rcases memF a ha with h | h
  ·exact oap j d' b' hj e' a h haj
  ·rcases (gs a h).2 with z | ⟨k, d'', hk, ek, hak⟩
   ·obtain ⟨vs, w⟩ := rel.mem e' haj
    rw [z] at w; cases w
   ·have hjk : j ≠ k := λ z => by subst z; exact Qgi r.M ρ j d' b hk e
    exact (rel.own k d'' ek).2.2.2.1 j d' b' hjk e' a hak haj
 have apartH : ∀ t ∈ hs, ∀ a ∈ F', a ∉ t.2.2 := λ t ht a ha hat => by
  rcases memF a ha with h | h
  ·exact oh t ht a h hat
  ·rcases (gs a h).2 with z | ⟨k, d'', hk, ek, hak⟩
   ·obtain ⟨vs, w⟩ := (rel.held t ht).1.mem a hat
    rw [z] at w; cases w
   ·exact (rel.own k d'' ek).2.2.2.2 t ht a hak hat
 have nqj : ∀ (j : Nat) d' b, j ≠ x -> ρ[j]? = some (some (d', b)) -> q ∉ F j := λ j d' b hj e h => oap j d' b hj e q e5 h
 have nF' : F'.Nodup := Zat.mpr λ a => by
  have h1 := cF a
  have h2 := Zat.mp on a
  have h3 := Zat.mp gn a
  by_cases h : a ∈ Gn
  ·rw [ZM.mpr (apn a h)] at h1; omega
  ·rw [ZM.mpr h] at h1; omega
 have lt : ∀ {j : Nat} {z : Option (D × Bool)} {y : D × Bool}, ((kill r.M ρ).set j z)[j]? = some (some y) -> j < (kill r.M ρ).length := λ {j z y} e => by
  by_cases hl : j < (kill r.M ρ).length
  ·exact hl
  ·rw [Zo (by simp; omega)] at e; cases e
 refine ⟨λ j => if j = x then F' else F j, by simp [relk.len], λ j d' b e => ?_, λ j d' e => ?_, λ j d' b e a ha => ?_, λ t ht => ⟨(relk.held t ht).1.upd e1 λ h => oh t ht q e5 h, (relk.held t ht).2⟩, λ b o hb => ?_⟩
 ·by_cases hj : j = x
  ·subst hj
   have hl := lt e
   rw [Zy hl] at e
   cases e
   exact ⟨v0, hv0, by rw [if_pos rfl]; exact f1⟩
  ·rw [Zj (Ne.symm hj)] at e
   obtain ⟨w, h1, h2⟩ := relk.val j d' b e
   obtain ⟨b', e', _⟩ := (Qcw r.M ρ).2 j d' b e
   exact ⟨w, h1, by rw [if_neg hj]; exact h2.upd e1 (nqj j d' b' hj e')⟩
 ·by_cases hj : j = x
  ·subst hj
   have hl := lt e
   rw [Zy hl] at e
   cases e
   rw [if_pos rfl]
   refine ⟨f2, nF', λ a ha => ?_, λ k d'' b hk ek a ha => ?_, apartH⟩
   ·rcases memF a ha with h | h
    ·exact o0 a h
    ·exact (gs a h).1
   ·rw [Zj (Ne.symm hk)] at ek
    rw [if_neg hk]
    exact apart k d'' b hk ek a ha
  ·rw [Zj (Ne.symm hj)] at e
   obtain ⟨h1, h2, h3, h4, h5⟩ := relk.own j d' e
   rw [if_neg hj]
   refine ⟨h1, h2, h3, λ k d'' b hk ek a ha => ?_, h5⟩
   by_cases hki : k = x
   ·subst hki
    rw [if_pos rfl]
    exact λ hG => apart j d' true hj e a hG ha
   ·rw [Zj (Ne.symm hki)] at ek
    rw [if_neg hki]
    exact h4 k d'' b hk ek a ha
 ·by_cases hj : j = x
  ·subst hj
   rw [if_pos rfl] at ha
   rcases memF a ha with h | h
   ·exact .inl (o0 a h)
   ·exact .inl (gs a h).1
  ·rw [Zj (Ne.symm hj)] at e
   rw [if_neg hj] at ha
   exact relk.src j d' b e a ha
 ·have hbq : b ≠ q := λ z => by rw [z, o0 q e5] at hb; cases hb
  rw [QO hbq]
  exact relk.same b o hb
end
noncomputable abbrev DP := En -> Option (List Int)
noncomputable def Qam : DP := λ _ => some []
noncomputable def QcE (p : DP) (fb : DE) : DP := λ ρ => (p ρ).bind λ is => (fb ρ).bind λ r => match r.d with
 | .int i => some (is ++ [i])
 | _ => none
noncomputable def tP (K : PySem.W.Frag) (H0 : Hp) (A0 : List Addr) (x : Nat) (pf : DP) : TE := λ σ H Q => ∃ ρ hs F d b is dm, Rel K H0 A0 hs ρ F σ H /\ ρ[x]? = some (some (d, b)) /\ pf ρ = some is /\ Qa8 d is = some dm ∧
 ∀ v0 v H' Gm, QK H H' -> σ[x]? = some (some v0) -> Focus K H' is d v0 (F x) dm v Gm -> Q v H'
def SPa (X : Cx) (e : Expr) (x : Nat) (pf : DP) : Prop := ∀ H0 A0, PE X e (tP X.K H0 A0 x pf)
section
variable {X : Cx} {a b e : Expr} {fa fb : DE} {pf : DP} {x : Nat} {pos : Pos}
theorem Qrs {y : Str} (h : PE X (.Name y pos) (QlF x)) : SPa X (.Name y pos) x Qam := λ H0 A0 => h.mono λ σ H Q ⟨ρ, hs, F, d, b, is, dm, rel, hx, hp, hd, q⟩ => by
 cases hp
 cases hd
 obtain ⟨v, h1, h2⟩ := rel.val x d b hx
 exact ⟨v, h1, q v v H (F x) (QK.refl _) h1 ⟨rfl, rfl, rfl, h2⟩⟩
theorem Qti (ha : SPa X a x pf) (hb : SE X b fb) (hs : QgY b) : SPa X (.Subscript a b pos) x (QcE pf fb) := λ H0 A0 =>
 (Qr1 (Qnl.or QoB) (ha H0 A0) (hb H0 A0) hs).mono λ σ H Q ⟨ρ, hs, F, d, b', is, dm, rel, hx, hp, hd, q⟩ => by
  obtain ⟨is', e1, hp⟩ := bind1 hp
  obtain ⟨r, e2, hp⟩ := bind1 hp
  cases hr : r.d with
  | int i =>
   rw [hr] at hp
   cases hp
   obtain ⟨dn, ds, g1, g2, g3⟩ := Qia hd
   refine ⟨ρ, hs, F, d, b', is', dn, rel, hx, e1, g1, λ v0 w H1 Gm s1 hv fo => ⟨ρ, hs, F, r, rel.ext s1, e2, λ u H2 G p2 => ?_⟩⟩
   have rp := p2.rp
   rw [hr] at rp
   rw [rp.int_inv]
   have fo2 := fo.same p2.same
   obtain ⟨c, vs, v', G', rfl, hc, h3, h4⟩ := Focus.one fo2.rp g2 g3
   have fin := q v0 v' H2 G' (s1.trans p2.same) hv (fo2.snoc h4)
   rcases hc with ⟨_, hc⟩ | ⟨_, hc⟩
   ·exact .inl ⟨c, vs, i, v', rfl, rfl, hc, h3, fin⟩
   ·exact .inr ⟨c, vs, i, v', rfl, rfl, hc, h3, fin⟩
  | _ => rw [hr] at hp; cases hp
noncomputable def Qa4 (x : Nat) (pf : DP) (fi fa : DE) : DS := λ ρ => (fa ρ).bind λ r0 => match ρ[x]? with
 | some (some (d, true)) => (pf ρ).bind λ is => (fi ρ).bind λ ri => match ri.d, Qa8 d is with
  | .int k, some (.lst ds) => (ixN ds.length k).bind λ j => if r0.norm.fr && decide r0.norm.M.Nodup && !r0.norm.M.contains x then some (.nx ((kill r0.norm.M ρ).set x (some (QaN is d (.lst (ds.set j r0.d)), true)))) else
   if is.isEmpty && !r0.norm.M.contains x then some (.nx ((Qa5 r0.norm.M ρ).set x (some (.lst (ds.set j r0.d), false)))) else
   none
  | _, _ => none
 | _ => none
theorem set_mk {K : PySem.W.Frag} {H2 : Hp} {q : Addr} {dsm : List D} {vsm : List V} {Gp Gn : List Addr} {j : Nat} {dn : D} {vn : V} (hq : H2 q = some (.lst vsm)) (rs : Rps K H2 dsm vsm Gp) (hl : Gp.length = nls dsm) (nq : q ∉ Gp) (nqn : q ∉ Gn) (hn : Rp K H2 dn vn Gn) (hnl : Gn.length = dn.nl) (hj : j < dsm.length) :
  ∃ G', Rps K (upd H2 q (.lst (vsm.set j vn))) (dsm.set j dn) (vsm.set j vn) G' /\ G'.length = nls (dsm.set j dn) /\ ∀ a, G'.count a <= Gp.count a + Gn.count a := by
 obtain ⟨F1, G, F2, v, e1, e2, h1, h2, h3⟩ := rs.split (j := j) (d := dsm[j]) (by simp [hj])
 subst e1
 have hjv : j < vsm.length := by rw [← rs.length]; exact hj
 have n1 : q ∉ F1 := λ h => nq (Zg _ h)
 have n2 : q ∉ F2 := λ h => nq (Ze _ (Ze _ h))
 refine ⟨F1 ++ (Gn ++ F2), Rps.Qr0 (h1.upd hq n1) (hn.upd hq nqn) (h3.upd hq n2) hj hjv, ?_, λ a => ?_⟩
 ·have := Qg1 (ds := dsm) (j := j) (d := dsm[j]) (e := dn) (by simp [hj])
  have l1 := h1.QaE
  have l2 := h2.QaE
  have l3 := h3.QaE
  have e1 : nls (dsm.take j) + ((dsm[j]).nl + nls (dsm.drop (j + 1))) = nls dsm := by
   have e2 := congrArg nls (Zbd j dsm)
   rw [Qd1, Zao hj] at e2
   simpa only [nls] using e2
  simp only [Zq] at hl ⊢
  omega
 ·simp only [Zad]; omega
theorem Q0.Qkm {K : PySem.W.Frag} {ρ : En} {F : Nat -> List Addr} {H H1 H2 : Hp} {r : R} {v : V} {G : List Addr} (p : Q0 K ρ F H H1 r v G) (s : QK H1 H2) : Q0 K ρ F H H2 r v G := ⟨p.same.trans s, p.rp.same s, p.src, p.cnt, p.own⟩
theorem QtQ {K : PySem.W.Frag} {H2 : Hp} {q : Addr} {dsm : List D} {vsm : List V} {Gp Gn : List Addr} {j : Nat} {dn : D} {vn : V} (hq : H2 q = some (.lst vsm)) (rs : Rps K H2 dsm vsm Gp) (nq : q ∉ Gp) (nqn : q ∉ Gn) (hn : Rp K H2 dn vn Gn) (hj : j < dsm.length) :
  ∃ G', Rps K (upd H2 q (.lst (vsm.set j vn))) (dsm.set j dn) (vsm.set j vn) G' /\ ∀ a ∈ G', a ∈ Gp ∨ a ∈ Gn := by
 obtain ⟨F1, G, F2, v, e1, e2, h1, h2, h3⟩ := rs.split (j := j) (d := dsm[j]) (by simp [hj])
 subst e1
 have hjv : j < vsm.length := by rw [← rs.length]; exact hj
 have n1 : q ∉ F1 := λ h => nq (Zg _ h)
 have n2 : q ∉ F2 := λ h => nq (Ze _ (Ze _ h))
 refine ⟨F1 ++ (Gn ++ F2), Rps.Qr0 (h1.upd hq n1) (hn.upd hq nqn) (h3.upd hq n2) hj hjv, λ a ha => ?_⟩
 rcases ZF.mp ha with h | h
 ·exact .inl (Zg _ h)
 ·rcases ZF.mp h with h | h
  ·exact .inr h
  ·exact .inl (Ze _ (Ze _ h))
theorem Qg8 : ∀ (M : List Nat) (ρ : En) (x : Nat), x ∉ M -> (Qa5 M ρ)[x]? = ρ[x]?
 | [], ρ, x, _ => rfl
 | i :: M, ρ, x, h => by
  have hi : i ≠ x := λ e => h (e ▸ Zi)
  unfold Qa5
  rw [Qg8 M _ x λ e => h (Zc _ e)]
  split
  ·rw [Zj hi]
  ·rfl
theorem Rel.QwO {K : PySem.W.Frag} {H0 H : Hp} {A0 : List Addr} {hs : List (V × D × List Addr)} {ρ : En} {F : Nat -> List Addr} {σ : L2.St} (rel : Rel K H0 A0 hs ρ F σ H) {x : Nat} {d : D} (hx : ρ[x]? = some (some (d, true))) {Gn : List Addr} (sh : Shr H0 A0 ρ F Gn) {v0 : V} (hv0 : σ[x]? = some (some v0))
  {dnew : D} {q : Addr} {G' : List Addr} {vsm vs' : List V} (e1 : H q = some (.lst vsm)) (e5 : q ∈ F x) (f1 : Rp K (upd H q (.lst vs')) dnew v0 G') (mem : ∀ a ∈ G', a ∈ F x ∨ a ∈ Gn) :
  ∃ F', Rel K H0 A0 hs (ρ.set x (some (dnew, false))) F' σ (upd H q (.lst vs')) := by
 obtain ⟨ol, on, o0, oap, oh⟩ := rel.own x d hx
 have lt : ∀ {j : Nat} {z : Option (D × Bool)} {y : D × Bool}, (ρ.set j z)[j]? = some (some y) -> j < ρ.length := λ {j z y} e => by
  by_cases hl : j < ρ.length
  ·exact hl
  ·rw [Zo (by simp; omega)] at e; cases e
 refine ⟨λ j => if j = x then G' else F j, by simp [rel.len], λ j d' b e => ?_, λ j d' e => ?_, λ j d' b e a ha => ?_, λ t ht => ⟨(rel.held t ht).1.upd e1 λ h => oh t ht q e5 h, (rel.held t ht).2⟩, λ b o hb => ?_⟩
 ·by_cases hj : j = x
  ·subst hj
   have hl := lt e
   rw [Zy hl] at e
   cases e
   exact ⟨v0, hv0, by rw [if_pos rfl]; exact f1⟩
  ·rw [Zj (Ne.symm hj)] at e
   obtain ⟨w, h1, h2⟩ := rel.val j d' b e
   exact ⟨w, h1, by rw [if_neg hj]; exact h2.upd e1 λ h => oap j d' b hj e q e5 h⟩
 ·by_cases hj : j = x
  ·subst hj
   have hl := lt e
   rw [Zy hl] at e
   cases e
  ·rw [Zj (Ne.symm hj)] at e
   obtain ⟨h1, h2, h3, h4, h5⟩ := rel.own j d' e
   rw [if_neg hj]
   refine ⟨h1, h2, h3, λ k d'' b hk ek a ha => ?_, h5⟩
   by_cases hki : k = x
   ·subst hki
    rw [if_pos rfl]
    intro hG
    rcases mem a hG with h | h
    ·exact h4 k d true (Ne.symm hj) hx a ha h
    ·exact (sh a h).2 j d' e ha
   ·rw [Zj (Ne.symm hki)] at ek
    rw [if_neg hki]
    exact h4 k d'' b hk ek a ha
 ·by_cases hj : j = x
  ·subst hj
   rw [if_pos rfl] at ha
   rcases mem a ha with h | h
   ·exact .inl (o0 a h)
   ·exact (sh a h).1
  ·rw [Zj (Ne.symm hj)] at e
   rw [if_neg hj] at ha
   exact rel.src j d' b e a ha
 ·have hbq : b ≠ q := λ z => by rw [z, o0 q e5] at hb; cases hb
  rw [QO hbq]
  exact rel.same b o hb
theorem Qu7 {i : Expr} {pos' : Pos} {fi : DE} (hv : SE X e fa) (ho : SPa X a x pf) (hi : SE X i fi)
  (h : ∀ te to ti, PE X e te -> PE X a to -> PE X i ti -> PS X (.Assign [.Subscript a i pos'] e pos) (Qk7 te (L2.Qaq to ti Qr4))) : S1 X (.Assign [.Subscript a i pos'] e pos) (Qa4 x pf fi fa) := λ H0 A0 =>
 (h _ _ _ (hv H0 A0) (ho H0 A0) (hi H0 A0)).mono λ E σ H ⟨ρ, hs, F, o, rel, e, q⟩ => by
  obtain ⟨r0, e1, e⟩ := bind1 e
  split at e
  ·rename_i d hx
   obtain ⟨is, e2, e⟩ := bind1 e
   obtain ⟨ri, e3, e⟩ := bind1 e
   split at e
   ·rename_i k ds hk hp
    obtain ⟨j, e4, e⟩ := bind1 e
    split at e
    ·rename_i hc
     cases e
     simp only [Zl, decide_eq_true_eq, ZaE] at hc
     obtain ⟨⟨c1, c2⟩, c3⟩ := hc
     have c3 : x ∉ r0.norm.M := λ h => by rw [Zbe.mpr h] at c3; cases c3
     refine ⟨ρ, hs, F, r0, rel, e1, λ vn H1 Gn p => ⟨ρ, hs, F, d, true, is, .lst ds, rel.ext p.same, hx, e2, hp, λ v0 w H2 Gm s2 hv0 fo => ⟨ρ, hs, F, ri, (rel.ext p.same).ext s2, e3, λ u H3 Gi pi => ?_⟩⟩⟩
     have p' := (p.norm.Qkm s2).Qkm pi.same
     have fo3 := fo.same pi.same
     have rpi := pi.rp
     rw [hk] at rpi
     rw [rpi.int_inv]
     obtain ⟨l, ws, L, rfl, _⟩ := fo3.rp.lst_inv
     obtain ⟨ol, on, _, oap, _⟩ := rel.own x d hx
     have hjl := (Qfo e4).2.1
     obtain ⟨gn, gs⟩ := p'.fresh rel c1 c2
     have rn := p'.rp
     rw [r0.QcS] at rn
     have hnl := (p'.cnt c1).2
     rw [r0.QcS] at hnl
     obtain ⟨vsm, _, f1, _⟩ := fo3.mut (vs' := []) (ds' := []) (G' := []) on ol
     obtain ⟨_, _, _, _, _, _, zl, _⟩ := fo3.rp.lst_inv
     have key : ∃ F', Rp X.K (upd H3 l (.lst (vsm.set j vn))) (QaN is d (.lst (ds.set j r0.d))) v0 F' /\ F'.length = (QaN is d (.lst (ds.set j r0.d))).nl /\ l ∈ F x /\ ds.length = vsm.length /\ ∀ a, F'.count a <= (F x).count a + Gn.count a := by
      have own5 : ∀ G', _ := λ G' => fo3.mut (vs' := vsm.set j vn) (ds' := ds.set j r0.d) (G' := G') on ol
      obtain ⟨vs1, Gp, g1, g2, g3, g4, g5, g6, g7, _⟩ := own5 []
      rw [f1] at g1; cases g1
      have hq : l ∉ Gn := λ h => by
       rcases (gs l h).2 with z | ⟨k', d', hk', ek, hak⟩
       ·obtain ⟨vs, w⟩ := rel.mem hx g5
        rw [z] at w; cases w
       ·exact oap k' d' true (λ z => c3 (z ▸ hk')) ek l g5 hak
      obtain ⟨G', m1, m2, m3⟩ := set_mk f1 g3 g4 g7 hq rn hnl hjl
      obtain ⟨vs2, Gp2, k1, k2, k3, k4, k5, k6, k7, k8⟩ := own5 G'
      have eG : Gp2 = Gp := by rw [g2] at k2; exact (List.cons.inj k2).2.symm
      subst eG
      obtain ⟨F', h1, h2, h3⟩ := k8 m1 (by rw [ZaS]; exact zl) m2
      exact ⟨F', h1, h2, g5, g3.length, λ a => by have := h3 a; have := m3 a; omega⟩
     obtain ⟨F', k1, k2, k3, k4, k5⟩ := key
     refine ⟨l, vsm, k, j, rfl, rfl, f1, by rw [← k4]; exact e4, ?_⟩
     obtain ⟨F'', rel'⟩ := rel.mut p' c1 c2 (QK.refl _) hx c3 hv0 f1 k3 k1 k2 k5
     exact q _ _ F'' rel'
    ·
     split at e
     ·rename_i hc
      cases e
      simp only [Zl, ZaE, List.isEmpty_iff] at hc
      obtain ⟨rfl, c3⟩ := hc
      have c3 : x ∉ r0.norm.M := λ h => by rw [Zbe.mpr h] at c3; cases c3
      refine ⟨ρ, hs, F, r0, rel, e1, λ vn H1 Gn p => ⟨ρ, hs, F, d, true, [], .lst ds, rel.ext p.same, hx, e2, hp, λ v0 w H2 Gm s2 hv0 fo => ⟨ρ, hs, F, ri, (rel.ext p.same).ext s2, e3, λ u H3 Gi pi => ?_⟩⟩⟩
      have p' := (p.norm.Qkm s2).Qkm pi.same
      have fo3 := fo.same pi.same
      have rpi := pi.rp
      rw [hk] at rpi
      rw [rpi.int_inv]
      obtain ⟨l, ws, L, rfl, _⟩ := fo3.rp.lst_inv
      obtain ⟨ol, on, _, oap, _⟩ := rel.own x d hx
      have hjl := (Qfo e4).2.1
      have rn := p'.rp
      rw [r0.QcS] at rn
      obtain ⟨vsm, Gp, f1, g2, g3, g4, g5, g6, g7, _⟩ := fo3.mut (vs' := []) (ds' := []) (G' := []) on ol
      obtain ⟨_, _, _, _, _, _, zl, _⟩ := fo3.rp.lst_inv
      have sh := Shr.of rel p'.src
      have relD := (rel.ext p'.same).weak (Qbs r0.norm.M ρ)
      have hxD : (Qa5 r0.norm.M ρ)[x]? = some (some (d, true)) := by rw [Qg8 _ _ _ c3]; exact hx
      have hq : l ∉ Gn := λ h => (sh l h).2 x d hxD g5
      obtain ⟨G', m1, m3⟩ := QtQ f1 g3 g7 hq rn hjl
      have e0 : v0 = .ref l := (fo3.2.1).symm
      subst e0
      refine ⟨l, vsm, k, j, rfl, rfl, f1, by rw [← g3.length]; exact e4, ?_⟩
      obtain ⟨F'', rel'⟩ := relD.QwO (dnew := .lst (ds.set j r0.d)) (G' := l :: G') (vs' := vsm.set j vn) hxD sh hv0 f1 g5 (Rp.Qel Qay m1 (by rw [ZaS]; exact zl)) λ a ha => by
       rcases Zv.mp ha with h | h
       ·exact .inl (h ▸ g5)
       ·rcases m3 a h with h | h
        ·exact .inl (g6 a h)
        ·exact .inr h
      exact q _ _ F'' rel'
     ·
      cases e
   ·cases e
  ·cases e
end
end HS
namespace HS
open PySem PySem.Spec L2
section
variable {K : PySem.W.Frag} {H0 H H1 H2 H3 : Hp} {A0 : List Addr} {hs : List (V × D × List Addr)} {ρ : En} {F : Nat -> List Addr} {σ : L2.St}
theorem Rel.write (rel : Rel K H0 A0 hs ρ F σ H) {r : R} {vn : V} {Gn : List Addr} (p : Q0 K ρ F H H3 r vn Gn) (hf : r.fr = true) (nd : r.M.Nodup) {x : Nat} {d : D} (hx : ρ[x]? = some (some (d, true))) (hxM : x ∉ r.M) {v0 w : V} (hv0 : σ[x]? = some (some v0))
  {is : List Int} {ds : List D} {Gm : List Addr} (fo : Focus K H3 is d v0 (F x) (.lst ds) w Gm) :
  ∃ l vsm Gp, w = .ref l /\ H3 l = some (.lst vsm) /\ Rps K H3 ds vsm Gp /\ Gp.length = nls ds /\ l ∉ Gp /\ l ∉ Gn /\ ds.length <= sizeLine ∧
   ∀ ds' vs' G', Rps K (upd H3 l (.lst vs')) ds' vs' G' -> ds'.length <= sizeLine -> G'.length = nls ds' -> (∀ a, G'.count a <= Gp.count a + Gn.count a) →
    ∃ F', Rel K H0 A0 hs ((kill r.M ρ).set x (some (QaN is d (.lst ds'), true))) F' σ (upd H3 l (.lst vs')) := by
 obtain ⟨l, ws, L, rfl, _, _, zl, _⟩ := fo.rp.lst_inv
 obtain ⟨ol, on, _, oap, _⟩ := rel.own x d hx
 obtain ⟨gn, gs⟩ := p.fresh rel hf nd
 obtain ⟨vsm, Gp, g1, g2, g3, g4, g5, g6, g7, _⟩ := fo.mut (vs' := []) (ds' := []) (G' := []) on ol
 have hq : l ∉ Gn := λ h => by
  rcases (gs l h).2 with z | ⟨k', d', hk', ek, hak⟩
  ·obtain ⟨vs, w⟩ := rel.mem hx g5
   rw [z] at w; cases w
  ·exact oap k' d' true (λ z => hxM (z ▸ hk')) ek l g5 hak
 refine ⟨l, vsm, Gp, rfl, g1, g3, g4, g7, hq, zl, λ ds' vs' G' m1 m2 m3 m4 => ?_⟩
 obtain ⟨vs2, Gp2, k1, k2, k3, k4, k5, k6, k7, k8⟩ := fo.mut (vs' := vs') (ds' := ds') (G' := G') on ol
 have eG : Gp2 = Gp := by rw [g2] at k2; exact (List.cons.inj k2).2.symm
 subst eG
 obtain ⟨F', h1, h2, h3⟩ := k8 m1 m2 m3
 exact rel.mut p hf nd (QK.refl _) hx hxM hv0 g1 g5 h1 h2 λ a => by have := h3 a; have := m4 a; omega
end
section
variable {X : Cx} {a b e : Expr} {fa fb : DE} {pf : DP} {x : Nat} {pos apos : Pos}
noncomputable def Qko (r : R) (x : Nat) : Bool := r.norm.fr && decide r.norm.M.Nodup && !r.norm.M.contains x
theorem Qp3 {r : R} {x : Nat} (h : Qko r x = true) : r.norm.fr = true /\ r.norm.M.Nodup /\ x ∉ r.norm.M := by
 unfold Qko at h
 simp only [Zl, decide_eq_true_eq, ZaE] at h
 exact ⟨h.1.1, h.1.2, λ z => by rw [Zbe.mpr z] at h; cases h.2⟩
noncomputable def Qh3 (x : Nat) (pf : DP) (fa : DE) : DS := λ ρ => match ρ[x]? with
 | some (some (d, true)) => (pf ρ).bind λ is => (fa ρ).bind λ r0 => match Qa8 d is with
  | some (.lst ds) => if Qko r0 x && decide (ds.length < sizeLine) then some (.nx ((kill r0.norm.M ρ).set x (some (QaN is d (.lst (ds ++ [r0.d])), true)))) else none
  | _ => none
 | _ => none
theorem QrH {H0 : Hp} {A0 : List Addr} {E : Ends} {σ : L2.St} {H : Hp} : tS X.K H0 A0 (Qh3 x pf fa) E σ H -> Qkx (tBM X.K "list" QmY (tP X.K H0 A0 x pf) (QnG (tV X.K H0 A0 fa) Qop)) E σ H := λ ⟨ρ, hs, F, o, rel, e, q⟩ => by
 unfold Qh3 at e
 split at e
 ·rename_i d hx
  obtain ⟨is, e2, e⟩ := bind1 e
  obtain ⟨r0, e1, e⟩ := bind1 e
  split at e
  ·rename_i ds hp
   split at e
   ·rename_i hc
    simp only [Zl, decide_eq_true_eq] at hc
    obtain ⟨c1, c2, c3⟩ := Qp3 hc.1
    cases e
    refine ⟨ρ, hs, F, d, true, is, .lst ds, rel, hx, e2, hp, λ v0 w H2 Gm s2 hv0 fo => ?_⟩
    have ty : tyV X.K "list" w H2 := by
     obtain ⟨l, ws, L, rfl, hl, _⟩ := fo.rp.lst_inv
     exact .inl ⟨rfl, ws, QX hl⟩
    refine ⟨ty, ρ, hs, F, r0, rel.ext s2, e1, λ vn H3 Gn p => ?_⟩
    have p' := p.norm
    obtain ⟨l, vsm, Gp, rfl, g1, g2, g3, g4, g5, g6, g7⟩ := (rel.ext s2).write p' c1 c2 hx c3 hv0 (fo.same p.same)
    refine ⟨l, vsm, vn, rfl, rfl, g1, by rw [← g2.length]; exact hc.2, ?_⟩
    have rn := p'.rp
    rw [r0.QcS] at rn
    have hnl := (p'.cnt c1).2
    rw [r0.QcS] at hnl
    have rw1 : Rps X.K (upd H3 l (.lst (vsm ++ [vn]))) [r0.d] [vn] Gn := by
     simp only [Rps]
     exact ⟨vn, [], Gn, [], rfl, by simp, rn.upd g1 g5, rfl, rfl⟩
    obtain ⟨F', rel'⟩ := g7 (ds ++ [r0.d]) (vsm ++ [vn]) (Gp ++ Gn) ((g2.upd g1 g4).append rw1) (by rw [Zq, Zbc]; omega) (by rw [Zq, Qd1, g3, hnl]; simp [nls]) (λ a => by rw [Zad]; omega)
    exact q _ _ F' rel'
   ·cases e
  ·cases e
 ·cases e
open PyProof.Rows in
theorem QoA : QuO X (Qt2 X.K) := by
 intro pins s σ H o i ov iv Q I ro ri h
 obtain ⟨p, xs, k, v, rfl, rfl, hq, ha, q⟩ := h
 cases ro
 obtain ⟨t, rfl⟩ := ri
 obtain ⟨its, r, pl, hz⟩ := I.list hq
 obtain ⟨j, h1, h2, h3, h4, h5⟩ := Qjj ha
 obtain ⟨w, ew, rw'⟩ := r.get h2
 have hl := r.length
 have hn := Qfg
 by_cases h0 : 0 <= k
 ·refine wpAny_getItem_list pl.isList h0 (by omega) (x := w) ?_ ⟨v, H, I, rw', q⟩
  have : k.toNat = j := by
   rw [seqIndex_of h0 h5] at h1
   exact Option.some.inj h1
  rw [this]; simpa using ew
 ·refine wpAny_getItem_list_neg pl.isList (by omega) (by rw [Zt] <;> omega) (by omega) (x := w) ?_ ⟨v, H, I, rw', q⟩
  have hj : (k + (its.toArray.size : Int)).toNat = j := by
   rw [seqIndex_neg (by omega) h4] at h1
   rw [Zt, ← hl]
   exact Option.some.inj h1
  rw [hj]; simpa using ew
noncomputable def Qdl (g : D -> D -> Option D) (x : Nat) (pf : DP) (fi fa : DE) : DS := λ ρ => match ρ[x]? with
 | some (some (d, true)) => (pf ρ).bind λ is => (fi ρ).bind λ ri => match ri.d, Qa8 d is with
  | .int k, some (.lst ds) => (ixN ds.length k).bind λ j => (ds[j]?).bind λ old => (fa ρ).bind λ r => (g old r.d).map λ new => .nx (ρ.set x (some (QaN is d (.lst (ds.set j new)), true)))
  | _, _ => none
 | _ => none
theorem Qsu {op : Operator} {i : Expr} {pos' : Pos} {fi : DE} {g : D -> D -> Option D} {r : R2} (ho : OpR X (inplaceOp op) r) (hg : QbS X.K g r) (hv : SE X e fa) (hp : SPa X a x pf) (hi : SE X i fi)
  (ha : ∀ ov iv new, augStore i ov iv new = (do holding [new, ov, iv] (setItem ov iv new); release [new, ov, iv] []; pure .next)) : S1 X (.AugAssign (.Subscript a i pos') op e pos) (Qdl g x pf fi fa) := λ H0 A0 =>
 (QtT (hp H0 A0) (hi H0 A0) QoA (hv H0 A0) (λ pins s σ H x y v u Q I rx ry q => QwQ ho I rx ry q) set_list ha).mono λ E σ H ⟨ρ, hs, F, o, rel, e, q⟩ => by
  unfold Qdl at e
  split at e
  ·rename_i d hx
   obtain ⟨is, e2, e⟩ := bind1 e
   obtain ⟨ri, e3, e⟩ := bind1 e
   split at e
   ·rename_i k ds hk hp'
    obtain ⟨j, e4, e⟩ := bind1 e
    obtain ⟨old, e5, e⟩ := bind1 e
    obtain ⟨rv, e6, e⟩ := bind1 e
    obtain ⟨new, e7, e⟩ := Zd.mp e
    subst e
    have hjl := (Qfo e4).2.1
    refine ⟨ρ, hs, F, d, true, is, .lst ds, rel, hx, e2, hp', λ v0 w H2 Gm s2 hv0 fo => ⟨ρ, hs, F, ri, rel.ext s2, e3, λ u H3 Gi pi => ?_⟩⟩
    have fo3 := fo.same pi.same
    have rpi := pi.rp
    rw [hk] at rpi
    rw [rpi.int_inv]
    have at3 : atI ds k = some old := by unfold atI; rw [e4]; exact e5
    obtain ⟨l, vs, v', Go, rfl, hc, h3, h4⟩ := Focus.one fo3.rp rfl at3
    have hc : SqL X.K H3 l vs := by
     rcases hc with ⟨_, hc⟩ | ⟨hc, _⟩
     ·exact hc
     ·cases hc
    refine ⟨l, vs, k, v', rfl, rfl, hc, h3, ρ, hs, F, rv, (rel.ext s2).ext pi.same, e6, λ y H4 G4 p4 => ?_⟩
    have fo4 := fo3.same p4.same
    have ro := h4.rp.same p4.same
    refine (hg _ _ _ e7).2 H4 v' y Go G4 _ ro p4.rp λ z hz => ?_
    have rel4 := ((rel.ext s2).ext pi.same).ext p4.same
    have pz : Q0 X.K ρ F H4 H4 ⟨new, true, []⟩ z [] := .flat (QK.refl _) (hz H4) (hg _ _ _ e7).1
    obtain ⟨l', vsm, Gp, el, g1, g2, g3, g4, g5, g6, g7⟩ := rel4.write pz rfl Zay hx (by simp) hv0 fo4
    cases el
    refine ⟨l, vsm, k, j, rfl, rfl, g1, by rw [← g2.length]; exact e4, ?_⟩
    obtain ⟨G', m1, m2, m3⟩ := set_mk g1 g2 g3 g4 g5 (hz H4) (QdC new (hg _ _ _ e7).1).symm hjl
    obtain ⟨F', rel'⟩ := g7 _ _ G' m1 (by rw [ZaS]; exact g6) m2 m3
    exact q _ _ F' rel'
   ·cases e
  ·cases e
end
end HS
namespace HS
open PySem PySem.Spec L2 PyProof.Rows
noncomputable def D.QrW : D -> Option Int
 | .int i => some i
 | _ => none
noncomputable def QdY : List D -> Option (List Int)
 | [] => some []
 | d :: ds => (d.QrW).bind λ i => (QdY ds).map λ r => i :: r
theorem QdO : ∀ {ds : List D} {ns : List Int}, QdY ds = some ns -> ds = ns.map .int
 | [], _, h => by cases h; rfl
 | d :: ds, ns, h => by
  unfold QdY at h
  obtain ⟨i, h1, h⟩ := bind1 h
  obtain ⟨r, h2, rfl⟩ := Zd.mp h
  cases d with
  | int j => cases h1; rw [QdO h2]; rfl
  | _ => cases h1
theorem QhQ : ∀ (ns : List Int), QdY (ns.map D.int) = some ns
 | [] => rfl
 | n :: ns => by simp [QdY, QhQ ns, D.QrW]
theorem Rps.ints {K : PySem.W.Frag} {H : Hp} : ∀ {ns : List Int} {vs : List V} {F : List Addr}, Rps K H (ns.map .int) vs F -> vs = ns.map .int
 | [], _, _, h => by simp only [List.map_nil, Rps] at h; rw [h.1]; rfl
 | n :: ns, _, _, h => by
  simp only [ZG, Rps] at h
  obtain ⟨v, ws, F1, F2, rfl, rfl, r, q⟩ := h
  rw [r.int_inv, Rps.ints q]; rfl
theorem Qcv {ns : List Int} {us : List Value} (h : Qy (ns.map V.int) us) : IntsAre us ns := intsAre_of h
section
variable {X : Cx} {a b e : Expr} {es : List Expr} {fa fb : DE} {fs : DA} {pos p2 : Pos}
theorem Qvz {k : Expr} {te tk : TE} (he : PE X e te) (hk : PE X k tk) : PE X (.Subscript e (.Slice none none (some k) p2) pos)
  (λ σ H Q => te σ H λ x H1 => tk σ H1 λ y H2 => ∃ a xs, x = .ref a /\ y = .int (-1) /\ SqL X.K H2 a xs /\ ∀ p, H2 p = none -> Q (.ref p) (upd H2 p (.lst xs.reverse))) := by
 intro pins s σ H Q I h
 refine PyProof.Rows.Subscript_ (thn (he pins s σ H _ I h) λ v s1 ⟨x, H1, I1, r1, q1⟩ => ?_)
 refine wpAny_Slice ?_
 rw [evalPart_none]
 refine wpAny_pure (wpAny_pure ?_)
 rw [evalPart_some]
 refine thn (hk pins s1 σ H1 _ I1 q1) λ vk s3 ⟨y, H3, I3, r3, q3⟩ => ?_
 obtain ⟨c, xs, rfl, rfl, hq, q⟩ := q3
 cases r1
 obtain ⟨t, rfl⟩ := r3
 have I4 : Inv X pins σ H3 { s3 with heap := s3.heap.push { cls := .type "slice", data := .fields #[.none, .none, .int (-1) t] } } := I3.kept (t' := s3.toks) λ b ob q => Zb _ q
 obtain ⟨its, r, ht, hz⟩ := I4.list hq
 have hlen := r.length
 refine tail_any (ops := [.ref c, .ref s3.heap.objs.size]) ht.isList.typeIs slot_list_getitem.lookup ?_ (by with_unfolding_all rfl)
 refine wpAny_getItem_list_slice ht.isList (Heap.IsSliceOf.new ..) .none .none (.int (-1) t) (by simp) ?_ (by rw [Zt] <;> omega)
 rw [PySem.W.krv_pick]
 refine ⟨.ref _, _, I4.laid (t' := s3.toks) (o := .lst xs.reverse) (λ b ob q => Zb _ q) (Zk _) ?_, rfl, q _ (I4.hok.fresh (Zk _))⟩
 exact ⟨by rw [Zbl]; exact hz, its.reverse, 0, r.reverse, Zw _ rfl⟩
theorem Rps.rev {K : PySem.W.Frag} {H : Hp} : ∀ {ds : List D} {vs : List V} {F : List Addr}, Rps K H ds vs F -> ∃ G, Rps K H ds.reverse vs.reverse G /\ ∀ a ∈ G, a ∈ F
 | [], _, _, h => by simp only [Rps] at h; rw [h.1, h.2]; exact ⟨[], by simp [Rps], λ _ h => h⟩
 | d :: ds, _, _, h => by
  simp only [Rps] at h
  obtain ⟨v, ws, F1, F2, rfl, rfl, r, q⟩ := h
  obtain ⟨G, h1, h2⟩ := Rps.rev q
  refine ⟨G ++ F1, ?_, λ a ha => ?_⟩
  ·rw [ZaZ, ZaZ]
   refine h1.append ?_
   simp only [Rps]
   exact ⟨v, [], F1, [], rfl, by simp, r, rfl, rfl⟩
  ·rcases ZF.mp ha with z | z
   ·exact Ze _ (h2 a z)
   ·exact Zg _ z
noncomputable def QlI (fa fk : DE) : DE := λ ρ => (fa ρ).bind λ ra => (fk ρ).bind λ rk => match ra.d, rk.d with
 | .lst xs, .int (-1) => some (Qan xs.reverse ra.M)
 | _, _ => none
theorem Qu3 {k : Expr} {fk : DE} (ha : SE X a fa) (hk : SE X k fk) : SE X (.Subscript a (.Slice none none (some k) p2) pos) (QlI fa fk) := λ H0 A0 =>
 (Qvz (ha H0 A0) (hk H0 A0)).mono λ σ H Q ⟨ρ, hs, F, r', rel, e, q⟩ => by
  obtain ⟨ra, e1, e⟩ := bind1 e
  obtain ⟨rk, e2, e⟩ := bind1 e
  refine two rel e1 e2 λ x y H1 H2 G1 G2 p1 p2 => ?_
  split at e
  ·rename_i xs hra hrk
   cases e
   have rp := p1.rp.same p2.same
   have rk' := p2.rp
   rw [hra] at rp
   rw [hrk] at rk'
   obtain ⟨c, vs, L, rfl, hc, rl, zl, el⟩ := rp.lst_inv
   refine ⟨c, vs, rfl, rk'.int_inv, QX hc, λ p hp => ?_⟩
   obtain ⟨G, h1, h2⟩ := rl.rev
   refine q _ _ (p :: G) (Q0.Qan (p1.same.trans p2.same) hp h1 (by rw [Zbl]; exact zl) (λ z hz => p1.src z ?_) p1.own)
   rcases el with rfl | rfl
   ·exact Zc _ (h2 z hz)
   ·exact h2 z hz
  ·cases e
noncomputable def Qn6 (K : PySem.W.Frag) (C : List Int -> Int -> Prop) : List V -> Hp -> VK -> Prop := λ xs H Q => ∃ (p : Addr) (ns : List Int), xs = [.ref p] /\ (SqL K H p (ns.map V.int) ∨ SqT K H p (ns.map V.int)) /\ ns ≠ [] /\ ∀ M, C ns M -> Q (.int M) H
def Qh6 (ns : List Int) (M : Int) : Prop := M ∈ ns /\ ∀ a ∈ ns, M <= a
def isMax (ns : List Int) (M : Int) : Prop := M ∈ ns /\ ∀ a ∈ ns, a <= M
theorem Qd0 {us : List Value} {ns : List Int} (hi : IntsAre us ns) : ∃ xs : Array (Int × Tok), us.toArray = intItems xs /\ ns = xs.toList.map (·.1) := by
 obtain ⟨xs, e⟩ := hi.allInts.items
 exact ⟨xs, e, by rw [← hi.numsOf, ← nums_intItems, ← e]⟩
theorem Qlp {prog : Program} {w : World} {A : Around} {E : Value -> Shared -> Prop} {s : Shared} {l : Addr} {xs : Array (Int × Tok)} {Q : Value -> Shared -> Prop} (hh : A.handled = none) (hl : s.heap.IsTuple l (intItems xs)) (hne : 0 < xs.size)
  (h : ∀ v h' tk, (intItems xs)[argBest (λ i j => decide (numAt xs i < numAt xs j)) (xs.size - 1)]? = some v -> (∀ b o, s.heap.get? b = some o -> h'.get? b = some o) -> Q v { s with heap := h', toks := tk }) :
  wpAny (model prog w) A (call (.builtin "min") [.ref l]) Q E s := by
 have hlt : l < s.heap.objs.size := by obtain ⟨_, e, _⟩ := hl; exact Zs e
 refine call_min_walk (wpAny_pyIter_tuple hl ?_)
 refine ⟨_, [_, l], [_], _, _, _, _, rfl, Walks.tuple (A := A.in1) hh _ l (ZL hlt) (intItems xs), ⟨⟨_, Zw _ rfl, rfl, rfl⟩, hl.push _⟩, λ b hb => ?_, by simpa [intItems] using hne, CmpOf.ints_lt (numAt xs) (λ _ _ => intItems_at), λ v h' tk hP hk => ?_⟩
 ·show b < (s.heap.push _).objs.size
  rw [ZT]
  rcases Zv.mp hb with rfl | hb
  ·exact ZaO _
  ·rcases Zv.mp hb with rfl | hb
   ·exact ZaL hlt
   ·cases hb
 ·refine h v h' tk (by simpa [intItems] using hP) λ b o e => ?_
  refine hk b o (λ hm => ?_) (Zb _ e)
  rcases Zv.mp hm with e1 | hm
  ·exact absurd (e1 ▸ Zs e) (ZR _)
  ·cases hm
theorem Qpq (hc : X.calm = true) : QbU X (.builtin "min") (Qn6 X.K Qh6) := by
 intro pins s σ H xs us Q I r h
 obtain ⟨p, ns, rfl, hq, hne, q⟩ := h
 obtain ⟨u, rfl, rx⟩ := vals1 r
 cases rx
 rcases hq with hq | hq
 ·obtain ⟨its, r', pl, hz⟩ := I.list hq
  obtain ⟨ys, e, hns⟩ := Qd0 (Qcv r')
  have hl := pl.isList
  rw [e] at hl
  have hsz : 0 < ys.size := by
   rcases ZaV ys.size with z | z
   ·exact absurd (by rw [hns, ZaR]; exact Zae (by simpa using z)) hne
   ·exact z
  refine min_intList (I.ok.hd hc) hl hsz λ v h' tk hv hk => ?_
  obtain ⟨t, rfl⟩ := intItems_at hv
  obtain ⟨h1, h2⟩ := argBest_lt (numAt ys) (ys.size - 1)
  refine ⟨.int _, H, I.kept hk, ⟨t, rfl⟩, q _ ⟨?_, λ a ha => ?_⟩⟩
  ·rw [hns, numAt_eq]; exact getD_mem (by rw [Zh, ZS]; omega)
  ·rw [hns] at ha
   obtain ⟨j, hj, rfl⟩ := mem_getD ha
   rw [Zh, ZS] at hj
   rw [← numAt_eq]; exact h2 j (by omega)
 ·obtain ⟨its, r', pl, hz⟩ := I.tuple hq
  obtain ⟨ys, e, hns⟩ := Qd0 (Qcv r')
  have hl := pl
  rw [e] at hl
  have hsz : 0 < ys.size := by
   rcases ZaV ys.size with z | z
   ·exact absurd (by rw [hns, ZaR]; exact Zae (by simpa using z)) hne
   ·exact z
  refine Qlp (I.ok.hd hc) hl hsz λ v h' tk hv hk => ?_
  obtain ⟨t, rfl⟩ := intItems_at hv
  obtain ⟨h1, h2⟩ := argBest_lt (numAt ys) (ys.size - 1)
  refine ⟨.int _, H, I.kept hk, ⟨t, rfl⟩, q _ ⟨?_, λ a ha => ?_⟩⟩
  ·rw [hns, numAt_eq]; exact getD_mem (by rw [Zh, ZS]; omega)
  ·rw [hns] at ha
   obtain ⟨j, hj, rfl⟩ := mem_getD ha
   rw [Zh, ZS] at hj
   rw [← numAt_eq]; exact h2 j (by omega)
theorem QlM {prog : Program} {w : World} {A : Around} {E : Value -> Shared -> Prop} {s : Shared} {l : Addr} {xs : Array (Int × Tok)} {Q : Value -> Shared -> Prop} (hh : A.handled = none) (hl : s.heap.IsTuple l (intItems xs)) (hne : 0 < xs.size)
  (h : ∀ v h' tk, (intItems xs)[argBest (λ i j => decide (numAt xs i > numAt xs j)) (xs.size - 1)]? = some v -> (∀ b o, s.heap.get? b = some o -> h'.get? b = some o) -> Q v { s with heap := h', toks := tk }) :
  wpAny (model prog w) A (call (.builtin "max") [.ref l]) Q E s := by
 have hlt : l < s.heap.objs.size := by obtain ⟨_, e, _⟩ := hl; exact Zs e
 refine call_max_walk (wpAny_pyIter_tuple hl ?_)
 refine ⟨_, [_, l], [_], _, _, _, _, rfl, Walks.tuple (A := A.in1) hh _ l (ZL hlt) (intItems xs), ⟨⟨_, Zw _ rfl, rfl, rfl⟩, hl.push _⟩, λ b hb => ?_, by simpa [intItems] using hne, CmpOf.ints_gt (numAt xs) (λ _ _ => intItems_at), λ v h' tk hP hk => ?_⟩
 ·show b < (s.heap.push _).objs.size
  rw [ZT]
  rcases Zv.mp hb with rfl | hb
  ·exact ZaO _
  ·rcases Zv.mp hb with rfl | hb
   ·exact ZaL hlt
   ·cases hb
 ·refine h v h' tk (by simpa [intItems] using hP) λ b o e => ?_
  refine hk b o (λ hm => ?_) (Zb _ e)
  rcases Zv.mp hm with e1 | hm
  ·exact absurd (e1 ▸ Zs e) (ZR _)
  ·cases hm
theorem Qp7 (hc : X.calm = true) : QbU X (.builtin "max") (Qn6 X.K isMax) := by
 intro pins s σ H xs us Q I r h
 obtain ⟨p, ns, rfl, hq, hne, q⟩ := h
 obtain ⟨u, rfl, rx⟩ := vals1 r
 cases rx
 rcases hq with hq | hq
 ·obtain ⟨its, r', pl, hz⟩ := I.list hq
  obtain ⟨ys, e, hns⟩ := Qd0 (Qcv r')
  have hl := pl.isList
  rw [e] at hl
  have hsz : 0 < ys.size := by
   rcases ZaV ys.size with z | z
   ·exact absurd (by rw [hns, ZaR]; exact Zae (by simpa using z)) hne
   ·exact z
  refine max_intList (I.ok.hd hc) hl hsz λ v h' tk hv hk => ?_
  obtain ⟨t, rfl⟩ := intItems_at hv
  obtain ⟨h1, h2⟩ := argBest_gt (numAt ys) (ys.size - 1)
  refine ⟨.int _, H, I.kept hk, ⟨t, rfl⟩, q _ ⟨?_, λ a ha => ?_⟩⟩
  ·rw [hns, numAt_eq]; exact getD_mem (by rw [Zh, ZS]; omega)
  ·rw [hns] at ha
   obtain ⟨j, hj, rfl⟩ := mem_getD ha
   rw [Zh, ZS] at hj
   rw [← numAt_eq]; exact h2 j (by omega)
 ·obtain ⟨its, r', pl, hz⟩ := I.tuple hq
  obtain ⟨ys, e, hns⟩ := Qd0 (Qcv r')
  have hl := pl
  rw [e] at hl
  have hsz : 0 < ys.size := by
   rcases ZaV ys.size with z | z
   ·exact absurd (by rw [hns, ZaR]; exact Zae (by simpa using z)) hne
   ·exact z
  refine QlM (I.ok.hd hc) hl hsz λ v h' tk hv hk => ?_
  obtain ⟨t, rfl⟩ := intItems_at hv
  obtain ⟨h1, h2⟩ := argBest_gt (numAt ys) (ys.size - 1)
  refine ⟨.int _, H, I.kept hk, ⟨t, rfl⟩, q _ ⟨?_, λ a ha => ?_⟩⟩
  ·rw [hns, numAt_eq]; exact getD_mem (by rw [Zh, ZS]; omega)
  ·rw [hns] at ha
   obtain ⟨j, hj, rfl⟩ := mem_getD ha
   rw [Zh, ZS] at hj
   rw [← numAt_eq]; exact h2 j (by omega)
noncomputable def QhC : List Int -> Option Int
 | [] => none
 | [n] => some n
 | n :: r => (QhC r).map λ m => if m < n then m else n
noncomputable def Qh2 : List Int -> Option Int
 | [] => none
 | [n] => some n
 | n :: r => (Qh2 r).map λ m => if n < m then m else n
theorem QgQ : ∀ {ns : List Int} {m : Int}, QhC ns = some m -> Qh6 ns m
 | [], _, h => by cases h
 | [n], _, h => by cases h; exact ⟨by simp, λ a ha => by simp at ha; omega⟩
 | n :: k :: r, m, h => by
  simp only [QhC] at h
  obtain ⟨m', h1, rfl⟩ := Zd.mp h
  obtain ⟨h2, h3⟩ := QgQ h1
  constructor
  ·split
   ·exact Zc _ h2
   ·exact Zi
  ·intro a ha
   rcases Zv.mp ha with rfl | ha
   ·split <;> omega
   ·have := h3 a ha; split <;> omega
theorem Qg0 : ∀ {ns : List Int} {m : Int}, Qh2 ns = some m -> isMax ns m
 | [], _, h => by cases h
 | [n], _, h => by cases h; exact ⟨by simp, λ a ha => by simp at ha; omega⟩
 | n :: k :: r, m, h => by
  simp only [Qh2] at h
  obtain ⟨m', h1, rfl⟩ := Zd.mp h
  obtain ⟨h2, h3⟩ := Qg0 h1
  constructor
  ·split
   ·exact Zc _ h2
   ·exact Zi
  ·intro a ha
   rcases Zv.mp ha with rfl | ha
   ·split <;> omega
   ·have := h3 a ha; split <;> omega
theorem QjX {ns : List Int} {a b : Int} (h : Qh6 ns a) (g : Qh6 ns b) : a = b := by have := h.2 b g.1; have := g.2 a h.1; omega
theorem QjQ {ns : List Int} {a b : Int} (h : isMax ns a) (g : isMax ns b) : a = b := by have := h.2 b g.1; have := g.2 a h.1; omega
noncomputable def QgJ : List D -> Option D
 | [.lst xs] => (QdY xs).bind λ ns => (QhC ns).map .int
 | [.tup xs] => (QdY xs).bind λ ns => (QhC ns).map .int
 | _ => none
noncomputable def QfH : List D -> Option D
 | [.lst xs] => (QdY xs).bind λ ns => (Qh2 ns).map .int
 | [.tup xs] => (QdY xs).bind λ ns => (Qh2 ns).map .int
 | _ => none
theorem Qs5 {K : PySem.W.Frag} : Qes K QgJ (Qn6 K Qh6) := λ ds d e => by
 unfold QgJ at e
 split at e
 ·obtain ⟨ns, h1, e⟩ := bind1 e
  obtain ⟨m, h2, rfl⟩ := Zd.mp e
  refine ⟨rfl, λ H vs F Q r q => ?_⟩
  obtain ⟨v, rfl, rp⟩ := r.one
  obtain ⟨l, ws, L, rfl, hl, rl, zl, el⟩ := rp.lst_inv
  rw [QdO h1] at rl
  rw [rl.ints] at hl
  exact ⟨l, ns, rfl, .inl (QX hl), λ z => (by rw [z] at h2; cases h2), λ M hM => by rw [QjX hM (QgQ h2)]; exact q _ λ _ => .int_mk⟩
 ·obtain ⟨ns, h1, e⟩ := bind1 e
  obtain ⟨m, h2, rfl⟩ := Zd.mp e
  refine ⟨rfl, λ H vs F Q r q => ?_⟩
  obtain ⟨v, rfl, rp⟩ := r.one
  obtain ⟨l, ws, rfl, hl, rl⟩ := rp.QaQ
  rw [QdO h1] at rl
  rw [rl.ints] at hl
  exact ⟨l, ns, rfl, .inr hl, λ z => (by rw [z] at h2; cases h2), λ M hM => by rw [QjX hM (QgQ h2)]; exact q _ λ _ => .int_mk⟩
 ·cases e
theorem QsP {K : PySem.W.Frag} : Qes K QfH (Qn6 K isMax) := λ ds d e => by
 unfold QfH at e
 split at e
 ·obtain ⟨ns, h1, e⟩ := bind1 e
  obtain ⟨m, h2, rfl⟩ := Zd.mp e
  refine ⟨rfl, λ H vs F Q r q => ?_⟩
  obtain ⟨v, rfl, rp⟩ := r.one
  obtain ⟨l, ws, L, rfl, hl, rl, zl, el⟩ := rp.lst_inv
  rw [QdO h1] at rl
  rw [rl.ints] at hl
  exact ⟨l, ns, rfl, .inl (QX hl), λ z => (by rw [z] at h2; cases h2), λ M hM => by rw [QjQ hM (Qg0 h2)]; exact q _ λ _ => .int_mk⟩
 ·obtain ⟨ns, h1, e⟩ := bind1 e
  obtain ⟨m, h2, rfl⟩ := Zd.mp e
  refine ⟨rfl, λ H vs F Q r q => ?_⟩
  obtain ⟨v, rfl, rp⟩ := r.one
  obtain ⟨l, ws, rfl, hl, rl⟩ := rp.QaQ
  rw [QdO h1] at rl
  rw [rl.ints] at hl
  exact ⟨l, ns, rfl, .inr hl, λ z => (by rw [z] at h2; cases h2), λ M hM => by rw [QjQ hM (Qg0 h2)]; exact q _ λ _ => .int_mk⟩
 ·cases e
end
end HS
namespace HS
open PySem PySem.Spec L2 PyProof.Rows
theorem Qg9 : ∀ {vs : List V} {us : List Value}, us.length = vs.length -> (∀ (k : Nat) (v : V), vs[k]? = some v -> ∃ u, us[k]? = some u /\ RelV v u) -> Qy vs us
 | [], [], _, _ => .nil
 | [], _ :: _, h, _ => by simp at h
 | _ :: _, [], h, _ => by simp at h
 | v :: vs, u :: us, h, g => by
  obtain ⟨u', e, r⟩ := g 0 v rfl
  cases e
  exact .cons r (Qg9 (by simpa using h) λ k v hk => g (k + 1) v hk)
section
variable {X : Cx} {a b c e tg : Expr} {es : List Expr} {fa fb fc : DE} {fs : DA} {pos p2 : Pos}
theorem Qp5 {pins : List (Addr × Obj)} {σ : L2.St} {H : Hp} {s : Shared} {Q : VK} {E : Value -> Shared -> Prop} {j : Int} {t u v : Tok} {tk : Nat} (I : Inv X pins σ H s) (hc : X.calm = true) (h0 : 0 <= j) (h1 : j <= 1000000)
  (q : ∀ l, H l = none -> Q (.ref l) (upd H l (.lst ((List.range j.toNat).map λ (k : Nat) => V.int (k : Int))))) :
  wpAny (model X.prog X.w) X.A (call (.type "list") [.ref s.heap.objs.size]) (EP X pins σ Q) E { s with heap := s.heap.push { cls := .type "range", data := .fields #[.int 0 t, .int j u, .int 1 v] }, toks := tk } := by
 have I2 : Inv X pins σ H { s with heap := s.heap.push { cls := .type "range", data := .fields #[.int 0 t, .int j u, .int 1 v] }, toks := tk } := I.kept λ b o e => Zb _ e
 refine call_list_range (n := j.toNat) (I.ok.hd hc) (IsRange.new ..) (small_one (by omega) (by omega) (by omega) (by omega)) (by rw [rangeSize_one]; split <;> omega) (by omega) λ h' tk' acc' c' hk hS hacc => ?_
 have hv : Qy ((List.range j.toNat).map λ (k : Nat) => V.int (k : Int)) acc'.toList := by
  have hl := hacc.1
  refine Qg9 (by simp [hl]) λ k v hk => ?_
  rw [Zm] at hk
  have hkl : k < j.toNat := by
   by_cases z : k < j.toNat
   ·exact z
   ·rw [Zo (by simp; omega)] at hk; cases hk
  rw [Zz hkl] at hk
  cases hk
  obtain ⟨w, hw⟩ : ∃ w, acc'[k]? = some w := ⟨acc'[k]'(by omega), by rw [Array.getElem?_eq_getElem (by omega)]⟩
  obtain ⟨t', rfl⟩ := hacc.2 k w hw
  exact ⟨_, by rw [Array.getElem?_toList]; exact hw, ⟨t', by simp⟩⟩
 refine ⟨.ref _, _, I2.laid hk (Zk _) (show Qcm X.prog X.w _ h' _ (.lst _) from ⟨by simp [Qfk]; omega, acc'.toList, c', hv, by simpa using hS⟩), rfl, q _ (I2.hok.fresh (Zk _))⟩
theorem QoH {p p' pos' : Pos} {ta : TA} (hg : Gl X "list") (hm : X.mg "list" = none) (hg' : Gl X "range") (hm' : X.mg "range" = none) (hc : X.calm = true) (ha : PA X [a] ta) (hs : starEach [a] X.env = [(false, eval a X.env)]) :
  PE X (.Call (.Name "list" p) [.Call (.Name "range" p') [a] [] pos'] [] pos) (λ σ H Q => ta σ H λ vs H1 => ∃ j : Int, vs = [.int j] /\ 0 <= j /\ j <= 1000000 /\ ∀ l, H1 l = none -> Q (.ref l) (upd H1 l (.lst ((List.range j.toNat).map λ (k : Nat) => V.int (k : Int))))) := by
 intro pins s σ H Q I h
 refine wpAny_Call_Name_kw (Qcy I hg hm boot_list ?_ (by decide) (by decide))
 refine ZI (Calls.spliced_cons ?_) rfl rfl
 refine Call_ (Qcy I hg' hm' boot_range (ZI (thn (ha pos' pins s σ H _ I h) λ us s1 ⟨vs, H1, I1, r1, q1⟩ => ?_) hs rfl))
 obtain ⟨j, e, q1, q2, q⟩ := q1
 subst e
 cases r1 with
 | cons r rr =>
  cases rr
  obtain ⟨t, rfl⟩ := r
  exact call_range_1 (Calls.spliced_nil (Qp5 I1 hc q1 q2 q))
noncomputable def Qn2 (fa : DE) : DE := λ ρ => (fa ρ).bind λ r => match r.d with
 | .int j => if 0 <= j /\ j <= 1000000 then some ⟨.lst ((List.range j.toNat).map λ (k : Nat) => .int (k : Int)), true, []⟩ else none
 | _ => none
theorem Rps.ofInts {K : PySem.W.Frag} {H : Hp} : ∀ ns : List Int, Rps K H (ns.map .int) (ns.map .int) []
 | [] => by simp [Rps]
 | n :: ns => by simp only [ZG, Rps]; exact ⟨_, _, [], [], rfl, rfl, .int_mk, Rps.ofInts ns⟩
theorem Qpg : ∀ ns : List Int, Q2 (ns.map .int) = true
 | [] => rfl
 | n :: ns => by simp [Q2, D.flat, Qpg ns]
theorem Qsw {p p' pos' : Pos} (hg : Gl X "list") (hm : X.mg "list" = none) (hg' : Gl X "range") (hm' : X.mg "range" = none) (hc : X.calm = true) (ha : SE X a fa) (hs : starEach [a] X.env = [(false, eval a X.env)]) :
  SE X (.Call (.Name "list" p) [.Call (.Name "range" p') [a] [] pos'] [] pos) (Qn2 fa) := λ H0 A0 =>
 (QoH hg hm hg' hm' hc (Qat (ha H0 A0) QcR hs) hs).mono λ σ H Q ⟨ρ, hs, F, r', rel, e, q⟩ => by
  obtain ⟨ra, e1, e⟩ := bind1 e
  refine ⟨ρ, hs, F, ra, rel, e1, λ v H1 G p1 => ?_⟩
  cases hd : ra.d with
  | int j =>
   rw [hd] at e
   dsimp only at e
   split at e
   ·rename_i hj
    cases e
    have rp := p1.rp
    rw [hd] at rp
    refine ⟨j, by rw [rp.int_inv], hj.1, hj.2, λ l hl => ?_⟩
    have e2 : ((List.range j.toNat).map λ (k : Nat) => D.int (k : Int)) = ((List.range j.toNat).map λ (k : Nat) => (k : Int)).map D.int := by rw [Zaf]; rfl
    have e3 : ((List.range j.toNat).map λ (k : Nat) => V.int (k : Int)) = ((List.range j.toNat).map λ (k : Nat) => (k : Int)).map V.int := by rw [Zaf]; rfl
    have := Q0.Qan (M := []) (ρ := ρ) (F := F) p1.same hl (Rps.ofInts (K := X.K) (H := H1) ((List.range j.toNat).map λ (k : Nat) => (k : Int))) (by simp [Qfk]; omega) Src.nil QaZ.nil
    rw [← e2, ← e3] at this
    unfold Qan at this
    rw [if_pos (by rw [e2]; exact Qpg _)] at this
    exact q _ _ _ this
   ·cases e
  | _ => rw [hd] at e; cases e
noncomputable def Itd (hi : Int) (n : Nat) : It := ⟨λ i _ => i < n, λ i H x H' => H' = H /\ x = .int (hi - i), λ i _ => n <= i⟩
theorem Qmu {P : Program} {w : World} {K : PySem.W.Frag} {tg : Expr} (it : Addr) (lo : Int) (n : Nat) : Turn P w K tg (Itd lo n) [it] it (λ i h => IsRangeIter h it (lo + (i : Nat) * (-1)) ((n : Int) - (i : Nat)) (-1)) where
 mem := by simp
 obj := λ i h st b hb => by
  have e : b = it := by simpa using hb
  subst e
  exact ⟨_, st, λ v z => by
   have z' : Data.fields _ = Data.cell v := z
   cases z'⟩
 keep := λ i h h' st k => k it (by simp) _ st
 item := by
  intro X hP hw hK hc i pins s σ H E I hf st hg
  subst hP hw hK
  obtain ⟨f0, f1, f2, f3, f4, f5⟩ := hf it (by simp)
  have W := Walks.range (prog := X.prog) (w := X.w) (I.ok.hd hc) it lo (-1) n
  refine W.item i s _ _ hg st λ v h' tk hv st' kk => ?_
  obtain ⟨t, rfl⟩ := hv
  have I1 : Inv X pins σ H { s with heap := h', toks := tk } := I.turned (λ b o hb e => kk b o (by simpa using hb) e) f0 f1 f3 f4 f5
  refine ⟨_, rfl, Qkw (s := { s with heap := h', toks := tk }) (n := "range_iterator") st' rfl rfl (by decide) ⟨.int (lo - i), H, I1, ⟨t, ?_⟩, ⟨rfl, rfl⟩, st', λ b hb => (hf b hb).1⟩⟩
  rw [show lo + (i : Int) * -1 = lo - i by omega]
 done := by
  intro X hP hw hK hc i pins s σ H E I hf st hg
  subst hP hw hK
  obtain ⟨f0, f1, f2, f3, f4, f5⟩ := hf it (by simp)
  exact wpAny_pyNext_range_end (I.ok.hd hc) st (by have : n <= i := hg; omega) λ h' eb => ⟨rfl, I.turned (t' := s.toks) (λ b o hb e => eb b o hb e) f0 f1 f3 f4 f5⟩
 self := λ _ _ _ _ _ st h => wpAny_pyIter_rangeiter st h
theorem QjL (lo hi : Int) : Builtin.Range.rangeSize lo hi (-1) = if lo > hi then lo - hi else 0 := by
 unfold Builtin.Range.rangeSize
 rw [if_neg (by decide)]
 split
 ·rw [show (- -1 : Int) = 1 by decide, Int.ediv_one]; omega
 ·rfl
theorem small_down {lo hi : Int} (h1 : -(2 ^ 62) <= lo) (h2 : lo < 2 ^ 62) (h3 : -(2 ^ 62) <= hi) (h4 : hi < 2 ^ 62) : Builtin.Range.small lo hi (-1) = true := by
 unfold Builtin.Range.small
 rw [QjL]
 simp only [Builtin.Range.rangeFitsLong, Zl, ZbO, decide_eq_true_eq, beq_iff_eq, show ¬ ((-1 : Int) > 0) by decide, if_false]
 split <;> omega
theorem Qo1 {pins : List (Addr × Obj)} {σ : L2.St} {H : Hp} {s : Shared} {R : It -> Hp -> Prop} {E : Value -> Shared -> Prop} {lo hi : Int} {t u v : Tok} {tk : Nat} (I : Inv X pins σ H s) (h1 : -(2 ^ 62) <= lo) (h2 : lo < 2 ^ 62) (h3 : -(2 ^ 62) <= hi) (h4 : hi < 2 ^ 62)
  (q : R (Itd lo (lo - hi).toNat) H) : wpAny (model X.prog X.w) X.A (pyIter (.ref s.heap.objs.size)) (PIE X pins σ tg R) E { s with heap := s.heap.push { cls := .type "range", data := .fields #[.int lo t, .int hi u, .int (-1) v] }, toks := tk } := by
 refine wpAny_pyIter_range (IsRange.new ..) (small_down h1 h2 h3 h4) ?_
 have I1 : Inv X pins σ H { s with heap := s.heap.push { cls := .type "range", data := .fields #[.int lo t, .int hi u, .int (-1) v] }, toks := tk } := I.kept λ b o e => Zb _ e
 refine ⟨(s.heap.push { cls := .type "range", data := .fields #[.int lo t, .int hi u, .int (-1) v] }).objs.size, [(s.heap.push { cls := .type "range", data := .fields #[.int lo t, .int hi u, .int (-1) v] }).objs.size], _, _, H, rfl,
  I1.kept (t' := tk) λ b o e => Zb _ e, Qmu _ lo (lo - hi).toNat, ?_, λ b hb => ?_, q⟩
 ·have e1 : lo + ((0 : Nat) : Int) * (-1) = lo := by simp
  have e2 : (((lo - hi).toNat : Nat) : Int) - ((0 : Nat) : Int) = Builtin.Range.rangeSize lo hi (-1) := by rw [QjL]; split <;> omega
  show IsRangeIter _ _ (lo + ((0 : Nat) : Int) * (-1)) ((((lo - hi).toNat : Nat) : Int) - ((0 : Nat) : Int)) (-1)
  rw [e1, e2]
  exact Zw _ rfl
 ·have e : b = (s.heap.push { cls := .type "range", data := .fields #[.int lo t, .int hi u, .int (-1) v] }).objs.size := by simpa using hb
  subst e
  exact I1.Qho (Zk _) (I1.hok.fresh (Zk _))
noncomputable def Qwt (ta : TA) : TI := λ σ H R => ta σ H λ vs H1 => ∃ i j : Int, vs = [.int i, .int j, .int (-1)] /\ (-(2 ^ 62) <= i /\ i < 2 ^ 62 /\ -(2 ^ 62) <= j /\ j < 2 ^ 62) /\ R (Itd i (i - j).toNat) H1
theorem QoZ {ta : TA} {p pos : Pos} (hg : Gl X "range") (hm : X.mg "range" = none) (ha : PA X [a, b, c] ta) (hs : starEach [a, b, c] X.env = (false, eval a X.env) :: starEach [b, c] X.env) (hs2 : (backTo pos (starEach [b, c] X.env)).any (·.1) = false) :
  PI X tg (.Call (.Name "range" p) [a, b, c] [] pos) (Qwt ta) := by
 intro pins s σ H R I h
 refine Call_ (Qcy I hg hm boot_range (ZI (thn (ha pos pins s σ H _ I h) λ us s1 ⟨vs, H1, I1, r1, q1⟩ => ?_) hs hs2))
 obtain ⟨i, j, e, ⟨q1, q2, q3, q4⟩, q⟩ := q1
 subst e
 cases r1 with
 | cons r rr =>
  cases rr with
  | cons r' rr =>
   cases rr with
   | cons r'' rr =>
    cases rr
    obtain ⟨t, rfl⟩ := r
    obtain ⟨t', rfl⟩ := r'
    obtain ⟨t'', rfl⟩ := r''
    exact call_range_3 (by decide) (Qo1 I1 q1 q2 q3 q4 q) (.inl (Zbx (by decide +kernel)))
noncomputable def Qi3 (hi : Int) (n : Nat) : List D := (List.range n).map λ (k : Nat) => .int (hi - (k : Int))
theorem QrQ {lo : Int} {n i : Nat} {d : D} (h : (Qi3 lo n)[i]? = some d) : i < n /\ d = .int (lo - i) := by
 unfold Qi3 at h
 rw [Zm] at h
 by_cases hi : i < n
 ·rw [Zz hi] at h; cases h; exact ⟨hi, rfl⟩
 ·rw [Zo (by simp; omega)] at h; cases h
noncomputable def Qfs (fa fb fc : DE) : DI := λ ρ => (fa ρ).bind λ r => (fb ρ).bind λ r' => (fc ρ).bind λ r'' => match r.d, r'.d, r''.d with
 | .int i, .int j, .int (-1) => if i - j <= 16777216 /\ -(2 ^ 62) <= i /\ i < 2 ^ 62 /\ -(2 ^ 62) <= j /\ j < 2 ^ 62 then some ⟨Qi3 i (i - j).toNat, []⟩ else none
 | _, _, _ => none
theorem Qh0 {lo : Int} {n : Nat} : (Qi3 lo n).length = n := by simp [Qi3]
theorem QmR {K : PySem.W.Frag} {lo : Int} {n : Nat} : Walk K (Itd lo n) [] (Qi3 lo n) where
 stop := λ H _ => by rw [Qh0]; exact Zk _
 go := λ i H hi _ => by rw [Qh0] at hi; exact hi
 yld := λ i d H x H' e _ y => by
  obtain ⟨h1, rfl⟩ := QrQ e
  obtain ⟨rfl, rfl⟩ := y
  exact ⟨QK.refl _, [], .int_mk, λ z hz => by simp at hz⟩
theorem QpG {p : Pos} (hg : Gl X "range") (hm : X.mg "range" = none) (ha : SE X a fa) (hb : SE X b fb) (hc : SE X c fc) (h1 : starEach [a, b, c] X.env = (false, eval a X.env) :: starEach [b, c] X.env) (h2 : starEach [b, c] X.env = (false, eval b X.env) :: starEach [c] X.env) (h3 : starEach [c] X.env = (false, eval c X.env) :: starEach [] X.env) :
  SI X tg (.Call (.Name "range" p) [a, b, c] [] pos) (Qfs fa fb fc) := λ H0 A0 =>
 (QoZ hg hm (Qat (ha H0 A0) (Qat (hb H0 A0) (Qat (hc H0 A0) QcR h3) h2) h1) h1 (by rw [h2, h3]; rfl)).mono λ σ H Rr ⟨ρ, hs, F, ir, rel, e, q⟩ => by
  obtain ⟨r, e1, e⟩ := bind1 e
  obtain ⟨r', e2, e⟩ := bind1 e
  obtain ⟨r'', e3, e⟩ := bind1 e
  refine ⟨ρ, hs, F, r, rel, e1, λ v H1 G pp => ⟨ρ, hs, F, r', rel.ext pp.same, e2, λ v' H2 G' pp' => ⟨ρ, hs, F, r'', (rel.ext pp.same).ext pp'.same, e3, λ v'' H3 G'' pp'' => ?_⟩⟩⟩
  split at e
  ·rename_i i j hr hr' hr''
   split at e
   ·rename_i hz
    cases e
    have rp := (pp.rp.same pp'.same).same pp''.same
    have rp' := pp'.rp.same pp''.same
    have rp'' := pp''.rp
    rw [hr] at rp
    rw [hr'] at rp'
    rw [hr''] at rp''
    rw [rp.int_inv, rp'.int_inv, rp''.int_inv]
    refine ⟨i, j, rfl, hz.2, q _ H3 [] ((pp.same.trans pp'.same).trans pp''.same) QmR (λ t ht => by simp at ht) QaZ.nil ?_⟩
    rw [Qh0, Qfk]; omega
   ·cases e
  ·cases e
theorem QsN : MtR X "int.bit_length" (λ x vs H Q => ∃ i, x = .int i /\ vs = [] /\ Q (.int (Builtin.Int.intBits i)) H) := by
 intro pins s σ H x vs v us Q I rx rv h
 obtain ⟨i, rfl, rfl, q⟩ := h
 obtain ⟨t, rfl⟩ := rx
 have hus := rv.zero
 subst hus
 exact call_int_bit_length ⟨.int _, H, I.tok _, ⟨_, rfl⟩, q⟩
noncomputable def Qkv (fa : DE) : DE := λ ρ => (fa ρ).bind λ r => match r.d with
 | .int i => some ⟨.int (Builtin.Int.intBits i), true, []⟩
 | _ => none
theorem QsU {apos cpos : Pos} (ha : SE X a fa) (hb : attributeBase a "bit_length" X.env (eval a X.env) = eval a X.env) (hl : (apos.endLine == cpos.line) = true) : SE X (.Call (.Attribute a "bit_length" apos) [] [] cpos) (Qkv fa) := λ H0 A0 =>
 (QpQ PySem.F.plainAttrs_int PySem.F.slot_int_bit_length PySem.F.type_int_bit_length QsN (ha H0 A0) hb hl).mono λ σ H Q ⟨ρ, hs, F, r', rel, e, q⟩ => by
  obtain ⟨ra, e1, e⟩ := bind1 e
  refine ⟨ρ, hs, F, ra, rel, e1, λ v H1 G p1 => ?_⟩
  cases hd : ra.d with
  | int i =>
   rw [hd] at e
   cases e
   have rp := p1.rp
   rw [hd] at rp
   rw [rp.int_inv]
   exact ⟨rfl, i, rfl, rfl, q _ _ [] (.flat p1.same .int_mk)⟩
  | _ => rw [hd] at e; cases e
end
end HS
namespace HS
open PySem PySem.Spec PyProof.Rows L2
section
variable {X : Cx} {a b c : Expr} {fa fb fc : DE} {pos : Pos}
end
end HS
namespace HS
open PySem PySem.Spec L2
structure FnR where
 n : Nat
 dfl : List D
 den : Den
structure Th where
 N : List Str
 sc : List (Str × NameKind)
 Γ : List (Str × FnR)
 cs : List (Str × Int)
noncomputable def posOf (x : Str) : List Str -> Option Nat
 | [] => none
 | y :: ys => if x = y then some 0 else (posOf x ys).map (· + 1)
theorem QeO : ∀ {x : Str} {ys : List Str} {i : Nat}, posOf x ys = some i -> ys[i]? = some x
 | x, [], i, h => by cases h
 | x, y :: ys, i, h => by
  unfold posOf at h
  split at h
  ·rename_i e; cases h; subst e; rfl
  ·obtain ⟨j, hj, rfl⟩ := Zd.mp h
   simpa using QeO hj
noncomputable def look {α : Type} (x : Str) : List (Str × α) -> Option α
 | [] => none
 | (y, a) :: r => if x = y then some a else look x r
theorem Qbd {α : Type} : ∀ {x : Str} {l : List (Str × α)}, look x l = l.lookup x
 | x, [] => rfl
 | x, (y, a) :: r => by
  unfold look
  rw [Zr]
  by_cases h : x = y
  ·subst h; simp
  ·rw [if_neg h, Qbd]
   have : (x == y) = false := by simpa using h
   rw [this]
noncomputable def QrX : NameKind -> Bool
 | .local => true | .cell => true | .free => true | _ => false
noncomputable def Qsa : NameKind -> Bool
 | .local => true | .cell => true | _ => false
noncomputable def QwN : NameKind -> Bool
 | .globalImplicit => true | _ => false
noncomputable def isFree : NameKind -> Bool
 | .free => true | _ => false
noncomputable def odd (x : Str) : Bool := decide (x = "__debug__") || decide (x = "__classdict__") || decide (x = "__name__")
noncomputable def Th.slot (Θ : Th) (x : Str) : Option Nat := if ((look x Θ.sc).map QrX).getD false && !odd x then posOf x Θ.N else none
noncomputable def Th.Qd2 (Θ : Th) (x : Str) : Option Nat := if ((look x Θ.sc).map Qsa).getD false && !odd x then posOf x Θ.N else none
noncomputable def Th.gl (Θ : Th) (x : Str) : Bool := ((look x Θ.sc).map QwN).getD false && !odd x
def Qsz (X : Cx) (x : Str) (r : FnR) : Prop := ∃ k f fd ps, Qct X.prog X.w X.K X.mg X.base CX0 k f fd ps (spV X.K r.n r.den) /\ QaA k X.A /\ X.mg x = some (.ref f) /\ PySem.W.keepIn X.K (.ref f) = true ∧
 ∀ m, m <= r.dfl.length -> ∃ ds dvs, Binds X.K fd ps ds /\ Qy dvs ds /\ ∀ H, Rps X.K H (r.dfl.drop (r.dfl.length - m)) dvs []
noncomputable def Ql2 : List Str := ["range", "enumerate", "zip", "len", "list", "min", "max", "sum", "abs", "isinstance", "int", "bool", "tuple", "str", "divmod", "sorted", "any", "all"]
structure Qad (X : Cx) (Θ : Th) : Prop where
 N : X.N = Θ.N
 nd : Θ.N.Nodup
 lc : ∀ x, look x Θ.sc = some .local -> X.env.scope.names.lookup x = some .local
 ce : ∀ x, look x Θ.sc = some .cell -> X.env.scope.names.lookup x = some .cell /\ X.fn x = true
 fe : ∀ x, look x Θ.sc = some .free -> X.env.scope.names.lookup x = some .cell ∨ X.env.scope.names.lookup x = some .free
 gl : ∀ x, look x Θ.sc = some .globalImplicit -> X.env.scope.names.lookup x = some .globalImplicit
 calm : X.calm = true
 pass : PassesOwn (model X.prog X.w) X.A X.env X.xe
 units : X.A.units + 64 < cLine
 mg : ∀ x ∈ Ql2, X.mg x = none
 fns : ∀ x r, look x Θ.Γ = some r -> Qsz X x r
 cs : ∀ x i, look x Θ.cs = some i -> ∃ t, X.mg x = some (.int i t)
section
variable {X : Cx} {Θ : Th} (ok : Qad X Θ)
theorem Qnq {x : Str} (h : odd x = false) : (x == ("__debug__" : Str)) = false /\ (x == ("__classdict__" : Str)) = false /\ x ≠ "__name__" := by
 unfold odd at h
 simp only [Bool.or_eq_false_iff, decide_eq_false_iff_not] at h
 exact ⟨by simpa using h.1.1, by simpa using h.1.2, h.2⟩
theorem Qno (ok : Qad X Θ) {x : Str} {i : Nat} {pos : Pos} (h : Θ.slot x = some i) : PE X (.Name x pos) (QlF i) := by
 unfold Th.slot at h
 split at h
 ·rename_i hc
  simp only [Zl, ZaE] at hc
  obtain ⟨h1, h2, _⟩ := Qnq hc.2
  refine QoT (by rw [ok.N]; exact QeO h) ?_ h1 h2
  cases q : look x Θ.sc with
  | none => rw [q] at hc; cases hc.1
  | some k =>
   rw [q] at hc
   cases k with
   | «local» => exact .inl (ok.lc x q)
   | cell => exact .inr (.inl (ok.ce x q).1)
   | free => exact .inr (ok.fe x q)
   | _ => cases hc.1
 ·cases h
theorem QfK (ok : Qad X Θ) {x : Str} {i : Nat} (h : Θ.Qd2 x = some i) : X.N[i]? = some x /\ Loc X.env.scope x /\ (X.fn x = true ∨ X.env.scope.names.lookup x = some .local) := by
 unfold Th.Qd2 at h
 split at h
 ·rename_i hc
  simp only [Zl, ZaE] at hc
  refine ⟨by rw [ok.N]; exact QeO h, ?_⟩
  cases q : look x Θ.sc with
  | none => rw [q] at hc; cases hc.1
  | some k =>
   rw [q] at hc
   cases k with
   | «local» => exact ⟨.inl (ok.lc x q), .inr (ok.lc x q)⟩
   | cell => exact ⟨.inr (ok.ce x q).1, .inl (ok.ce x q).2⟩
   | _ => cases hc.1
 ·cases h
theorem QgU (ok : Qad X Θ) {x : Str} (h : Θ.gl x = true) : Gl X x /\ (x == ("__debug__" : Str)) = false /\ x ≠ "__name__" := by
 unfold Th.gl at h
 simp only [Zl, ZaE] at h
 obtain ⟨h1, h2, h3⟩ := Qnq h.2
 refine ⟨?_, h1, h3⟩
 cases q : look x Θ.sc with
 | none => rw [q] at h; cases h.1
 | some k =>
  rw [q] at h
  cases k with
  | globalImplicit => exact ok.gl x q
  | _ => cases h.1
end
noncomputable def isTup : Expr -> Bool
 | .Tuple .. => true
 | _ => false
noncomputable def QoS : Expr -> Option Str
 | .Name x _ => some x
 | _ => none
noncomputable def Qe7 (Θ : Th) : Expr -> Option Tg
 | .Name x _ => (Θ.Qd2 x).map .nm
 | .Tuple es _ _ => ((es.mapM QoS).bind λ xs => xs.mapM Θ.Qd2).map .tp
 | _ => none
noncomputable def Qod : CmpOp -> Option (D -> D -> Option D)
 | .Eq => some gEq | .NotEq => some gNe | .Lt => some gLt | .LtE => some gLe | .Gt => some gGt | .GtE => some gGe
 | .Is => none | .IsNot => none
 | .In => some (gIn false) | .NotIn => some (gIn true)
noncomputable def Qrv (x : Str) : Option String :=
 if x = "int" then some "int" else if x = "bool" then some "bool" else if x = "list" then some "list" else if x = "tuple" then some "tuple" else if x = "str" then some "str" else none
noncomputable def inner (Θ : Th) (scope : Scope) : Th := { N := (scope.names.filter λ y => QrX y.2).map (·.1), sc := scope.names, Γ := Θ.Γ, cs := Θ.cs }
noncomputable def QgO (Θ : Th) (scope : Scope) : List (Option Nat) := (inner Θ scope).N.map λ x => if ((look x scope.names).map isFree).getD false then posOf x Θ.N else none
noncomputable def Qic (Θ : Th) (scope : Scope) (t : Tg) : Bool := (scope.kind == .function) && decide (inner Θ scope).N.Nodup &&
 (scope.names.all λ y => match y.2 with
  | .cell => decide (look y.1 scope.names = some .cell)
  | .local => decide (look y.1 scope.names = some .local)
  | .free => match look y.1 Θ.sc with
   | some .cell => true
   | some .free => true
   | _ => false
  | _ => true) &&
 t.slots.all λ j => match (QgO Θ scope)[j]? with
  | some (some _) => false
  | _ => true
noncomputable def Qhs (Θ : Th) (x : Str) (a : Expr) : Option Expr := match a with
 | .Call (.Name y _) [b] [] _ => if x = "list" /\ y = "range" /\ Θ.gl y = true /\ (look y Θ.Γ).isNone = true then some b else none
 | _ => none
noncomputable def Qv7 : List Expr -> Bool
 | [] => true | [_] => true | _ => false
noncomputable def bf1 (x : Str) (fa : DE) : Option DE :=
 if x = "len" then some (dBf Qav (Qc fa Qf)) else
 if x = "list" then some (dList (Qc fa Qf)) else
 if x = "abs" then some (dBf Qoo (Qc fa Qf)) else
 if x = "min" then some (dBf QgJ (Qc fa Qf)) else
 if x = "max" then some (dBf QfH (Qc fa Qf)) else
 none
noncomputable def bf2 (x : Str) (fa fb : DE) : Option DE :=
 if x = "min" then some (dBf QiD (Qc fa (Qc fb Qf))) else
 if x = "max" then some (dBf Qio (Qc fa (Qc fb Qf))) else
 none
mutual
noncomputable def Qq (n : Nat) (Θ : Th) (e : Expr) : Option DE := match n with
 | 0 => none
 | n + 1 => match e with
  | .Name x _ => match Θ.slot x with
   | some i => some (Qa i)
   | none => if Θ.gl x then (look x Θ.cs).map λ i => dC (.int i) else none
  | .Constant (.int i) _ _ => some (dC (.int i))
  | .Constant (.bool b) _ _ => some (dC (.bl b))
  | .Constant .none _ _ => some (dC .non)
  | .Constant (.str x) _ _ => some (dC (.str x))
  | .BinOp a op b _ => (Qq n Θ a).bind λ fa => (Qq n Θ b).bind λ fb => match op with
   | .Add => some (Qz fa fb)
   | .Mult => some (QS fa fb)
   | .Sub => some (dOp Qaq fa fb)
   | .FloorDiv => some (dOp Qba fa fb)
   | .Mod => some (dOp QZ fa fb)
   | .Pow => some (dOp QeX fa fb)
   | .RShift => some (dOp QlK fa fb)
   | _ => none
  | .UnaryOp .USub a _ => (Qq n Θ a).map QhA
  | .UnaryOp .Not a _ => (Qq n Θ a).map Qqt
  | .BoolOp .And [a] _ => Qq n Θ a
  | .BoolOp .And (a :: b :: r) p => (Qq n Θ a).bind λ fa => (Qq n Θ (.BoolOp .And (b :: r) p)).map λ fb => QdD fa fb
  | .BoolOp .Or [a] _ => Qq n Θ a
  | .BoolOp .Or (a :: b :: r) p => (Qq n Θ a).bind λ fa => (Qq n Θ (.BoolOp .Or (b :: r) p)).map λ fb => dOr fa fb
  | .Compare a [op] [b] _ => (Qq n Θ a).bind λ fa => (Qq n Θ b).bind λ fb => (Qod op).map λ g => dOp g fa fb
  | .Tuple es _ _ => (Qbk n Θ es).map QaW
  | .List es _ => (Qbk n Θ es).map Qas
  | .Subscript a (.Slice lo hi none _) _ => (Qq n Θ a).bind λ fa => (QgN n Θ lo).bind λ fl => (QgN n Θ hi).map λ fh => QbY fa fl fh
  | .Subscript a (.Slice none none (some k) _) _ => (Qq n Θ a).bind λ fa => (Qq n Θ k).map λ fk => QlI fa fk
  | .Subscript a b _ => (Qq n Θ a).bind λ fa => (Qq n Θ b).map λ fb => Qn fa fb
  | .Call (.Name x _) args [] _ => if Θ.gl x then (match look x Θ.Γ with
    | some r => if r.n <= args.length + r.dfl.length /\ args.length <= r.n then (Qbk n Θ args).map λ fs => Qr r.n r.den (r.dfl.drop (r.dfl.length - (r.n - args.length))) fs else none
    | none => Qiy n Θ x args) else none
  | .Call (.Attribute (.Name x p) m apos) [] [] cpos => if m = "bit_length" /\ (apos.endLine == cpos.line) = true then (Qq n Θ (.Name x p)).map Qkv else none
  | .ListComp elt [⟨tg, iter, ifs, 0⟩] scope _ => (Qe7 (inner Θ scope) tg).bind λ t => if Qic Θ scope t && Qv7 ifs then
    (QeM n Θ tg iter).bind λ fi => (QeF n (inner Θ scope) ifs).bind λ ft => (Qq n (inner Θ scope) elt).map λ fe => QF fi t (QgO Θ scope) ft fe else none
  | _ => none
noncomputable def Qiy (n : Nat) (Θ : Th) (x : Str) (args : List Expr) : Option DE := match n with
  | 0 => none
  | n + 1 => match args with
    | [a] => match Qhs Θ x a with
     | some b => (Qq n Θ b).map Qn2
     | none => (Qq n Θ a).bind λ fa => bf1 x fa
    | [a, b] => if x = "isinstance" then (Qq n Θ a).bind λ fa => match b with
        | .Name y _ => if Θ.gl y then (Qrv y).map λ T => Qi2 T fa else none
        | _ => none
      else (Qq n Θ a).bind λ fa => (Qq n Θ b).bind λ fb => bf2 x fa fb
    | _ => none
noncomputable def QaU (n : Nat) (Θ : Th) (e : Expr) : Option DT := match n with
 | 0 => none
 | n + 1 => match e with
  | .UnaryOp .Not a _ => (QaU n Θ a).map Qdj
  | .BoolOp .And [a] _ => QaU n Θ a
  | .BoolOp .And (a :: b :: r) p => (QaU n Θ a).bind λ fa => (QaU n Θ (.BoolOp .And (b :: r) p)).map λ fb => Qfw fa fb
  | .BoolOp .Or [a] _ => QaU n Θ a
  | .BoolOp .Or (a :: b :: r) p => (QaU n Θ a).bind λ fa => (QaU n Θ (.BoolOp .Or (b :: r) p)).map λ fb => bOr fa fb
  | .Compare a [op] [b] _ => (Qq n Θ a).bind λ fa => (Qq n Θ b).bind λ fb => (Qod op).map λ g => QI (dOp g fa fb)
  | .BoolOp _ _ _ => none
  | .IfExp _ _ _ _ => none
  | .Compare _ _ _ _ => none
  | e => (Qq n Θ e).map QI
noncomputable def QeF (n : Nat) (Θ : Th) (es : List Expr) : Option DT := match n with
 | 0 => none
 | n + 1 => match es with
  | [] => some QL
  | [c] => QaU n Θ c
  | _ => none
noncomputable def Qbk (n : Nat) (Θ : Th) (es : List Expr) : Option DA := match n with
 | 0 => none
 | n + 1 => match es with
  | [] => some Qf
  | e :: es => (Qq n Θ e).bind λ fa => (Qbk n Θ es).map λ fs => Qc fa fs
noncomputable def QgN (n : Nat) (Θ : Th) (e : Option Expr) : Option DO := match n with
 | 0 => none
 | n + 1 => match e with
  | none => some QaX
  | some e => (Qq n Θ e).map QaY
noncomputable def QeM (n : Nat) (Θ : Th) (tg e : Expr) : Option DI := match n with
 | 0 => none
 | n + 1 => match e with
  | .Call (.Name x _) args [] _ => if Θ.gl x && (look x Θ.Γ).isNone then (match args with
    | [a] => if x = "range" then (Qq n Θ a).map Qau else
     if x = "enumerate" then (if isTup tg then (Qq n Θ a).map Qgm else none) else
     (Qq n Θ e).map QY
    | [a, b, c] =>
     if x = "range" then (Qq n Θ a).bind λ fa => (Qq n Θ b).bind λ fb => (Qq n Θ c).map λ fc => Qfs fa fb fc else
     if x = "zip" then (if isTup tg then (Qq n Θ a).bind λ fa => (Qq n Θ b).bind λ fb => (Qq n Θ c).map λ fc => Qff fa fb fc else none) else
     (Qq n Θ e).map QY
    | [a, b] =>
     if x = "range" then (Qq n Θ a).bind λ fa => (Qq n Θ b).map λ fb => Qd6 fa fb else
     if x = "zip" then (if isTup tg then (Qq n Θ a).bind λ fa => (Qq n Θ b).map λ fb => QaR fa fb else none) else
     (Qq n Θ e).map QY
    | _ => (Qq n Θ e).map QY) else (Qq n Θ e).map QY
  | e => (Qq n Θ e).map QY
end
end HS
namespace HS
open PySem PySem.Spec L2
theorem Qaf {α β γ : Type} {x : Option α} {y : α -> Option β} {k : α -> β -> γ} {r : γ} (e : (x.bind λ a => (y a).map λ b => k a b) = some r) : ∃ a b, x = some a /\ y a = some b /\ k a b = r := by
 obtain ⟨a, h1, e⟩ := bind1 e
 obtain ⟨b, h2, e⟩ := Zd.mp e
 exact ⟨a, b, h1, h2, e⟩
theorem Qap {n : Nat} {Θ : Th} {e : Expr} {f : DE} (h : Qq n Θ e = some f) (es : List Expr) (env : Env) : starEach (e :: es) env = (false, eval e env) :: starEach es env := by
 cases n with
 | zero => exact nomatch (show (none : Option DE) = some _ from h)
 | succ n => cases e <;> first | rfl | (exact nomatch (show (none : Option DE) = some _ from h))
theorem Qng : ∀ {n : Nat} {Θ : Th} {es : List Expr} {f : DA}, Qbk n Θ es = some f -> ∀ (pos : Pos) (env : Env), (backTo pos (starEach es env)).any (·.1) = false
 | 0, _, _, _, h, _, _ => by simp [Qbk] at h
 | n + 1, _, [], _, h, _, _ => rfl
 | n + 1, _, e :: es, _, h, pos, env => by
  simp only [Qbk] at h
  obtain ⟨fa, fs, h1, h2, _⟩ := Qaf h
  rw [Qap h1]
  have := Qng h2 pos env
  simpa [backTo] using this
theorem Qm9 {n : Nat} {Θ : Th} {b : Expr} {f : DE} (h : Qq n Θ b = some f) : QgY b := by
 cases n with
 | zero => exact nomatch (show (none : Option DE) = some _ from h)
 | succ n => cases b <;> first | (intro o i; rfl) | (exact nomatch (show (none : Option DE) = some _ from h))
theorem Qvi {n : Nat} {Θ : Th} {e : Expr} {f : DE} (h : Qq n Θ e = some f) (env : Env) : ∀ x, foldedSetIterable e env x = pure x := by
 cases n with
 | zero => exact nomatch (show (none : Option DE) = some _ from h)
 | succ n => cases e <;> first | (intro x; rfl) | (exact nomatch (show (none : Option DE) = some _ from h))
theorem Qo6 {n : Nat} {Θ : Th} {e : Expr} {f : DE} (h : Qq n Θ e = some f) (op : CmpOp) : behindInMarks op e = false := by
 cases n with
 | zero => exact nomatch (show (none : Option DE) = some _ from h)
 | succ n => cases e <;> first | rfl | (exact nomatch (show (none : Option DE) = some _ from h))
theorem Qdn {env : Env} : ∀ {names : List (Str × NameKind)} {x : Str}, names.lookup x = some .cell →
  (names.map λ (n, k) => if (k == NameKind.free && env.scope.kind == .function && env.kindOf n == some .cell) then (n, NameKind.cell) else (n, k)).lookup x = some .cell
 | [], _, h => by simp at h
 | (n, k) :: r, x, h => by
  have ih := @Qdn env r x
  rw [ZG]
  cases hx : x == n with
  | true =>
   simp only [Zr, hx] at h
   cases h
   dsimp only
   split <;> simp [Zr, hx]
  | false =>
   simp only [Zr, hx] at h
   dsimp only
   split <;> (simp only [Zr, hx]; exact ih h)
theorem QkM {X : Cx} {Θ : Th} {scope : Scope} {t : Tg} (ok : Qad X Θ) (h : Qic Θ scope t = true) : QdM X (inner Θ scope).N scope /\ Qkq X (inner Θ scope).N scope (QgO Θ scope) t.slots /\ ∀ cl C fp s3 H3, Qad (cxc X (inner Θ scope).N scope cl C fp s3 H3) (inner Θ scope) := by
 unfold Qic at h
 simp only [Zl, decide_eq_true_eq] at h
 obtain ⟨⟨⟨h1, h2⟩, h3⟩, h4⟩ := h
 have hk : scope.kind = .function := by simpa using h1
 have each : ∀ y ∈ scope.names, (y.2 = .cell -> scope.names.lookup y.1 = some .cell) /\ (y.2 = .local -> scope.names.lookup y.1 = some .local) /\ (y.2 = .free -> X.env.kindOf y.1 = some .cell ∨ X.env.kindOf y.1 = some .free) := λ y hy => by
  have := ZaH.mp h3 y hy
  obtain ⟨y, k⟩ := y
  cases k with
  | cell => exact ⟨λ _ => (by rw [← Qbd]; simpa using this), λ z => (by cases z), λ z => (by cases z)⟩
  | «local» => exact ⟨λ z => (by cases z), λ _ => by rw [← Qbd]; simpa using this, λ z => by cases z⟩
  | free =>
   refine ⟨λ z => (by cases z), λ z => (by cases z), λ _ => ?_⟩
   dsimp only at this
   split at this
   ·rename_i q; exact .inl (ok.ce _ q).1
   ·rename_i q; exact ok.fe _ q
   ·cases this
  | _ => exact ⟨λ z => (by cases z), λ z => (by cases z), λ z => (by cases z)⟩
 have S : QdM X (inner Θ scope).N scope := ⟨hk, λ y hy => (each y hy).1, λ y hy => (each y hy).2.1, λ y hy => (each y hy).2.2⟩
 refine ⟨S, ⟨by unfold QgO; simp, λ j i e => ?_, λ j i e hj => ?_⟩, λ cl C fp s3 H3 => ⟨rfl, h2, λ x e => ?_, λ x e => ?_, λ x e => ?_, λ x e => ?_, ok.calm, PassesOwn.never, ok.units, ok.mg, ok.fns, ok.cs⟩⟩
 ·unfold QgO at e
  rw [Zm] at e
  cases q : (inner Θ scope).N[j]? with
  | none => rw [q] at e; cases e
  | some x =>
   rw [q] at e
   simp only [ZP, Option.some.injEq] at e
   split at e
   ·rename_i hf
    cases hl : look x scope.names with
    | none => rw [hl] at hf; cases hf
    | some k =>
     rw [hl] at hf
     cases k with
     | free =>
      rw [Qbd] at hl
      exact ⟨x, rfl, hl, by rw [ok.N]; exact QeO e, (each (x, .free) (ZU hl)).2.2 rfl⟩
     | _ => cases hf
   ·cases e
 ·have := ZaH.mp h4 j hj
  rw [e] at this
  cases this
 ·have e' : scope.names.lookup x = some .local := by rw [← Qbd]; exact e
  exact lookup_relabel_local e'
 ·have e' : scope.names.lookup x = some .cell := by rw [← Qbd]; exact e
  exact ⟨Qdn e', decide_eq_true e'⟩
 ·have e' : scope.names.lookup x = some .free := by rw [← Qbd]; exact e
  exact Qck e'
 ·have e' : scope.names.lookup x = some .globalImplicit := by rw [← Qbd]; exact e
  show (relabel scope X.env).names.lookup x = some .globalImplicit
  unfold relabel
  have gen : ∀ {names : List (Str × NameKind)}, names.lookup x = some .globalImplicit →
    (names.map λ (n, k) => if (k == NameKind.free && X.env.scope.kind == .function && X.env.kindOf n == some .cell) then (n, NameKind.cell) else (n, k)).lookup x = some .globalImplicit := by
   intro names
   induction names with
   | nil => intro z; simp at z
   | cons y r ih =>
    intro z
    obtain ⟨n, k⟩ := y
    rw [ZG]
    cases hx : x == n with
    | true =>
     simp only [Zr, hx] at z
     cases z
     simp [Zr, hx]
    | false =>
     simp only [Zr, hx] at z
     dsimp only
     split <;> (simp only [Zr, hx]; exact ih z)
  exact gen e'
theorem Qks {X : Cx} {Θ : Th} (ok : Qad X Θ) {tg : Expr} {t : Tg} (h : Qe7 Θ tg = some t) : SG X tg t := by
 have hN : X.N.Nodup := by rw [ok.N]; exact ok.nd
 cases tg with
 | Name x pos =>
  simp only [Qe7] at h
  obtain ⟨i, hi, rfl⟩ := Zd.mp h
  obtain ⟨h1, h2, h3⟩ := QfK ok hi
  exact Qsq (Qni hN h1 h2 h3)
 | Tuple es k pos =>
  simp only [Qe7] at h
  obtain ⟨is, hi, rfl⟩ := Zd.mp h
  obtain ⟨xs, h1, h2⟩ := bind1 hi
  have key : ∀ (es : List Expr) (xs : List Str) (is : List Nat), es.mapM QoS = some xs -> xs.mapM Θ.Qd2 = some is -> PGs X es (Qh7 is) /\ (assignEach es X.env).length = is.length /\ (assignEach es X.env).findIdx? (·.1) = none := by
   intro es
   induction es with
   | nil =>
    intro xs is h1 h2
    cases h1
    cases h2
    exact ⟨QtY, rfl, rfl⟩
   | cons e es ih =>
    intro xs is h1 h2
    rw [List.mapM_cons] at h1
    obtain ⟨x, hx, h1⟩ := bind1 h1
    obtain ⟨ys, hy, h1⟩ := bind1 h1
    cases h1
    rw [List.mapM_cons] at h2
    obtain ⟨i, hi, h2⟩ := bind1 h2
    obtain ⟨js, hj, h2⟩ := bind1 h2
    cases h2
    obtain ⟨a1, a2, a3⟩ := ih ys js hy hj
    cases e with
    | Name y p =>
     cases hx
     obtain ⟨g1, g2, g3⟩ := QfK ok hi
     refine ⟨Qrq (Qni hN g1 g2 g3) a1 rfl, ?_, ?_⟩
     ·show (assignEach es X.env).length + 1 = _
      rw [a2]; rfl
     ·show List.findIdx? (·.1) ((false, assign (.Name x p) X.env) :: assignEach es X.env) = none
      rw [List.findIdx?_cons]
      simp only [a3]; rfl
    | _ => cases hx
  obtain ⟨a1, a2, a3⟩ := key es xs is h1 h2
  exact QvD ok.calm a1 a2 a3
 | _ => simp only [Qe7] at h; cases h
theorem Qob {f : Int -> Int -> Bool} : ∀ a b d, gI (λ i j => some (.bl (f i j))) a b = some d -> ∃ k, d = .bl k := λ a b d h => by
 obtain ⟨i, j, _, _, e⟩ := QoY h
 cases e
 exact ⟨_, rfl⟩
theorem QpE {X : Cx} {Θ : Th} (ok : Qad X Θ) {op : CmpOp} {g : D -> D -> Option D} (h : Qod op = some g) : ∃ r, OpR X (compareOp op) r /\ QbS X.K g r /\ ∀ a b d, g a b = some d -> ∃ k, d = .bl k := by
 cases op <;> cases h
 ·exact ⟨_, QuH ok.units, Qv4, λ a b d h => by unfold gEq at h; split at h <;> cases h; exact ⟨_, rfl⟩⟩
 ·exact ⟨_, QvB ok.units, Qv8, λ a b d h => by unfold gNe at h; split at h <;> cases h; exact ⟨_, rfl⟩⟩
 ·exact ⟨_, Qwz, Qwf, Qob⟩
 ·exact ⟨_, Qwx, Qwn, Qob⟩
 ·exact ⟨_, Qwa, Qv3, Qob⟩
 ·exact ⟨_, Qv5, Qwe, Qob⟩
 ·exact ⟨_, Qug ok.units, Qr6, λ a b d h => by unfold gIn at h; split at h <;> first | (split at h <;> cases h; exact ⟨_, rfl⟩) | cases h⟩
 ·exact ⟨_, Qp6 ok.units, Qr6, λ a b d h => by unfold gIn at h; split at h <;> first | (split at h <;> cases h; exact ⟨_, rfl⟩) | cases h⟩
structure Qis (n : Nat) : Prop where
 E : ∀ X Θ e f, Qad X Θ -> Qq n Θ e = some f -> SE X e f
 B : ∀ X Θ x args f p pos, Qad X Θ -> Θ.gl x = true -> Qiy n Θ x args = some f -> SE X (.Call (.Name x p) args [] pos) f
 T : ∀ X Θ e f, Qad X Θ -> QaU n Θ e = some f -> ST X e f
 Ts : ∀ X Θ e f, Qad X Θ -> QeF n Θ e = some f -> Qlr X e f
 A : ∀ X Θ e f, Qad X Θ -> Qbk n Θ e = some f -> SA X e f
 O : ∀ X Θ e f, Qad X Θ -> QgN n Θ e = some f -> SO X e f
 I : ∀ X Θ tg e f, Qad X Θ -> QeM n Θ tg e = some f -> SI X tg e f /\ ∀ x, foldedSetIterable e X.env x = pure x
theorem callArgs {X : Cx} {n : Nat} {Θ : Th} {es : List Expr} {fs : DA} (h : Qbk n Θ es = some fs) {e : Expr} {es' : List Expr} (he : es = e :: es') (pos : Pos) : starEach (e :: es') X.env = (false, eval e X.env) :: starEach es' X.env /\ (backTo pos (starEach es' X.env)).any (·.1) = false := by
 subst he
 cases n with
 | zero => simp [Qbk] at h
 | succ n =>
  simp only [Qbk] at h
  obtain ⟨fa, fs', h1, h2, _⟩ := Qaf h
  exact ⟨Qap h1 es' X.env, Qng h2 pos X.env⟩
theorem Qwu {n : Nat} (ih : Qis n) : ∀ X Θ e f, Qad X Θ -> Qq (n + 1) Θ e = some f -> SE X e f := by
  intro X Θ e f ok h
  cases e with
  | Name x pos =>
    (conv at h => lhs; whnf)
    cases q : Θ.slot x with
    | some i => rw [q] at h; cases h; exact QvA (Qno ok q)
    | none =>
      rw [q] at h
      dsimp only at h
      split at h
      · rename_i hg
        obtain ⟨i, hi, rfl⟩ := Zd.mp h
        obtain ⟨g1, g2, g3⟩ := QgU ok hg
        obtain ⟨t, hm⟩ := ok.cs x i hi
        exact QlV (v := .int i) (Qte g1 hm ⟨t, rfl⟩ g2) (λ _ _ => .int_mk) rfl
      · cases h
  | Constant c k pos =>
    cases c with
    | int i => (conv at h => lhs; whnf); cases h; exact QlV Qu0 (λ _ _ => .int_mk) rfl
    | bool b => (conv at h => lhs; whnf); cases h; exact QlV QvR (λ _ _ => .Qdb) rfl
    | none => (conv at h => lhs; whnf); cases h; exact QlV Qvm (λ _ _ => .Qh8) rfl
    | str x => (conv at h => lhs; whnf); cases h; exact QlV QvC (λ _ _ => .str_mk) rfl
    | _ => exact nomatch (show (none : Option DE) = some _ from h)
  | BinOp a op b pos =>
    (conv at h => lhs; whnf)
    obtain ⟨fa, h1, h⟩ := bind1 h
    obtain ⟨fb, h2, h⟩ := bind1 h
    have ha := ih.E X Θ a fa ok h1
    have hb := ih.E X Θ b fb ok h2
    cases op with
    | Add => cases h; exact QvI ha hb
    | Mult => cases h; exact Qvq ha hb
    | Sub => cases h; exact Qie QuQ QoN ha hb
    | FloorDiv => cases h; exact Qie Qtx QuR ha hb
    | Mod => cases h; exact Qie Qsp Qvj ha hb
    | Pow => cases h; exact Qie QsM Qvx ha hb
    | RShift => cases h; exact Qie Qui QuC ha hb
    | _ => cases h
  | UnaryOp op a pos =>
    cases op with
    | USub =>
      (conv at h => lhs; whnf)
      obtain ⟨fa, h1, rfl⟩ := Zd.mp h
      exact Qvl (ih.E X Θ a fa ok h1)
    | Not =>
      (conv at h => lhs; whnf)
      obtain ⟨fa, h1, rfl⟩ := Zd.mp h
      exact Qua (ih.E X Θ a fa ok h1)
    | _ => exact nomatch (show (none : Option DE) = some _ from h)
  | BoolOp op es pos =>
    cases op with
    | And =>
      match es, h with
      | [], h => exact nomatch (show (none : Option DE) = some _ from h)
      | [a], h => (conv at h => lhs; whnf); exact QpJ (ih.E X Θ a f ok h)
      | a :: b :: r, h =>
        (conv at h => lhs; whnf)
        obtain ⟨fa, fb, h1, h2, rfl⟩ := Qaf h
        exact QuB (ih.E X Θ a fa ok h1) (ih.E X Θ _ fb ok h2)
    | Or =>
      match es, h with
      | [], h => exact nomatch (show (none : Option DE) = some _ from h)
      | [a], h => (conv at h => lhs; whnf); exact QpJ (ih.E X Θ a f ok h)
      | a :: b :: r, h =>
        (conv at h => lhs; whnf)
        obtain ⟨fa, fb, h1, h2, rfl⟩ := Qaf h
        exact Qwp (ih.E X Θ a fa ok h1) (ih.E X Θ _ fb ok h2)
  | Compare a ops bs pos =>
    match ops, bs, h with
    | [op], [b], h =>
      (conv at h => lhs; whnf)
      obtain ⟨fa, h1, h⟩ := bind1 h
      obtain ⟨fb, g, h2, h3, rfl⟩ := Qaf h
      obtain ⟨r, o1, o2, _⟩ := QpE ok h3
      exact QuP o1 o2 (ih.E X Θ a fa ok h1) (ih.E X Θ b fb ok h2) (Qo6 h2 op)
    | [], _, h => exact nomatch (show (none : Option DE) = some _ from h)
    | [_], [], h => exact nomatch (show (none : Option DE) = some _ from h)
    | [_], _ :: _ :: _, h => exact nomatch (show (none : Option DE) = some _ from h)
    | _ :: _ :: _, _, h => exact nomatch (show (none : Option DE) = some _ from h)
  | Tuple es k pos =>
    (conv at h => lhs; whnf)
    obtain ⟨fs, h1, rfl⟩ := Zd.mp h
    exact QuU (ih.A X Θ es fs ok h1)
  | List es pos =>
    (conv at h => lhs; whnf)
    obtain ⟨fs, h1, rfl⟩ := Zd.mp h
    exact QuE (ih.A X Θ es fs ok h1)
  | Subscript a b pos =>
    by_cases hb : ∃ lo hi p2, b = .Slice lo hi none p2
    · obtain ⟨lo, hi, p2, rfl⟩ := hb
      (conv at h => lhs; whnf)
      obtain ⟨fa, h1, h⟩ := bind1 h
      obtain ⟨fl, fh, h2, h3, rfl⟩ := Qaf h
      exact QuL (ih.E X Θ a fa ok h1) (ih.O X Θ lo fl ok h2) (ih.O X Θ hi fh ok h3)
    · by_cases hk : ∃ k p2, b = .Slice none none (some k) p2
      · obtain ⟨k, p2, rfl⟩ := hk
        (conv at h => lhs; whnf)
        obtain ⟨fa, fk, h1, h2, rfl⟩ := Qaf h
        exact Qu3 (ih.E X Θ a fa ok h1) (ih.E X Θ k fk ok h2)
      · have h' : ((Qq n Θ a).bind λ fa => (Qq n Θ b).map λ fb => Qn fa fb) = some f := by
          cases b <;> first
            | (exact h)
            | (rename_i lo hi st p2; cases lo <;> cases hi <;> cases st <;> first | (exact absurd ⟨_, _, _, rfl⟩ hb) | (exact absurd ⟨_, _, rfl⟩ hk) | (exact h))
        obtain ⟨fa, fb, h1, h2, rfl⟩ := Qaf h'
        exact Quu (ih.E X Θ a fa ok h1) (ih.E X Θ b fb ok h2) (Qm9 h2)
  | Call fn args kws pos =>
    cases fn with
    | Name x p =>
     cases kws with
     | cons k ks => exact nomatch (show (none : Option DE) = some _ from h)
     | nil =>
      have h : (if Θ.gl x then (match look x Θ.Γ with | some r => if r.n <= args.length + r.dfl.length /\ args.length <= r.n then (Qbk n Θ args).map λ fs => Qr r.n r.den (r.dfl.drop (r.dfl.length - (r.n - args.length))) fs else none | none => Qiy n Θ x args) else none) = some f := h
      split at h
      · rename_i hg
        obtain ⟨g1, g2, g3⟩ := QgU ok hg
        split at h
        · rename_i r hr
          split at h
          · rename_i hn
            obtain ⟨fs, h1, rfl⟩ := Zd.mp h
            obtain ⟨k, fa, fd, ps, F1, F2, F3, F4, F5⟩ := ok.fns x r hr
            obtain ⟨ds, dvs, b1, b2, b3⟩ := F5 (r.n - args.length) (by omega)
            cases args with
            | nil =>
              cases n with
              | zero => simp [Qbk] at h1
              | succ n =>
                simp only [Qbk] at h1
                cases h1
                exact QqT F1 F2 g1 F3 F4 b1 b2 b3 g2
            | cons e es =>
              obtain ⟨s1, s2⟩ := callArgs (X := X) h1 rfl pos
              exact QtK F1 F2 g1 F3 F4 b1 b2 b3 (ih.A X Θ _ fs ok h1) g2 s1 s2
          · cases h
        · exact ih.B X Θ x args f p pos ok hg h
      · cases h
    | Attribute o m apos =>
      cases o with
      | Name x p =>
        cases args with
        | nil =>
          cases kws with
          | nil =>
            have h : (if m = "bit_length" /\ (apos.endLine == pos.line) = true then (Qq n Θ (.Name x p)).map Qkv else none) = some f := h
            split at h
            · rename_i hc
              obtain ⟨fa, h1, rfl⟩ := Zd.mp h
              obtain ⟨rfl, hl⟩ := hc
              exact QsU (ih.E X Θ _ fa ok h1) rfl hl
            · cases h
          | cons _ _ => exact nomatch (show (none : Option DE) = some _ from h)
        | cons _ _ => exact nomatch (show (none : Option DE) = some _ from h)
      | _ => exact nomatch (show (none : Option DE) = some _ from h)
    | _ => exact nomatch (show (none : Option DE) = some _ from h)
  | ListComp elt gens scope pos =>
    match gens, h with
    | [⟨tg, iter, ifs, k⟩], h =>
      by_cases hk : k = 0
      · subst hk
        (conv at h => lhs; whnf)
        obtain ⟨t, ht, h⟩ := bind1 h
        split at h
        · rename_i hc
          simp only [Zl] at hc
          obtain ⟨fi, h1, h⟩ := bind1 h
          obtain ⟨ft, fe, h2, h3, rfl⟩ := Qaf h
          obtain ⟨S, cap, inn⟩ := QkM ok hc.1
          obtain ⟨i1, i2⟩ := ih.I X Θ tg iter fi ok h1
          exact QsX ok.calm S i1 cap (λ cl C fp s3 H3 => ⟨Qks (inn cl C fp s3 H3) ht, ih.Ts _ _ ifs ft (inn cl C fp s3 H3) h2, ih.E _ _ elt fe (inn cl C fp s3 H3) h3⟩) i2
        · cases h
      · exfalso
        cases k with
        | ofNat k =>
          cases k with
          | zero => exact hk rfl
          | succ k => exact nomatch (show (none : Option DE) = some _ from h)
        | negSucc k => exact nomatch (show (none : Option DE) = some _ from h)
    | [], h => exact nomatch (show (none : Option DE) = some _ from h)
    | ⟨_, _, _, .ofNat 0⟩ :: _ :: _, h => exact nomatch (show (none : Option DE) = some _ from h)
    | ⟨_, _, _, .ofNat (k + 1)⟩ :: _ :: _, h => exact nomatch (show (none : Option DE) = some _ from h)
    | ⟨_, _, _, .negSucc k⟩ :: _ :: _, h => exact nomatch (show (none : Option DE) = some _ from h)
  | _ => exact nomatch (show (none : Option DE) = some _ from h)
theorem Quc {X : Cx} {Θ : Th} {x : Str} {a : Expr} {fa f : DE} {p pos : Pos} (ok : Qad X Θ) (g1 : Gl X x) (sa : SA X [a] (Qc fa Qf)) (st : starEach [a] X.env = (false, eval a X.env) :: starEach [] X.env) (h : bf1 x fa = some f) : SE X (.Call (.Name x p) [a] [] pos) f := by
 unfold bf1 at h
 by_cases e : x = "len"
 ·rw [if_pos e] at h; cases h; subst e; have hm := ok.mg "len" (by decide +kernel)
  exact QgH QkN Qu6 g1 hm PySem.boot_len sa (by decide) (by decide) st rfl
 rw [if_neg e] at h; clear e
 by_cases e : x = "list"
 ·rw [if_pos e] at h; cases h; subst e; have hm := ok.mg "list" (by decide +kernel)
  exact Qtq g1 hm sa st rfl
 rw [if_neg e] at h; clear e
 by_cases e : x = "abs"
 ·rw [if_pos e] at h; cases h; subst e; have hm := ok.mg "abs" (by decide +kernel)
  exact QgH Qqc Qvk g1 hm PyProof.Rows.boot_abs sa (by decide) (by decide) st rfl
 rw [if_neg e] at h; clear e
 by_cases e : x = "min"
 ·rw [if_pos e] at h; cases h; subst e; have hm := ok.mg "min" (by decide +kernel)
  exact QgH (Qpq ok.calm) Qs5 g1 hm PyProof.Rows.boot_min sa (by decide) (by decide) st rfl
 rw [if_neg e] at h; clear e
 by_cases e : x = "max"
 ·rw [if_pos e] at h; cases h; subst e; have hm := ok.mg "max" (by decide +kernel)
  exact QgH (Qp7 ok.calm) QsP g1 hm PyProof.Rows.boot_max sa (by decide) (by decide) st rfl
 rw [if_neg e] at h; clear e
 cases h
theorem Quv {X : Cx} {Θ : Th} {x : Str} {a b : Expr} {fa fb f : DE} {p pos : Pos} (ok : Qad X Θ) (g1 : Gl X x) (sa : SA X [a, b] (Qc fa (Qc fb Qf))) (st : starEach [a, b] X.env = (false, eval a X.env) :: starEach [b] X.env) (pl : (backTo pos (starEach [b] X.env)).any (·.1) = false) (h : bf2 x fa fb = some f) : SE X (.Call (.Name x p) [a, b] [] pos) f := by
 unfold bf2 at h
 by_cases e : x = "min"
 ·rw [if_pos e] at h; cases h; subst e; have hm := ok.mg "min" (by decide +kernel)
  exact QgH (Qpk ok.calm) Qtv g1 hm PyProof.Rows.boot_min sa (by decide) (by decide) st pl
 rw [if_neg e] at h; clear e
 by_cases e : x = "max"
 ·rw [if_pos e] at h; cases h; subst e; have hm := ok.mg "max" (by decide +kernel)
  exact QgH (QpW ok.calm) Qsy g1 hm PyProof.Rows.boot_max sa (by decide) (by decide) st pl
 rw [if_neg e] at h; clear e
 cases h
theorem Qv1 {n : Nat} (ih : Qis n) : ∀ X Θ x args f p pos, Qad X Θ -> Θ.gl x = true -> Qiy (n + 1) Θ x args = some f -> SE X (.Call (.Name x p) args [] pos) f := by
 intro X Θ x args f p pos ok hg h
 obtain ⟨g1, g2, g3⟩ := QgU ok hg
 match args, h with
 | [], h => exact nomatch (show (none : Option DE) = some _ from h)
 | [a], h =>
  change (match Qhs Θ x a with | some b => (Qq n Θ b).map Qn2 | none => (Qq n Θ a).bind λ fa => bf1 x fa) = some f at h
  split at h
  ·rename_i b hr
   obtain ⟨fb, h1, rfl⟩ := Zd.mp h
   unfold Qhs at hr
   split at hr
   ·rename_i y p' b' pos'
    split at hr
    ·rename_i hc
     cases hr
     obtain ⟨c1, c2, c3, _⟩ := hc
     subst c1
     subst c2
     obtain ⟨y1, y2, y3⟩ := QgU ok c3
     exact Qsw g1 (ok.mg _ (by decide +kernel)) y1 (ok.mg _ (by decide +kernel)) ok.calm (ih.E X Θ b fb ok h1) (Qap h1 [] X.env)
    ·cases hr
   ·cases hr
  obtain ⟨fa, h1, h⟩ := bind1 h
  have ha := ih.E X Θ a fa ok h1
  have st := Qap h1 [] X.env
  exact Quc ok g1 (QgW ha QlX st) st h
 | [a, b], h =>
  change (if x = "isinstance" then (Qq n Θ a).bind λ fa => (match b with | .Name y _ => if Θ.gl y then (Qrv y).map λ T => Qi2 T fa else none | _ => none) else (Qq n Θ a).bind λ fa => (Qq n Θ b).bind λ fb => bf2 x fa fb) = some f at h
  split at h
  ·rename_i e
   obtain ⟨fa, h1, h⟩ := bind1 h
   have ha := ih.E X Θ a fa ok h1
   split at h
   ·rename_i y p2
    split at h
    ·rename_i hy
     obtain ⟨T, hT, rfl⟩ := Zd.mp h
     obtain ⟨y1, y2, y3⟩ := QgU ok hy
     clear h
     subst e
     refine Qum g1 (ok.mg _ (by decide +kernel)) ha ?_ (Qap h1 _ X.env)
     unfold Qrv at hT
     split at hT
     ·rename_i e; cases hT; subst e
      exact Qfd y1 (ok.mg _ (by decide +kernel)) PyProof.Rows.boot_int rfl
     ·split at hT
      ·rename_i e; cases hT; subst e
       exact Qfd y1 (ok.mg _ (by decide +kernel)) PyProof.Rows.boot_bool rfl
      ·split at hT
       ·rename_i e; cases hT; subst e
        exact Qfd y1 (ok.mg _ (by decide +kernel)) ZbH rfl
       ·split at hT
        ·rename_i e; cases hT; subst e
         exact Qfd y1 (ok.mg _ (by decide +kernel)) PyProof.Rows.boot_tuple rfl
        ·split at hT
         ·rename_i e; cases hT; subst e
          exact Qfd y1 (ok.mg _ (by decide +kernel)) PyProof.Rows.boot_str rfl
         ·cases hT
    ·cases h
   ·cases h
  ·obtain ⟨fa, h1, h⟩ := bind1 h
   obtain ⟨fb, h2, h⟩ := bind1 h
   have ha := ih.E X Θ a fa ok h1
   have hb := ih.E X Θ b fb ok h2
   have sb : SA X [b] (Qc fb Qf) := QgW hb QlX (Qap h2 [] X.env)
   have sa : SA X [a, b] (Qc fa (Qc fb Qf)) := QgW ha sb (Qap h1 [b] X.env)
   have pl : (backTo pos (starEach [b] X.env)).any (·.1) = false := by rw [Qap h2 [] X.env]; rfl
   exact Quv ok g1 sa (Qap h1 [b] X.env) pl h
 | _ :: _ :: _ :: _, h => exact nomatch (show (none : Option DE) = some _ from h)
theorem Qwj {n : Nat} (ih : Qis n) : ∀ X Θ e f, Qad X Θ -> QaU (n + 1) Θ e = some f -> ST X e f := by
 intro X Θ e f ok h
 have dflt : (Qq n Θ e).map QI = some f -> (∀ whole, isTrue e X.env whole = (do let v ← whole; standAt e.pos; holding [v] (truthy v))) -> ST X e f := λ h he => by
  obtain ⟨fa, h1, rfl⟩ := Zd.mp h
  exact Qus (ih.E X Θ e fa ok h1) he
 cases e with
 | UnaryOp op a pos =>
  cases op with
  | Not =>
   change (QaU n Θ a).map Qdj = some f at h
   obtain ⟨fa, h1, rfl⟩ := Zd.mp h
   exact Qu1 (ih.T X Θ a fa ok h1)
  | _ => exact dflt h λ _ => rfl
 | BoolOp op es pos =>
  cases op with
  | And =>
   match es, h with
   | [], h => exact nomatch (show (none : Option DT) = some _ from h)
   | [a], h => exact (Qsj (ih.T X Θ a f ok h)).st
   | a :: b :: r, h =>
    change ((QaU n Θ a).bind λ fa => (QaU n Θ (.BoolOp .And (b :: r) pos)).map λ fb => Qfw fa fb) = some f at h
    obtain ⟨fa, fb, h1, h2, rfl⟩ := Qaf h
    have hb := ih.T X Θ _ fb ok h2
    exact (QuD (ih.T X Θ a fa ok h1) (λ H0 A0 wh pins s σ H Q I q => by have := hb H0 A0 pins s σ H Q I q; exact this)).st
  | Or =>
   match es, h with
   | [], h => exact nomatch (show (none : Option DT) = some _ from h)
   | [a], h => exact (Qu8 (ih.T X Θ a f ok h)).st
   | a :: b :: r, h =>
    change ((QaU n Θ a).bind λ fa => (QaU n Θ (.BoolOp .Or (b :: r) pos)).map λ fb => bOr fa fb) = some f at h
    obtain ⟨fa, fb, h1, h2, rfl⟩ := Qaf h
    have hb := ih.T X Θ _ fb ok h2
    exact (Qwd (ih.T X Θ a fa ok h1) (λ H0 A0 wh pins s σ H Q I q => by have := hb H0 A0 pins s σ H Q I q; exact this)).st
 | Compare a ops bs pos =>
  match ops, bs, h with
  | [op], [b], h =>
   change ((Qq n Θ a).bind λ fa => (Qq n Θ b).bind λ fb => (Qod op).map λ g => QI (dOp g fa fb)) = some f at h
   obtain ⟨fa, h1, h⟩ := bind1 h
   obtain ⟨fb, g, h2, h3, rfl⟩ := Qaf h
   obtain ⟨r, o1, o2, o3⟩ := QpE ok h3
   exact Quf o1 o2 o3 (ih.E X Θ a fa ok h1) (ih.E X Θ b fb ok h2) (Qo6 h2 op)
  | [], _, h => exact nomatch (show (none : Option DT) = some _ from h)
  | [_], [], h => exact nomatch (show (none : Option DT) = some _ from h)
  | [_], _ :: _ :: _, h => exact nomatch (show (none : Option DT) = some _ from h)
  | _ :: _ :: _, _, h => exact nomatch (show (none : Option DT) = some _ from h)
 | IfExp c a b pos => exact nomatch (show (none : Option DT) = some _ from h)
 | _ => exact dflt h λ _ => rfl
theorem Qwm {n : Nat} (ih : Qis n) : ∀ X Θ tg e f, Qad X Θ -> QeM (n + 1) Θ tg e = some f -> SI X tg e f /\ ∀ x, foldedSetIterable e X.env x = pure x := by
 intro X Θ tg e f ok h
 have dflt : (Qq n Θ e).map QY = some f -> SI X tg e f /\ ∀ x, foldedSetIterable e X.env x = pure x := λ h => by
  obtain ⟨fa, h1, rfl⟩ := Zd.mp h
  exact ⟨Quo (ih.E X Θ e fa ok h1), Qvi h1 X.env⟩
 cases e with
 | Call fn args kws pos =>
  cases fn with
  | Name x p =>
   cases kws with
   | cons k ks => exact dflt h
   | nil =>
    simp only [QeM] at h
    split at h
    ·rename_i hg
     simp only [Zl] at hg
     obtain ⟨g1, g2, g3⟩ := QgU ok hg.1
     match args, h with
     | [], h => exact dflt h
     | [a], h =>
      dsimp only at h
      by_cases er : x = "range"
      ·rw [if_pos er] at h
       obtain ⟨fa, h1, rfl⟩ := Zd.mp h
       subst er
       exact ⟨Qpw g1 (ok.mg _ (by decide +kernel)) (ih.E X Θ a fa ok h1) (Qap h1 [] X.env), λ _ => rfl⟩
      rw [if_neg er] at h
      by_cases ez : x = "enumerate"
      ·rw [if_pos ez] at h
       split at h
       ·rename_i ht
        obtain ⟨fa, h1, rfl⟩ := Zd.mp h
        subst ez
        cases tg with
        | Tuple es k tp => exact ⟨QsW g1 (ok.mg _ (by decide +kernel)) (ih.E X Θ a fa ok h1) (Qap h1 [] X.env), λ _ => rfl⟩
        | _ => exact nomatch (show false = true from ht)
       ·cases h
      rw [if_neg ez] at h
      exact dflt h
     | [a, b], h =>
      dsimp only at h
      by_cases er : x = "range"
      ·rw [if_pos er] at h
       obtain ⟨fa, fb, h1, h2, rfl⟩ := Qaf h
       subst er
       exact ⟨Qpl g1 (ok.mg _ (by decide +kernel)) (ih.E X Θ a fa ok h1) (ih.E X Θ b fb ok h2) (by rw [Qap h1 [b] X.env, Qap h2 [] X.env]; rfl) (Qap h2 [] X.env), λ _ => rfl⟩
      rw [if_neg er] at h
      by_cases ez : x = "zip"
      ·rw [if_pos ez] at h
       split at h
       ·rename_i ht
        obtain ⟨fa, fb, h1, h2, rfl⟩ := Qaf h
        subst ez
        cases tg with
        | Tuple es k tp => exact ⟨QuM g1 (ok.mg _ (by decide +kernel)) (ih.E X Θ a fa ok h1) (ih.E X Θ b fb ok h2) (by rw [Qap h1 [b] X.env, Qap h2 [] X.env]; rfl) (Qap h2 [] X.env), λ _ => rfl⟩
        | _ => exact nomatch (show false = true from ht)
       ·cases h
      rw [if_neg ez] at h
      exact dflt h
     | [a, b, c], h =>
      dsimp only at h
      by_cases er : x = "range"
      ·rw [if_pos er] at h
       obtain ⟨fa, h1, h⟩ := bind1 h
       obtain ⟨fb, fc, h2, h3, rfl⟩ := Qaf h
       subst er
       exact ⟨QpG g1 (ok.mg _ (by decide +kernel)) (ih.E X Θ a fa ok h1) (ih.E X Θ b fb ok h2) (ih.E X Θ c fc ok h3) (Qap h1 [b, c] X.env) (Qap h2 [c] X.env) (Qap h3 [] X.env), λ _ => rfl⟩
      rw [if_neg er] at h
      by_cases ez : x = "zip"
      ·rw [if_pos ez] at h
       split at h
       ·rename_i ht
        obtain ⟨fa, h1, h⟩ := bind1 h
        obtain ⟨fb, fc, h2, h3, rfl⟩ := Qaf h
        subst ez
        cases tg with
        | Tuple es k tp => exact ⟨QtO g1 (ok.mg _ (by decide +kernel)) (ih.E X Θ a fa ok h1) (ih.E X Θ b fb ok h2) (ih.E X Θ c fc ok h3) (Qap h1 [b, c] X.env) (Qap h2 [c] X.env) (Qap h3 [] X.env), λ _ => rfl⟩
        | _ => exact nomatch (show false = true from ht)
       ·cases h
      rw [if_neg ez] at h
      exact dflt h
     | _ :: _ :: _ :: _ :: _, h => exact dflt h
    ·exact dflt h
  | _ => exact dflt h
 | _ => exact dflt h
theorem Qdc : ∀ n, Qis n
 | 0 => ⟨λ _ _ _ _ _ h => (nomatch (show (none : Option DE) = some _ from h)), λ _ _ _ _ _ _ _ _ _ h => by simp [Qiy] at h, λ _ _ _ _ _ h => by simp [QaU] at h, λ _ _ _ _ _ h => by simp [QeF] at h, λ _ _ _ _ _ h => by simp [Qbk] at h, λ _ _ _ _ _ h => by simp [QgN] at h, λ _ _ _ _ _ _ h => by simp [QeM] at h⟩
 | n + 1 => by
  have ih := Qdc n
  refine ⟨Qwu ih, Qv1 ih, Qwj ih, λ X Θ e f ok h => ?_, λ X Θ e f ok h => ?_, λ X Θ e f ok h => ?_, Qwm ih⟩
  ·match e, h with
   | [], h => simp only [QeF] at h; cases h; exact Qq5
   | [c], h => simp only [QeF] at h; exact QqJ (ih.T X Θ c f ok h)
   | _ :: _ :: _, h => simp only [QeF] at h; cases h
  ·match e, h with
   | [], h => simp only [Qbk] at h; cases h; exact QlX
   | e :: es, h =>
    simp only [Qbk] at h
    obtain ⟨fa, fs, h1, h2, rfl⟩ := Qaf h
    exact QgW (ih.E X Θ e fa ok h1) (ih.A X Θ es fs ok h2) (Qap h1 es X.env)
  ·match e, h with
   | none, h => simp only [QgN] at h; cases h; exact QsJ
   | some e, h =>
    simp only [QgN] at h
    obtain ⟨fa, h1, rfl⟩ := Zd.mp h
    exact Qty (ih.E X Θ e fa ok h1)
section
variable {X : Cx} {st : Stmt} {sts : List Stmt} {e : Expr} {fa : DE} {f g : DS} {gc : DT} {pos : Pos}
noncomputable def QB : DS := λ _ => none
theorem QrK : S1 X st QB := λ H0 A0 => Qqh.mono λ E σ H ⟨ρ, hs, F, o, rel, e, q⟩ => by cases e
theorem QfF {g : DT} {fb : DS} : ∀ {n : Nat} {ρ : En} {o : Out}, QaJ g fb n ρ = some o -> QaJ g fb (n + 1) ρ = some o
 | 0, _, _, h => by cases h
 | n + 1, ρ, o, h => by
  unfold QaJ at h ⊢
  obtain ⟨b, hb, h⟩ := bind1 h
  rw [hb]
  cases b with
  | false => exact h
  | true =>
   rw [if_pos rfl] at h
   obtain ⟨o1, ho, h⟩ := bind1 h
   rw [Za, if_pos rfl, ho]
   cases o1 with
   | nx ρ2 => exact QfF h
   | ct ρ2 => exact QfF h
   | bk ρ2 => exact h
   | rt d fr => exact h
theorem Qlb {g : DT} {fb : DS} {ρ : En} {o : Out} {n m : Nat} (h : QaJ g fb n ρ = some o) (hm : n <= m) : QaJ g fb m ρ = some o := by
 induction hm with
 | refl => exact h
 | step _ ih => exact QfF ih
open Classical in
noncomputable def Qb2 (g : DT) (fb : DS) : DS := λ ρ => if h : ∃ n, (QaJ g fb n ρ).isSome = true then QaJ g fb h.choose ρ else none
theorem QcA {g : DT} {fb : DS} {ρ : En} {o : Out} : Qb2 g fb ρ = some o ↔ ∃ n, QaJ g fb n ρ = some o := by
 unfold Qb2
 constructor
 ·intro h
  split at h
  ·exact ⟨_, h⟩
  ·cases h
 ·rintro ⟨n, h⟩
  have hx : ∃ n, (QaJ g fb n ρ).isSome = true := ⟨n, by rw [h]; rfl⟩
  rw [dif_pos hx]
  obtain ⟨o', ho'⟩ := Zbw.mp hx.choose_spec
  have h1 := Qlb h (Nat.le_max_left n hx.choose)
  have h2 := Qlb ho' (Nat.le_max_right n hx.choose)
  rw [h1] at h2
  rw [ho', ← h2]
theorem QpX {c : Expr} {body : List Stmt} (hp : PassesOwn (model X.prog X.w) X.A X.env X.xe) (hc : ST X c gc) (hb : SS X body f) : S1 X (.While c body [] pos) (Qb2 gc f) := λ H0 A0 pins s σ H D I h => by
 obtain ⟨ρ, hs, F, o, rel, e, q⟩ := h
 obtain ⟨n, hn⟩ := QcA.mp e
 exact Qqr (n := n) hp hc hb H0 A0 pins s σ H D I ⟨ρ, hs, F, o, rel, hn, q⟩
theorem QoV (g : DT) (fb : DS) (ρ : En) : Qb2 g fb ρ = (g ρ).bind λ b => if b = true then (fb ρ).bind λ o => match o with
  | .nx ρ2 => Qb2 g fb ρ2
  | .ct ρ2 => Qb2 g fb ρ2
  | .bk ρ2 => some (.nx ρ2)
  | .rt d fr => some (.rt d fr)
  else some (.nx ρ) := by
 apply Option.ext
 intro o
 rw [QcA]
 constructor
 ·rintro ⟨n, h⟩
  cases n with
  | zero => cases h
  | succ n =>
   unfold QaJ at h
   obtain ⟨b, hb, h⟩ := bind1 h
   rw [hb]
   cases b with
   | false => exact h
   | true =>
    rw [if_pos rfl] at h
    obtain ⟨o1, ho, h⟩ := bind1 h
    rw [Za, if_pos rfl, ho]
    cases o1 with
    | nx ρ2 => exact QcA.mpr ⟨n, h⟩
    | ct ρ2 => exact QcA.mpr ⟨n, h⟩
    | bk ρ2 => exact h
    | rt d fr => exact h
 ·intro h
  obtain ⟨b, hb, h⟩ := bind1 h
  cases b with
  | false => exact ⟨1, by unfold QaJ; rw [hb]; exact h⟩
  | true =>
   rw [if_pos rfl] at h
   obtain ⟨o1, ho, h⟩ := bind1 h
   cases o1 with
   | nx ρ2 =>
    obtain ⟨n, hn⟩ := QcA.mp h
    exact ⟨n + 1, by unfold QaJ; rw [hb]; rw [Za, if_pos rfl, ho]; exact hn⟩
   | ct ρ2 =>
    obtain ⟨n, hn⟩ := QcA.mp h
    exact ⟨n + 1, by unfold QaJ; rw [hb]; rw [Za, if_pos rfl, ho]; exact hn⟩
   | bk ρ2 => exact ⟨1, by unfold QaJ; rw [hb]; rw [Za, if_pos rfl, ho]; exact h⟩
   | rt d fr => exact ⟨1, by unfold QaJ; rw [hb]; rw [Za, if_pos rfl, ho]; exact h⟩
noncomputable def Qn8 (t : Tg) (fa : DE) : DS := λ ρ => (fa ρ).bind λ r => (Qcr t r.d (Qa5 r.norm.M ρ)).map .nx
theorem QtZ {tg : Expr} {t : Tg} (he : SE X e fa) (hg : SG X tg t) (hs : swapsWithSole [tg] e pos.line X.env = pure false) (hw : swappedStores [tg] e X.env = pure none) (h1 : (assignEach [tg] X.env).map (·.2) = [assign tg X.env]) :
  S1 X (.Assign [tg] e pos) (Qn8 t fa) := λ H0 A0 => (QpN (he H0 A0) (hg H0 A0) hs hw h1).mono λ E σ H ⟨ρ, hs, F, o, rel, e, q⟩ => by
 obtain ⟨r, e1, e⟩ := bind1 e
 obtain ⟨ρ', e2, rfl⟩ := Zd.mp e
 refine ⟨ρ, hs, F, r, rel, e1, λ v H' G p => ?_⟩
 have p' := p.norm
 have rp := p'.rp
 rw [r.QcS] at rp
 exact ⟨Qa5 r.norm.M ρ, hs, F, r.d, G, ρ', (rel.ext p'.same).weak (Qbs _ _), rp, Shr.of rel p'.src, e2, λ σ' F' rel' _ _ => q _ _ F' rel'⟩
theorem Qto {tg iter elt : Expr} {ifs : List Expr} {scope : Scope} {N' : List Str} {fi : DI} {t : Tg} {cap : List (Option Nat)} {ft : DT} {fe : DE} {i : Nat} {x : Str} {pos' spos : Pos} (hN : X.N.Nodup) (hx1 : X.N[i]? = some x) (hx : Loc X.env.scope x) (hf : X.fn x = true ∨ X.env.scope.names.lookup x = some .local)
  (hcalm : X.calm = true) (S : QdM X N' scope) (hi : SI X tg iter fi) (hcap : Qkq X N' scope cap t.slots)
  (hin : ∀ cl C fp s3 H3, SG (cxc X N' scope cl C fp s3 H3) tg t /\ Qlr (cxc X N' scope cl C fp s3 H3) ifs ft /\ SE (cxc X N' scope cl C fp s3 H3) elt fe) (hs : ∀ x, foldedSetIterable iter X.env x = pure x) :
  S1 X (.Assign [.Name x pos'] (.ListComp elt [⟨tg, iter, ifs, 0⟩] scope pos) spos) (Qp i (QF fi t cap ft fe)) :=
 Qlm λ H0 A0 => (Qtm hN hx1 hx hf hcalm S (hi H0 A0) (λ cl C fp s3 H3 => ⟨(hin cl C fp s3 H3).1 _ _, (hin cl C fp s3 H3).2.1 _ _, (hin cl C fp s3 H3).2.2 _ _⟩) hs).mono λ E σ H h => QjS hcap h
end
end HS
namespace HS
open PySem PySem.Spec L2 PyProof.Rows
section
variable {X : Cx} {a b e : Expr} {fa fb : DE} {pf : DP} {x : Nat} {pos apos : Pos}
theorem Qtp {X : Cx} {H : Hp} {ds : List D} {w : V} {Gm : List Addr} (h : Rp X.K H (.lst ds) w Gm) : tyV X.K "list" w H := by
 obtain ⟨l, ws, L, rfl, hl, _⟩ := h.lst_inv
 exact .inl ⟨rfl, ws, QX hl⟩
theorem Q0.unit {K : PySem.W.Frag} {ρ : En} {F : Nat -> List Addr} {H : Hp} : Q0 K ρ F H H ⟨.non, true, []⟩ .non [] := .flat (QK.refl _) .Qh8
noncomputable def Qrp (x : Nat) (pf : DP) : DS := λ ρ => match ρ[x]? with
 | some (some (d, true)) => (pf ρ).bind λ is => match Qa8 d is with
  | some (.lst _) => some (.nx (ρ.set x (some (QaN is d (.lst []), true))))
  | _ => none
 | _ => none
theorem QqZ {H0 : Hp} {A0 : List Addr} {E : Ends} {σ : L2.St} {H : Hp} : tS X.K H0 A0 (Qrp x pf) E σ H -> Qkx (Qvw X.K "list" QoP (tP X.K H0 A0 x pf)) E σ H := λ ⟨ρ, hs, F, o, rel, e, q⟩ => by
 unfold Qrp at e
 split at e
 ·rename_i d hx
  obtain ⟨is, e2, e⟩ := bind1 e
  split at e
  ·rename_i ds hp
   cases e
   refine ⟨ρ, hs, F, d, true, is, .lst ds, rel, hx, e2, hp, λ v0 w H2 Gm s2 hv0 fo => ⟨Qtp fo.rp, ?_⟩⟩
   obtain ⟨l, vsm, Gp, rfl, g1, g2, g3, g4, g5, g6, g7⟩ := (rel.ext s2).write .unit rfl Zay hx (by simp) hv0 fo
   refine ⟨l, vsm, rfl, rfl, g1, ?_⟩
   obtain ⟨F', rel'⟩ := g7 [] [] [] (by simp [Rps]) (ZX _) rfl (λ a => by simp)
   exact q _ _ F' rel'
  ·cases e
 ·cases e
end
noncomputable def Qfe : Expr -> Bool
 | .ListComp .. => false
 | .SetComp .. => false
 | .DictComp .. => false
 | _ => true
theorem Qgj {e : Expr} {t : Option Expr} {l : Nat} {env : Env} (h : Qfe e = true) : swapsWith e t l env = pure false := by
 cases e <;> first | rfl | cases h
noncomputable def Qpx : Expr -> Bool
 | .Tuple .. => true
 | _ => false
noncomputable def Qcq (n : Nat) (Θ : Th) (e : Expr) : Option (Nat × DP) := match n with
 | 0 => none
 | n + 1 => match e with
  | .Name x _ => (Θ.slot x).map λ i => (i, Qam)
  | .Subscript a b _ => (Qcq n Θ a).bind λ q => (Qq n Θ b).map λ fb => (q.1, QcE q.2 fb)
  | _ => none
theorem QfJ : ∀ (n : Nat) (X : Cx) (Θ : Th) (e : Expr) (q : Nat × DP), Qad X Θ -> Qcq n Θ e = some q -> SPa X e q.1 q.2 /\ attributeBase e = λ _ env w => w
 | 0, _, _, _, _, _, h => by simp [Qcq] at h
 | n + 1, X, Θ, e, q, ok, h => by
  cases e with
  | Name x pos =>
   simp only [Qcq] at h
   obtain ⟨i, hi, rfl⟩ := Zd.mp h
   exact ⟨Qrs (Qno ok hi), by funext a b c; rfl⟩
  | Subscript a b pos =>
   simp only [Qcq] at h
   obtain ⟨q', fb, h1, h2, rfl⟩ := Qaf h
   exact ⟨Qti (QfJ n X Θ a q' ok h1).1 ((Qdc n).E X Θ b fb ok h2) (Qm9 h2), by funext a b c; rfl⟩
  | _ => simp [Qcq] at h
noncomputable def Qji : Expr -> Bool
 | .Name .. => true
 | .Subscript _ (.Slice ..) _ => false
 | .Subscript (.Call ..) _ _ => false
 | .Subscript .. => true
 | _ => false
noncomputable def Qrj : Operator -> Option (D -> D -> Option D)
 | .Add => some (gI λ i j => some (.int (i + j)))
 | .Sub => some Qaq
 | _ => none
theorem Qu5 {X : Cx} {op : Operator} {g : D -> D -> Option D} (h : Qrj op = some g) : ∃ r, OpR X (inplaceOp op) r /\ QbS X.K g r := by
 cases op <;> cases h
 ·exact ⟨_, Qsx, Qe8 (λ i j d e => by cases e; rfl) λ i j d e H Q q => by cases e; exact ⟨i, j, rfl, rfl, q _ λ _ => .int_mk⟩⟩
 ·exact ⟨_, Qss, QoN⟩
noncomputable def Qs0 : Expr -> Bool
 | .Slice .. => true
 | _ => false
noncomputable def QiK (n : Nat) (Θ : Th) (o : Expr) (m : Str) (args : List Expr) : Option DS := match args with
  | [] => (Qcq n Θ o).bind λ q => if m = "clear" then some (Qrp q.1 q.2) else
    none
  | [e] => if m = "append" then
     ((Qcq n Θ o).bind λ q => (Qq n Θ e).map λ fa => Qh3 q.1 q.2 fa)
    else
    none
  | _ => none
theorem QrB {n : Nat} {X : Cx} {Θ : Th} {o : Expr} {m : Str} {args : List Expr} {f : DS} {apos cpos pos : Pos} (ok : Qad X Θ) (h : QiK n Θ o m args = some f) (hl : (apos.endLine == cpos.line) = true) :
  S1 X (.Expr (.Call (.Attribute o m apos) args [] cpos) pos) f := by
 have base : ∀ {q : Nat × DP}, Qcq n Θ o = some q -> SPa X o q.1 q.2 /\ attributeBase o m X.env (eval o X.env) = eval o X.env := λ {q} h1 => by
  obtain ⟨sp, ab⟩ := QfJ n X Θ o _ ok h1
  exact ⟨sp, by rw [ab]⟩
 have app : ∀ {e : Expr} {f : DS}, m = "append" -> ((Qcq n Θ o).bind λ q => (Qq n Θ e).map λ fa => Qh3 q.1 q.2 fa) = some f -> S1 X (.Expr (.Call (.Attribute o m apos) [e] [] cpos) pos) f := λ {e f} em h => by
  obtain ⟨q, fa, h1, h2, rfl⟩ := Qaf h
  obtain ⟨sp, hb⟩ := base h1
  subst em
  have he := (Qdc n).E X Θ e fa ok h2
  have st := Qap h2 [] X.env
  have sa : ∀ H0 A0, PA X [e] (QnG (tV X.K H0 A0 fa) Qop) := λ H0 A0 => Qat (he H0 A0) QcR st
  exact λ H0 A0 => (Qjk (Qv0 ZbC PySem.F.slot_list_append PySem.F.type_list_append QjV (sp H0 A0) (sa H0 A0) hb (by rw [st]; rfl) hl st rfl) rfl).mono λ E σ H q => QrH q
 match args, h with
 | [], h =>
  unfold QiK at h
  dsimp only at h
  obtain ⟨⟨x, pf⟩, h1, h⟩ := bind1 h
  obtain ⟨sp, hb⟩ := base h1
  by_cases e : m = "clear"
  ·rw [if_pos e] at h; cases h; subst e
   exact λ H0 A0 => (Qjk (QpQ ZbC PySem.F.slot_list_clear PySem.F.type_list_clear QqE (sp H0 A0) hb hl) rfl).mono λ E σ H q => QqZ q
  rw [if_neg e] at h
  cases h
 | [e], h =>
  unfold QiK at h
  dsimp only at h
  by_cases em : m = "append"
  ·rw [if_pos em] at h
   exact app em h
  rw [if_neg em] at h
  clear em
  clear app
  cases h
 | _ :: _ :: _, h => exact nomatch (show (none : Option DS) = some _ from h)
end HS
namespace HS
open PySem PySem.Spec L2 PyProof.Rows
mutual
noncomputable def Qkp (n : Nat) (Θ : Th) (st : Stmt) : Option DS := match n with
 | 0 => none
 | n + 1 => match st with
  | .Pass _ => some Qm
  | .Break _ => some Qra
  | .Continue _ => some QrM
  | .Raise _ _ _ => some QB
  | .Return none _ => some QnS
  | .Return (some e) _ => (Qq n Θ e).map QM
  | .Expr (.Constant (.str _) _ _) _ => some Qm
  | .Expr (.Call (.Attribute o m apos) args [] cpos) _ => if (apos.endLine == cpos.line) = true then QiK n Θ o m args else none
  | .Expr (.Call (.Name x p) args [] cpos) _ => (Qq n Θ (.Call (.Name x p) args [] cpos)).map QdX
  | .Assign [.Name x _] e _ => (Θ.Qd2 x).bind λ i => (Qq n Θ e).map λ fa => Qp i (if Qji e = true then Qbn fa else fa)
  | .Assign [.Tuple es k p] e _ => if Qfe e = true /\ Qpx e = false then (Qe7 Θ (.Tuple es k p)).bind λ t => (Qq n Θ e).map λ fa => Qn8 t fa else none
  | .Assign [.Subscript a i _] e _ => (Qcq n Θ a).bind λ q => (Qq n Θ i).bind λ fi => (Qq n Θ e).map λ fa => Qa4 q.1 q.2 fi fa
  | .AugAssign (.Subscript a i _) op e _ => (Qcq n Θ a).bind λ q => (Qq n Θ i).bind λ fi => (Qrj op).bind λ g => (Qq n Θ e).map λ fa => Qdl g q.1 q.2 fi fa
  | .If c a b _ => (QaU n Θ c).bind λ g => (Qa7 n Θ a).bind λ f1 => (Qa7 n Θ b).map λ f2 => sIf g f1 f2
  | .For tg iter body [] _ => (Qe7 Θ tg).bind λ t => (QeM n Θ tg iter).bind λ fi => (Qa7 n Θ body).map λ fb => QaV fi t fb
  | .While c body [] _ => (QaU n Θ c).bind λ g => (Qa7 n Θ body).map λ fb => Qb2 g fb
  | _ => none
noncomputable def Qa7 (n : Nat) (Θ : Th) (sts : List Stmt) : Option DS := match n with
 | 0 => none
 | n + 1 => match sts with
  | [] => some Qm
  | st :: r => (Qkp n Θ st).bind λ f => (Qa7 n Θ r).map λ g => Qe f g
end
theorem Qnb {n : Nat} {Θ : Th} {e : Expr} {f : DE} (h : Qq n Θ e = some f) : Qs0 e = false := by
 cases n with
 | zero => exact nomatch (show (none : Option DE) = some _ from h)
 | succ n => cases e <;> first | rfl | (exact nomatch (show (none : Option DE) = some _ from h))
theorem QsE {n : Nat} {Θ : Th} {elt : Expr} {gens : List Comprehension} {scope : Scope} {pos : Pos} {f : DE} (h : Qq n Θ (.ListComp elt gens scope pos) = some f) : ∃ m tg iter ifs t fi ft fe, n = m + 1 /\ gens = [⟨tg, iter, ifs, 0⟩] /\ Qe7 (inner Θ scope) tg = some t /\ Qic Θ scope t = true ∧
  QeM m Θ tg iter = some fi /\ QeF m (inner Θ scope) ifs = some ft /\ Qq m (inner Θ scope) elt = some fe /\ f = QF fi t (QgO Θ scope) ft fe := by
 cases n with
 | zero => exact nomatch (show (none : Option DE) = some _ from h)
 | succ n =>
  match gens, h with
  | [⟨tg, iter, ifs, k⟩], h =>
   by_cases hk : k = 0
   ·subst hk
    (conv at h => lhs; whnf)
    obtain ⟨t, ht, h⟩ := bind1 h
    split at h
    ·rename_i hc
     simp only [Zl] at hc
     obtain ⟨fi, h1, h⟩ := bind1 h
     obtain ⟨ft, fe, h2, h3, rfl⟩ := Qaf h
     exact ⟨n, tg, iter, ifs, t, fi, ft, fe, rfl, rfl, ht, hc.1, h1, h2, h3, rfl⟩
    ·cases h
   ·exfalso
    cases k with
    | ofNat k =>
     cases k with
     | zero => exact hk rfl
     | succ k => exact nomatch (show (none : Option DE) = some _ from h)
    | negSucc k => exact nomatch (show (none : Option DE) = some _ from h)
  | [], h => exact nomatch (show (none : Option DE) = some _ from h)
  | ⟨_, _, _, .ofNat 0⟩ :: _ :: _, h => exact nomatch (show (none : Option DE) = some _ from h)
  | ⟨_, _, _, .ofNat (k + 1)⟩ :: _ :: _, h => exact nomatch (show (none : Option DE) = some _ from h)
  | ⟨_, _, _, .negSucc k⟩ :: _ :: _, h => exact nomatch (show (none : Option DE) = some _ from h)
theorem QsK {n : Nat} {X : Cx} {Θ : Th} {x : Str} {p pos : Pos} {e : Expr} {fa : DE} {i : Nat} (ok : Qad X Θ) (hx : Θ.Qd2 x = some i) (h : Qq n Θ e = some fa) : S1 X (.Assign [.Name x p] e pos) (Qp i fa) := by
 have hN : X.N.Nodup := by rw [ok.N]; exact ok.nd
 obtain ⟨h1, h2, h3⟩ := QfK ok hx
 by_cases hc : Qfe e = true
 ·have he := (Qdc n).E X Θ e fa ok h
  exact Qlm λ H0 A0 => Qls hN h1 h2 (he H0 A0) (Qgj hc) h3
 ·cases e with
  | ListComp elt gens scope cpos =>
   obtain ⟨m, tg, iter, ifs, t, fi, ft, fe, rfl, rfl, ht, hco, g1, g2, g3, rfl⟩ := QsE h
   obtain ⟨S, cap, inn⟩ := QkM ok hco
   obtain ⟨i1, i2⟩ := (Qdc m).I X Θ tg iter fi ok g1
   exact Qto hN h1 h2 h3 ok.calm S i1 cap (λ cl C fp s3 H3 => ⟨Qks (inn cl C fp s3 H3) ht, (Qdc m).Ts _ _ ifs ft (inn cl C fp s3 H3) g2, (Qdc m).E _ _ elt fe (inn cl C fp s3 H3) g3⟩) i2
  | SetComp _ _ _ _ => cases n <;> exact nomatch (show (none : Option DE) = some _ from h)
  | DictComp _ _ _ _ _ => cases n <;> exact nomatch (show (none : Option DE) = some _ from h)
  | _ => exact absurd rfl hc
theorem QrP {X : Cx} {x : Str} {p pos : Pos} {e : Expr} {fa : DE} {i : Nat} {n : Nat} {Θ : Th} (ok : Qad X Θ) (hx : Θ.Qd2 x = some i) (h : Qq n Θ e = some fa) (ha : Qji e = true) : S1 X (.Assign [.Name x p] e pos) (Qp i (Qbn fa)) := by
 have hN : X.N.Nodup := by rw [ok.N]; exact ok.nd
 obtain ⟨h1, h2, h3⟩ := QfK ok hx
 have hc : Qfe e = true := by cases e <;> first | rfl | cases ha
 have he := Qrf ((Qdc n).E X Θ e fa ok h)
 exact Qlm λ H0 A0 => Qls hN h1 h2 (he H0 A0) (Qgj hc) h3
theorem Qo8 {a i e : Expr} {p : Pos} {l : Nat} {env : Env} : swapsWithSole [.Subscript a i p] e l env = pure false := by
 cases e <;> rfl
structure Qvv (n : Nat) : Prop where
 S : ∀ X Θ st f, Qad X Θ -> Qkp n Θ st = some f -> S1 X st f
 Ss : ∀ X Θ sts f, Qad X Θ -> Qa7 n Θ sts = some f -> SS X sts f
theorem Qvc {n : Nat} (ih : Qvv n) : ∀ X Θ st f, Qad X Θ -> Qkp (n + 1) Θ st = some f -> S1 X st f := by
 intro X Θ st f ok h
 have hN : X.N.Nodup := by rw [ok.N]; exact ok.nd
 have E := Qdc n
 cases st with
 | Pass pos => change some Qm = some f at h; cases h; exact Qs9
 | Break pos => change some Qra = some f at h; cases h; exact Qqs
 | Continue pos => change some QrM = some f at h; cases h; exact QsC
 | Raise a b pos => change some QB = some f at h; cases h; exact QrK
 | Return e pos =>
  cases e with
  | none => change some QnS = some f at h; cases h; exact Qtt
  | some e =>
   change (Qq n Θ e).map QM = some f at h
   obtain ⟨fa, h1, rfl⟩ := Zd.mp h
   exact QuY (E.E X Θ e fa ok h1)
 | Expr e pos =>
  cases e with
  | Constant c k p =>
   cases c with
   | str x =>
    change some Qm = some f at h
    cases h
    exact λ H0 A0 => Qt1.mono λ E σ H ⟨ρ, hs, F, o, rel, e, q⟩ => by cases e; exact q σ H F rel
   | _ => exact nomatch (show (none : Option DS) = some _ from h)
  | Call fn args kws cpos =>
   cases fn with
   | Attribute o m apos =>
    cases kws with
    | nil =>
     change (if (apos.endLine == cpos.line) = true then QiK n Θ o m args else none) = some f at h
     split at h
     ·rename_i hl
      exact QrB ok h hl
     ·cases h
    | cons _ _ => exact nomatch (show (none : Option DS) = some _ from h)
   | Name x p =>
    cases kws with
    | nil =>
     change (Qq n Θ (.Call (.Name x p) args [] cpos)).map QdX = some f at h
     obtain ⟨fa, h1, rfl⟩ := Zd.mp h
     exact λ H0 A0 => Qsh (Qjk (E.E X Θ _ fa ok h1 H0 A0) rfl)
    | cons _ _ => exact nomatch (show (none : Option DS) = some _ from h)
   | _ => exact nomatch (show (none : Option DS) = some _ from h)
  | _ => exact nomatch (show (none : Option DS) = some _ from h)
 | Assign ts e pos =>
  match ts, h with
  | [t], h =>
   cases t with
   | Name x p =>
    change ((Θ.Qd2 x).bind λ i => (Qq n Θ e).map λ fa => Qp i (if Qji e = true then Qbn fa else fa)) = some f at h
    obtain ⟨i, fa, h1, h2, rfl⟩ := Qaf h
    split
    ·rename_i ha; exact QrP ok h1 h2 ha
    ·exact QsK ok h1 h2
   | Tuple es k p =>
    change (if Qfe e = true /\ Qpx e = false then (Qe7 Θ (.Tuple es k p)).bind λ t => (Qq n Θ e).map λ fa => Qn8 t fa else none) = some f at h
    split at h
    ·rename_i hc
     obtain ⟨t, fa, h1, h2, rfl⟩ := Qaf h
     refine QtZ (E.E X Θ e fa ok h2) (Qks ok h1) (by show swapsWith e (some (.Tuple es k p)) pos.line X.env = pure false; exact Qgj hc.1) ?_ rfl
     cases e <;> first | rfl | (cases hc.2)
    ·cases h
   | Subscript a i p =>
    change ((Qcq n Θ a).bind λ q => (Qq n Θ i).bind λ fi => (Qq n Θ e).map λ fa => Qa4 q.1 q.2 fi fa) = some f at h
    obtain ⟨q, h1, h⟩ := bind1 h
    obtain ⟨fi, fa, h2, h3, rfl⟩ := Qaf h
    obtain ⟨sp, _⟩ := QfJ n X Θ a q ok h1
    have ns := Qnb h2
    refine Qu7 (E.E X Θ e fa ok h3) sp (E.E X Θ i fi ok h2) λ te to ti he ho hi => QpN he (Qvu ho hi set_list ?_) Qo8 ?_ rfl
    ·intro v; cases i <;> first | rfl | (cases ns)
    ·cases e <;> rfl
   | _ => exact nomatch (show (none : Option DS) = some _ from h)
  | [], h => exact nomatch (show (none : Option DS) = some _ from h)
  | t :: _ :: _, h => cases t <;> exact nomatch (show (none : Option DS) = some _ from h)
 | AugAssign t op e pos =>
  cases t with
  | Subscript a i p =>
   change ((Qcq n Θ a).bind λ q => (Qq n Θ i).bind λ fi => (Qrj op).bind λ g => (Qq n Θ e).map λ fa => Qdl g q.1 q.2 fi fa) = some f at h
   obtain ⟨q, h1, h⟩ := bind1 h
   obtain ⟨fi, h2, h⟩ := bind1 h
   obtain ⟨g, fa, h3, h4, rfl⟩ := Qaf h
   obtain ⟨r, o1, o2⟩ := Qu5 (X := X) h3
   obtain ⟨sp, _⟩ := QfJ n X Θ a q ok h1
   have ns := Qnb h2
   exact Qsu o1 o2 (E.E X Θ e fa ok h4) sp (E.E X Θ i fi ok h2) λ ov iv new => by cases i <;> first | rfl | (cases ns)
  | _ => exact nomatch (show (none : Option DS) = some _ from h)
 | If c a b pos =>
  change ((QaU n Θ c).bind λ g => (Qa7 n Θ a).bind λ f1 => (Qa7 n Θ b).map λ f2 => sIf g f1 f2) = some f at h
  obtain ⟨g, h1, h⟩ := bind1 h
  obtain ⟨f1, f2, h2, h3, rfl⟩ := Qaf h
  exact QvQ (E.T X Θ c g ok h1) (ih.Ss X Θ a f1 ok h2) (ih.Ss X Θ b f2 ok h3)
 | For tg iter body els pos =>
  cases els with
  | nil =>
   change ((Qe7 Θ tg).bind λ t => (QeM n Θ tg iter).bind λ fi => (Qa7 n Θ body).map λ fb => QaV fi t fb) = some f at h
   obtain ⟨t, h1, h⟩ := bind1 h
   obtain ⟨fi, fb, h2, h3, rfl⟩ := Qaf h
   obtain ⟨i1, i2⟩ := E.I X Θ tg iter fi ok h2
   exact QvG ok.pass ok.calm i1 (Qks ok h1) (ih.Ss X Θ body fb ok h3) i2
  | cons _ _ => exact nomatch (show (none : Option DS) = some _ from h)
 | While c body els pos =>
  cases els with
  | nil =>
   change ((QaU n Θ c).bind λ g => (Qa7 n Θ body).map λ fb => Qb2 g fb) = some f at h
   obtain ⟨g, fb, h1, h2, rfl⟩ := Qaf h
   exact QpX ok.pass (E.T X Θ c g ok h1) (ih.Ss X Θ body fb ok h2)
  | cons _ _ => exact nomatch (show (none : Option DS) = some _ from h)
 | _ => exact nomatch (show (none : Option DS) = some _ from h)
theorem Qr7 : ∀ n, Qvv n
 | 0 => ⟨λ _ _ _ _ _ h => (nomatch (show (none : Option DS) = some _ from h)), λ _ _ _ _ _ h => (nomatch (show (none : Option DS) = some _ from h))⟩
 | n + 1 => by
  have ih := Qr7 n
  refine ⟨Qvc ih, λ X Θ sts f ok h => ?_⟩
  match sts, h with
  | [], h => change some Qm = some f at h; cases h; exact QvE
  | st :: r, h =>
   change ((Qkp n Θ st).bind λ f => (Qa7 n Θ r).map λ g => Qe f g) = some f at h
   obtain ⟨fs, fr, h1, h2, rfl⟩ := Qaf h
   exact Qsk (ih.S X Θ st fs ok h1) (ih.Ss X Θ r fr ok h2)
noncomputable def QaI (k : Nat) (ds : List D) : En := ds.map (λ d => some (d, d.flat)) ++ List.replicate (k - ds.length) none
noncomputable def outD : Out -> Option (D × Bool)
 | .rt d fr => some (d, fr)
 | .nx _ => some (.non, true)
 | _ => none
noncomputable def Ql (k : Nat) (f : DS) : Den := λ ds => (f (QaI k ds)).bind outD
theorem Rps.parts {K : PySem.W.Frag} {H : Hp} : ∀ {ds : List D} {vs : List V} {F : List Addr}, Rps K H ds vs F →
  ∃ Fs : List (List Addr), (∀ L ∈ Fs, ∀ a ∈ L, a ∈ F) /\ ∀ (i : Nat) (d : D), ds[i]? = some d -> ∃ v, vs[i]? = some v /\ Rp K H d v (Fs.getD i [])
 | [], _, _, h => ⟨[], λ L hL => by simp at hL, λ i d e => by simp at e⟩
 | d :: ds, _, _, h => by
  simp only [Rps] at h
  obtain ⟨v, ws, F1, F2, rfl, rfl, r, q⟩ := h
  obtain ⟨Fs, h1, h2⟩ := Rps.parts q
  refine ⟨F1 :: Fs, λ L hL a ha => ?_, λ i d' e => ?_⟩
  ·rcases Zv.mp hL with rfl | hL
   ·exact Zg _ ha
   ·exact Ze _ (h1 L hL a ha)
  ·cases i with
   | zero => simp at e; subst e; exact ⟨v, by simp, by simpa using r⟩
   | succ i => obtain ⟨w, hw, hr⟩ := h2 i d' (by simpa using e); exact ⟨w, by simpa using hw, by simpa using hr⟩
theorem Qhf {k : Nat} {ds : List D} {i : Nat} {d : D} {b : Bool} (h : (QaI k ds)[i]? = some (some (d, b))) : ds[i]? = some d /\ b = d.flat := by
 unfold QaI at h
 by_cases hi : i < ds.length
 ·rw [Zam (by simpa using hi), Zm] at h
  cases e : ds[i]? with
  | none => rw [e] at h; cases h
  | some a => rw [e] at h; cases h; exact ⟨rfl, rfl⟩
 ·rw [Zbo (by simpa using hi), Zby] at h
  split at h <;> cases h
theorem Qp2 {K : PySem.W.Frag} {H : Hp} {ds : List D} {vs : List V} {F : List Addr} {N : List Str} (r : Rps K H ds vs F) : ∃ F0, Rel K H F [] (QaI N.length ds) F0 (start N vs) H := by
 obtain ⟨Fs, h1, h2⟩ := r.parts
 have hl := r.length
 have src : ∀ i a, a ∈ Fs.getD i [] -> a ∈ F := λ i a ha => by
  by_cases hi : i < Fs.length
  ·have : Fs.getD i [] ∈ Fs := by rw [Zai, Zar hi]; exact List.getElem_mem hi
   exact h1 _ this a ha
  ·rw [Zai, Zo (by omega)] at ha; simp at ha
 refine ⟨λ i => Fs.getD i [], ?_, λ i d b e => ?_, λ i d e => ?_, λ i d b e a ha => .inr (src i a ha), λ t ht => absurd ht (by simp), QK.refl _⟩
 ·unfold QaI L2.start; simp [hl]
 ·obtain ⟨e1, _⟩ := Qhf e
  obtain ⟨v, hv, hr⟩ := h2 i d e1
  refine ⟨v, ?_, hr⟩
  have hi : i < vs.length := (Zf.mp hv).1
  unfold L2.start
  rw [Zam (by simpa using hi), Zm, hv]; rfl
 ·obtain ⟨e1, e2⟩ := Qhf e
  obtain ⟨v, hv, hr⟩ := h2 i d e1
  have z : Fs.getD i [] = [] := hr.Qcp e2.symm
  simp only [z]
  exact ⟨(QdC d e2.symm).symm, Zay, λ a ha => by simp at ha, λ _ _ _ _ _ a ha => by simp at ha, λ _ _ a ha => by simp at ha⟩
section
variable (P : Program) (w : World) (K : PySem.W.Frag) (mg : Str -> Option Value) (base : Heap)
def Known (k : Nat) (x : Str) (r : FnR) : Prop := ∃ f fd ps, Qct P w K mg base CX0 k f fd ps (spV K r.n r.den) /\ mg x = some (.ref f) /\ PySem.W.keepIn K (.ref f) = true ∧
 ∀ m, m <= r.dfl.length -> ∃ ds dvs, Binds K fd ps ds /\ Qy dvs ds /\ ∀ H, Rps K H (r.dfl.drop (r.dfl.length - m)) dvs []
def Qdm (k : Nat) (Γ : List (Str × FnR)) : Prop := ∀ x r, look x Γ = some r -> Known P w K mg base k x r
structure QgS (cs : List (Str × Int)) : Prop where
 bn : ∀ x ∈ Ql2, mg x = none
 cs : ∀ x i, look x cs = some i -> ∃ t, mg x = some (.int i t)
end
section
variable {P : Program} {w : World} {K : PySem.W.Frag} {mg : Str -> Option Value} {base : Heap}
theorem Qdm.nil {k : Nat} : Qdm P w K mg base k [] := λ x r h => by cases h
theorem Known.mono {j k : Nat} {x : Str} {r : FnR} (h : Known P w K mg base j x r) (hk : j <= k) : Known P w K mg base k x r := by
 obtain ⟨f, fd, ps, h1, h2⟩ := h
 exact ⟨f, fd, ps, h1.mono hk, h2⟩
theorem Qdm.cons {k : Nat} {Γ : List (Str × FnR)} {x : Str} {r : FnR} (t : Qdm P w K mg base k Γ) (h : Known P w K mg base (k + 1) x r) : Qdm P w K mg base (k + 1) ((x, r) :: Γ) := λ y q e => by
 unfold look at e
 split at e
 ·rename_i z; cases e; subst z; exact h
 ·exact (t y q e).mono (Zbs _)
noncomputable def namesOf (sc : Scope) : List Str := (sc.names.filter λ y => Qsa y.2).map (·.1)
noncomputable def QlA (st : Stmt) (Γ : List (Str × FnR)) (cs : List (Str × Int)) : Th := ⟨namesOf (QD st), (QD st).names, Γ, cs⟩
theorem Qt5 {st : Stmt} {ps : List Str} {qual : Str} {f : Addr} {cdv : Value} {A : Around} {outer : List Env} {s : Shared} {H : Hp} {E : XK} {k : Nat} {Γ : List (Str × FnR)} {cs : List (Str × Int)} (S : Qc4 (namesOf (QD st)) ps (QD st)) (M : QgS mg cs) (tab : Qdm P w K mg base k Γ)
  (hr : QaA k (A.deeper (envOfC qual (QD st) s.heap.objs.size f cdv))) : Qad (Qhy CX0 P w K mg base (namesOf (QD st)) qual (QD st) f cdv A outer s H E).nox (QlA st Γ cs) where
 N := rfl
 nd := S.nd
 lc := λ x h => by rw [Qbd] at h; exact h
 ce := λ x h => by rw [Qbd] at h; exact ⟨h, rfl⟩
 fe := λ x h => by rw [Qbd] at h; exact absurd rfl (S.nofree _ (ZU h))
 gl := λ x h => by rw [Qbd] at h; exact h
 calm := rfl
 pass := PassesOwn.never
 units := hr.units
 mg := M.bn
 fns := λ x r h => by
  obtain ⟨f', fd, ps', h1, h2, h3, h4⟩ := tab x r h
  exact ⟨k, f', fd, ps', h1, hr, h2, h3, h4⟩
 cs := M.cs
theorem QpT {x qual : Str} {st : Stmt} {f : Addr} {fd : FuncData} {ps : List Str} {k n : Nat} {Γ : List (Str × FnR)} {cs : List (Str × Int)} {g : DS} (F : Fun K x qual st f fd) (S : Qc4 (namesOf (QD st)) ps (QD st)) (M : QgS mg cs) (tab : Qdm P w K mg base k Γ)
  (hc : Qa7 n (QlA st Γ cs) (QbE st) = some g) : Qct P w K mg base CX0 (k + 1) f fd ps (spV K ps.length (Ql (namesOf (QD st)).length g)) := by
 refine F.ok S (QsZ rfl) λ cdv A outer s H vs Q E hr h => ?_
 obtain ⟨ds, L, d, fr, rps, hl, hd, q⟩ := h
 refine ⟨_, (Qr7 n).Ss _ _ _ g (Qt5 S M tab hr) hc H L, ?_⟩
 obtain ⟨F0, rel⟩ := Qp2 (N := namesOf (QD st)) rps
 unfold Ql at hd
 obtain ⟨o, ho, hd⟩ := bind1 hd
 refine ⟨_, [], F0, o, rel, ho, ?_⟩
 cases o with
 | nx ρ =>
  cases hd
  exact λ σ H' F' rel' => q .non H' [] ⟨rel'.same, .Qh8, λ a ha => by simp at ha, λ _ => ⟨Zay, rfl, λ a ha => by simp at ha⟩⟩
 | bk ρ => cases hd
 | ct ρ => cases hd
 | rt d' fr' =>
  cases hd
  exact λ v H' G r => q v H' G r
structure Fact (K : PySem.W.Frag) (x : Str) (st : Stmt) : Prop where
 ex : ∃ f fd, Fun K x x st f fd /\ PySem.W.nsIn K mainGlobals x = some (some (.ref f))
theorem fact_mk {x : Str} {st : Stmt} {f : Addr} {oc : Value} {od an : Option Addr} {osl : Array (Option Value)} {kV doc pm cdv ct : Value} (a : PySem.W.nsIn K mainGlobals x = some (some (.ref f))) (l : K.lookup f = some ⟨oc, od, .func (PySem.W.fnOf x x (Qd7 st) (QbE st) (QD st) .none kV doc pm an cdv ct), osl⟩)
  (c : PySem.W.codeIn K cdv x = true) (k : PySem.W.keepIn K (.ref f) = true) : Fact K x st := ⟨f, _, Quk l c k, a⟩
def Qw (x : Str) (st : Stmt) (ps : List Str) : Prop := ∀ (kV doc pm : Value) (an : Option Addr) (cdv ct : Value) (us : List Value), us.length = ps.length -> bindArgs (PySem.W.fnOf x x (Qd7 st) (QbE st) (QD st) .none kV doc pm an cdv ct) ⟨us, []⟩ = pure (ps.zip us)
theorem Qx {h : Heap} {x : Str} {st : Stmt} {ps : List Str} {k n : Nat} {Γ : List (Str × FnR)} {cs : List (Str × Int)} {g : DS} (X : K.In h) (G : h.Ns mainGlobals mg) (F : Fact K x st) (S : Qc4 (namesOf (QD st)) ps (QD st)) (B : Qw x st ps) (M : QgS mg cs) (tab : Qdm P w K mg base k Γ)
  (hc : Qa7 n (QlA st Γ cs) (QbE st) = some g) : Known P w K mg base (k + 1) x ⟨ps.length, [], Ql (namesOf (QD st)).length g⟩ := by
 obtain ⟨f, fd, Fn, a⟩ := F.ex
 refine ⟨f, fd, ps, QpT Fn S M tab hc, ZbT X G a, Fn.kp, λ m hm => ⟨[], [], Fn.binds (B ·), .nil, λ H => by simp [Rps]⟩⟩
end
end HS
namespace HS
open PySem PySem.Spec L2 PyProof.Rows
theorem Qik : ∀ (ns : List Int) (n : Int), n ∈ ns -> Builtin.Int.intBits n <= PySem.W.WData.weightAll (ns.map PySem.W.WData.int)
 | a :: r, n, h => by
  have e : PySem.W.WData.weight (.int a) = Builtin.Int.intBits a := by simp only [PySem.W.WData.weight, Builtin.Int.intBits]
  simp only [ZG, PySem.W.WData.weightAll, e]
  rcases Zv.mp h with rfl | h
  ·omega
  ·have := Qik r n h
   omega
theorem QpF {ns : List Int} (h : PySem.W.WData.layableAll [.list (ns.map .int)] = true) (k : Nat) : Builtin.Int.intBits (ns.getD k 0) <= 2 ^ 20 := by
 have h1 := (PySem.W.layW_cons h).1
 simp only [PySem.W.WData.layable, Zl, decide_eq_true_eq, PySem.W.WData.weight] at h1
 rw [Zai]
 cases e : ns[k]? with
 | none => show Builtin.Int.intBits 0 <= 2 ^ 20; decide
 | some n => exact Zx (Qik ns n (ZY e)) (of_decide_eq_true h1.2)
open PySem.W Att PySem.Calls in
theorem QkV {l : OpenLaw} {n : Nat} {q : Program} {loose : List Str} {XP : (Str -> Option Value) -> Heap -> Prop} {YP : World -> Heap -> Prop} {d : DefRec}
  (hn : l.most = some n) (hdf : d.params.defaults = [])
  (call : ∀ (w : World) (s₀ s₁ : Shared) (mg mb : Str -> Option Value) (fa : Addr) (o : Obj) (pm cd doc : Value) (a : Addr) (vs : List Value) (ns : List Int),
   Ground q loose [] XP w s₀ mg mb s₁.heap -> YP w s₁.heap →
   s₁.heap.get? fa = some o -> o.data = .func (docDef d.name d.params d.body d.scope pm cd doc) -> s₁.heap.CodeRec cd d.name -> mg d.name = some (.ref fa) →
   s₁.heap.get? a = some { cls := .type "list", data := .seq vs.toArray } -> IntsAre vs ns -> ns.length <= n -> WData.layableAll [.list (ns.map .int)] = true -> s₁.gens = #[] →
   codeAny (model l.prog w) callerA (.call (.ref fa) ⟨[.ref a], []⟩) (λ r s' => r = .ok (.ret (.bool true)) /\ OldK s₁.heap s'.heap /\ s'.os = s₁.os /\ AllBare s'.gens) s₁) :
  WalkO q loose XP YP l.row.toRowW d [] (λ f vs => PySem.call f vs) := by
 intro w s₀ s₁ mg mb G Y fa o pm cd doc dV kV ho hd hcd hD hmg hg args vals as hpre hlay hrd hwl hlo
 obtain rfl : dV = .none := Dflts.none hD hdf
 obtain rfl : kV = .none := Dflts.noKw hD
 obtain ⟨a, vs, ns, rfl, rfl, hobj, hints, hlen⟩ := QjZ hn hpre hwl
 refine enter_call (codeAny_mono (call w s₀ s₁ mg mb fa o pm cd doc a vs ns G Y ho (fd_plain hd) hcd hmg hobj hints hlen hlay hg) λ r s' hq => ?_)
 obtain ⟨rfl, h2, h3, h4⟩ := hq
 exact ⟨.inl ⟨.bool true, .bool true, [], rfl, λ _ => rfl, .bool true, QjG l _, λ _ => ⟨List.Pairwise.nil, λ _ hm => (nomatch hm)⟩⟩, h2, h3, h4⟩
theorem QoI {l : PySem.W.OpenLaw} {k : Nat} {q : Program} {loose : List Str} {XP : (Str -> Option Value) -> Heap -> Prop} {YP : World -> Heap -> Prop} {d : DefRec} {K : Params -> PySem.W.Frag} {den : Den} {x : Str}
  (hn : l.most = some 63) (hdf : d.params.defaults = []) (hr : QaA k callerA) (hY : ∀ (w : World) (h : Heap), YP w h -> (K w.params).In h)
  (hden : ∀ ns : List Int, ns.length <= 63 -> (∀ k : Nat, Builtin.Int.intBits (ns.getD k 0) <= 2 ^ 20) -> ∃ fr, den [.lst (ns.map .int)] = some (.bl true, fr))
  (F : ∀ (w : World) (mg : Str -> Option Value) (fa : Addr) (h : Heap), (K w.params).In h -> h.Ns mainGlobals mg -> mg d.name = some (.ref fa) →
   ∃ fd : FuncData, (∀ (s : Shared) (u : Value), BindsTo s fd ⟨[u], []⟩ [(x, u)]) ∧
    ∀ base : Heap, (K w.params).In base -> base.Ns mainGlobals mg -> Qct l.prog w (K w.params) mg base CX0 k fa fd [x] (spV (K w.params) 1 den)) :
  PySem.W.WalkO q loose XP YP l.row.toRowW d [] (λ f vs => PySem.call f vs) := by
 refine QkV hn hdf λ w s₀ s₁ mg mb fa o pm cd doc a vs ns G Y ho hd hcd hmg hobj hints hlen hlay hg => ?_
 have KX := hY w _ Y
 obtain ⟨fd, hb, hF⟩ := F w mg fa _ KX G.T.g hmg
 have h63 : (63 : Nat) <= sizeLine := by decide
 refine QlW KX G.T.g G.T.b G.T.builtins G.T.nolimit hg hobj hints (Zx hlen h63) hr hF hb (λ H hO hS => ?_) λ H e s' z => z
 have fx : Fix (K w.params) H a (ns.map V.int) := by
  rcases hS with (h | ⟨o, h⟩) | ⟨o, its, n, hk, hc, hdn, hda, hz, rv⟩
  ·rcases hO a with z | ⟨o, xs, z⟩ <;> rw [h] at z <;> cases z
  ·exact .inl ⟨o, h⟩
  ·have e := KX a o hk
   rw [hobj] at e
   cases e
   cases hda
   exact .inr ⟨vs, _, hk, by rw [Zh]; exact Zx hlen h63, by simpa using rv⟩
 obtain ⟨fr, hfr⟩ := hden ns hlen (QpF hlay)
 have rp : Rp (K w.params) H (.lst (ns.map .int)) (.ref a) [] := by
  simp only [Rp]
  refine ⟨by rw [Zh]; exact Zx hlen h63, a, _, rfl, .inr ⟨fx, ?_⟩⟩
  have gen : ∀ ns : List Int, Rps (K w.params) H (ns.map .int) (ns.map .int) [] := by
   intro ns
   induction ns with
   | nil => simp [Rps]
   | cons n ns ih => simp only [ZG, Rps]; exact ⟨_, _, [], [], rfl, rfl, .int_mk, ih⟩
  exact gen ns
 refine ⟨[.lst (ns.map .int)], [], .bl true, fr, ?_, rfl, hfr, λ v H' G r => r.rp.QfZ⟩
 simp only [Rps]
 exact ⟨_, _, [], [], rfl, rfl, rp, rfl, rfl⟩
theorem QvL {P : Program} {w : World} {K : PySem.W.Frag} {mg : Str -> Option Value} {h : Heap} {x y : Str} {st : Stmt} {fa : Addr} {k n : Nat} {Γ : List (Str × FnR)} {cs : List (Str × Int)} {g : DS} (X : K.In h) (G : h.Ns mainGlobals mg) (hmg : mg x = some (.ref fa))
  (F : Fact K x st) (S : Qc4 (namesOf (QD st)) [y] (QD st)) (B : Qw x st [y]) (M : QgS mg cs) (tab : ∀ base : Heap, Qdm P w K mg base k Γ) (hc : Qa7 n (QlA st Γ cs) (QbE st) = some g) :
  ∃ fd : FuncData, (∀ (s : Shared) (u : Value), BindsTo s fd ⟨[u], []⟩ [(y, u)]) ∧
    ∀ base : Heap, K.In base -> base.Ns mainGlobals mg -> Qct P w K mg base CX0 (k + 1) fa fd [y] (spV K 1 (Ql (namesOf (QD st)).length g)) := by
 obtain ⟨f, fd, Fn, a⟩ := F.ex
 have e := hmg.symm.trans (ZbT X G a)
 cases e
 refine ⟨fd, λ s u => ?_, λ base _ _ => QpT Fn S M (tab base) hc⟩
 obtain ⟨oc, od, kV, doc, pm, an, cdv, ct, osl, rfl, lk, hcd⟩ := Fn.ex
 exact .of_eq (B kV doc pm an cdv ct [u] rfl)
end HS
namespace HS
open PySem PySem.Spec PyProof.Rows L2
section
variable {P : Program} {w : World} {K : PySem.W.Frag} {mg : Str -> Option Value} {base : Heap}
theorem Qon {h : Heap} {x : Str} {st : Stmt} {ps : List Str} {k : Nat} (X : K.In h) (G : h.Ns mainGlobals mg) (F : Fact K x st) (B : Qw x st ps) : Known P w K mg base k x ⟨ps.length, [], λ _ => none⟩ := by
 obtain ⟨f, fd, Fn, a⟩ := F.ex
 refine ⟨f, fd, ps, ⟨λ vs H Q E h => ?_, λ A outer s H args us vs Q E _ _ _ _ h => ?_⟩, ZbT X G a, Fn.kp, λ m hm => ⟨[], [], Fn.binds (B ·), .nil, λ H => by simp [Rps]⟩⟩
 ·obtain ⟨ds, L, d, fr, rps, hl, hd, q⟩ := h
  cases hd
 ·obtain ⟨ds, L, d, fr, rps, hl, hd, q⟩ := h
  cases hd
end
end HS
namespace HS
open PySem L2
noncomputable def pairD (p : Int × Int) : D := .tup [.int p.1, .int p.2]
noncomputable def QbI (p : Int × Int × Bool) : D := .tup [.int p.1, .int p.2.1, .bl p.2.2]
noncomputable def Qdk (ns : List Int) : D := .lst (ns.map .int)
noncomputable def QU (ps : List (Int × Int)) : D := .lst (ps.map pairD)
noncomputable def Qt (m : Int) (R L : List (Int × Int)) : D := .tup [.int m, QU R, QU L]
theorem Qbl {α : Type} {f : α -> D} (h : ∀ a, (f a).flat = true) : ∀ l : List α, Q2 (l.map f) = true
 | [] => rfl
 | a :: l => by simp [Q2, h a, Qbl h l]
@[simp] theorem QwR (i : Int) : (D.int i).flat = true := rfl
@[simp] theorem Qxn (i : Bool) : (D.bl i).flat = true := rfl
@[simp] theorem Qxd : D.non.flat = true := rfl
@[simp] theorem Qw4 (x : Str) : (D.str x).flat = true := rfl
@[simp] theorem QwV (xs : List D) : (D.lst xs).flat = false := rfl
@[simp] theorem Qw1 (xs : List D) : (D.tup xs).flat = Q2 xs := rfl
@[simp] theorem QwH : Q2 [] = true := rfl
@[simp] theorem Qwv (d : D) (ds : List D) : Q2 (d :: ds) = (d.flat && Q2 ds) := rfl
@[simp] theorem QwG (p : Int × Int) : (pairD p).flat = true := rfl
@[simp] theorem Qw8 (p : Int × Int × Bool) : (QbI p).flat = true := rfl
@[simp] theorem QwF (ns : List Int) : (Qdk ns).flat = false := rfl
@[simp] theorem Qv9 (ns : List (Int × Int)) : (QU ns).flat = false := rfl
@[simp] theorem QvJ (ps : List (Int × Int)) : Q2 (ps.map pairD) = true := Qbl (λ _ => rfl) _
@[simp] theorem QnD (ps : List (Int × Int × Bool)) : Q2 (ps.map QbI) = true := Qbl (λ _ => rfl) _
@[simp] theorem QnC (ns : List Int) : Q2 (ns.map .int) = true := Qbl (λ _ => rfl) _
@[simp] theorem QwE (xs ys : List D) : Q2 (xs ++ ys) = (Q2 xs && Q2 ys) := Qcu xs ys
def Run (f : DS) (ρ : En) (Q : Out -> Prop) : Prop := ∃ o, f ρ = some o /\ Q o
noncomputable def Nx (Q : En -> Prop) : Out -> Prop
 | .nx ρ => Q ρ
 | _ => False
noncomputable def Rt (Q : D -> Bool -> Prop) : Out -> Prop
 | .rt d fr => Q d fr
 | _ => False
theorem Run.mono {f : DS} {ρ : En} {Q Q' : Out -> Prop} (h : Run f ρ Q) (m : ∀ o, Q o -> Q' o) : Run f ρ Q' := let ⟨o, h1, h2⟩ := h; ⟨o, h1, m o h2⟩
theorem Qo {ρ : En} {Q : Out -> Prop} (h : Q (.nx ρ)) : Run Qm ρ Q := ⟨_, rfl, h⟩
theorem run_seq {f g : DS} {ρ : En} {Q : Out -> Prop} (h : Run f ρ (Nx λ ρ' => Run g ρ' Q)) : Run (Qe f g) ρ Q := by
 obtain ⟨o, h1, h2⟩ := h
 cases o with
 | nx ρ' =>
  obtain ⟨o', h3, h4⟩ := h2
  exact ⟨o', by simp [Qe, h1, h3], h4⟩
 | _ => exact False.elim h2
theorem QQ {f g : DS} {ρ : En} {Q : Out -> Prop} (h : Run f ρ λ o => match o with | .nx ρ' => Run g ρ' Q | o => Q o) : Run (Qe f g) ρ Q := by
 obtain ⟨o, h1, h2⟩ := h
 cases o with
 | nx ρ' =>
  obtain ⟨o', h3, h4⟩ := h2
  exact ⟨o', by simp [Qe, h1, h3], h4⟩
 | bk ρ' => exact ⟨_, by simp [Qe, h1], h2⟩
 | ct ρ' => exact ⟨_, by simp [Qe, h1], h2⟩
 | rt d fr => exact ⟨_, by simp [Qe, h1], h2⟩
theorem Qh {i : Nat} {fa : DE} {r : R} {ρ : En} {Q : Out -> Prop} (h : fa ρ = some r) (q : Q (.nx (asg i r ρ))) : Run (Qp i fa) ρ Q := ⟨_, by simp [Qp, h], q⟩
theorem QgD {fa : DE} {r : R} {ρ : En} {Q : Out -> Prop} (h : fa ρ = some r) (q : Q (.rt r.d (r.norm.fr && decide r.norm.M.Nodup))) : Run (QM fa) ρ Q := ⟨_, by simp [QM, h], q⟩
theorem Q8 {g : DT} {f1 f2 : DS} {b : Bool} {ρ : En} {Q : Out -> Prop} (h : g ρ = some b) (q1 : b = true -> Run f1 ρ Q) (q2 : b = false -> Run f2 ρ Q) : Run (sIf g f1 f2) ρ Q := by
 cases b with
 | true => obtain ⟨o, h1, h2⟩ := q1 rfl; exact ⟨o, by simp [sIf, h, h1], h2⟩
 | false => obtain ⟨o, h1, h2⟩ := q2 rfl; exact ⟨o, by simp [sIf, h, h1], h2⟩
theorem Q4 {k : Nat} {f : DS} {ds : List D} {d : D} {fr : Bool} (h : Run f (QaI k ds) (Rt λ d' fr' => d' = d /\ fr' = fr)) : Ql k f ds = some (d, fr) := by
 obtain ⟨o, h1, h2⟩ := h
 unfold Ql
 cases o with
 | rt d' fr' => obtain ⟨rfl, rfl⟩ := h2; rw [h1]; rfl
 | _ => exact False.elim h2
theorem Ql9 {α : Type} {t : Tg} {fb : DS} {toD : α -> D} {Q : Out -> Prop} (I : Nat -> En -> Prop) : ∀ (xs ys : List α) (ρ : En), I ys.length ρ →
  (∀ i x ρ, (ys ++ xs)[i]? = some x -> ys.length <= i -> I i ρ -> ∃ ρ1, Qcr t (toD x) ρ = some ρ1 /\ Run fb ρ1 λ o => match o with | .nx ρ2 => I (i + 1) ρ2 | .ct ρ2 => I (i + 1) ρ2 | .bk ρ2 => Q (.nx ρ2) | .rt d fr => Q (.rt d fr)) →
  (∀ ρ, I (ys ++ xs).length ρ -> Q (.nx ρ)) -> Run (QcU t fb (xs.map toD)) ρ Q
 | [], ys, ρ, h0, _, fin => ⟨_, rfl, fin ρ (by simpa using h0)⟩
 | x :: xs, ys, ρ, h0, turn, fin => by
  obtain ⟨ρ1, h1, o, h2, h3⟩ := turn ys.length x ρ (by simp) (Zk _) h0
  have next : ∀ ρ2, I (ys.length + 1) ρ2 -> Run (QcU t fb (xs.map toD)) ρ2 Q := λ ρ2 hi =>
   Ql9 I xs (ys ++ [x]) ρ2 (by simpa using hi) (λ i y ρ' e hl => turn i y ρ' (by simpa using e) (by simp at hl; omega)) (λ ρ' h => fin ρ' (by simpa using h))
  cases o with
  | nx ρ2 => obtain ⟨o', e1, e2⟩ := next ρ2 h3; exact ⟨o', by simp [QcU, h1, h2, e1], e2⟩
  | ct ρ2 => obtain ⟨o', e1, e2⟩ := next ρ2 h3; exact ⟨o', by simp [QcU, h1, h2, e1], e2⟩
  | bk ρ2 => exact ⟨_, by simp [QcU, h1, h2], h3⟩
  | rt d fr => exact ⟨_, by simp [QcU, h1, h2], h3⟩
theorem Qal {α : Type} {fi : DI} {t : Tg} {fb : DS} {toD : α -> D} {ρ : En} {ir : IR} {Q : Out -> Prop} (xs : List α) (I : Nat -> En -> Prop) (h : fi ρ = some ir) (hx : ir.items = xs.map toD) (h0 : I 0 (Qa5 ir.M ρ))
  (turn : ∀ i x ρ, xs[i]? = some x -> I i ρ -> ∃ ρ1, Qcr t (toD x) ρ = some ρ1 /\ Run fb ρ1 λ o => match o with | .nx ρ2 => I (i + 1) ρ2 | .ct ρ2 => I (i + 1) ρ2 | .bk ρ2 => Q (.nx ρ2) | .rt d fr => Q (.rt d fr))
  (fin : ∀ ρ, I xs.length ρ -> Q (.nx ρ)) : Run (QaV fi t fb) ρ Q := by
 obtain ⟨o, h1, h2⟩ := Ql9 (t := t) (fb := fb) (toD := toD) (Q := Q) I xs [] (Qa5 ir.M ρ) h0 (λ i x ρ e _ => turn i x ρ (by simpa using e)) (λ ρ h => fin ρ (by simpa using h))
 exact ⟨o, by simp [QaV, h, hx, h1], h2⟩
theorem QjI {α : Type} {t : Tg} {ft : DT} {fe : DE} {ρc : En} {toD : α -> D} {keep : α -> Bool} {out : α -> D} : ∀ (xs : List α) (acc : List D),
  (∀ x ∈ xs, ∃ ρ1, Qcr t (toD x) ρc = some ρ1 /\ ft ρ1 = some (keep x) /\ (keep x = true -> ∃ r, fe ρ1 = some r /\ r.d = out x /\ r.norm.fr = true)) →
  (xs.map toD).foldlM (QeR t ft fe ρc) (acc, true) = some (acc ++ (xs.filter keep).map out, true)
 | [], acc, _ => by simp
 | x :: xs, acc, h => by
  obtain ⟨ρ1, h1, h2, h3⟩ := h x Zi
  have ih := λ acc => QjI xs acc (λ y hy => h y (Zc _ hy))
  cases hk : keep x with
  | false =>
   have e : QeR t ft fe ρc (acc, true) (toD x) = some (acc, true) := by simp [QeR, h1, h2, hk]
   simp [ZbB, e, ih, hk]
  | true =>
   obtain ⟨r, h4, h5, h6⟩ := h3 hk
   have e : QeR t ft fe ρc (acc, true) (toD x) = some (acc ++ [out x], true) := by simp [QeR, h1, h2, hk, h4, h5, h6]
   simp [ZbB, e, ih, hk]
theorem Qfj {α : Type} {fi : DI} {t : Tg} {cap : List (Option Nat)} {ft : DT} {fe : DE} {ρ : En} {ir : IR} {toD : α -> D} {keep : α -> Bool} {out : α -> D} (xs : List α) (h : fi ρ = some ir) (hx : ir.items = xs.map toD)
  (turn : ∀ x ∈ xs, ∃ ρ1, Qcr t (toD x) (QdZ cap ρ) = some ρ1 /\ ft ρ1 = some (keep x) /\ (keep x = true -> ∃ r, fe ρ1 = some r /\ r.d = out x /\ r.norm.fr = true)) :
  QF fi t cap ft fe ρ = some ⟨.lst ((xs.filter keep).map out), true, []⟩ := by
 unfold QF
 rw [h, Za, hx, QjI xs [] turn]
 simp
theorem QE {α : Type} {fi : DI} {t : Tg} {cap : List (Option Nat)} {fe : DE} {ρ : En} {ir : IR} {toD : α -> D} {out : α -> D} (xs : List α) (h : fi ρ = some ir) (hx : ir.items = xs.map toD)
  (turn : ∀ x ∈ xs, ∃ ρ1, Qcr t (toD x) (QdZ cap ρ) = some ρ1 /\ ∃ r, fe ρ1 = some r /\ r.d = out x /\ r.norm.fr = true) :
  QF fi t cap QL fe ρ = some ⟨.lst (xs.map out), true, []⟩ := by
 have := Qfj (keep := λ _ => true) (ft := QL) xs h hx (cap := cap) (t := t) (fe := fe) (out := out) λ x hx => by
  obtain ⟨ρ1, h1, h2⟩ := turn x hx
  exact ⟨ρ1, h1, rfl, λ _ => h2⟩
 rw [this, List.filter_eq_self.mpr λ _ _ => rfl]
@[simp] theorem Qw0 (d : D) : R.norm ⟨d, true, []⟩ = ⟨d, true, []⟩ := by unfold R.norm; split <;> rfl
@[simp] theorem Qk (i : Nat) (d : D) (ρ : En) : asg i ⟨d, true, []⟩ ρ = ρ.set i (some (d, true)) := by unfold asg; simp [kill]
theorem Qep {i : Nat} {d : D} {fr : Bool} {M : List Nat} {ρ : En} (h : d.flat = true) : asg i ⟨d, fr, M⟩ ρ = ρ.set i (some (d, true)) := by
 unfold asg R.norm; simp [h, kill]
theorem QaD {i : Nat} {ρ : En} {d : D} {b : Bool} (h : ρ[i]? = some (some (d, b))) : Qa i ρ = some (if d.flat then ⟨d, true, []⟩ else if b then ⟨d, true, [i]⟩ else ⟨d, false, []⟩) := by
 unfold Qa
 rw [h]
 dsimp only
 split
 ·simp_all
 ·split <;> simp_all
theorem QkQ {i : Nat} {ρ : En} {n : Int} {b : Bool} (h : ρ[i]? = some (some (.int n, b))) : Qa i ρ = some ⟨.int n, true, []⟩ := by rw [QaD h]; rfl
@[simp] theorem QaM (d : D) (ρ : En) : dC d ρ = some ⟨d, true, []⟩ := rfl
theorem Qae {g : D -> D -> Option D} {fa fb : DE} {ρ : En} {ra rb : R} {d : D} (ha : fa ρ = some ra) (hb : fb ρ = some rb) (h : g ra.d rb.d = some d) : dOp g fa fb ρ = some ⟨d, true, []⟩ := by simp [dOp, ha, hb, h]
theorem Qv {fa : DE} {fs : DA} {ρ : En} {r : R} {rs : RA} (ha : fa ρ = some r) (hs : fs ρ = some rs) : Qc fa fs ρ = some ⟨r.d :: rs.ds, r.fr && rs.fr, r.M ++ rs.M⟩ := by simp [Qc, ha, hs]
@[simp] theorem Q5 (ρ : En) : Qf ρ = some ⟨[], true, []⟩ := rfl
noncomputable def vf (d : D) (b : Bool) (i : Nat) : R := if d.flat then ⟨d, true, []⟩ else if b then ⟨d, true, [i]⟩ else ⟨d, false, []⟩
@[simp] theorem Qxr (d : D) (b : Bool) (i : Nat) : (vf d b i).d = d := by unfold vf; split; rfl; split <;> rfl
@[simp] theorem Qrr (i j : Int) (h : 0 <= j) : Qcl i j = i % j := by unfold Qcl; rw [if_pos h]
@[simp] theorem QhJ (i j : Int) (h : 0 <= j) : Qde i j = i / j := by unfold Qde; rw [if_pos h]
theorem QaG {i j : Int} (h : i.natAbs < 2 ^ 64) : Qdf i j = true := by unfold Qdf; simp [h]
theorem Qbe {i j : Int} (h : j.natAbs < 2 ^ 64) : Qdf i j = true := by unfold Qdf; simp [h]
theorem Qee {i j : Int} (h1 : Builtin.Int.intBits i <= 2 ^ 20) (h2 : Builtin.Int.intBits j <= 2 ^ 20) : Qdf i j = true := by
 unfold Qdf
 rw [decide_eq_true h1, decide_eq_true h2, Bool.and_self, Bool.or_true]
theorem QgI : (sizeLine : Nat) = 16777216 := sizeLine_eq
noncomputable def Qb (m : Nat) (f : Nat -> Int) : D := .lst ((List.range m).map λ i => .int (f i))
noncomputable def Qi (m n : Nat) (f : Nat -> Nat -> Int) : D := .lst ((List.range m).map λ i => Qb n (f i))
@[simp] theorem Qxj (m : Nat) (f : Nat -> Int) : (Qb m f).flat = false := rfl
@[simp] theorem Qxl (m n : Nat) (f : Nat -> Nat -> Int) : (Qi m n f).flat = false := rfl
@[simp] theorem QoE (m : Nat) (f : Nat -> Int) : Q2 ((List.range m).map λ i => D.int (f i)) = true := Qbl (f := λ i => D.int (f i)) (λ _ => rfl) _
noncomputable def up (f : Nat -> Int) (i : Nat) (v : Int) : Nat -> Int := λ j => if j = i then v else f j
noncomputable def up2 (f : Nat -> Nat -> Int) (i j : Nat) (v : Int) : Nat -> Nat -> Int := λ k => if k = i then up (f k) j v else f k
theorem QcI {n : Nat} {i : Int} (h0 : 0 <= i) (h : i < n) : ixN n i = some i.toNat := by
 unfold ixN; rw [if_pos (by omega), if_pos (by omega)]
theorem QgB {α : Type} {xs : List α} {i : Int} (h0 : 0 <= i) (h : i < xs.length) : atI xs i = xs[i.toNat]? := by
 unfold atI; rw [QcI h0 h]; rfl
theorem QdU {α : Type} {m : Nat} {f : Nat -> α} {i : Nat} {v : α} : ((List.range m).map f).set i v = (List.range m).map λ j => if j = i then v else f j := by
 apply Zaw
 intro k
 rw [List.getElem?_set]
 simp only [Zh, Zp, Zm]
 by_cases hk : k < m
 ·rw [Zz hk]
  by_cases e : i = k
  ·subst e; simp [hk]
  ·simp [e, Ne.symm e]
 ·rw [Zo (by simp; omega)]
  by_cases e : i = k
  ·subst e; simp [hk]
  ·simp [e]
theorem Qfu {m : Nat} {f : Nat -> Int} {i : Nat} {v : Int} : ((List.range m).map λ j => D.int (f j)).set i (.int v) = (List.range m).map λ j => D.int (up f i v j) := by
 rw [QdU]
 congr 1; funext j; unfold up; split <;> rfl
theorem Qny {m : Nat} {f : Nat -> Int} {i : Int} (h0 : 0 <= i) (h : i < m) : atI ((List.range m).map λ j => D.int (f j)) i = some (.int (f i.toNat)) := by
 rw [QgB h0 (by simpa using h), Zm, Zz (by omega)]; rfl
theorem QiW {m n : Nat} {f : Nat -> Nat -> Int} {i : Int} (h0 : 0 <= i) (h : i < m) : atI ((List.range m).map λ j => Qb n (f j)) i = some (Qb n (f i.toNat)) := by
 rw [QgB h0 (by simpa using h), Zm, Zz (by omega)]; rfl
theorem Qlj {x m : Nat} {f : Nat -> Int} {fi fa : DE} {ρ : En} {i : Int} {v : Int} {ri ra : R} {Q : Out -> Prop} (hx : ρ[x]? = some (some (Qb m f, true))) (hi : fi ρ = some ri) (ei : ri.d = .int i) (ha : fa ρ = some ra) (ea : ra.d = .int v) (h0 : 0 <= i) (h : i < m)
  (q : Q (.nx (ρ.set x (some (Qb m (up f i.toNat v), true))))) : Run (Qa4 x Qam fi fa) ρ Q := by
 refine ⟨_, ?_, q⟩
 have hn : ra.norm = ⟨.int v, true, []⟩ := by unfold R.norm; rw [ea]; rfl
 unfold Qa4
 rw [ha, Za, hx]
 simp only [Qam, Za, hi, ei, Qa8, Qb, Zh, Zp, QcI h0 h, hn, ea, QaN, Qfu]
 simp [kill]
theorem QqG {g : D -> D -> Option D} {x m : Nat} {f : Nat -> Int} {fi fa : DE} {ρ : En} {i w : Int} {ri ra : R} {Q : Out -> Prop} (hx : ρ[x]? = some (some (Qb m f, true))) (hi : fi ρ = some ri) (ei : ri.d = .int i) (ha : fa ρ = some ra) (h0 : 0 <= i) (h : i < m)
  (hg : g (.int (f i.toNat)) ra.d = some (.int w)) (q : Q (.nx (ρ.set x (some (Qb m (up f i.toNat w), true))))) : Run (Qdl g x Qam fi fa) ρ Q := by
 refine ⟨_, ?_, q⟩
 have hj : ((List.range m).map λ j => D.int (f j))[i.toNat]? = some (.int (f i.toNat)) := by rw [Zm, Zz (by omega)]; rfl
 unfold Qdl
 rw [hx]
 simp only [Qam, Za, hi, ei, Qa8, Qb, Zh, Zp, QcI h0 h, hj, ha, hg, QaN, Qfu, ZP]
theorem QkZ {g : D -> D -> Option D} {x m n : Nat} {f : Nat -> Nat -> Int} {fp fi fa : DE} {ρ : En} {i j w : Int} {rp ri ra : R} {Q : Out -> Prop} (hx : ρ[x]? = some (some (Qi m n f, true))) (hp : fp ρ = some rp) (ep : rp.d = .int i) (hi : fi ρ = some ri) (ei : ri.d = .int j) (ha : fa ρ = some ra)
  (h0 : 0 <= i) (h : i < m) (k0 : 0 <= j) (k : j < n) (hg : g (.int (f i.toNat j.toNat)) ra.d = some (.int w)) (q : Q (.nx (ρ.set x (some (Qi m n (up2 f i.toNat j.toNat w), true))))) : Run (Qdl g x (QcE Qam fp) fi fa) ρ Q := by
 refine ⟨_, ?_, q⟩
 have hj : ((List.range n).map λ k => D.int (f i.toNat k))[j.toNat]? = some (.int (f i.toNat j.toNat)) := by rw [Zm, Zz (by omega)]; rfl
 have hd : Qa8 (Qi m n f) [i] = some (Qb n (f i.toNat)) := by
  simp only [Qa8, Qi, D.items, Za, QiW h0 h]
 have hu : QaN [i] (Qi m n f) (.lst (((List.range n).map λ k => D.int (f i.toNat k)).set j.toNat (.int w))) = Qi m n (up2 f i.toNat j.toNat w) := by
  simp only [QaN, Qi, Zh, Zp, QcI h0 h, Qfu]
  rw [QdU]
  congr 2; funext k
  unfold up2
  split
  ·rename_i e; subst e; rfl
  ·rfl
 unfold Qdl
 rw [hx]
 simp only [QcE, Qam, Za, hp, ep, ZbP, hi, ei, hd, Qb, Zh, Zp, QcI k0 k, hj, ha, hg, ZP]
 rw [hu]
theorem QaF {fa : DE} {ρ : En} {r : R} {n : Nat} (h : fa ρ = some r) (e : r.d = .int n) (hn : n <= 16777216) : Qau fa ρ = some ⟨(List.range n).map λ (k : Nat) => .int (k : Int), []⟩ := by
 unfold Qau
 rw [h, Za, e]
 dsimp only
 rw [if_pos ⟨by omega, by omega⟩]
 simp [Qgd]
theorem Qnn {α : Type} (x : α) : ∀ n : Nat, (List.replicate n [x]).flatten = (List.range n).map λ _ => x
 | 0 => rfl
 | n + 1 => by
  rw [ZV, Zac, Qnn x n, Zbb, ZG, Zaf]; rfl
theorem Qfn {fb : DE} {ρ : En} {r : R} {n : Nat} {z : Int} (h : fb ρ = some r) (e : r.d = .int n) (hn : n <= 16777216) : QS (Qas (Qc (dC (.int z)) Qf)) fb ρ = some ⟨Qb n (λ _ => z), true, []⟩ := by
 have h1 : Qas (Qc (dC (.int z)) Qf) ρ = some ⟨.lst [.int z], true, []⟩ := rfl
 unfold QS
 rw [h1, Za, h, Za, e]
 dsimp only
 rw [if_pos ⟨by simp [QgI]; omega, by omega, by omega, rfl⟩]
 simp only [ZW, Qnn]
 rfl
noncomputable def QiX : DS := (Qe (Qp 2 (QF (QY (Qa 0)) (.tp [1, 2]) [none, none, none] QL (QaW (Qc (Qa 1) (Qc (Qa 2) Qf))))) (Qe (Qp 3 (QF (QY (Qa 0)) (.tp [1, 2]) [none, none, none] QL (QaW (Qc (Qa 2) (Qc (Qa 1) Qf))))) (Qe (QM (Qz (Qz (Qa 2) (Qa 3)) (dList (Qc (Qa 1) Qf)))) Qm)))
theorem QgV {fa fb : DE} {ρ : En} {ra rb : R} {A B : List (Int × Int)} (ha : fa ρ = some ra) (ea : ra.d = QU A) (hb : fb ρ = some rb) (eb : rb.d = QU B) (hl : A.length + B.length <= 16777216) : Qz fa fb ρ = some ⟨QU (A ++ B), true, []⟩ := by
 unfold Qz
 rw [ha, Za, hb, Za, ea, eb]
 simp only [QU, Zh, QgI, if_pos hl, Qan]
 simp
theorem Qhw {ρ : En} {A : List (Int × Int)} {fs : DA} {rs : RA} (h : fs ρ = some rs) (e : rs.ds = [QU A]) (_ : True = True) : dList fs ρ = some ⟨QU A, true, []⟩ := by
 unfold dList
 rw [h, Za, e]
 simp [QU, Qan]
theorem QA {fa : DE} {r : R} {g : DS} {ρ : En} {Q : D -> Bool -> Prop} (h : fa ρ = some r) (q : Q r.d (r.norm.fr && decide r.norm.M.Nodup)) : Run (Qe (QM fa) g) ρ (Rt Q) := QQ (QgD h q)
theorem Qpe {R L : List (Int × Int)} (hl : R.length + R.length + L.length <= 16777216) : Ql 4 QiX [QU R, QU L] = some (QU (R ++ R.map Prod.swap ++ L), true) := by
 refine Q4 ?_
 refine run_seq (Qh (QE (toD := pairD) (out := pairD) R rfl rfl λ x _ => ⟨[none, some (.int x.1, true), some (.int x.2, true)], rfl, ⟨pairD x, true, []⟩, rfl, rfl, rfl⟩) ?_)
 refine run_seq (Qh (QE (toD := pairD) (out := λ x => pairD x.swap) R rfl rfl λ x _ => ⟨[none, some (.int x.1, true), some (.int x.2, true)], rfl, ⟨pairD x.swap, true, []⟩, rfl, rfl, rfl⟩) ?_)
 have e1 : (R.map λ x => pairD x.swap) = (R.map Prod.swap).map pairD := by simp [Zaf, Function.comp_def]
 rw [e1]
 exact QA (QgV (QgV rfl rfl rfl rfl (by simpa using (by omega : R.length + R.length <= 16777216))) rfl (Qhw rfl rfl rfl) rfl (by simpa using hl)) ⟨rfl, rfl⟩
theorem Qs {n : Nat} {den : Den} {dfl : List D} {fs : DA} {ρ : En} {r : RA} {d : D} (h : fs ρ = some r) (hd : den (r.ds ++ dfl) = some (d, true)) (hl : r.ds.length + dfl.length = n) : Qr n den dfl fs ρ = some ⟨d, true, []⟩ := by
 unfold Qr
 rw [h, Za, if_pos hl, hd]
 simp
theorem Q7 {fa : DE} {ρ : En} {r : R} {xs : List D} (h : fa ρ = some r) (e : r.d = .lst xs) : QY fa ρ = some ⟨xs, r.M⟩ := by
 unfold QY
 rw [h, Za, e]
noncomputable def stepT (m : Nat) (f : Nat -> Nat -> Int) (s : Int × Int) : Nat -> Nat -> Int :=
 let f1 := if s.1 < m then up2 f s.1.toNat s.1.toNat (f s.1.toNat s.1.toNat - 1) else f
 if s.1 < m /\ s.2 < m then up2 f1 s.1.toNat s.2.toNat (f1 s.1.toNat s.2.toNat + 1) else f1
noncomputable def Qj (m : Nat) (S : List (Int × Int)) : Nat -> Nat -> Int := S.foldl (stepT m) λ _ _ => 0
noncomputable def Qet (Qc7 : Den) : DS := (Qe (Qp 1 (Qbn (Qn (Qa 0) (dC (.int 0))))) (Qe (Qp 2 (QF (Qau (Qa 1)) (.nm 1) [none, none, some 1] QL (QS (Qas (Qc (dC (.int 0)) Qf)) (Qa 2)))) (Qe (QaV (QY (Qr 2 Qc7 [] (Qc (Qn (Qa 0) (dC (.int 1))) (Qc (Qn (Qa 0) (dC (.int 2))) Qf)))) (.tp [3, 4]) (Qe (sIf (QI (dOp gLt (Qa 3) (Qa 1))) (Qe (Qdl Qaq 2 (QcE Qam (Qa 3)) (Qa 3) (dC (.int 1))) Qm) Qm) (Qe (sIf (Qfw (QI (dOp gLt (Qa 3) (Qa 1))) (QI (dOp gLt (Qa 4) (Qa 1)))) (Qe (Qdl (gI λ i j => some (.int (i + j))) 2 (QcE Qam (Qa 3)) (Qa 4) (dC (.int 1))) Qm) Qm) Qm))) (Qe (QM (Qa 2)) Qm))))
theorem QqY {Qc7 : Den} {m : Nat} {R L S : List (Int × Int)} (hm : m <= 16777216) (hs : Qc7 [QU R, QU L] = some (QU S, true)) (hS : ∀ s ∈ S, 0 <= s.1 /\ 0 <= s.2) : Ql 5 (Qet Qc7) [Qt m R L] = some (Qi m m (Qj m S), true) := by
 refine Q4 ?_
 refine run_seq (Qh (r := ⟨.int m, false, []⟩) rfl ?_)
 refine run_seq (Qh (QE (out := λ _ => Qb m λ _ => 0) (List.range m) (QaF (n := m) (r := ⟨.int m, true, []⟩) rfl rfl hm) rfl λ x _ => ⟨[none, some (.int x, true), some (.int m, true)], rfl, _, Qfn (r := ⟨.int m, true, []⟩) rfl rfl hm, rfl, rfl⟩) ?_)
 refine run_seq (Qal (toD := pairD) S (λ i ρ => ∃ j1 j2, ρ = [some (Qt m R L, false), some (.int m, true), some (Qi m m (Qj m (S.take i)), true), j1, j2]) (ir := ⟨S.map pairD, []⟩) ?_ rfl ⟨none, none, rfl⟩ ?_ ?_)
 ·exact Q7 (Qs (r := ⟨[QU R, QU L], false, []⟩) (d := QU S) rfl hs rfl) rfl
 ·rintro i s ρ hi ⟨j1, j2, rfl⟩
  refine ⟨_, rfl, ?_⟩
  obtain ⟨s1, s2⟩ := hS s (ZY hi)
  refine run_seq (f := sIf _ _ _) (Run.mono (Q := Nx λ ρ => ρ = [some (Qt m R L, false), some (.int m, true), some (Qi m m (if s.1 < m then up2 (Qj m (S.take i)) s.1.toNat s.1.toNat (Qj m (S.take i) s.1.toNat s.1.toNat - 1) else Qj m (S.take i)), true), some (.int s.1, true), some (.int s.2, true)]) ?_ ?_)
  ·refine Q8 (b := decide (s.1 < m)) rfl (λ h => ?_) (λ h => ?_)
   ·have h := of_decide_eq_true h
    rw [if_pos h]
    exact run_seq (QkZ (i := s.1) (j := s.1) rfl rfl rfl rfl rfl rfl s1 h s1 h rfl (Qo rfl))
   ·have h := of_decide_eq_false h
    rw [if_neg h]
    exact Qo rfl
  ·intro o ho
   cases o with
   | nx ρ =>
    subst ho
    have fin : Qj m (S.take (i + 1)) = stepT m (Qj m (S.take i)) s := by
     unfold Qj
     rw [List.take_add_one, hi, List.foldl_append]; rfl
    refine run_seq (f := sIf _ _ _) (Run.mono (Q := Nx λ ρ => ρ = [some (Qt m R L, false), some (.int m, true), some (Qi m m (stepT m (Qj m (S.take i)) s), true), some (.int s.1, true), some (.int s.2, true)]) ?_ ?_)
    ·refine Q8 (b := decide (s.1 < m /\ s.2 < m)) ?_ (λ h => ?_) (λ h => ?_)
     ·by_cases h : s.1 < (m : Int)
      ·simp [Qfw, QI, dOp, Qa, gLt, gI, D.tru, h]
      ·simp [Qfw, QI, dOp, Qa, gLt, gI, D.tru, h]
     ·have h := of_decide_eq_true h
      refine run_seq (QkZ (i := s.1) (j := s.2) rfl rfl rfl rfl rfl rfl s1 h.1 s2 h.2 rfl (Qo ?_))
      unfold stepT
      rw [if_pos h]; rfl
     ·have h := of_decide_eq_false h
      refine Qo ?_
      unfold stepT
      rw [if_neg h]; rfl
    ·intro o ho
     cases o with
     | nx ρ =>
      subst ho
      exact Qo ⟨_, _, by rw [fin]⟩
     | _ => exact False.elim ho
   | _ => exact False.elim ho
 ·rintro ρ ⟨j1, j2, rfl⟩
  rw [ZbD]
  exact QA rfl ⟨rfl, rfl⟩
noncomputable def hit (i j : Nat) (s : Int × Int) : Int := (if s.1 = i /\ s.2 = j then 1 else 0) - (if s.1 = i /\ i = j then 1 else 0)
theorem Qm0 {f : Nat -> Nat -> Int} {a b : Nat} {v : Int} {i j : Nat} : up2 f a b v i j = if i = a /\ j = b then v else f i j := by
 unfold up2 up
 by_cases h1 : i = a
 ·by_cases h2 : j = b
  ·simp [h1, h2]
  ·simp [h1, h2]
 ·simp [h1]
theorem QoL {m : Nat} {f : Nat -> Nat -> Int} {s : Int × Int} {i j : Nat} (hi : i < m) (hj : j < m) (h1 : 0 <= s.1) (h2 : 0 <= s.2) : stepT m f s i j = f i j + hit i j s := by
 unfold stepT hit
 have e1 : (s.1 = (i : Int)) ↔ (i = s.1.toNat) := by omega
 have e2 : (s.2 = (j : Int)) ↔ (j = s.2.toNat) := by omega
 simp only [e1, e2]
 by_cases c1 : s.1 < (m : Int)
 ·by_cases c2 : s.2 < (m : Int)
  ·simp only [c1, c2, and_self, if_true, Qm0]
   generalize s.1.toNat = a
   generalize s.2.toNat = b
   by_cases d1 : i = a
   ·subst d1
    by_cases d2 : j = b
    ·subst d2
     by_cases d3 : i = j
     ·subst d3; simp
     ·have d4 : ¬ j = i := λ z => d3 z.symm
      simp [d3, d4]
    ·by_cases d3 : i = j
     ·subst d3; simp [d2]; omega
     ·have d4 : ¬ j = i := λ z => d3 z.symm
      simp [d2, d3, d4]
   ·simp [d1]
  ·have d2 : ¬ (j = s.2.toNat) := by omega
   simp only [c1, c2, and_false, if_false, if_true, Qm0, d2]
   generalize s.1.toNat = a
   by_cases d1 : i = a
   ·subst d1
    by_cases d3 : i = j
    ·subst d3; simp; omega
    ·have d4 : ¬ j = i := λ z => d3 z.symm
     simp [d3, d4]
   ·simp [d1]
 ·have d1 : ¬ (i = s.1.toNat) := by omega
  simp [c1, d1]
theorem QjF {m : Nat} {i j : Nat} (hi : i < m) (hj : j < m) : ∀ (S : List (Int × Int)) (f : Nat -> Nat -> Int), (∀ s ∈ S, 0 <= s.1 /\ 0 <= s.2) -> S.foldl (stepT m) f i j = f i j + (S.map (hit i j)).sum
 | [], f, _ => by simp
 | s :: S, f, h => by
  obtain ⟨h1, h2⟩ := h s Zi
  rw [List.foldl_cons, QjF hi hj S _ (λ t ht => h t (Zc _ ht)), QoL hi hj h1 h2, ZG, Zas]
  omega
theorem QbQ {m : Nat} {S : List (Int × Int)} {i j : Nat} (hi : i < m) (hj : j < m) (h : ∀ s ∈ S, 0 <= s.1 /\ 0 <= s.2) : Qj m S i j = (S.map (hit i j)).sum := by
 unfold Qj
 rw [QjF hi hj S _ h]; simp
noncomputable def isI (i : Nat) (a : Int) : Int := if a = i then 1 else 0
noncomputable def QaT (R L : List (Int × Int)) (i : Nat) : Int := (R.map λ r => isI i r.1 + isI i r.2).sum + (L.map λ l => isI i l.1).sum
theorem sum_neg (S : List (Int × Int)) (i : Nat) (h : ∀ s ∈ S, s.1 ≠ s.2) : (S.map (hit i i)).sum = - (S.map λ s => isI i s.1).sum := by
 induction S with
 | nil => rfl
 | cons s S ih =>
  rw [ZG, Zas, ih λ t ht => h t (Zc _ ht), ZG, Zas]
  have hn := h s Zi
  unfold hit isI
  by_cases e : s.1 = (i : Int)
  ·have : ¬ (s.2 = (i : Int)) := λ z => hn (e.trans z.symm)
   simp [e, this]; omega
  ·simp [e]
noncomputable def Qg (R L : List (Int × Int)) : List (Int × Int) := R ++ R.map Prod.swap ++ L
theorem QjP (R L : List (Int × Int)) (i : Nat) : ((Qg R L).map λ s => isI i s.1).sum = QaT R L i := by
 unfold Qg QaT
 rw [Zax, Zax, Zbm, Zbm]
 have : (R.map λ r => isI i r.1 + isI i r.2).sum = (R.map λ s => isI i s.1).sum + ((R.map Prod.swap).map λ s => isI i s.1).sum := by
  induction R with
  | nil => rfl
  | cons r R ih => simp only [ZG, Zas, ih, Prod.fst_swap]; omega
 omega
def Good (m : Nat) (s : Int × Int) : Prop := 0 <= s.1 /\ 0 <= s.2 /\ s.1 <= m /\ s.2 <= m /\ s.1 ≠ s.2
theorem Qb0 {m : Nat} {R L : List (Int × Int)} (hR : ∀ s ∈ R, Good m s) (hL : ∀ s ∈ L, Good m s) : ∀ s ∈ Qg R L, Good m s := λ s hs => by
 unfold Qg at hs
 rcases ZF.mp hs with hs | hs
 ·rcases ZF.mp hs with hs | hs
  ·exact hR s hs
  ·obtain ⟨t, ht, rfl⟩ := ZQ.mp hs
   obtain ⟨h1, h2, h3, h4, h5⟩ := hR t ht
   exact ⟨h2, h1, h4, h3, λ z => h5 z.symm⟩
 ·exact hL s hs
def QeA (d : Den) : Prop := ∀ (m : Nat) (R L : List (Int × Int)), m <= 1000 -> R.length + R.length + L.length <= 1000000 -> (∀ s ∈ R, Good m s) -> (∀ s ∈ L, Good m s) -> d [Qt m R L] = some (Qi m m (Qj m (Qg R L)), true)
theorem QsV : QeA (Ql 5 (Qet (Ql 4 QiX))) := λ m R L hm hl hR hL => by
 refine QqY (by omega) (Qpe (by omega)) λ s hs => ?_
 obtain ⟨h1, h2, _⟩ := Qb0 hR hL s hs
 exact ⟨h1, h2⟩
noncomputable def Qe1 (QW : Den) : DS := (Qe (QM (QF (Qgm (Qr 1 QW [] (Qc (Qa 0) Qf))) (.tp [1, 2]) [none, none, none] QL (dOp Qaq (dC (.int 0)) (Qn (Qa 2) (Qa 1))))) Qm)
theorem QiI {α : Type} (m : Nat) (f : Nat -> D) : QdK ((List.range m).map f) = (List.range m).map λ i => .tup [.int i, f i] := by
 apply Zaw
 intro k
 unfold QdK
 simp only [Zm, List.getElem?_zipIdx, Nat.zero_add]
 by_cases hk : k < m
 ·rw [Zz hk]; rfl
 ·rw [Zo (by simp; omega)]; rfl
theorem QqW {d : Den} (hd : QeA d) {m : Nat} {R L : List (Int × Int)} (hm : m <= 1000) (hl : R.length + R.length + L.length <= 1000000) (hR : ∀ s ∈ R, Good m s) (hL : ∀ s ∈ L, Good m s) : Ql 1 (Qe1 d) [Qt m R L] = some (Qb m (QaT R L), true) := by
 refine Q4 ?_
 refine QA (QE (toD := λ (i : Nat) => .tup [.int i, Qb m (Qj m (Qg R L) i)]) (out := λ (i : Nat) => .int (QaT R L i)) (ir := ⟨QdK ((List.range m).map λ i => Qb m (Qj m (Qg R L) i)), []⟩) (List.range m) ?_ ?_ λ i hi => ?_) ⟨rfl, rfl⟩
 ·unfold Qgm
  rw [Qs (n := 1) (fs := Qc (Qa 0) Qf) (ρ := QaI 1 [Qt m R L]) (dfl := []) (r := ⟨[Qt m R L], false, []⟩) rfl (hd m R L hm hl hR hL) rfl]; rfl
 ·exact QiI (α := Nat) m _
 ·have hi := Zn.mp hi
  refine ⟨[none, some (.int i, true), some (Qb m (Qj m (Qg R L) i), false)], rfl, ⟨.int (0 - Qj m (Qg R L) i i), true, []⟩, ?_, ?_, rfl⟩
  ·have e : Qn (Qa 2) (Qa 1) [none, some (.int (i : Int), true), some (Qb m (Qj m (Qg R L) i), false)] = some ⟨.int (Qj m (Qg R L) i i), true, []⟩ := by
    show ((D.items (Qb m (Qj m (Qg R L) i))).bind λ xs => (atI xs (i : Int)).map λ d => (HS.R.norm ⟨d, false, []⟩)) = _
    unfold Qb
    rw [show D.items (.lst ((List.range m).map λ j => D.int (Qj m (Qg R L) i j))) = some ((List.range m).map λ j => D.int (Qj m (Qg R L) i j)) from rfl, Za, Qny (by omega) (by omega)]
    rfl
   exact Qae (rfl) e rfl
  ·have g := Qb0 hR hL
   rw [QbQ hi hi λ s hs => ⟨(g s hs).1, (g s hs).2.1⟩, sum_neg _ i λ s hs => (g s hs).2.2.2.2, QjP]
   show D.int (0 - -(QaT R L i)) = _
   rw [show (0 : Int) - -(QaT R L i) = QaT R L i by omega]
theorem Qm2 (a b : Int) : deq (.int a) (.int b) = decide (a = b) := by
 show PyData.eqv (.int a) (.int b) = _
 unfold PyData.eqv
 exact Bool.beq_eq_decide_eq a b
theorem QbF {fa fb : DE} {ρ : En} {ra rb : R} {a b : Int} (ha : fa ρ = some ra) (ea : ra.d = .int a) (hb : fb ρ = some rb) (eb : rb.d = .int b) : dOp gEq fa fb ρ = some ⟨.bl (decide (a = b)), true, []⟩ := by
 refine Qae ha hb ?_
 rw [ea, eb]
 show some (D.bl (deq (.int a) (.int b))) = _
 rw [Qm2]
theorem Qdd {fa fb : DE} {ρ : En} {ra rb : R} {a b : Int} (ha : fa ρ = some ra) (ea : ra.d = .int a) (hb : fb ρ = some rb) (eb : rb.d = .int b) : dOp gNe fa fb ρ = some ⟨.bl (!decide (a = b)), true, []⟩ := by
 refine Qae ha hb ?_
 rw [ea, eb]
 show some (D.bl (!deq (.int a) (.int b))) = _
 rw [Qm2]
theorem Qse {fa fb : DE} {ρ : En} {a b : Bool} (ha : fa ρ = some ⟨.bl a, true, []⟩) (hb : fb ρ = some ⟨.bl b, true, []⟩) : dOr fa fb ρ = some ⟨.bl (a || b), true, []⟩ := by
 unfold dOr
 rw [ha]
 cases a <;> simp [D.tru, hb]
theorem QiE {fa fb : DE} {ρ : En} {a b : Bool} (ha : fa ρ = some ⟨.bl a, true, []⟩) (hb : fb ρ = some ⟨.bl b, true, []⟩) : QdD fa fb ρ = some ⟨.bl (a && b), true, []⟩ := by
 unfold QdD
 rw [ha]
 cases a <;> simp [D.tru, hb]
theorem QH {fa : DE} {ρ : En} {r : R} {b : Bool} (ha : fa ρ = some r) (e : r.d = .bl b) : QI fa ρ = some b := by
 unfold QI
 rw [ha, Za, e]; rfl
theorem Qek {g : DT} {ρ : En} {b : Bool} (h : g ρ = some b) : Qdj g ρ = some (!b) := by unfold Qdj; rw [h]; rfl
theorem QdN {g1 g2 : DT} {ρ : En} {a b : Bool} (ha : g1 ρ = some a) (hb : g2 ρ = some b) : bOr g1 g2 ρ = some (a || b) := by
 unfold bOr; rw [ha]; cases a <;> simp [hb]
theorem QtE {g1 g2 : DT} {ρ : En} {a b : Bool} (ha : g1 ρ = some a) (hb : g2 ρ = some b) : Qfw g1 g2 ρ = some (a && b) := by
 unfold Qfw; rw [ha]; cases a <;> simp [hb]
theorem QT {fa fb : DE} {ρ : En} {ra rb : R} {a b : Int} (ha : fa ρ = some ra) (ea : ra.d = .int a) (hb : fb ρ = some rb) (eb : rb.d = .int b) (h : Qdf a b = true) : QS fa fb ρ = some ⟨.int (a * b), true, []⟩ := by
 unfold QS
 rw [ha, Za, hb, Za, ea, eb]
 simp [h]
theorem QP {fa fb : DE} {ρ : En} {ra rb : R} {a b : Int} (ha : fa ρ = some ra) (ea : ra.d = .int a) (hb : fb ρ = some rb) (eb : rb.d = .int b) : Qz fa fb ρ = some ⟨.int (a + b), true, []⟩ := by
 unfold Qz
 rw [ha, Za, hb, Za, ea, eb]
theorem Q6 {fa fb : DE} {ρ : En} {ra rb : R} {a b : Int} (ha : fa ρ = some ra) (ea : ra.d = .int a) (hb : fb ρ = some rb) (eb : rb.d = .int b) (h : 0 < b) : dOp QZ fa fb ρ = some ⟨.int (a % b), true, []⟩ := by
 refine Qae ha hb ?_
 rw [ea, eb]
 show (if b ≠ 0 then some (D.int (Qcl a b)) else none) = _
 rw [if_pos (by omega), Qrr _ _ (by omega)]
theorem Qfl {fa fb : DE} {ρ : En} {ra rb : R} {a b : Int} (ha : fa ρ = some ra) (ea : ra.d = .int a) (hb : fb ρ = some rb) (eb : rb.d = .int b) (h : 0 < b) (h2 : b < 2 ^ 64) : dOp Qba fa fb ρ = some ⟨.int (a / b), true, []⟩ := by
 refine Qae ha hb ?_
 rw [ea, eb]
 have : Qbt b = true := by
  unfold Qbt
  have h3 : b.natAbs < 2 ^ 8000 := Zu (by omega : b.natAbs < 2 ^ 64) (ZH (by decide) (by decide))
  simp only [Zl, decide_eq_true_eq]
  exact ⟨by omega, h3⟩
 show (if Qbt b = true then some (D.int (Qde a b)) else none) = _
 rw [if_pos this, QhJ _ _ (by omega)]
theorem Qhv {fa : DE} {ρ : En} {r : R} (h : fa ρ = some r) : Qbn fa ρ = some ⟨r.d, false, r.M⟩ := by unfold Qbn; rw [h]; rfl
theorem QgM {fa fb : DE} {ρ : En} {ra rb : R} {m : Nat} {f : Nat -> Int} {i : Int} (ha : fa ρ = some ra) (ea : ra.d = Qb m f) (hb : fb ρ = some rb) (eb : rb.d = .int i) (h0 : 0 <= i) (h : i < m) : Qn fa fb ρ = some ⟨.int (f i.toNat), true, []⟩ := by
 unfold Qn
 rw [ha, Za, hb, Za, ea, eb]
 simp only [Qb, D.items, Za, Qny h0 h, ZP]
 rfl
theorem QgG {fa fb : DE} {ρ : En} {ra rb : R} {ns : List Int} {i : Int} {v : Int} (ha : fa ρ = some ra) (ea : ra.d = .lst (ns.map .int)) (hb : fb ρ = some rb) (eb : rb.d = .int i) (h0 : 0 <= i) (h : ns[i.toNat]? = some v) : Qn fa fb ρ = some ⟨.int v, true, []⟩ := by
 have hl : i < ns.length := by have := (Zf.mp h).1; omega
 unfold Qn
 rw [ha, Za, hb, Za, ea, eb]
 simp only [D.items, Za]
 rw [QgB h0 (by simpa using hl), Zm, h]
 rfl
theorem Qpn {m n : Nat} {f : Nat -> Int} (h : n <= m) : cutD ((List.range m).map λ i => D.int (f i)) none (some (n : Int)) = (List.range n).map λ i => D.int (f i) := by
 unfold cutD
 simp only [Zh, Zp, HT.Qew, HT.Qfc, ZbS, ZbI, ZaD h]
 rw [← ZbU, List.take_range, ZaD h]
theorem QmX {fa fb : DE} {ρ : En} {ra rb : R} {m n : Nat} {f : Nat -> Int} (ha : fa ρ = some ra) (ea : ra.d = Qb m f) (hb : fb ρ = some rb) (eb : rb.d = .int n) (h : n <= m) : QbY fa QaX (QaY fb) ρ = some ⟨Qb n f, true, []⟩ := by
 unfold QbY QaX QaY
 rw [ha, Za, hb, ea]
 simp only [Za, eb, Qb, Qpn h, Qan, QoE, if_true]
theorem QkU {n : Nat} {den : Den} {dfl : List D} {fs : DA} {ρ : En} {r : RA} {d : D} {fr : Bool} (h : fs ρ = some r) (hd : den (r.ds ++ dfl) = some (d, fr)) (hl : r.ds.length + dfl.length = n) : Qr n den dfl fs ρ = some (if fr = true then ⟨d, true, []⟩ else HS.R.norm ⟨d, false, r.M⟩) := by
 unfold Qr
 rw [h, Za, if_pos hl, hd]
 rfl
noncomputable def Qgr : DS := (Qe (QM (QdD (Qi2 "int" (Qa 0)) (Qqt (Qi2 "bool" (Qa 0))))) Qm)
def Qi1 (d : Den) : Prop := ∀ i : Int, d [.int i] = some (.bl true, true)
theorem QqL : Qi1 (Ql 1 Qgr) := λ i => rfl
noncomputable def QaL (t k : Int) : Int := (t + 17) * (k * k + 7 * k + 11) * 69621 % 2147483647
noncomputable def QdR (m t k : Int) : Int := if QaL t k % (k + 1) < k then (QaL t k % (k + 1) + t) % m else m
noncomputable def QdS (m t kind : Int) (k : Int) : Int × Int × Bool := ((k + t) % m, QdR m t k, decide (kind = 2) || (decide (kind = 3) && decide (QaL t k / 64 % 2 = 1)))
noncomputable def Qbo (m : Nat) (t kind : Int) : List (Int × Int × Bool) := (List.range m).map λ (k : Nat) => QdS m t kind k
def GoodW (m : Nat) (w : Int × Int × Bool) : Prop := Good m (w.1, w.2.1) /\ (w.2.2 = true -> w.1 < m)
noncomputable def Q3 (W : List (Int × Int × Bool)) : D := .lst (W.map QbI)
@[simp] theorem QvX (W : List (Int × Int × Bool)) : (Q3 W).flat = false := rfl
theorem QpH {a x n : Int} (h1 : 0 < x) (h2 : x < n) : (a + x) % n ≠ a % n := λ h => by
 have h3 : (a + x - a) % n = 0 := Int.emod_eq_emod_iff_emod_sub_eq_zero.mp h
 rw [show a + x - a = x by omega, Zbt (by omega) h2] at h3
 omega
theorem Qph {m : Nat} {t kind : Int} {k : Nat} (hk : k < m) : GoodW m (QdS m t kind k) := by
 have hm : (0 : Int) < m := by omega
 have h1 := ZD ((k : Int) + t) (by omega : (m : Int) ≠ 0)
 have h2 := ZC ((k : Int) + t) hm
 unfold QdS QdR
 split
 ·rename_i hlt
  have h3 := ZD (QaL t k) (by omega : ((k : Int) + 1) ≠ 0)
  have h4 := ZD (QaL t k % (k + 1) + t) (by omega : (m : Int) ≠ 0)
  have h5 := ZC (QaL t k % (k + 1) + t) hm
  refine ⟨⟨h1, h4, by dsimp only; omega, by dsimp only; omega, ?_⟩, λ _ => by dsimp only; omega⟩
  dsimp only
  have h6 := QpH (a := QaL t k % (k + 1) + t) (x := k - QaL t k % (k + 1)) (n := m) (by omega) (by omega)
  rw [show QaL t k % (k + 1) + t + (k - QaL t k % (k + 1)) = k + t by omega] at h6
  exact h6
 ·exact ⟨⟨h1, by dsimp only; omega, by dsimp only; omega, by dsimp only; omega, by dsimp only; omega⟩, λ _ => by dsimp only; omega⟩
noncomputable def Qhj : DS := (Qe (Qp 3 (Qas Qf)) (Qe (QaV (Qau (Qa 0)) (.nm 4) (Qe (Qp 5 (dOp QZ (QS (QS (Qz (Qa 1) (dC (.int 17))) (Qz (Qz (QS (Qa 4) (Qa 4)) (QS (dC (.int 7)) (Qa 4))) (dC (.int 11)))) (dC (.int 69621))) (dC (.int 2147483647)))) (Qe (Qp 6 (Qbn (Qa 0))) (Qe (sIf (QI (dOp gLt (dOp QZ (Qa 5) (Qz (Qa 4) (dC (.int 1)))) (Qa 4))) (Qe (Qp 6 (dOp QZ (Qz (dOp QZ (Qa 5) (Qz (Qa 4) (dC (.int 1)))) (Qa 1)) (Qa 0))) Qm) Qm) (Qe (Qh3 3 Qam (QaW (Qc (dOp QZ (Qz (Qa 4) (Qa 1)) (Qa 0)) (Qc (Qa 6) (Qc (dOr (dOp gEq (Qa 2) (dC (.int 2))) (QdD (dOp gEq (Qa 2) (dC (.int 3))) (dOp gEq (dOp QZ (dOp Qba (Qa 5) (dC (.int 64))) (dC (.int 2))) (dC (.int 1))))) Qf))))) Qm))))) (Qe (QM (Qa 3)) Qm)))
theorem QtL {x : Nat} {fa : DE} {ρ : En} {r : R} {xs : List D} {Q : Out -> Prop} (hx : ρ[x]? = some (some (.lst xs, true))) (ha : fa ρ = some r) (hf : r.d.flat = true) (hl : xs.length < 16777216) (q : Q (.nx (ρ.set x (some (.lst (xs ++ [r.d]), true))))) : Run (Qh3 x Qam fa) ρ Q := by
 refine ⟨_, ?_, q⟩
 have hn : r.norm = ⟨r.d, true, []⟩ := by unfold HS.R.norm; rw [if_pos hf]
 unfold Qh3
 rw [hx]
 simp only [Qam, Za, ha, Qa8, Qko, hn, QaN, kill, QgI]
 simp [hl]
def QkF (d : Den) : Prop := ∀ (m : Nat) (t kind : Int), 0 < m -> m <= 1000 -> 0 <= t -> t < 2000000 -> d [.int m, .int t, .int kind] = some (Q3 (Qbo m t kind), true)
theorem QsS : QkF (Ql 7 Qhj) := λ m t kind h0 hm ht ht2 => by
 refine Q4 ?_
 refine run_seq (Qh (r := ⟨.lst [], true, []⟩) rfl ?_)
 rw [Qk]
 refine run_seq (Qal (List.range m) (λ i ρ => ∃ j4 j5 j6, ρ = [some (.int m, true), some (.int t, true), some (.int kind, true), some (.lst (((List.range i).map λ (k : Nat) => QdS m t kind k).map QbI), true), j4, j5, j6]) (QaF (n := m) (r := ⟨.int m, true, []⟩) rfl rfl (by omega)) rfl ⟨none, none, none, rfl⟩ ?_ ?_)
 ·rintro i k ρ hi ⟨j4, j5, j6, rfl⟩
  have hk : i < m /\ i = k := by
   obtain ⟨h1, h2⟩ := Zf.mp hi
   simp at h1 h2; exact ⟨h1, h2⟩
  obtain ⟨hk, rfl⟩ := hk
  refine ⟨_, rfl, ?_⟩
  have n1 : (t + 17).natAbs < 2 ^ 64 := by omega
  have n2 : (69621 : Int).natAbs < 2 ^ 64 := by decide
  refine run_seq (Qh (r := ⟨.int (QaL t i), true, []⟩) ?_ ?_)
  ·exact Q6 (QT (QT (QP (a := t) (b := 17) rfl rfl rfl rfl) rfl (QP (QP (QT (a := (i : Int)) (b := i) rfl rfl rfl rfl (QaG (by omega))) rfl (QT (a := 7) (b := (i : Int)) rfl rfl rfl rfl (QaG (by decide))) rfl) rfl (QaM (.int 11) _) rfl) rfl (QaG n1)) rfl (QaM (.int 69621) _) rfl (Qbe n2)) rfl (QaM (.int 2147483647) _) rfl (by decide)
  ·rw [Qk]
   refine run_seq (Qh (r := ⟨.int m, false, []⟩) rfl ?_)
   rw [Qep rfl]
   refine run_seq (f := sIf _ _ _) (Run.mono (Q := Nx λ ρ => ρ = [some (.int m, true), some (.int t, true), some (.int kind, true), some (.lst (((List.range i).map λ (k : Nat) => QdS m t kind k).map QbI), true), some (.int i, true), some (.int (QaL t i), true), some (.int (QdR m t i), true)]) ?_ ?_)
   ·have e1 : ∀ (ρ : En), ρ = [some (.int m, true), some (.int t, true), some (.int kind, true), some (.lst (((List.range i).map λ (k : Nat) => QdS m t kind k).map QbI), true), some (.int i, true), some (.int (QaL t i), true), some (.int m, true)] -> dOp QZ (Qa 5) (Qz (Qa 4) (dC (.int 1))) ρ = some ⟨.int (QaL t i % (i + 1)), true, []⟩ := by
     rintro ρ rfl
     exact Q6 (a := QaL t i) (b := (i : Int) + 1) rfl rfl (QP (a := (i : Int)) (b := 1) rfl rfl rfl rfl) rfl (by omega)
    refine Q8 (b := decide (QaL t i % (i + 1) < i)) (QH (Qae (e1 _ rfl) rfl rfl) rfl) (λ h => ?_) (λ h => ?_)
    ·have h := of_decide_eq_true h
     refine run_seq (Qh (Q6 (a := QaL t i % (i + 1) + t) (b := m) (QP (a := QaL t i % (i + 1)) (b := t) (e1 _ rfl) rfl rfl rfl) rfl rfl rfl (by omega)) (Qo ?_))
     rw [Qk]
     unfold QdR
     rw [if_pos h]; rfl
    ·have h := of_decide_eq_false h
     refine Qo ?_
     unfold QdR
     rw [if_neg h]; rfl
   ·intro o ho
    cases o with
    | nx ρ =>
     subst ho
     refine run_seq (QtL (r := ⟨QbI (QdS m t kind i), true, []⟩) rfl ?_ rfl (by simp; omega) ?_)
     ·have e := Qse (QbF (a := kind) (b := 2) (fa := Qa 2) (fb := dC (.int 2)) (ρ := [some (.int m, true), some (.int t, true), some (.int kind, true), some (.lst (((List.range i).map λ (k : Nat) => QdS m t kind k).map QbI), true), some (.int i, true), some (.int (QaL t i), true), some (.int (QdR m t i), true)]) rfl rfl rfl rfl)
       (QiE (QbF (a := kind) (b := 3) (fa := Qa 2) (fb := dC (.int 3)) rfl rfl rfl rfl) (QbF (a := QaL t i / 64 % 2) (b := 1) (fb := dC (.int 1)) (Q6 (a := QaL t i / 64) (b := 2) (fb := dC (.int 2)) (Qfl (a := QaL t i) (b := 64) (fa := Qa 5) (fb := dC (.int 64)) rfl rfl rfl rfl (by decide) (by decide)) rfl rfl rfl (by decide)) rfl rfl rfl))
      have e2 : dOp QZ (Qz (Qa 4) (Qa 1)) (Qa 0) [some (.int m, true), some (.int t, true), some (.int kind, true), some (.lst (((List.range i).map λ (k : Nat) => QdS m t kind k).map QbI), true), some (.int i, true), some (.int (QaL t i), true), some (.int (QdR m t i), true)] = some ⟨.int ((i + t) % m), true, []⟩ :=
       Q6 (a := (i : Int) + t) (b := m) (QP (a := (i : Int)) (b := t) rfl rfl rfl rfl) rfl rfl rfl (by omega)
      unfold QaW
      rw [Qv e2 (Qv (r := ⟨.int (QdR m t i), true, []⟩) rfl (Qv e (Q5 _)))]
      rfl
     ·refine Qo ⟨some (.int i, true), some (.int (QaL t i), true), some (.int (QdR m t i), true), ?_⟩
      show [some (D.int m, true), some (D.int t, true), some (D.int kind, true), some (D.lst (((List.range i).map λ (k : Nat) => QdS m t kind k).map QbI ++ [QbI (QdS m t kind i)]), true), _, _, _] = _
      rw [ZbQ, Zax, Zax]; rfl
    | _ => exact False.elim ho
 ·rintro ρ ⟨j4, j5, j6, rfl⟩
  rw [Zp]
  exact QA rfl ⟨rfl, rfl⟩
noncomputable def Qe0 : DS := (Qe (Qp 2 (QS (Qas (Qc (dC (.int 0)) Qf)) (Qz (Qa 0) (dC (.int 1))))) (Qe (QaV (QY (Qa 1)) (.tp [3, 4, 5]) (Qe (Qa4 2 Qam (Qa 3) (Qz (Qn (Qa 2) (Qa 3)) (dC (.int 1)))) (Qe (sIf (Qdj (QI (Qa 5))) (Qe (Qa4 2 Qam (Qa 4) (Qz (Qn (Qa 2) (Qa 4)) (dC (.int 1)))) Qm) Qm) Qm))) (Qe (Qp 6 (dC (.int 1))) (Qe (QaV (QY (QbY (Qa 2) QaX (QaY (Qa 0)))) (.nm 7) (Qe (Qp 6 (QS (Qa 6) (Qa 7))) Qm)) (Qe (QM (dOp gLe (Qa 6) (dC (.int 300)))) Qm)))))
theorem QmW {x y m : Nat} {f : Nat -> Int} {ρ : En} {i : Int} {b : Bool} {Q : Out -> Prop} (hx : ρ[x]? = some (some (Qb m f, true))) (hy : ρ[y]? = some (some (.int i, b))) (h0 : 0 <= i) (h : i < m)
  (q : Q (.nx (ρ.set x (some (Qb m (up f i.toNat (f i.toNat + 1)), true))))) : Run (Qa4 x Qam (Qa y) (Qz (Qn (Qa x) (Qa y)) (dC (.int 1)))) ρ Q := by
 have e1 : Qa y ρ = some ⟨.int i, true, []⟩ := QkQ hy
 have e2 := QaD hx
 exact Qlj hx e1 rfl (QP (QgM e2 (by simp) e1 rfl h0 h) rfl (QaM (.int 1) _) rfl) rfl h0 h q
def Ql1 (d : Den) : Prop := ∀ (m : Nat) (W : List (Int × Int × Bool)), m <= 1000 -> W.length <= 100000 -> (∀ w ∈ W, GoodW m w) -> ∃ b, d [.int m, Q3 W] = some (.bl b, true)
theorem Run.nx {f : DS} {ρ : En} {Q Q' : En -> Prop} (h : Run f ρ (Nx Q)) (m : ∀ ρ, Q ρ -> Q' ρ) : Run f ρ (Nx Q') := h.mono λ o ho => by
 cases o with
 | nx ρ => exact m ρ ho
 | _ => exact ho.elim
theorem Qa6 {f g : DS} {ρ : En} {P : En -> Prop} {Q : Out -> Prop} (h : Run f ρ (Nx P)) (k : ∀ ρ', P ρ' -> Run g ρ' Q) : Run (Qe f g) ρ Q := run_seq (h.nx k)
theorem QoX {m : Nat} {W : List (Int × Int × Bool)} {r1 r2 : Option (D × Bool)} (hg : ∀ w ∈ W, GoodW m w) :
  Run (QaV (QY (Qa 1)) (.tp [3, 4, 5]) (Qe (Qa4 2 Qam (Qa 3) (Qz (Qn (Qa 2) (Qa 3)) (dC (.int 1)))) (Qe (sIf (Qdj (QI (Qa 5))) (Qe (Qa4 2 Qam (Qa 4) (Qz (Qn (Qa 2) (Qa 4)) (dC (.int 1)))) Qm) Qm) Qm)))
   [some (.int m, true), some (Q3 W, false), some (Qb (m + 1) λ _ => 0, true), none, none, none, r1, r2] (Nx λ ρ => ∃ f j3 j4 j5, (∀ k, 0 <= f k /\ f k <= 2 * (W.length : Int)) /\ ρ = [some (.int m, true), some (Q3 W, false), some (Qb (m + 1) f, true), j3, j4, j5, r1, r2]) := by
 refine Qal (toD := QbI) W (λ i ρ => ∃ f j3 j4 j5, (∀ k, 0 <= f k /\ f k <= 2 * (i : Int)) /\ ρ = [some (.int m, true), some (Q3 W, false), some (Qb (m + 1) f, true), j3, j4, j5, r1, r2]) (ir := ⟨W.map QbI, []⟩) rfl rfl ⟨λ _ => 0, none, none, none, λ k => ⟨by simp, by simp⟩, rfl⟩ ?_ ?_
 ·rintro i w ρ hi ⟨f, j3, j4, j5, hf, rfl⟩
  obtain ⟨⟨h1, h2, h3, h4, h5⟩, h6⟩ := hg w (ZY hi)
  refine ⟨_, rfl, ?_⟩
  refine run_seq (QmW (i := w.1) rfl rfl h1 (by omega) ?_)
  have hf1 : ∀ k, 0 <= up f w.1.toNat (f w.1.toNat + 1) k /\ up f w.1.toNat (f w.1.toNat + 1) k <= 2 * (i : Int) + 1 := λ k => by
   have a := hf k
   have b := hf w.1.toNat
   unfold up; split <;> omega
  refine run_seq (Q8 (b := !w.2.2) (Qek (QH (b := w.2.2) rfl rfl)) (λ _ => run_seq (QmW (i := w.2.1) rfl rfl h2 (by omega) (Qo (Qo ⟨_, _, _, _, λ k => ?_, rfl⟩)))) (λ _ => Qo (Qo ⟨_, _, _, _, λ k => ?_, rfl⟩)))
  ·have a := hf1 k
   have b := hf1 w.2.1.toNat
   unfold up at a b ⊢
   split <;> omega
  ·have a := hf1 k
   omega
 ·rintro ρ ⟨f, j3, j4, j5, hf, rfl⟩
  exact ⟨f, j3, j4, j5, hf, rfl⟩
theorem QpM {n : Nat} {f : Nat -> Int} {a b c d e g : Option (D × Bool)} {fi : DI} (hi : fi [a, b, c, d, e, g, some (.int 1, true), none] = some ⟨(List.range n).map λ (k : Nat) => .int (f k), []⟩) (hf : ∀ k, 0 <= f k /\ f k < 2 ^ 64) :
  Run (QaV fi (.nm 7) (Qe (Qp 6 (QS (Qa 6) (Qa 7))) Qm)) [a, b, c, d, e, g, some (.int 1, true), none] (Nx λ ρ => ∃ (z : Int) (j : Option (D × Bool)), ρ = [a, b, c, d, e, g, some (.int z, true), j]) := by
 refine Qal (toD := λ (k : Nat) => .int (f k)) (List.range n) (λ i ρ => ∃ (z : Int) (j : Option (D × Bool)), ρ = [a, b, c, d, e, g, some (.int z, true), j]) hi rfl ⟨1, none, rfl⟩ ?_ ?_
 ·rintro i k ρ _ ⟨z, j, rfl⟩
  have := hf k
  exact ⟨_, rfl, run_seq (Qh (QT (a := z) (b := f k) rfl rfl rfl rfl (Qbe (by omega))) (Qo ⟨z * f k, _, rfl⟩))⟩
 ·rintro ρ ⟨z, j, rfl⟩
  exact ⟨z, j, rfl⟩
theorem QsF : Ql1 (Ql 8 Qe0) := λ m W hm hl hg => by
 have key : Run Qe0 (QaI 8 [.int m, Q3 W]) (Rt λ d fr => ∃ b, d = .bl b /\ fr = true) := by
  refine run_seq (Qh (Qfn (n := m + 1) (QP (a := (m : Int)) (b := 1) rfl rfl rfl rfl) rfl (by omega)) ?_)
  rw [Qk]
  refine Qa6 (QoX hg) ?_
  rintro ρ ⟨f, j3, j4, j5, hf, rfl⟩
  refine run_seq (Qh (r := ⟨.int 1, true, []⟩) rfl ?_)
  rw [Qk]
  refine Qa6 (QpM (n := m) (f := f) (Q7 (QmX (m := m + 1) (n := m) (f := f) rfl rfl rfl rfl (by omega)) rfl) λ k => ⟨(hf k).1, by have := (hf k).2; omega⟩) ?_
  rintro ρ ⟨z, j, rfl⟩
  exact QA (Qae (ra := ⟨.int z, true, []⟩) (rb := ⟨.int 300, true, []⟩) rfl rfl rfl) ⟨_, rfl, rfl⟩
 obtain ⟨o, h1, h2⟩ := key
 cases o with
 | rt d fr =>
  obtain ⟨b, rfl, rfl⟩ := h2
  exact ⟨b, by unfold Ql; rw [h1]; rfl⟩
 | _ => exact h2.elim
noncomputable def QeU (Qaw : Den) : DS := (Qe (QaV (QY (Qa 1)) (.nm 4) (Qe (Qp 5 (dOp QZ (QS (Qa 4) (dC (.int 48271))) (dC (.int 2147483647)))) (Qe (Qp 6 (dOp QZ (Qa 5) (Qz (Qa 2) (dC (.int 1))))) (Qe (Qp 7 (dOp QZ (Qz (Qz (Qa 6) (dC (.int 1))) (dOp QZ (dOp Qba (Qa 5) (dC (.int 9))) (Qa 2))) (Qz (Qa 2) (dC (.int 1))))) (Qe (Qp 8 (QaW (Qc (Qa 6) (Qc (Qa 7) (Qc (QdD (dOp gLt (Qa 6) (Qa 2)) (dOr (dOp gEq (Qa 3) (dC (.int 2))) (QdD (dOp gEq (Qa 3) (dC (.int 3))) (dOp gEq (dOp QZ (dOp Qba (Qa 5) (dC (.int 72))) (dC (.int 3))) (dC (.int 1)))))) Qf))))) (Qe (sIf (bOr (Qfw (QI (dOp gNe (Qa 3) (dC (.int 2)))) (QI (dOp gNe (Qa 3) (dC (.int 3))))) (QI (Qr 2 Qaw [] (Qc (Qa 2) (Qc (Qz (Qa 0) (Qas (Qc (Qa 8) Qf))) Qf))))) (Qe (Qp 0 (Qz (Qa 0) (Qas (Qc (Qa 8) Qf)))) Qm) Qm) Qm)))))) (Qe (QM (Qa 0)) Qm))
noncomputable def Qbb (c : Int) : Int := c * 48271 % 2147483647
noncomputable def mStart (m c : Int) : Int := Qbb c % (m + 1)
noncomputable def Qf0 (m c : Int) : Int := (mStart m c + 1 + Qbb c / 9 % m) % (m + 1)
noncomputable def QdG (m kind c : Int) : Int × Int × Bool := (mStart m c, Qf0 m c, decide (mStart m c < m) && (decide (kind = 2) || (decide (kind = 3) && decide (Qbb c / 72 % 3 = 1))))
theorem Qpr {m : Nat} (hm : 0 < m) (kind c : Int) : GoodW m (QdG m kind c) := by
 have h1 := ZD (Qbb c) (by omega : (m : Int) + 1 ≠ 0)
 have h2 := ZC (Qbb c) (by omega : (0 : Int) < m + 1)
 have h3 := ZD (Qbb c / 9) (by omega : (m : Int) ≠ 0)
 have h4 := ZC (Qbb c / 9) (by omega : (0 : Int) < m)
 have h5 := ZD (mStart m c + 1 + Qbb c / 9 % m) (by omega : (m : Int) + 1 ≠ 0)
 have h6 := ZC (mStart m c + 1 + Qbb c / 9 % m) (by omega : (0 : Int) < m + 1)
 have h7 := QpH (a := mStart m c) (x := 1 + Qbb c / 9 % m) (n := (m : Int) + 1) (by omega) (by omega)
 rw [← Int.add_assoc, show mStart m c % ((m : Int) + 1) = mStart m c from Zbt h1 h2] at h7
 refine ⟨⟨h1, h5, ?_, ?_, λ z => h7 z.symm⟩, λ h => ?_⟩
 ·show mStart m c <= m; unfold mStart; omega
 ·show Qf0 m c <= m; unfold Qf0; omega
 ·have : (QdG m kind c).2.2 = (decide (mStart m c < m) && (decide (kind = 2) || (decide (kind = 3) && decide (Qbb c / 72 % 3 = 1)))) := rfl
  rw [this, Zl, decide_eq_true_eq] at h
  exact h.1
theorem Qs4 {fa fb : DE} {ρ : En} {ra rb : R} {A B : List (Int × Int × Bool)} (ha : fa ρ = some ra) (ea : ra.d = Q3 A) (hb : fb ρ = some rb) (eb : rb.d = Q3 B) (hl : A.length + B.length <= 16777216) : Qz fa fb ρ = some ⟨Q3 (A ++ B), true, []⟩ := by
 unfold Qz
 rw [ha, Za, hb, Za, ea, eb]
 simp only [Q3, Zh, QgI, if_pos hl, Qan]
 simp
theorem Qq6 {m : Nat} {kind c : Int} {s0 s1 s5 s6 s7 s8 : Option (D × Bool)} {g : DS} {Q : Out -> Prop} (hm : 0 < m)
  (k : Run g [s0, s1, some (.int m, true), some (.int kind, true), some (.int c, true), some (.int (Qbb c), true), some (.int (mStart m c), true), some (.int (Qf0 m c), true), some (QbI (QdG m kind c), true)] Q) :
  Run (Qe (Qp 5 (dOp QZ (QS (Qa 4) (dC (.int 48271))) (dC (.int 2147483647)))) (Qe (Qp 6 (dOp QZ (Qa 5) (Qz (Qa 2) (dC (.int 1))))) (Qe (Qp 7 (dOp QZ (Qz (Qz (Qa 6) (dC (.int 1))) (dOp QZ (dOp Qba (Qa 5) (dC (.int 9))) (Qa 2))) (Qz (Qa 2) (dC (.int 1))))) (Qe (Qp 8 (QaW (Qc (Qa 6) (Qc (Qa 7) (Qc (QdD (dOp gLt (Qa 6) (Qa 2)) (dOr (dOp gEq (Qa 3) (dC (.int 2))) (QdD (dOp gEq (Qa 3) (dC (.int 3))) (dOp gEq (dOp QZ (dOp Qba (Qa 5) (dC (.int 72))) (dC (.int 3))) (dC (.int 1)))))) Qf))))) g))))
   [s0, s1, some (.int m, true), some (.int kind, true), some (.int c, true), s5, s6, s7, s8] Q := by
 refine run_seq (Qh (Q6 (b := 2147483647) (QT (a := c) (b := 48271) rfl rfl rfl rfl (Qbe (by decide))) rfl rfl rfl (by decide)) ?_)
 rw [Qk]
 refine run_seq (Qh (Q6 (a := Qbb c) (b := (m : Int) + 1) rfl rfl (QP (a := (m : Int)) (b := 1) rfl rfl rfl rfl) rfl (by omega)) ?_)
 rw [Qk]
 refine run_seq (Qh (Q6 (a := mStart m c + 1 + Qbb c / 9 % m) (b := (m : Int) + 1) (QP (QP (a := mStart m c) (b := 1) rfl rfl rfl rfl) rfl (Q6 (a := Qbb c / 9) (b := m) (Qfl (a := Qbb c) (b := 9) rfl rfl rfl rfl (by decide) (by decide)) rfl rfl rfl (by omega)) rfl) rfl (QP (a := (m : Int)) (b := 1) rfl rfl rfl rfl) rfl (by omega)) ?_)
 rw [Qk]
 refine run_seq (Qh (r := ⟨QbI (QdG m kind c), true, []⟩) ?_ ?_)
 ·have e := QiE (ρ := [s0, s1, some (.int m, true), some (.int kind, true), some (.int c, true), some (.int (Qbb c), true), some (.int (mStart m c), true), some (.int (Qf0 m c), true), s8])
   (Qae (g := gLt) (fa := Qa 6) (fb := Qa 2) (ra := ⟨.int (mStart m c), true, []⟩) (rb := ⟨.int m, true, []⟩) rfl rfl rfl)
   (Qse (QbF (a := kind) (b := 2) (fa := Qa 3) (fb := dC (.int 2)) rfl rfl rfl rfl)
    (QiE (QbF (a := kind) (b := 3) (fa := Qa 3) (fb := dC (.int 3)) rfl rfl rfl rfl) (QbF (a := Qbb c / 72 % 3) (b := 1) (fb := dC (.int 1)) (Q6 (a := Qbb c / 72) (b := 3) (fb := dC (.int 3)) (Qfl (a := Qbb c) (b := 72) (fa := Qa 5) (fb := dC (.int 72)) rfl rfl rfl rfl (by decide) (by decide)) rfl rfl rfl (by decide)) rfl rfl rfl)))
  have t : QaW (Qc (Qa 6) (Qc (Qa 7) (Qc (QdD (dOp gLt (Qa 6) (Qa 2)) (dOr (dOp gEq (Qa 3) (dC (.int 2))) (QdD (dOp gEq (Qa 3) (dC (.int 3))) (dOp gEq (dOp QZ (dOp Qba (Qa 5) (dC (.int 72))) (dC (.int 3))) (dC (.int 1)))))) Qf))) [s0, s1, some (.int m, true), some (.int kind, true), some (.int c, true), some (.int (Qbb c), true), some (.int (mStart m c), true), some (.int (Qf0 m c), true), s8] = some ⟨QbI (QdG m kind c), true, []⟩ := by
   unfold QaW
   rw [Qv (r := ⟨.int (mStart m c), true, []⟩) rfl (Qv (r := ⟨.int (Qf0 m c), true, []⟩) rfl (Qv e (Q5 _)))]
   rfl
  exact t
 ·rw [Qk]
  exact k
def Qlz (d : Den) : Prop := ∀ (m : Nat) (W : List (Int × Int × Bool)) (cs : List Int) (kind : Int), 0 < m -> m <= 1000 -> W.length + cs.length <= 10000 -> (∀ w ∈ W, GoodW m w) →
 ∃ W' fr, d [Q3 W, .lst (cs.map .int), .int m, .int kind] = some (Q3 (W ++ W'), fr) /\ W'.length <= cs.length /\ ∀ w ∈ W', GoodW m w
theorem Qtl {Qaw : Den} (hf : Ql1 Qaw) : Qlz (Ql 9 (QeU Qaw)) := λ m W cs kind h0 hm hl hg => by
 have key : Run (QeU Qaw) (QaI 9 [Q3 W, .lst (cs.map .int), .int m, .int kind]) (Rt λ d fr => ∃ W', d = Q3 (W ++ W') /\ W'.length <= cs.length /\ ∀ w ∈ W', GoodW m w) := by
  refine run_seq (Qal (toD := D.int) cs (λ i ρ => ∃ W' b j4 j5 j6 j7 j8, W'.length <= i /\ (∀ w ∈ W', GoodW m w) /\ ρ = [some (Q3 (W ++ W'), b), some (.lst (cs.map .int), false), some (.int m, true), some (.int kind, true), j4, j5, j6, j7, j8]) (ir := ⟨cs.map .int, []⟩) rfl rfl ⟨[], false, none, none, none, none, none, ZX _, λ w hw => absurd hw (by simp), by rw [ZbL]; rfl⟩ ?_ ?_)
  ·rintro i c ρ hi ⟨W', b, j4, j5, j6, j7, j8, hw1, hw2, rfl⟩
   have hil : i < cs.length := (Zf.mp hi).1
   have gw := Qpr h0 kind c
   refine ⟨_, rfl, Qq6 h0 ?_⟩
   have eadd : Qz (Qa 0) (Qas (Qc (Qa 8) Qf)) [some (Q3 (W ++ W'), b), some (.lst (cs.map .int), false), some (.int m, true), some (.int kind, true), some (.int c, true), some (.int (Qbb c), true), some (.int (mStart m c), true), some (.int (Qf0 m c), true), some (QbI (QdG m kind c), true)] = some ⟨Q3 (W ++ W' ++ [QdG m kind c]), true, []⟩ :=
    Qs4 (A := W ++ W') (B := [QdG m kind c]) (QaD rfl) (by cases b <;> rfl) rfl rfl (by simp; omega)
   have gg : ∀ w ∈ W ++ W' ++ [QdG m kind c], GoodW m w := λ w hw => by
    rcases ZF.mp hw with h | h
    ·rcases ZF.mp h with h | h
     ·exact hg w h
     ·exact hw2 w h
    ·have : w = QdG m kind c := by simpa using h
     rw [this]; exact gw
   obtain ⟨bf, hbf⟩ := hf m (W ++ W' ++ [QdG m kind c]) hm (by simp; omega) gg
   refine run_seq (Q8 (QdN (QtE (QH (Qdd (a := kind) (b := 2) rfl rfl rfl rfl) rfl) (QH (Qdd (a := kind) (b := 3) rfl rfl rfl rfl) rfl)) (QH (Qs (Qv (r := ⟨.int m, true, []⟩) rfl (Qv eadd (Q5 _))) hbf rfl) rfl)) (λ _ => run_seq (Qh eadd (Qo ?_))) (λ _ => Qo (Qo ⟨W', b, _, _, _, _, _, by omega, hw2, rfl⟩)))
   rw [Qk]
   refine Qo ⟨W' ++ [QdG m kind c], true, _, _, _, _, _, by simp; omega, λ w hw => ?_, by rw [ZaK]; rfl⟩
   rcases ZF.mp hw with h | h
   ·exact hw2 w h
   ·have : w = QdG m kind c := by simpa using h
    rw [this]; exact gw
  ·rintro ρ ⟨W', b, j4, j5, j6, j7, j8, hw1, hw2, rfl⟩
   exact QA (QaD rfl) ⟨W', by cases b <;> rfl, hw1, hw2⟩
 obtain ⟨o, h1, h2⟩ := key
 cases o with
 | rt d fr =>
  obtain ⟨W', rfl, h3, h4⟩ := h2
  exact ⟨W', fr, by unfold Ql; rw [h1]; rfl, h3, h4⟩
 | _ => exact h2.elim
noncomputable def Qda (w : Int × Int × Bool) : Int × Int := (if w.2.1 < w.1 then w.2.1 else w.1, if w.2.1 > w.1 then w.2.1 else w.1)
noncomputable def Qla (w : Int × Int × Bool) : Int × Int := (w.1, w.2.1)
noncomputable def QbM (W : List (Int × Int × Bool)) : List (Int × Int) := (W.filter λ w => !w.2.2).map Qda
noncomputable def Qcd (W : List (Int × Int × Bool)) : List (Int × Int) := (W.filter λ w => w.2.2).map Qla
theorem QfP {m : Nat} {W : List (Int × Int × Bool)} (h : ∀ w ∈ W, GoodW m w) : ∀ s ∈ QbM W, Good m s /\ s.1 < s.2 := λ s hs => by
 obtain ⟨w, hw, rfl⟩ := ZQ.mp hs
 obtain ⟨⟨h1, h2, h3, h4, h5⟩, _⟩ := h w (ZaA.mp hw).1
 simp only at h1 h2 h3 h4 h5
 unfold Qda Good
 simp only
 split <;> split <;> omega
theorem QfN {m : Nat} {W : List (Int × Int × Bool)} (h : ∀ w ∈ W, GoodW m w) : ∀ s ∈ Qcd W, Good m s /\ s.1 < m := λ s hs => by
 obtain ⟨w, hw, rfl⟩ := ZQ.mp hs
 obtain ⟨h1, h2⟩ := h w (ZaA.mp hw).1
 exact ⟨h1, h2 (by simpa using (ZaA.mp hw).2)⟩
theorem QjO (W : List (Int × Int × Bool)) : (QbM W).length <= W.length := by unfold QbM; rw [Zh]; exact List.length_filter_le _ _
theorem Qj1 (W : List (Int × Int × Bool)) : (Qcd W).length <= W.length := by unfold Qcd; rw [Zh]; exact List.length_filter_le _ _
structure Qt6 (m : Nat) (t kind : Int) (R L : List (Int × Int)) : Prop where
 ex : ∃ W, (∀ w ∈ Qbo m t kind, w ∈ W) /\ (∀ w ∈ W, GoodW m w) /\ W.length <= 100 /\ R = QbM W /\ L = Qcd W
theorem Qt6.good {m : Nat} {t kind : Int} {R L : List (Int × Int)} (h : Qt6 m t kind R L) : (∀ s ∈ R, Good m s) /\ (∀ s ∈ L, Good m s) /\ R.length <= 100 /\ L.length <= 100 := by
 obtain ⟨W, _, h2, h3, rfl, rfl⟩ := h.ex
 exact ⟨λ s hs => (QfP h2 s hs).1, λ s hs => (QfN h2 s hs).1, Zx (QjO W) h3, Zx (Qj1 W) h3⟩
theorem QqN {fa : DE} {ρ : En} {r : R} {W : List (Int × Int × Bool)} (h : fa ρ = some r) (e : r.d = Q3 W) : QF (QY fa) (.tp [1, 2, 3]) [none, none, none, none] (Qdj (QI (Qa 3))) (QaW (Qc (dBf QiD (Qc (Qa 1) (Qc (Qa 2) Qf))) (Qc (dBf Qio (Qc (Qa 1) (Qc (Qa 2) Qf))) Qf))) ρ = some ⟨QU (QbM W), true, []⟩ := by
 rw [Qfj (toD := QbI) (keep := λ w => !w.2.2) (out := λ w => pairD (Qda w)) W (Q7 h e) rfl λ w _ => ⟨[none, some (.int w.1, true), some (.int w.2.1, true), some (.bl w.2.2, true)], rfl, Qek (QH (b := w.2.2) rfl rfl), λ _ => ⟨⟨pairD (Qda w), true, []⟩, rfl, rfl, rfl⟩⟩]
 unfold QU QbM
 rw [Zaf]; rfl
theorem Qrw {fa : DE} {ρ : En} {r : R} {W : List (Int × Int × Bool)} (h : fa ρ = some r) (e : r.d = Q3 W) : QF (QY fa) (.tp [1, 2, 3]) [none, none, none, none] (QI (Qa 3)) (QaW (Qc (Qa 1) (Qc (Qa 2) Qf))) ρ = some ⟨QU (Qcd W), true, []⟩ := by
 rw [Qfj (toD := QbI) (keep := λ w => w.2.2) (out := λ w => pairD (Qla w)) W (Q7 h e) rfl λ w _ => ⟨[none, some (.int w.1, true), some (.int w.2.1, true), some (.bl w.2.2, true)], rfl, QH (b := w.2.2) rfl rfl, λ _ => ⟨⟨pairD (Qla w), true, []⟩, rfl, rfl, rfl⟩⟩]
 unfold QU Qcd
 rw [Zaf]; rfl
theorem Qlv {m : Nat} {t kind : Int} : ∀ w ∈ Qbo m t kind, GoodW m w := λ w hw => by
 obtain ⟨k, hk, rfl⟩ := ZQ.mp hw
 exact Qph (Zn.mp hk)
theorem QkS (m : Nat) (t kind : Int) : (Qbo m t kind).length = m := by simp [Qbo]
theorem Qfh {f : Nat -> Int} {i k : Nat} {v : Int} : up f i v k = if k = i then v else f k := rfl
theorem QcD {fa : DE} {ρ : En} {r : R} {m : Int} {R L : List (Int × Int)} (h : fa ρ = some r) (e : r.d = Qt m R L) :
  Qn fa (dC (.int 0)) ρ = some ⟨.int m, true, []⟩ /\ Qn fa (dC (.int 1)) ρ = some ⟨QU R, r.fr, r.M⟩ /\ Qn fa (dC (.int 2)) ρ = some ⟨QU L, r.fr, r.M⟩ := by
 unfold Qn
 rw [h]
 simp only [Za, e, QaM]
 exact ⟨rfl, rfl, rfl⟩
theorem QcO {fa : DE} {ρ : En} {r : R} {xs : List D} (h : fa ρ = some r) (e : r.d = .lst xs) : dBf Qav (Qc fa Qf) ρ = some ⟨.int xs.length, true, []⟩ := by
 unfold dBf
 rw [Qv h (Q5 _), Za]
 simp [e, Qav]
theorem Qj3 (n : Nat) (ps : List (Int × Int)) : (QU ps).sim (n + 2) = true := by
 unfold QU
 simp only [D.sim, List.all_map, ZaH]
 intro p _
 cases n <;> rfl
theorem Qgc {fa fb : DE} {ρ : En} {ra rb : R} {d : D} (ha : fa ρ = some ra) (ea : ra.d = d) (hb : fb ρ = some rb) (eb : rb.d = d) (hs : d.sim 8 = true) : dOp gNe fa fb ρ = some ⟨.bl false, true, []⟩ := by
 refine Qae ha hb ?_
 rw [ea, eb]
 unfold gNe
 rw [hs, Qlt hs]; rfl
def Qmc (d : Den) : Prop := ∀ (m : Nat) (R L : List (Int × Int)), m <= 1000 -> R.length + R.length + L.length <= 1000000 -> (∀ s ∈ R, Good m s) -> (∀ s ∈ L, Good m s) -> d [Qt m R L] = some (Qb m (QaT R L), true)
theorem Qtf {d : Den} (h : QeA d) : Qmc (Ql 1 (Qe1 d)) := λ m R L h1 h2 h3 h4 => QqW h h1 h2 h3 h4
theorem QpC {b : Int} (h : 0 < b) (h2 : b < 2 ^ 200) : Qbt b = true := by
 unfold Qbt
 have h3 : b.natAbs < 2 ^ 8000 := Zu (by omega : b.natAbs < 2 ^ 200) (ZH (by decide) (by decide))
 simp only [Zl, decide_eq_true_eq]
 exact ⟨by omega, h3⟩
def Esc (m : Nat) (W : List (Int × Int × Bool)) : Prop := ∀ A : Nat -> Prop, (∃ p, p < m /\ A p) -> ∃ w ∈ W, w.1 < m /\ A w.1.toNat /\ (w.2.1 = m ∨ ¬ A w.2.1.toNat)
theorem Esc.mono {m : Nat} {W W' : List (Int × Int × Bool)} (h : Esc m W) (s : ∀ w ∈ W, w ∈ W') : Esc m W' := λ A hA => let ⟨w, hw, r⟩ := h A hA; ⟨w, s w hw, r⟩
def QrI (m : Nat) (O : List Int) (w : Int × Int × Bool) (j : Nat) : Prop := O[j]? = some w.1 /\ (w.2.1 = m ∨ ∃ i, i < j /\ O[i]? = some w.2.1)
theorem QrI.app {m : Nat} {O O' : List Int} {w : Int × Int × Bool} {j : Nat} (h : QrI m O w j) : QrI m (O ++ O') w j := by
 obtain ⟨h1, h2⟩ := h
 have hj : j < O.length := (Zf.mp h1).1
 refine ⟨by rw [Zam hj]; exact h1, ?_⟩
 rcases h2 with h2 | ⟨i, hi, h2⟩
 ·exact .inl h2
 ·exact .inr ⟨i, hi, by rw [Zam (by omega)]; exact h2⟩
noncomputable def Qu (m : Nat) (g : Nat -> Int) : Int := ((List.range m).map g).sum
theorem Qab (m : Nat) (g : Nat -> Int) : Qu (m + 1) g = Qu m g + g m := by
 unfold Qu; rw [ZbQ, Zax, Zbm]; simp
theorem QJ {m : Nat} {f g : Nat -> Int} (h : ∀ i, i < m -> f i = g i) : Qu m f = Qu m g := by
 unfold Qu; rw [ZA λ i hi => h i (Zn.mp hi)]
theorem Qaz (m : Nat) (f g : Nat -> Int) : Qu m (λ i => f i + g i) = Qu m f + Qu m g := by
 induction m with
 | zero => rfl
 | succ m ih => rw [Qab, Qab, Qab, ih]; omega
theorem QcW (m : Nat) (f : Nat -> Int) : Qu m (λ i => - f i) = - Qu m f := by
 induction m with
 | zero => rfl
 | succ m ih => rw [Qab, Qab, ih]; omega
theorem Qag (m : Nat) : Qu m (λ _ => 0) = 0 := by
 induction m with
 | zero => rfl
 | succ m ih => rw [Qab, ih]; rfl
theorem Qdx (m : Nat) (c : Int) (f : Nat -> Int) : Qu m (λ i => c * f i) = c * Qu m f := by
 induction m with
 | zero => simp [Qu]
 | succ m ih => rw [Qab, Qab, ih, ZaM]
theorem QoM (m n : Nat) (f : Nat -> Nat -> Int) : Qu m (λ i => Qu n λ j => f i j) = Qu n λ j => Qu m λ i => f i j := by
 induction m with
 | zero => show 0 = Qu n λ j => 0; rw [Qag]
 | succ m ih =>
  rw [Qab, ih, ← Qaz]
  exact QJ λ j _ => by rw [Qab]
theorem QcQ {m : Nat} {p : Nat} (hp : p < m) (v : Int) (f : Nat -> Int) : Qu m (λ i => (if i = p then v else 0) * f i) = v * f p := by
 induction m with
 | zero => omega
 | succ m ih =>
  rw [Qab]
  by_cases h : p = m
  ·subst h
   rw [if_pos rfl, QJ (g := λ _ => 0) λ i hi => by rw [if_neg (by omega)]; simp, Qag]; simp
  ·rw [ih (by omega), if_neg (λ z => h z.symm)]; simp
noncomputable def Qd (m : Nat) (T : Nat -> Nat -> Int) (f c : Nat -> Int) : Nat -> Int := λ j => f j + Qu m λ i => c i * T i j
theorem Qc5 {m : Nat} {f g : Nat -> Int} (h : ∀ i, i < m -> f i = g i) : Qb m f = Qb m g := by
 unfold Qb
 congr 1
 refine ZA λ i hi => ?_
 rw [h i (Zn.mp hi)]
noncomputable def Qfb : DS := (Qe (QaV (QY (Qa 1)) (.nm 2) (Qe (sIf (QI (dOp gNe (dBf Qav (Qc (Qa 2) Qf)) (Qn (Qa 0) (dC (.int 0))))) (Qe QB Qm) Qm) Qm)) Qm)
def Qgg (d : Den) : Prop := ∀ (m : Nat) (R L : List (Int × Int)) (fs : List (Nat -> Int)), d [Qt m R L, .lst (fs.map λ f => Qb m f)] = some (.non, true)
theorem QtG : Qgg (Ql 3 Qfb) := λ m R L fs => by
 have key : Run Qfb (QaI 3 [Qt m R L, .lst (fs.map λ f => Qb m f)]) (Nx λ _ => True) := by
  refine run_seq (Qal (toD := λ f => Qb m f) fs (λ _ ρ => ∃ j2, ρ = [some (Qt m R L, false), some (.lst (fs.map λ f => Qb m f), false), j2]) (ir := ⟨fs.map λ f => Qb m f, []⟩) rfl rfl ⟨none, rfl⟩ ?_ ?_)
  ·rintro i f ρ _ ⟨j2, rfl⟩
   refine ⟨_, rfl, ?_⟩
   refine run_seq (Q8 (b := false) (QH (Qdd (QcO (xs := (List.range m).map λ i => .int (f i)) (r := ⟨Qb m f, false, []⟩) rfl rfl) rfl (QcD (m := m) (R := R) (L := L) (r := ⟨Qt m R L, false, []⟩) rfl rfl).1 rfl) (by simp)) (λ h => by cases h) (λ _ => Qo (Qo ⟨_, rfl⟩)))
  ·rintro ρ ⟨j2, rfl⟩
   exact Qo trivial
 obtain ⟨o, h1, h2⟩ := key
 unfold Ql
 rw [h1]
 cases o with
 | nx ρ => rfl
 | _ => exact h2.elim
noncomputable def Qnr (Qah : Den) (QW : Den) : DS := (Qe (QdX (Qr 2 Qah [] (Qc (Qa 0) (Qc (Qas (Qc (Qa 1) (Qc (Qa 2) Qf))) Qf)))) (Qe (Qp 3 (dList (Qc (Qa 1) Qf))) (Qe (QaV (QaR (Qr 1 QW [] (Qc (Qa 0) Qf)) (Qa 2)) (.tp [4, 5]) (Qe (Qp 3 (QF (QaR (Qa 3) (Qa 4)) (.tp [1, 2]) [none, none, none, some 5] QL (Qz (Qa 1) (QS (Qa 3) (Qa 2))))) Qm)) (Qe (QM (Qa 3)) Qm))))
theorem QfB {fa : DE} {r : R} {ρ : En} {Q : Out -> Prop} (h : fa ρ = some r) (q : Q (.nx ρ)) : Run (QdX fa) ρ Q := ⟨_, by simp [QdX, h], q⟩
theorem Qof {m : Nat} (f g : Nat -> D) : Qgs ((List.range m).map f) ((List.range m).map g) = (List.range m).map λ i => .tup [f i, g i] := by
 generalize List.range m = l
 induction l with
 | nil => rfl
 | cons n ns ih => unfold Qgs at ih ⊢; simp only [ZG, List.zip_cons_cons, ih]
theorem Qfy {ρ : En} {m : Nat} {f : Nat -> Int} {fs : DA} {rs : RA} (h : fs ρ = some rs) (e : rs.ds = [Qb m f]) : dList fs ρ = some ⟨Qb m f, true, []⟩ := by
 unfold dList
 rw [h, Za, e]
 simp [Qb, Qan]
theorem Qbi {fa fb : DE} {ρ : En} {ra rb : R} {m : Nat} {f g : Nat -> D} (ha : fa ρ = some ra) (ea : ra.d = .lst ((List.range m).map f)) (hb : fb ρ = some rb) (eb : rb.d = .lst ((List.range m).map g)) : QaR fa fb ρ = some ⟨(List.range m).map λ i => .tup [f i, g i], ra.M ++ rb.M⟩ := by
 unfold QaR
 rw [ha, Za, hb, Za, ea, eb]
 simp only [Qof]
theorem QtX (i j : Nat) (s : Int × Int) : (hit i j s).natAbs <= 1 := by unfold hit; split <;> split <;> decide
theorem QdI (i j : Nat) : ∀ S : List (Int × Int), ((S.map (hit i j)).sum).natAbs <= S.length
 | [] => by simp
 | s :: S => by
  have := QdI i j S
  have := QtX i j s
  rw [ZG, Zas, ZO]
  omega
def Qju (d : Den) : Prop := ∀ (m : Nat) (R L : List (Int × Int)) (f c : Nat -> Int), m <= 1000 -> R.length + R.length + L.length <= 1000000 -> (∀ s ∈ R, Good m s) -> (∀ s ∈ L, Good m s) -> d [Qt m R L, Qb m f, Qb m c] = some (Qb m (Qd m (Qj m (Qg R L)) f c), true)
theorem Qqq {dn dt : Den} (hn : Qgg dn) (ht : QeA dt) : Qju (Ql 6 (Qnr dn dt)) := λ m R L f c hm hl hR hL => by
 have gS := Qb0 hR hL
 have tb : ∀ i j, i < m -> j < m -> (Qj m (Qg R L) i j).natAbs < 2 ^ 64 := λ i j hi hj => by
  rw [QbQ hi hj λ s hs => ⟨(gS s hs).1, (gS s hs).2.1⟩]
  have := QdI i j (Qg R L)
  have : (Qg R L).length <= 1000000 := by unfold Qg; simp; omega
  omega
 refine Q4 ?_
 refine run_seq (QfB (Qs (r := ⟨[Qt m R L, .lst [Qb m f, Qb m c]], false, []⟩) rfl (hn m R L [f, c]) rfl) ?_)
 refine run_seq (Qh (Qfy (m := m) (f := f) (rs := ⟨[Qb m f], false, []⟩) rfl rfl) ?_)
 rw [Qk]
 refine Qa6 (P := λ ρ => ∃ j4 j5, ρ = [some (Qt m R L, false), some (Qb m f, false), some (Qb m c, false), some (Qb m (Qd m (Qj m (Qg R L)) f c), true), j4, j5]) ?_ ?_
 ·refine Qal (toD := λ (i : Nat) => .tup [Qb m (Qj m (Qg R L) i), .int (c i)]) (List.range m) (λ k ρ => ∃ j4 j5, ρ = [some (Qt m R L, false), some (Qb m f, false), some (Qb m c, false), some (Qb m (λ j => f j + Qu k λ i => c i * Qj m (Qg R L) i j), true), j4, j5]) (Qbi (Qs (r := ⟨[Qt m R L], false, []⟩) rfl (ht m R L hm hl hR hL) rfl) rfl (rb := ⟨Qb m c, false, []⟩) rfl rfl) rfl ⟨none, none, ?_⟩ ?_ ?_
  ·show [some (Qt m R L, false), some (Qb m f, false), some (Qb m c, false), some (Qb m f, true), none, none] = _
   have : Qb m f = Qb m λ j => f j + Qu 0 λ i => c i * Qj m (Qg R L) i j := Qc5 λ i _ => by show f i = f i + 0; omega
   rw [← this]
  ·rintro k k' ρ hk ⟨j4, j5, rfl⟩
   have hk' : k < m /\ k = k' := by
    obtain ⟨h1, h2⟩ := Zf.mp hk
    simp at h1 h2; exact ⟨h1, h2⟩
   obtain ⟨hkm, rfl⟩ := hk'
   refine ⟨_, rfl, ?_⟩
   refine run_seq (Qh (r := ⟨Qb m (λ j => f j + Qu (k + 1) λ i => c i * Qj m (Qg R L) i j), true, []⟩) ?_ (Qo ⟨_, _, by rw [Qk]; rfl⟩))
   have e := QE (fi := QaR (Qa 3) (Qa 4)) (t := .tp [1, 2]) (cap := [none, none, none, some 5]) (fe := Qz (Qa 1) (QS (Qa 3) (Qa 2))) (ρ := [some (Qt m R L, false), some (Qb m f, false), some (Qb m c, false), some (Qb m (λ j => f j + Qu k λ i => c i * Qj m (Qg R L) i j), true), some (Qb m (Qj m (Qg R L) k), false), some (.int (c k), true)])
    (toD := λ (j : Nat) => .tup [.int (f j + Qu k λ i => c i * Qj m (Qg R L) i j), .int (Qj m (Qg R L) k j)]) (out := λ (j : Nat) => .int (f j + (Qu k λ i => c i * Qj m (Qg R L) i j) + c k * Qj m (Qg R L) k j)) (List.range m) (Qbi (ra := ⟨Qb m (λ j => f j + Qu k λ i => c i * Qj m (Qg R L) i j), true, [3]⟩) (rb := ⟨Qb m (Qj m (Qg R L) k), false, []⟩) rfl rfl rfl rfl) rfl λ j hj => by
     have hj := Zn.mp hj
     exact ⟨[none, some (.int (f j + Qu k λ i => c i * Qj m (Qg R L) i j), true), some (.int (Qj m (Qg R L) k j), true), some (.int (c k), true)], rfl, _, QP (a := f j + Qu k λ i => c i * Qj m (Qg R L) i j) rfl rfl (QT (a := c k) (b := Qj m (Qg R L) k j) rfl rfl rfl rfl (Qbe (tb k j hkm hj))) rfl, rfl, rfl⟩
   refine e.trans ?_
   congr 2
   show D.lst _ = D.lst _
   congr 1
   refine ZA λ j _ => ?_
   show _ = D.int (f j + Qu (k + 1) λ i => c i * Qj m (Qg R L) i j)
   rw [Qab, Int.add_assoc]
  ·rintro ρ ⟨j4, j5, rfl⟩
   rw [Zp]
   exact ⟨j4, j5, rfl⟩
 rintro ρ ⟨j4, j5, rfl⟩
 exact QA (r := ⟨Qb m (Qd m (Qj m (Qg R L)) f c), true, [3]⟩) rfl ⟨rfl, rfl⟩
structure Qbp (m : Nat) (R L : List (Int × Int)) : Prop where
 ex : ∃ W, Esc m W /\ (∀ w ∈ W, GoodW m w) /\ W.length <= 200 /\ R = QbM W /\ L = Qcd W
theorem Qbp.good {m : Nat} {R L : List (Int × Int)} (h : Qbp m R L) : (∀ s ∈ R, Good m s) /\ (∀ s ∈ L, Good m s) /\ R.length <= 200 /\ L.length <= 200 /\ (∀ s ∈ R, s.1 < s.2) /\ ∀ s ∈ L, s.1 < m := by
 obtain ⟨W, _, h2, h3, rfl, rfl⟩ := h.ex
 exact ⟨λ s hs => (QfP h2 s hs).1, λ s hs => (QfN h2 s hs).1, Zx (QjO W) h3, Zx (Qj1 W) h3, λ s hs => (QfP h2 s hs).2, λ s hs => (QfN h2 s hs).2⟩
theorem Qj4 {α : Type} (m : Nat) (g : Nat -> α -> Int) : ∀ S : List α, Qu m (λ j => (S.map (g j)).sum) = (S.map λ s => Qu m λ j => g j s).sum
 | [] => by simp [Qag]
 | s :: S => by
  simp only [ZG, Zas]
  rw [Qaz, Qj4 m g S]
theorem Qns {α : Type} (c : Int) (f : α -> Int) : ∀ S : List α, c * (S.map f).sum = (S.map λ s => c * f s).sum
 | [] => by simp
 | s :: S => by simp only [ZG, Zas, ZaM, Qns c f S]
theorem Qqa {m : Nat} {T : Nat -> Nat -> Int} {f : Nat -> Int} : Qb m (Qd m T f λ _ => 0) = Qb m f := Qc5 λ j _ => by
 unfold Qd
 rw [QJ (g := λ _ => 0) λ i _ => by simp, Qag]; omega
theorem Qm1 {fa fb : DE} {ρ : En} {ra rb : R} {d : D} (ha : fa ρ = some ra) (ea : ra.d = d) (hb : fb ρ = some rb) (eb : rb.d = d) (hs : d.sim 8 = true) : dOp gEq fa fb ρ = some ⟨.bl true, true, []⟩ := by
 refine Qae ha hb ?_
 rw [ea, eb]
 unfold gEq
 rw [hs, Qlt hs]; rfl
structure TP (m : Nat) (T : Nat -> Nat -> Int) : Prop where
 neg : ∀ p, p < m -> T p p < 0
 pos : ∀ i j, i < m -> j < m -> i ≠ j -> 0 <= T i j
 bnd : ∀ i j, i < m -> j < m -> (T i j).natAbs < 2 ^ 64
 wt : ∃ w : Nat -> Int, (∀ j, 0 <= w j) /\ ∀ i, i < m -> Qu m (λ j => T i j * w j) <= -1
inductive Leg (m : Nat) (T : Nat -> Nat -> Int) (f : Nat -> Int) : (Nat -> Int) -> Prop where
 | nil : Leg m T f λ _ => 0
 | step {c : Nat -> Int} {p : Nat} {t : Int} : Leg m T f c -> p < m -> 0 <= t -> t * (0 - T p p) <= Qd m T f c p -> Leg m T f (up c p (c p + t))
def Stb (m : Nat) (T : Nat -> Nat -> Int) (g : Nat -> Int) : Prop := ∀ p, p < m -> g p < 0 - T p p
theorem Qft {m p : Nat} {T : Nat -> Nat -> Int} {f c : Nat -> Int} {v : Int} (hp : p < m) (j : Nat) : Qd m T f (up c p (c p + v)) j = Qd m T f c j + v * T p j := by
 unfold Qd
 have e2 : (λ i => up c p (c p + v) i * T i j) = λ i => c i * T i j + (if i = p then v else 0) * T i j := by
  funext i
  unfold up
  by_cases h : i = p
  ·subst h; simp only [if_true]; rw [ZK]
  ·simp [h]
 rw [e2, Qaz, QcQ hp]
 omega
theorem Leg.nonneg {m : Nat} {T : Nat -> Nat -> Int} {f c : Nat -> Int} (h : Leg m T f c) : ∀ i, 0 <= c i := by
 induction h with
 | nil => intro i; exact ZaN _
 | step _ _ ht _ ih =>
  intro i
  unfold up
  split
  ·have := ih ‹Nat›; rename_i p _ _ _ _ _; have := ih p; omega
  ·exact ih i
theorem Qdu {m : Nat} {f g : Nat -> Int} (h : ∀ i, i < m -> f i <= g i) : Qu m f <= Qu m g := by
 induction m with
 | zero => exact ZaN _
 | succ m ih =>
  rw [Qab, Qab]
  have := ih λ i hi => h i (by omega)
  have := h m (by omega)
  omega
theorem Leg.least {m : Nat} {T : Nat -> Nat -> Int} (tp : TP m T) {f c : Nat -> Int} (h : Leg m T f c) {c' : Nat -> Int} (h0 : ∀ i, i < m -> 0 <= c' i) (hs : Stb m T (Qd m T f c')) : ∀ i, i < m -> c i <= c' i := by
 induction h with
 | nil => exact h0
 | @step c p t _ hp ht hle ih =>
  intro i hi
  unfold up
  split
  ·rename_i e
   subst e
   have key : Qd m T f c i + (c' i - c i) * T i i <= Qd m T f c' i := by
    unfold Qd
    have e1 : Qu m (λ k => c k * T k i) + (c' i - c i) * T i i = Qu m (λ k => c k * T k i + (if k = i then c' i - c i else 0) * T k i) := by rw [Qaz, QcQ hi]
    have e2 : Qu m (λ k => c k * T k i + (if k = i then c' i - c i else 0) * T k i) <= Qu m (λ k => c' k * T k i) := by
     refine Qdu λ k hk => ?_
     by_cases hki : k = i
     ·subst hki; rw [if_pos rfl, ← ZK]; rw [show c k + (c' k - c k) = c' k by omega]; exact ZaN _
     ·rw [if_neg hki, ZN, ZaP]
      exact ZZ (ih k hk) (tp.pos k i hk hi hki)
    omega
   have h1 := hs i hi
   have h2 := tp.neg i hi
   by_cases hlt : c i + t <= c' i
   ·exact hlt
   ·exfalso
    have h3 : (c' i - c i + 1) <= t := by omega
    have h4 : (c' i - c i + 1) * (0 - T i i) <= t * (0 - T i i) := ZZ h3 (by omega)
    have h5 : (c' i - c i + 1) * (0 - T i i) = (0 - T i i) - (c' i - c i) * T i i := by rw [ZK, Zal, Int.mul_sub, Zaa]; omega
    omega
  ·exact ih i hi
theorem Leg.unique {m : Nat} {T : Nat -> Nat -> Int} (tp : TP m T) {f c d : Nat -> Int} (hc : Leg m T f c) (hd : Leg m T f d) (sc : Stb m T (Qd m T f c)) (sd : Stb m T (Qd m T f d)) : ∀ i, i < m -> c i = d i := λ i hi => by
 have h1 := hc.least tp (λ i _ => hd.nonneg i) sd i hi
 have h2 := hd.least tp (λ i _ => hc.nonneg i) sc i hi
 omega
theorem Qnt {m : Nat} {T : Nat -> Nat -> Int} {f c b : Nat -> Int} (j : Nat) : Qd m T (λ i => 2 * f i + b i) (λ i => 2 * c i) j = 2 * Qd m T f c j + b j := by
 unfold Qd
 have e : (λ i => 2 * c i * T i j) = λ i => 2 * (c i * T i j) := by funext i; rw [Zah]
 rw [e, Qdx]; show 2 * f j + b j + 2 * _ = 2 * (f j + _) + b j; omega
theorem Qak {m : Nat} {T : Nat -> Nat -> Int} {f g c d : Nat -> Int} (j : Nat) (h1 : f j = g j) (h2 : ∀ i, i < m -> c i = d i) : Qd m T f c j = Qd m T g d j := by
 unfold Qd
 rw [h1, QJ λ i hi => by rw [h2 i hi]]
theorem Leg.QvH {m : Nat} {T : Nat -> Nat -> Int} {f c : Nat -> Int} (h : Leg m T f c) (b : Nat -> Int) (hb : ∀ i, 0 <= b i) : ∃ d, Leg m T (λ i => 2 * f i + b i) d /\ ∀ i, d i = 2 * c i := by
 induction h with
 | nil => exact ⟨_, .nil, λ i => by simp⟩
 | @step c p t _ hp ht hle ih =>
  obtain ⟨d, hd, e⟩ := ih
  have ed : d = λ i => 2 * c i := funext e
  subst ed
  refine ⟨_, .step (p := p) (t := 2 * t) hd hp (by omega) ?_, λ i => ?_⟩
  ·rw [Qnt]
   have := hb p
   have e2 : 2 * t * (0 - T p p) = 2 * (t * (0 - T p p)) := by rw [Zah]
   omega
  ·show up (λ i => 2 * c i) p (2 * c p + 2 * t) i = 2 * up c p (c p + t) i
   unfold up
   split
   ·omega
   ·rfl
theorem Leg.cast {m : Nat} {T : Nat -> Nat -> Int} {f c d : Nat -> Int} (h : Leg m T f c) (e : ∀ i, c i = d i) : Leg m T f d := by
 have : c = d := funext e
 rw [← this]; exact h
theorem Leg.QiL {m : Nat} {T : Nat -> Nat -> Int} {f g c : Nat -> Int} (h : Leg m T f c) (e : ∀ i, i < m -> f i = g i) : Leg m T g c := by
 induction h with
 | nil => exact .nil
 | @step c p t _ hp ht hle ih => exact .step ih hp ht (by rw [← Qak (f := f) (g := g) p (e p hp) (λ _ _ => rfl)]; exact hle)
noncomputable def wtF (m : Nat) (w g : Nat -> Int) : Int := Qu m λ j => g j * w j
theorem Qr8 {m : Nat} {T : Nat -> Nat -> Int} {w : Nat -> Int} (hw : ∀ i, i < m -> Qu m (λ j => T i j * w j) <= -1) {f c : Nat -> Int} {p : Nat} {t : Int} (hp : p < m) (ht : 0 <= t) : wtF m w (Qd m T f (up c p (c p + t))) <= wtF m w (Qd m T f c) - t := by
 unfold wtF
 have e : (λ j => Qd m T f (up c p (c p + t)) j * w j) = λ j => Qd m T f c j * w j + t * (T p j * w j) := by
  funext j; rw [Qft hp, ZK, Zah]
 rw [e, Qaz, Qdx]
 have h1 : t * Qu m (λ j => T p j * w j) <= t * (-1) := ZJ (hw p hp) ht
 omega
theorem QjR {m : Nat} {w g : Nat -> Int} (hw : ∀ j, 0 <= w j) (hg : ∀ j, j < m -> 0 <= g j) : 0 <= wtF m w g := by
 have := Qdu (m := m) (f := λ _ => 0) (g := λ j => g j * w j) λ i hi => Zaj (hg i hi) (hw i)
 rw [Qag] at this
 exact this
theorem QfX {g : DT} {fb : DS} {Q : Out -> Prop} (I : Nat -> En -> Prop) (step : ∀ n ρ, I n ρ -> ∃ b, g ρ = some b /\ (b = false -> Q (.nx ρ)) /\ (b = true -> Run fb ρ λ o => match o with | .nx ρ2 => ∃ n', n' < n /\ I n' ρ2 | .ct ρ2 => ∃ n', n' < n /\ I n' ρ2 | .bk ρ2 => Q (.nx ρ2) | .rt d fr => Q (.rt d fr))) :
  ∀ (n : Nat) (ρ : En), I n ρ -> Run (Qb2 g fb) ρ Q := by
 intro n
 induction n using Nat.strongRecOn with
 | _ n ih =>
  intro ρ h
  obtain ⟨b, hb, hf, ht⟩ := step n ρ h
  unfold Run
  rw [QoV, hb, Za]
  cases b with
  | false => exact ⟨_, by simp, hf rfl⟩
  | true =>
   obtain ⟨o, ho, hq⟩ := ht rfl
   rw [if_pos rfl, ho, Za]
   cases o with
   | nx ρ2 => obtain ⟨n', hn, hI⟩ := hq; exact ih n' hn ρ2 hI
   | ct ρ2 => obtain ⟨n', hn, hI⟩ := hq; exact ih n' hn ρ2 hI
   | bk ρ2 => exact ⟨_, rfl, hq⟩
   | rt d fr => exact ⟨_, rfl, hq⟩
theorem Qnx {fa fb : DE} {ρ : En} {ra rb : R} {a b : Int} (ha : fa ρ = some ra) (ea : ra.d = .int a) (hb : fb ρ = some rb) (eb : rb.d = .int b) (h : 0 < b) (h2 : b < 2 ^ 200) : dOp Qba fa fb ρ = some ⟨.int (a / b), true, []⟩ := by
 refine Qae ha hb ?_
 rw [ea, eb]
 show (if Qbt b = true then some (D.int (Qde a b)) else none) = _
 rw [if_pos (QpC h h2), QhJ _ _ (by omega)]
theorem Qaj {fa fb : DE} {ρ : En} {ra rb : R} {m : Nat} {f : Nat -> Int} {i : Nat} (ha : fa ρ = some ra) (ea : ra.d = Qb m f) (hb : fb ρ = some rb) (eb : rb.d = .int i) (h : i < m) : Qn fa fb ρ = some ⟨.int (f i), true, []⟩ := by
 have := QgM ha ea hb eb (by omega) (by omega)
 rw [ZW] at this
 exact this
noncomputable def Qgy : DS := (Qe (Qp 3 (dList (Qc (Qa 1) Qf))) (Qe (Qp 4 (dList (Qc (Qa 2) Qf))) (Qe (Qp 5 (dC (.bl true))) (Qe (Qb2 (QI (Qa 5)) (Qe (Qp 5 (dC (.bl false))) (Qe (QaV (Qgm (Qa 0)) (.tp [6, 7]) (Qe (Qp 8 (dOp Qba (Qn (Qa 3) (Qa 6)) (dOp Qaq (dC (.int 0)) (Qn (Qa 7) (Qa 6))))) (Qe (sIf (QI (dOp gGt (Qa 8) (dC (.int 0)))) (Qe (Qp 5 (dC (.bl true))) (Qe (Qdl (gI λ i j => some (.int (i + j))) 4 Qam (Qa 6) (Qa 8)) (Qe (Qp 3 (QF (QaR (Qa 3) (Qa 7)) (.tp [1, 2]) [none, none, none, some 8] QL (Qz (Qa 1) (QS (Qa 3) (Qa 2))))) Qm))) Qm) Qm))) Qm))) (Qe (QM (QaW (Qc (Qa 3) (Qc (Qa 4) Qf)))) Qm)))))
def Qf9 (d : Den) : Prop := ∀ (m : Nat) (T : Nat -> Nat -> Int) (f k : Nat -> Int), m <= 1000 -> TP m T -> Leg m T f k -> (∀ j, j < m -> 0 <= Qd m T f k j) -> ∃ k', d [Qi m m T, Qb m (Qd m T f k), Qb m k] = some (.tup [Qb m (Qd m T f k'), Qb m k'], true) /\ Leg m T f k' /\ (∀ j, j < m -> 0 <= Qd m T f k' j) /\ Stb m T (Qd m T f k')
theorem QiG {h s : Int} (hs : 0 < s) (ht : ¬ 0 < h / s) (h0 : 0 <= h) : h < s := by
 have := ZbR h0 (by omega : 0 <= s)
 have e : h / s = 0 := by omega
 have := ZC h hs
 have := Zbf h s
 rw [e] at this; omega
theorem Qiz {h s : Int} (hs : 0 < s) : h / s * s <= h := Int.ediv_mul_le h (by omega)
theorem Qoe : Qf9 (Ql 9 Qgy) := λ m T f k hm tp hk hpos => by
 obtain ⟨w, hw0, hw⟩ := tp.wt
 have key : Run Qgy (QaI 9 [Qi m m T, Qb m (Qd m T f k), Qb m k]) (Rt λ d fr => ∃ k', d = .tup [Qb m (Qd m T f k'), Qb m k'] /\ fr = true /\ Leg m T f k' /\ (∀ j, j < m -> 0 <= Qd m T f k' j) /\ Stb m T (Qd m T f k')) := by
  refine run_seq (Qh (Qfy (m := m) (f := Qd m T f k) (rs := ⟨[Qb m (Qd m T f k)], false, []⟩) rfl rfl) ?_)
  rw [Qk]
  refine run_seq (Qh (Qfy (m := m) (f := k) (rs := ⟨[Qb m k], false, []⟩) rfl rfl) ?_)
  rw [Qk]
  refine run_seq (Qh (r := ⟨.bl true, true, []⟩) rfl ?_)
  rw [Qk]
  refine run_seq (Run.mono (Q := Nx λ ρ => ∃ k' j5 j6 j7 j8, Leg m T f k' /\ (∀ j, j < m -> 0 <= Qd m T f k' j) /\ Stb m T (Qd m T f k') /\ ρ = [some (Qi m m T, false), some (Qb m (Qd m T f k), false), some (Qb m k, false), some (Qb m (Qd m T f k'), true), some (Qb m k', true), j5, j6, j7, j8]) ?_ ?_)
  ·refine QfX (λ n ρ => ∃ k' bz j6 j7 j8, Leg m T f k' /\ (∀ j, j < m -> 0 <= Qd m T f k' j) /\ (bz = false -> Stb m T (Qd m T f k')) /\ n = (wtF m w (Qd m T f k')).toNat + (if bz = true then 1 else 0) /\ ρ = [some (Qi m m T, false), some (Qb m (Qd m T f k), false), some (Qb m k, false), some (Qb m (Qd m T f k'), true), some (Qb m k', true), some (.bl bz, true), j6, j7, j8]) ?_ _ _ ⟨k, true, none, none, none, hk, hpos, λ h => by (cases h), rfl, rfl⟩
   rintro n ρ ⟨k', bz, j6, j7, j8, hL, hP, hS, rfl, rfl⟩
   refine ⟨bz, QH (b := bz) rfl rfl, λ h => ⟨k', _, _, _, _, hL, hP, hS h, rfl⟩, λ hb => ?_⟩
   subst hb
   refine run_seq (Qh (r := ⟨.bl false, true, []⟩) rfl ?_)
   rw [Qk]
   refine QQ (Run.mono (Q := Nx λ ρ => ∃ k2 b2 j6 j7 j8, Leg m T f k2 /\ (∀ j, j < m -> 0 <= Qd m T f k2 j) /\ (b2 = false -> Stb m T (Qd m T f k2)) /\ (wtF m w (Qd m T f k2) + (if b2 = true then 1 else 0) <= wtF m w (Qd m T f k')) /\ ρ = [some (Qi m m T, false), some (Qb m (Qd m T f k), false), some (Qb m k, false), some (Qb m (Qd m T f k2), true), some (Qb m k2, true), some (.bl b2, true), j6, j7, j8]) ?_ ?_)
   ·refine Qal (toD := λ (p : Nat) => .tup [.int p, Qb m (T p)]) (List.range m) (λ i ρ => ∃ k2 b2 j6 j7 j8, Leg m T f k2 /\ (∀ j, j < m -> 0 <= Qd m T f k2 j) /\ (b2 = false -> ∀ p, p < i -> Qd m T f k2 p < 0 - T p p) /\ (wtF m w (Qd m T f k2) + (if b2 = true then 1 else 0) <= wtF m w (Qd m T f k')) /\ ρ = [some (Qi m m T, false), some (Qb m (Qd m T f k), false), some (Qb m k, false), some (Qb m (Qd m T f k2), true), some (Qb m k2, true), some (.bl b2, true), j6, j7, j8]) (ir := ⟨QdK ((List.range m).map λ i => Qb m (T i)), []⟩) rfl (QiI (α := Nat) m _) ⟨k', false, _, _, _, hL, hP, λ _ p hp => absurd hp (by omega), by simp, rfl⟩ ?_ ?_
    ·rintro i p ρ hi ⟨k2, b2, j6, j7, j8, hL2, hP2, hS2, hW2, rfl⟩
     have hp' : i < m /\ i = p := by
      obtain ⟨h1, h2⟩ := Zf.mp hi
      simp at h1 h2; exact ⟨h1, h2⟩
     obtain ⟨him, rfl⟩ := hp'
     have hneg := tp.neg i him
     have hb := tp.bnd i i him him
     have h0 := hP2 i him
     refine ⟨_, rfl, ?_⟩
     refine run_seq (Qh (Qnx (a := Qd m T f k2 i) (b := 0 - T i i) (Qaj (m := m) (f := Qd m T f k2) (i := i) (ra := ⟨Qb m (Qd m T f k2), true, [3]⟩) rfl rfl rfl rfl him) rfl (Qae (ra := ⟨.int 0, true, []⟩) (rb := ⟨.int (T i i), true, []⟩) rfl (Qaj (m := m) (f := T i) (i := i) (ra := ⟨Qb m (T i), false, []⟩) rfl rfl rfl rfl him) rfl) rfl (by omega) (by omega)) ?_)
     rw [Qk]
     generalize et : Qd m T f k2 i / (0 - T i i) = t
     have t0 : 0 <= t := by rw [← et]; exact ZbR h0 (by omega)
     refine QQ (Q8 (b := decide (0 < t)) (QH (b := decide (0 < t)) rfl rfl) (λ h => ?_) (λ h => ?_))
     ·have h := of_decide_eq_true h
      have hle : t * (0 - T i i) <= Qd m T f k2 i := by rw [← et]; exact Qiz (by omega)
      refine run_seq (Qh (r := ⟨.bl true, true, []⟩) rfl ?_)
      rw [Qk]
      refine run_seq (QqG (m := m) (f := k2) (i := i) (w := k2 (i : Int).toNat + t) rfl rfl rfl rfl (by omega) (by omega) rfl ?_)
      rw [ZW]
      refine run_seq (Qh (r := ⟨Qb m (Qd m T f (up k2 i (k2 i + t))), true, []⟩) ?_ (Qo (Qo ?_)))
      ·have e := QE (fi := QaR (Qa 3) (Qa 7)) (t := .tp [1, 2]) (cap := [none, none, none, some 8]) (fe := Qz (Qa 1) (QS (Qa 3) (Qa 2))) (ρ := [some (Qi m m T, false), some (Qb m (Qd m T f k), false), some (Qb m k, false), some (Qb m (Qd m T f k2), true), some (Qb m (up k2 i (k2 i + t)), true), some (.bl true, true), some (.int i, true), some (Qb m (T i), false), some (.int t, true)])
        (toD := λ (j : Nat) => .tup [.int (Qd m T f k2 j), .int (T i j)]) (out := λ (j : Nat) => .int (Qd m T f k2 j + t * T i j)) (List.range m) (Qbi (ra := ⟨Qb m (Qd m T f k2), true, [3]⟩) (rb := ⟨Qb m (T i), false, []⟩) rfl rfl rfl rfl) rfl λ j hj => by
         have hj := Zn.mp hj
         exact ⟨[none, some (.int (Qd m T f k2 j), true), some (.int (T i j), true), some (.int t, true)], rfl, _, QP (a := Qd m T f k2 j) rfl rfl (QT (a := t) (b := T i j) rfl rfl rfl rfl (Qbe (tp.bnd i j him hj))) rfl, rfl, rfl⟩
       refine e.trans ?_
       congr 2
       show D.lst _ = D.lst _
       congr 1
       refine ZA λ j _ => ?_
       rw [Qft him]
      ·rw [Qk]
       have hup := Qr8 (w := w) hw (f := f) (c := k2) him t0
       refine ⟨up k2 i (k2 i + t), true, _, _, _, .step hL2 him t0 hle, λ j hj => ?_, λ z => (by cases z), ?_, rfl⟩
       ·rw [Qft him]
        by_cases hji : j = i
        ·subst hji
         have : t * T j j = - (t * (0 - T j j)) := by rw [ZaF, Zau, Zbu]
         omega
        ·have := hP2 j hj
         have := Zaj t0 (tp.pos i j him hj (λ z => hji z.symm))
         omega
       ·rw [if_pos rfl]
        have : (0 : Int) <= if b2 = true then 1 else 0 := by split <;> omega
        omega
     ·have h := of_decide_eq_false h
      refine Qo (Qo ⟨k2, b2, _, _, _, hL2, hP2, λ hb2 p hp => ?_, hW2, rfl⟩)
      by_cases hpi : p = i
      ·subst hpi; exact QiG (by omega) (by rw [et]; exact h) h0
      ·exact hS2 hb2 p (by omega)
    ·rintro ρ ⟨k2, b2, j6, j7, j8, hL2, hP2, hS2, hW2, rfl⟩
     rw [Zp] at hS2
     exact ⟨k2, b2, _, _, _, hL2, hP2, hS2, hW2, rfl⟩
   ·intro o ho
    cases o with
    | nx ρ =>
     obtain ⟨k2, b2, j6, j7, j8, hL2, hP2, hS2, hW2, rfl⟩ := ho
     refine Qo ⟨_, ?_, k2, b2, _, _, _, hL2, hP2, hS2, rfl, rfl⟩
     have n1 := QjR (m := m) hw0 hP2
     rw [if_pos rfl]
     cases b2 <;> simp at hW2 ⊢ <;> omega
    | _ => exact ho.elim
  ·intro o ho
   cases o with
   | nx ρ =>
    obtain ⟨k', j5, j6, j7, j8, hL, hP, hS, rfl⟩ := ho
    exact QA (r := ⟨.tup [Qb m (Qd m T f k'), Qb m k'], true, [3, 4]⟩) rfl ⟨k', rfl, rfl, hL, hP, hS⟩
   | _ => exact ho.elim
 obtain ⟨o, h1, h2⟩ := key
 cases o with
 | rt d fr =>
  obtain ⟨k', rfl, rfl, h3, h4, h5⟩ := h2
  exact ⟨k', by unfold Ql; rw [h1]; rfl, h3, h4, h5⟩
 | _ => exact h2.elim
def QnU (m : Nat) (S : List (Int × Int)) : Prop := ∀ A : Nat -> Prop, (∃ p, p < m /\ A p) -> ∃ s ∈ S, s.1 < m /\ A s.1.toNat /\ (s.2 = m ∨ ¬ A s.2.toNat)
theorem Qp4 {m : Nat} {W : List (Int × Int × Bool)} (h : Esc m W) : QnU m (Qg (QbM W) (Qcd W)) := λ A hA => by
 obtain ⟨w, hw, h1, h2, h3⟩ := h A hA
 refine ⟨(w.1, w.2.1), ?_, h1, h2, h3⟩
 unfold Qg
 cases e : w.2.2 with
 | true => exact Ze _ (ZQ.mpr ⟨w, ZaA.mpr ⟨hw, e⟩, rfl⟩)
 | false =>
  have hr : Qda w ∈ QbM W := ZQ.mpr ⟨w, ZaA.mpr ⟨hw, by simp [e]⟩, rfl⟩
  by_cases hlt : w.2.1 < w.1
  ·refine Zg _ (Ze _ (ZQ.mpr ⟨Qda w, hr, ?_⟩))
   unfold Qda
   rw [if_pos hlt, if_neg (by omega)]; rfl
  ·refine Zg _ (Zg _ ?_)
   have : Qda w = (w.1, w.2.1) := by
    unfold Qda
    rw [if_neg hlt]
    by_cases hgt : w.2.1 > w.1
    ·rw [if_pos hgt]
    ·rw [if_neg hgt]; rw [show w.2.1 = w.1 by omega]
   rw [← this]; exact hr
inductive Rk (m : Nat) (S : List (Int × Int)) : Nat -> Nat -> Prop where
 | pit {s : Int × Int} {n : Nat} : s ∈ S -> s.2 = m -> Rk m S (n + 1) s.1.toNat
 | step {s : Int × Int} {k n : Nat} : s ∈ S -> s.2 ≠ m -> Rk m S k s.2.toNat -> k < n -> Rk m S n s.1.toNat
theorem Qk2 {P : Nat -> Prop} (h : ∃ n, P n) : ∃ n, P n /\ ∀ k, k < n -> ¬ P k := by
 obtain ⟨n, hn⟩ := h
 induction n using Nat.strongRecOn with
 | _ n ih =>
  by_cases h : ∃ k, k < n /\ P k
  ·obtain ⟨k, hk, h⟩ := h; exact ih k hk h
  ·exact ⟨n, hn, λ k hk hx => h ⟨k, hk, hx⟩⟩
theorem Qwi {m : Nat} {S : List (Int × Int)} (he : QnU m S) : ∀ p, p < m -> ∃ n, Rk m S n p := λ p hp => by
 by_cases h : ∃ n, Rk m S n p
 ·exact h
 ·exfalso
  obtain ⟨s, hs, h1, h2, h3⟩ := he (λ p => ¬ ∃ n, Rk m S n p) ⟨p, hp, h⟩
  by_cases e : s.2 = m
  ·exact h2 ⟨1, .pit hs e⟩
  ·rcases h3 with h3 | h3
   ·exact e h3
   ·have : ∃ n, Rk m S n s.2.toNat := Zab λ z => h3 z
    obtain ⟨k, hk⟩ := this
    exact h2 ⟨k + 1, .step hs e hk (by omega)⟩
theorem QsD {m : Nat} {S : List (Int × Int)} (hg : ∀ s ∈ S, Good m s) (he : QnU m S) : ∃ r : Nat -> Nat, r m = 0 /\ ∀ p, p < m -> ∃ s ∈ S, s.1 = p /\ r s.2.toNat < r p := by
 have h : ∀ p, ∃ n, (p < m -> Rk m S n p /\ ∀ k, k < n -> ¬ Rk m S k p) /\ (p = m -> n = 0) := λ p => by
  by_cases hp : p < m
  ·obtain ⟨n, hn⟩ := Qk2 (Qwi he p hp)
   exact ⟨n, λ _ => hn, λ z => by omega⟩
  ·exact ⟨0, λ z => absurd z hp, λ _ => rfl⟩
 obtain ⟨r, hr⟩ := Classical.axiomOfChoice h
 refine ⟨r, (hr m).2 rfl, λ p hp => ?_⟩
 have h1 := ((hr p).1 hp).1
 generalize r p = n at h1
 cases h1 with
 | @pit s n hs e =>
  obtain ⟨g1, g2, g3, g4, g5⟩ := hg s hs
  exact ⟨s, hs, by omega, by rw [e, ZW, (hr m).2 rfl]; omega⟩
 | @step s k n hs e hk hkn =>
  obtain ⟨g1, g2, g3, g4, g5⟩ := hg s hs
  refine ⟨s, hs, by omega, ?_⟩
  have hl : s.2.toNat < m := by omega
  have := ((hr s.2.toNat).1 hl).2 k
  have : ¬ k < r s.2.toNat := λ z => this z hk
  omega
theorem QkY (r : Nat -> Nat) : ∀ m : Nat, ∃ N, ∀ p, p <= m -> r p <= N
 | 0 => ⟨r 0, λ p hp => by rw [show p = 0 by omega]; exact Zk _⟩
 | m + 1 => by
  obtain ⟨N, hN⟩ := QkY r m
  refine ⟨N + r (m + 1), λ p hp => ?_⟩
  by_cases e : p = m + 1
  ·subst e; omega
  ·have := hN p (by omega); omega
theorem Qp0 {m : Nat} {i : Nat} {s : Int × Int} (hi : i < m) (g : Good m s) (w : Nat -> Int) (hw : w m = 0) : Qu m (λ j => hit i j s * w j) = if s.1 = i then w s.2.toNat - w i else 0 := by
 obtain ⟨g1, g2, g3, g4, g5⟩ := g
 by_cases h : s.1 = i
 ·rw [if_pos h]
  have e : Qu m (λ j => hit i j s * w j) = Qu m (λ j => (if j = s.2.toNat then 1 else 0) * w j + (if j = i then -1 else 0) * w j) := QJ λ j _ => by
   have : hit i j s = (if j = s.2.toNat then 1 else 0) + (if j = i then -1 else 0) := by
    unfold hit
    by_cases a : s.2 = j
    ·by_cases b : i = j
     ·rw [if_pos ⟨h, a⟩, if_pos ⟨h, b⟩, if_pos (by omega), if_pos b.symm]; omega
     ·rw [if_pos ⟨h, a⟩, if_neg (λ z => b z.2), if_pos (by omega), if_neg (λ z => b z.symm)]; omega
    ·by_cases b : i = j
     ·rw [if_neg (λ z => a z.2), if_pos ⟨h, b⟩, if_neg (by omega), if_pos b.symm]; omega
     ·rw [if_neg (λ z => a z.2), if_neg (λ z => b z.2), if_neg (by omega), if_neg (λ z => b z.symm)]; omega
   rw [this, ZK]
  rw [e, Qaz, QcQ hi]
  by_cases hm : s.2.toNat < m
  ·rw [QcQ hm]; omega
  ·have e2 : Qu m (λ j => (if j = s.2.toNat then 1 else 0) * w j) = 0 := by
    rw [QJ (g := λ _ => 0) λ j hj => by rw [if_neg (by omega), ZN], Qag]
   rw [e2, show s.2.toNat = m by omega, hw]; omega
 ·rw [if_neg h]
  rw [QJ (g := λ _ => 0) λ j hj => by
   unfold hit
   rw [if_neg (λ z => h z.1), if_neg (λ z => h z.1)]; rw [Int.sub_self, ZN], Qag]
theorem Qid {α : Type} {g : α -> Int} {X : Int} : ∀ S : List α, (∀ s ∈ S, g s <= X) -> (S.map g).sum <= S.length * X
 | [], _ => by simp
 | a :: S, h => by
  have h1 := h a (by simp)
  have h2 := Qid S λ s hs => h s (by simp [hs])
  simp only [ZG, Zas, ZO, ZaT, ZK]
  rw [show ((1 : Nat) : Int) * X = X by simp]
  omega
theorem QiH {α : Type} {g : α -> Int} {X Y : Int} : ∀ (S : List α), (∀ s ∈ S, g s <= X) -> (∃ s ∈ S, g s <= Y) -> (S.map g).sum <= S.length * X - X + Y
 | [], _, h => by obtain ⟨s, hs, _⟩ := h; exact absurd hs (by simp)
 | a :: S, h, h2 => by
  obtain ⟨s, hs, hy⟩ := h2
  have hb : ∀ s ∈ S, g s <= X := λ s hs => h s (by simp [hs])
  simp only [ZG, Zas, ZO, ZaT, ZK]
  rw [show ((1 : Nat) : Int) * X = X by simp]
  rcases Zv.mp hs with e | hs
  ·subst e
   have := Qid S hb
   omega
  ·have := QiH S hb ⟨s, hs, hy⟩
   have := h a (by simp)
   omega
theorem QiC {α : Type} {g : α -> Int} : ∀ S : List α, (∀ s ∈ S, 0 <= g s) -> 0 <= (S.map g).sum
 | [], _ => by simp
 | a :: S, h => by
  have h1 := h a (by simp)
  have h2 := QiC S λ s hs => h s (by simp [hs])
  simp only [ZG, Zas]
  omega
theorem Qqe {m : Nat} {S : List (Int × Int)} (hg : ∀ s ∈ S, Good m s) (he : QnU m S) (hl : S.length < 2 ^ 60) : TP m (Qj m S) := by
 have hn : ∀ s ∈ S, 0 <= s.1 /\ 0 <= s.2 := λ s hs => ⟨(hg s hs).1, (hg s hs).2.1⟩
 have pos : ∀ i j, i < m -> j < m -> i ≠ j -> 0 <= Qj m S i j := λ i j hi hj hij => by
  rw [QbQ hi hj hn]
  refine QiC S λ s _ => ?_
  unfold hit
  rw [if_neg (λ z => hij z.2) (c := s.1 = i /\ i = j)]
  split <;> omega
 obtain ⟨r, r0, hr⟩ := QsD hg he
 obtain ⟨N, hN⟩ := QkY r m
 have M1 : 1 <= S.length + 1 := by omega
 have wt : ∃ w : Nat -> Int, (∀ j, 0 <= w j) /\ ∀ i, i < m -> Qu m (λ j => Qj m S i j * w j) <= -1 := by
  refine ⟨λ v => (((S.length + 1) ^ N : Nat) : Int) - (((S.length + 1) ^ (N - r v) : Nat) : Int), λ j => ?_, λ i hi => ?_⟩
  ·have := ZH M1 (Nat.sub_le N (r j))
   show (0 : Int) <= (((S.length + 1) ^ N : Nat) : Int) - (((S.length + 1) ^ (N - r j) : Nat) : Int)
   omega
  ·generalize hw : (λ v => (((S.length + 1) ^ N : Nat) : Int) - (((S.length + 1) ^ (N - r v) : Nat) : Int)) = w
   have hw' : ∀ v, w v = (((S.length + 1) ^ N : Nat) : Int) - (((S.length + 1) ^ (N - r v) : Nat) : Int) := λ v => by rw [← hw]
   have wm : w m = 0 := by rw [hw', r0, ZbI]; omega
   have e : Qu m (λ j => Qj m S i j * w j) = (S.map λ s => if s.1 = (i : Int) then w s.2.toNat - w i else 0).sum := by
    rw [QJ (g := λ j => (S.map λ s => hit i j s * w j).sum) λ j hj => by
     rw [QbQ hi hj hn, Zak, Qns]
     congr 1
     exact ZA λ s _ => Zak _ _]
    rw [Qj4 m (λ j s => hit i j s * w j) S]
    congr 1
    exact ZA λ s hs => Qp0 hi (hg s hs) w wm
   rw [e]
   obtain ⟨s0, hs0, e0, hlt⟩ := hr i hi
   generalize hX : (((S.length + 1) ^ (N - r i) : Nat) : Int) = X
   have X1 : 1 <= X := by
    have : 0 < (S.length + 1) ^ (N - r i) := Nat.pow_pos (by omega)
    omega
   have key := QiH (g := λ s : Int × Int => if s.1 = i then w s.2.toNat - w i else 0) (X := X) (Y := X - (S.length + 1) * X) S (λ s _ => by
    show (if s.1 = i then w s.2.toNat - w i else 0) <= X
    split
    ·rw [hw', hw' i, hX]
     have : 0 <= (((S.length + 1) ^ (N - r s.2.toNat) : Nat) : Int) := Int.natCast_nonneg _
     omega
    ·omega) ⟨s0, hs0, by
    show (if s0.1 = i then w s0.2.toNat - w i else 0) <= _
    rw [if_pos e0, hw', hw' i, hX]
    have hb := hN i (by omega)
    have h1 : (S.length + 1) ^ (N - r i + 1) <= (S.length + 1) ^ (N - r s0.2.toNat) := ZH M1 (by omega)
    rw [Nat.pow_succ] at h1
    have h2 : ((((S.length + 1) ^ (N - r i) * (S.length + 1) : Nat)) : Int) <= (((S.length + 1) ^ (N - r s0.2.toNat) : Nat) : Int) := by exact_mod_cast h1
    rw [Int.natCast_mul, hX, Zak] at h2
    rw [show ((S.length + 1 : Nat) : Int) = (S.length : Int) + 1 by omega] at h2
    omega⟩
   have : ((S.length : Int) + 1) * X = S.length * X + X := by rw [ZK, Zal]
   omega
 refine ⟨λ p hp => ?_, pos, λ i j hi hj => ?_, wt⟩
 ·obtain ⟨w, w0, hw⟩ := wt
  have h1 := hw p hp
  by_cases hneg : Qj m S p p < 0
  ·exact hneg
  ·exfalso
   have : 0 <= Qu m (λ j => Qj m S p j * w j) := by
    have := Qdu (m := m) (f := λ _ => 0) (g := λ j => Qj m S p j * w j) λ j hj => by
     by_cases e : p = j
     ·subst e; exact Zaj (by omega) (w0 _)
     ·exact Zaj (pos p j hp hj e) (w0 _)
    rw [Qag] at this
    exact this
   omega
 ·rw [QbQ hi hj hn]
  have := QdI i j S
  omega
theorem Qbp.tp {m : Nat} {R L : List (Int × Int)} (h : Qbp m R L) : TP m (Qj m (Qg R L)) := by
 have hg := h.good
 refine Qqe (Qb0 hg.1 hg.2.1) ?_ ?_
 ·obtain ⟨W, h1, _, _, rfl, rfl⟩ := h.ex
  exact Qp4 h1
 ·unfold Qg
  simp only [Zq, Zh]
  omega
theorem Qbp.neg {m : Nat} {R L : List (Int × Int)} (h : Qbp m R L) {i : Nat} (hi : i < m) : 0 - Qj m (Qg R L) i i = QaT R L i := by
 have hg := h.good
 have hs := Qb0 hg.1 hg.2.1
 rw [QbQ hi hi (λ s z => ⟨(hs s z).1, (hs s z).2.1⟩), sum_neg _ _ (λ s z => (hs s z).2.2.2.2), QjP]
 omega
theorem QjT (m : Nat) (f : Nat -> Int) : Qb m f = .lst (((List.range m).map f).map D.int) := by
 unfold Qb; rw [Zaf]; rfl
theorem Qm4 : ∀ {ns : List Int}, ns ≠ [] -> ∃ m, QhC ns = some m
 | [], h => absurd rfl h
 | [n], _ => ⟨n, rfl⟩
 | n :: k :: r, _ => by
  obtain ⟨m, hm⟩ := Qm4 (ns := k :: r) (by simp)
  exact ⟨if m < n then m else n, by simp only [QhC, hm, ZP]⟩
theorem Qnk : ∀ {ns : List Int}, ns ≠ [] -> ∃ m, Qh2 ns = some m
 | [], h => absurd rfl h
 | [n], _ => ⟨n, rfl⟩
 | n :: k :: r, _ => by
  obtain ⟨m, hm⟩ := Qnk (ns := k :: r) (by simp)
  exact ⟨if n < m then m else n, by simp only [Qh2, hm, ZP]⟩
theorem QoW {m : Nat} (h : 0 < m) (f : Nat -> Int) : (List.range m).map f ≠ [] := by
 intro z
 have := congrArg List.length z
 simp at this
 omega
theorem Qtu {m : Nat} (m0 : 0 < m) (f : Nat -> Int) : ∃ v, (∃ i, i < m /\ v = f i) /\ (∀ i, i < m -> v <= f i) /\ ∀ {fa : DE} {ρ : En} {r : R}, fa ρ = some r -> r.d = Qb m f -> dBf QgJ (Qc fa Qf) ρ = some ⟨.int v, true, []⟩ := by
 obtain ⟨v, hv⟩ := Qm4 (QoW m0 f)
 obtain ⟨h1, h2⟩ := QgQ hv
 refine ⟨v, ?_, λ i hi => h2 _ (ZQ.mpr ⟨i, Zn.mpr hi, rfl⟩), λ {fa ρ r} h e => ?_⟩
 ·obtain ⟨i, hi, e⟩ := ZQ.mp h1
  exact ⟨i, Zn.mp hi, e.symm⟩
 ·unfold dBf
  rw [Qv h (Q5 _), Za]
  simp only [e, QjT, QgJ, QhQ, Za, hv, ZP]
theorem Qm5 {m : Nat} (m0 : 0 < m) (f : Nat -> Int) : ∃ v, (∃ i, i < m /\ v = f i) /\ (∀ i, i < m -> f i <= v) /\ ∀ {fa : DE} {ρ : En} {r : R}, fa ρ = some r -> r.d = Qb m f -> dBf QfH (Qc fa Qf) ρ = some ⟨.int v, true, []⟩ := by
 obtain ⟨v, hv⟩ := Qnk (QoW m0 f)
 obtain ⟨h1, h2⟩ := Qg0 hv
 refine ⟨v, ?_, λ i hi => h2 _ (ZQ.mpr ⟨i, Zn.mpr hi, rfl⟩), λ {fa ρ r} h e => ?_⟩
 ·obtain ⟨i, hi, e⟩ := ZQ.mp h1
  exact ⟨i, Zn.mp hi, e.symm⟩
 ·unfold dBf
  rw [Qv h (Q5 _), Za]
  simp only [e, QjT, QfH, QhQ, Za, hv, ZP]
noncomputable def Qex (Qah : Den) : DS := (Qe (QdX (Qr 2 Qah [] (Qc (Qa 0) (Qc (Qa 1) Qf)))) (Qe (QaV (QY (Qa 1)) (.nm 2) (Qe (sIf (QI (dOp gLt (dBf QgJ (Qc (Qa 2) Qf)) (dC (.int 0)))) (Qe QB Qm) Qm) Qm)) Qm))
def QiT (d : Den) : Prop := ∀ (m : Nat) (R L : List (Int × Int)) (fs : List (Nat -> Int)), 0 < m -> (∀ f ∈ fs, ∀ j, j < m -> 0 <= f j) -> d [Qt m R L, .lst (fs.map λ f => Qb m f)] = some (.non, true)
theorem Qq9 {dn : Den} (hn : Qgg dn) : QiT (Ql 3 (Qex dn)) := λ m R L fs m0 hf => by
 have key : Run (Qex dn) (QaI 3 [Qt m R L, .lst (fs.map λ f => Qb m f)]) (Nx λ _ => True) := by
  refine run_seq (QfB (Qs (r := ⟨[Qt m R L, .lst (fs.map λ f => Qb m f)], false, []⟩) rfl (hn m R L fs) rfl) ?_)
  refine run_seq (Qal (toD := λ f => Qb m f) fs (λ _ ρ => ∃ j2, ρ = [some (Qt m R L, false), some (.lst (fs.map λ f => Qb m f), false), j2]) (ir := ⟨fs.map λ f => Qb m f, []⟩) rfl rfl ⟨none, rfl⟩ ?_ ?_)
  ·rintro i f ρ hi ⟨j2, rfl⟩
   refine ⟨_, rfl, ?_⟩
   obtain ⟨v, ⟨q, hq, e⟩, _, hv⟩ := Qtu m0 f
   have h0 := hf f (ZY hi) q hq
   refine run_seq (Q8 (b := false) (QH (Qae (rb := ⟨.int 0, true, []⟩) (d := .bl (decide (v < 0))) (hv (r := ⟨Qb m f, false, []⟩) rfl rfl) rfl rfl) ?_) (λ h => by cases h) (λ _ => Qo (Qo ⟨_, rfl⟩)))
   show D.bl _ = _
   rw [decide_eq_false (by omega)]
  ·rintro ρ ⟨j2, rfl⟩
   exact Qo trivial
 obtain ⟨o, h1, h2⟩ := key
 unfold Ql
 rw [h1]
 cases o with
 | nx ρ => rfl
 | _ => exact h2.elim
noncomputable def Qjc (QbJ : Den) (QW : Den) (Qc8 : Den) : DS := (Qe (QdX (Qr 2 QbJ [] (Qc (Qa 0) (Qc (Qas (Qc (Qa 1) Qf)) Qf)))) (Qe (Qp 2 (Qr 1 QW [] (Qc (Qa 0) Qf))) (Qe (Qp 3 (QS (Qas (Qc (dC (.int 0)) Qf)) (Qn (Qa 0) (dC (.int 0))))) (Qe (Qp 4 (QS (Qas (Qc (dC (.int 0)) Qf)) (Qn (Qa 0) (dC (.int 0))))) (Qe (Qp 5 (QaW (Qc (Qa 3) (Qc (Qa 4) Qf)))) (Qe (Qp 6 (dBf QfH (Qc (Qa 1) Qf))) (Qe (QaV (Qfs (dOp Qaq (Qkv (Qa 6)) (dC (.int 1))) (QhA (dC (.int 1))) (QhA (dC (.int 1)))) (.nm 7) (Qe (Qp 3 (QF (QaR (Qn (Qa 5) (dC (.int 0))) (Qa 1)) (.tp [1, 2]) [none, none, none, some 7] QL (Qz (QS (dC (.int 2)) (Qa 1)) (dOp QZ (dOp QlK (Qa 2) (Qa 3)) (dC (.int 2)))))) (Qe (Qp 4 (QF (QY (Qn (Qa 5) (dC (.int 1)))) (.nm 1) [none, none] QL (QS (dC (.int 2)) (Qa 1)))) (Qe (Qp 5 (Qr 3 Qc8 [] (Qc (Qa 2) (Qc (Qa 3) (Qc (Qa 4) Qf))))) Qm)))) (Qe (QM (Qa 5)) Qm))))))))
noncomputable def Qdh (m : Nat) (T : Nat -> Nat -> Int) (f c : Nat -> Int) : D := .tup [Qb m (Qd m T f c), Qb m c]
structure Told (m : Nat) (T : Nat -> Nat -> Int) (f c : Nat -> Int) : Prop where
 leg : Leg m T f c
 pos : ∀ j, j < m -> 0 <= Qd m T f c j
 stb : Stb m T (Qd m T f c)
def QjC (d : Den) : Prop := ∀ (m : Nat) (R L : List (Int × Int)) (f : Nat -> Int), 0 < m -> m <= 1000 -> Qbp m R L -> (∀ j, j < m -> 0 <= f j /\ f j < 2 ^ 200) -> ∃ c, d [Qt m R L, Qb m f] = some (Qdh m (Qj m (Qg R L)) f c, true) /\ Told m (Qj m (Qg R L)) f c
theorem Qo9 {fa fb fc : DE} {ρ : En} {ra rb rc : R} {n : Nat} (ha : fa ρ = some ra) (ea : ra.d = .int ((n : Int) - 1)) (hb : fb ρ = some rb) (eb : rb.d = .int (-1)) (hc : fc ρ = some rc) (ec : rc.d = .int (-1)) (hn : n <= 16777216) : Qfs fa fb fc ρ = some ⟨(List.range n).map λ (k : Nat) => .int ((n : Int) - 1 - k), []⟩ := by
 unfold Qfs
 rw [ha, Za, hb, Za, hc, Za, ea, eb, ec]
 show (if (n : Int) - 1 - -1 <= 16777216 /\ _ then _ else _) = _
 rw [if_pos ⟨by omega, by omega, by omega, by omega, by omega⟩]
 rw [show ((n : Int) - 1 - -1).toNat = n by omega]
 rfl
theorem QvF {fa fb : DE} {ρ : En} {ra rb : R} {a : Int} {k : Nat} (ha : fa ρ = some ra) (ea : ra.d = .int a) (hb : fb ρ = some rb) (eb : rb.d = .int k) : dOp QlK fa fb ρ = some ⟨.int (a / 2 ^ k), true, []⟩ := by
 refine Qae ha hb ?_
 rw [ea, eb]
 show (if (0 : Int) <= k then some (D.int (a / 2 ^ (k : Int).toNat)) else none) = _
 rw [if_pos (by omega), ZW]
theorem QqP (x : Int) (s : Nat) : x / 2 ^ s = 2 * (x / 2 ^ (s + 1)) + x / 2 ^ s % 2 := by
 have e : x / 2 ^ (s + 1) = x / 2 ^ s / 2 := by rw [Int.pow_succ, Int.ediv_ediv_of_nonneg (Int.pow_nonneg (by decide))]
 rw [e]
 omega
theorem Qif {m : Nat} {T : Nat -> Nat -> Int} {f g c : Nat -> Int} (e : ∀ j, j < m -> f j = g j) (h : Told m T f c) : Told m T g c where
 leg := h.leg.QiL e
 pos := λ j hj => by rw [← Qak (f := f) (c := c) (d := c) j (e j hj) (λ _ _ => rfl)]; exact h.pos j hj
 stb := λ j hj => by rw [← Qak (f := f) (c := c) (d := c) j (e j hj) (λ _ _ => rfl)]; exact h.stb j hj
theorem Qg6 {m : Nat} {T : Nat -> Nat -> Int} {f g c : Nat -> Int} (e : ∀ j, j < m -> f j = g j) : Qdh m T f c = Qdh m T g c := by
 unfold Qdh
 rw [Qc5 (f := Qd m T f c) (g := Qd m T g c) λ j hj => Qak j (e j hj) λ _ _ => rfl]
theorem Qqm {dn dt ds : Den} (hn : QiT dn) (ht : QeA dt) (hs : Qf9 ds) : QjC (Ql 8 (Qjc dn dt ds)) := λ m R L f m0 hm hw hf => by
 have hg := hw.good
 have tp := hw.tp
 have htoll := ht m R L hm (by omega) hg.1 hg.2.1
 generalize hT : Qj m (Qg R L) = T at tp htoll ⊢
 obtain ⟨top, ⟨q, hq, etop⟩, hmax, evmax⟩ := Qm5 m0 f
 have htop0 : 0 <= top := by rw [etop]; exact (hf q hq).1
 have hB : Builtin.Int.intBits top <= 200 := by
  rw [intBits_le_iff]
  have : top < 2 ^ 200 := by rw [etop]; exact (hf q hq).2
  have e2 : ((2 ^ 200 : Nat) : Int) = (2 : Int) ^ 200 := by rw [Int.natCast_pow]; rfl
  generalize (2 : Int) ^ 200 = z at this e2
  generalize (2 : Nat) ^ 200 = z' at e2 ⊢
  omega
 have hlt : ∀ j, j < m -> f j / 2 ^ Builtin.Int.intBits top = 0 := λ j hj => by
  have h1 := (intBits_le_iff (m := Builtin.Int.intBits top) (x := top)).mp (Zk _)
  refine Int.ediv_eq_zero_of_lt (hf j hj).1 ?_
  have h2 := hmax j hj
  have e2 : ((2 ^ Builtin.Int.intBits top : Nat) : Int) = (2 : Int) ^ Builtin.Int.intBits top := by rw [Int.natCast_pow]; rfl
  rw [← e2]
  omega
 generalize hBe : Builtin.Int.intBits top = B at hB hlt
 have key : Run (Qjc dn dt ds) (QaI 8 [Qt m R L, Qb m f]) (Rt λ d fr => ∃ c, d = Qdh m T f c /\ fr = true /\ Told m T f c) := by
  have hneed := hn m R L [f] m0 (λ g hg' j hj => by rw [ZE.mp hg']; exact (hf j hj).1)
  refine run_seq (QfB (Qs (r := ⟨[Qt m R L, .lst [Qb m f]], false, []⟩) rfl hneed rfl) ?_)
  refine run_seq (Qh (Qs (r := ⟨[Qt m R L], false, []⟩) rfl htoll rfl) ?_)
  rw [Qk]
  refine run_seq (Qh (Qfn (n := m) (r := ⟨.int m, true, []⟩) rfl rfl (by omega)) ?_)
  rw [Qk]
  refine run_seq (Qh (Qfn (n := m) (r := ⟨.int m, true, []⟩) rfl rfl (by omega)) ?_)
  rw [Qk]
  refine run_seq (Qh (r := ⟨.tup [Qb m (λ _ => 0), Qb m (λ _ => 0)], true, [3, 4]⟩) rfl ?_)
  refine run_seq (Qh (evmax (r := ⟨Qb m f, false, []⟩) rfl rfl) ?_)
  rw [Qk]
  refine Qa6 (P := λ ρ => ∃ c j3 j4 j7, Told m T f c /\ ρ = [some (Qt m R L, false), some (Qb m f, false), some (Qi m m T, true), j3, j4, some (Qdh m T f c, true), some (.int top, true), j7]) ?_ ?_
  ·refine Qal (toD := λ (k : Nat) => .int ((B : Int) - 1 - k)) (List.range B) (λ i ρ => ∃ c j3 j4 j7, Told m T (λ j => f j / 2 ^ (B - i)) c /\ ρ = [some (Qt m R L, false), some (Qb m f, false), some (Qi m m T, true), j3, j4, some (Qdh m T (λ j => f j / 2 ^ (B - i)) c, true), some (.int top, true), j7])
    (Qo9 (n := B) (Qae (d := .int ((B : Int) - 1)) (ra := ⟨.int B, true, []⟩) (rb := ⟨.int 1, true, []⟩) (by rw [← hBe]; rfl) rfl rfl) rfl (rb := ⟨.int (-1), true, []⟩) rfl rfl (rc := ⟨.int (-1), true, []⟩) rfl rfl (by omega)) rfl ⟨λ _ => 0, none, none, none, ?_, ?_⟩ ?_ ?_
   ·refine Qif (f := λ _ => 0) (λ j hj => (hlt j hj).symm) ⟨.nil, λ j hj => ?_, λ j hj => ?_⟩
    ·unfold Qd
     rw [QJ (g := λ _ => 0) λ i _ => by rw [ZN], Qag]
     exact ZaN _
    ·unfold Qd
     rw [QJ (g := λ _ => 0) λ i _ => by rw [ZN], Qag]
     have := tp.neg j hj
     show (0 : Int) + 0 < _
     omega
   ·show _ = [some (Qt m R L, false), some (Qb m f, false), some (Qi m m T, true), none, none, some (Qdh m T (λ j => f j / 2 ^ B) λ _ => 0, true), some (.int top, true), none]
    rw [← Qg6 (f := λ _ => 0) λ j hj => (hlt j hj).symm]
    unfold Qdh
    rw [Qqa]
    rfl
   ·rintro i i' ρ hi ⟨c, j3, j4, j7, hc, rfl⟩
    have hi' : i < B /\ i = i' := by
     obtain ⟨h1, h2⟩ := Zf.mp hi
     simp at h1 h2; exact ⟨h1, h2⟩
    obtain ⟨hiB, rfl⟩ := hi'
    obtain ⟨s, hsB⟩ : ∃ s : Nat, B - i = s + 1 := ⟨B - i - 1, by omega⟩
    have es : (B : Int) - 1 - i = (s : Int) := by omega
    have es2 : B - (i + 1) = s := by omega
    rw [hsB] at hc
    rw [hsB, es2, es]
    generalize hF : (λ j => f j / 2 ^ (s + 1)) = F at hc
    have hF' : ∀ j, F j = f j / 2 ^ (s + 1) := λ j => by rw [← hF]
    refine ⟨_, rfl, ?_⟩
    have e2 : ∀ j, 2 * F j + f j / 2 ^ s % 2 = f j / 2 ^ s := λ j => by rw [hF', ← QqP]
    have erow : ∀ j, 2 * Qd m T F c j + f j / 2 ^ s % 2 = Qd m T (λ j => f j / 2 ^ s) (λ i => 2 * c i) j := λ j => by
     have := Qnt (m := m) (T := T) (f := F) (c := c) (b := λ j => f j / 2 ^ s % 2) j
     rw [← this]
     exact (Qak j (e2 j).symm λ _ _ => rfl).symm
    refine run_seq (Qh (r := ⟨Qb m (Qd m T (λ j => f j / 2 ^ s) (λ i => 2 * c i)), true, []⟩) ?_ ?_)
    ·have e := QE (fi := QaR (Qn (Qa 5) (dC (.int 0))) (Qa 1)) (t := .tp [1, 2]) (cap := [none, none, none, some 7]) (fe := Qz (QS (dC (.int 2)) (Qa 1)) (dOp QZ (dOp QlK (Qa 2) (Qa 3)) (dC (.int 2)))) (ρ := [some (Qt m R L, false), some (Qb m f, false), some (Qi m m T, true), j3, j4, some (Qdh m T F c, true), some (.int top, true), some (.int s, true)])
      (toD := λ (j : Nat) => .tup [.int (Qd m T F c j), .int (f j)]) (out := λ (j : Nat) => .int (2 * Qd m T F c j + f j / 2 ^ s % 2)) (List.range m) (Qbi (ra := ⟨Qb m (Qd m T F c), true, [5]⟩) (rb := ⟨Qb m f, false, []⟩) rfl rfl rfl rfl) rfl λ j hj =>
       ⟨[none, some (.int (Qd m T F c j), true), some (.int (f j), true), some (.int s, true)], rfl, _, QP (a := 2 * Qd m T F c j) (QT (a := 2) rfl rfl rfl rfl (QaG (by decide))) rfl (Q6 (b := 2) (QvF (a := f j) (k := s) rfl rfl rfl rfl) rfl rfl rfl (by decide)) rfl, rfl, rfl⟩
     refine e.trans ?_
     congr 2
     show D.lst _ = D.lst _
     congr 1
     refine ZA λ j _ => ?_
     rw [erow]
    ·rw [Qk]
     refine run_seq (Qh (r := ⟨Qb m (λ i => 2 * c i), true, []⟩) ?_ ?_)
     ·exact QE (toD := λ (j : Nat) => .int (c j)) (out := λ (j : Nat) => .int (2 * c j)) (List.range m) (Q7 (r := ⟨Qb m c, true, [5]⟩) rfl rfl) rfl λ j hj => ⟨[none, some (.int (c j), true)], rfl, _, QT (a := 2) (b := c j) rfl rfl rfl rfl (QaG (by decide)), rfl, rfl⟩
     ·rw [Qk]
      obtain ⟨d2, hd2, ed2⟩ := hc.leg.QvH (λ j => f j / 2 ^ s % 2) (λ j => ZD _ (by decide))
      have hleg : Leg m T (λ j => f j / 2 ^ s) (λ i => 2 * c i) := (hd2.cast ed2).QiL λ j _ => e2 j
      have hpos : ∀ j, j < m -> 0 <= Qd m T (λ j => f j / 2 ^ s) (λ i => 2 * c i) j := λ j hj => by
       rw [← erow]
       have := hc.pos j hj
       have := ZD (f j / 2 ^ s) (by decide : (2 : Int) ≠ 0)
       omega
      obtain ⟨k', h1, h2, h3, h4⟩ := hs m T _ _ hm tp hleg hpos
      refine run_seq (Qh (Qs (r := ⟨[Qi m m T, Qb m (Qd m T (λ j => f j / 2 ^ s) (λ i => 2 * c i)), Qb m (λ i => 2 * c i)], true, [2, 3, 4]⟩) rfl h1 rfl) (Qo ?_))
      rw [Qk]
      exact ⟨k', _, _, _, ⟨h2, h3, h4⟩, rfl⟩
   ·rintro ρ ⟨c, j3, j4, j7, hc, rfl⟩
    rw [Zp, Nat.sub_self] at *
    have e : ∀ j, j < m -> f j / 2 ^ 0 = f j := λ j _ => by rw [Int.pow_zero, Int.ediv_one]
    exact ⟨c, _, _, _, Qif e hc, by rw [Qg6 (f := λ j => f j / 2 ^ 0) (g := f) e]⟩
  ·rintro ρ ⟨c, j3, j4, j7, hc, rfl⟩
   exact QA (r := ⟨Qdh m T f c, true, [5]⟩) rfl ⟨c, rfl, rfl, hc⟩
 obtain ⟨o, h1, h2⟩ := key
 cases o with
 | rt d fr =>
  obtain ⟨c, rfl, rfl, h3⟩ := h2
  exact ⟨c, by unfold Ql; rw [h1]; rfl, h3⟩
 | _ => exact h2.elim
theorem Qov {x : Nat} {W : List (Int × Int × Bool)} {ρ : En} {b : Bool} (h : ρ[x]? = some (some (Q3 W, b))) : QlI (Qa x) (QhA (dC (.int 1))) ρ = some ⟨Q3 W.reverse, true, []⟩ := by
 unfold QlI
 rw [QaD h, Za]
 have e : (if (Q3 W).flat = true then HS.R.mk (Q3 W) true [] else if b = true then HS.R.mk (Q3 W) true [x] else HS.R.mk (Q3 W) false []).d = Q3 W := by cases b <;> rfl
 rw [e]
 show some (Qan (W.map QbI).reverse _) = _
 rw [← List.map_reverse]
 unfold Qan
 rw [if_pos (QnD _)]; rfl
theorem Qq8 {m : Nat} {t kind : Int} : Esc m (Qbo m t kind) := λ A ⟨p, hp, hA⟩ => by
 have ex : ∃ j : Nat, j < m /\ A (((j : Int) + t) % m).toNat := by
  have h1 := ZD ((p : Int) - t) (by omega : (m : Int) ≠ 0)
  have h2 := ZC ((p : Int) - t) (by omega : (0 : Int) < m)
  refine ⟨(((p : Int) - t) % m).toNat, by omega, ?_⟩
  have e : (((((p : Int) - t) % m).toNat : Int) + t) % m = p := by
   rw [Int.toNat_of_nonneg h1, Int.emod_add_emod, Int.sub_add_cancel]
   exact Zbt (by omega) (by omega)
  rw [e, ZW]; exact hA
 obtain ⟨j, ⟨hj, hAj⟩, hmin⟩ := Qk2 ex
 have s1 := ZD ((j : Int) + t) (by omega : (m : Int) ≠ 0)
 have s2 := ZC ((j : Int) + t) (by omega : (0 : Int) < m)
 refine ⟨QdS m t kind j, ZQ.mpr ⟨j, Zn.mpr hj, rfl⟩, ?_, hAj, ?_⟩
 ·exact s2
 ·show QdR m t j = m ∨ ¬ A (QdR m t j).toNat
  unfold QdR
  split
  ·rename_i h
   have n1 := ZD (QaL t j) (by omega : (j : Int) + 1 ≠ 0)
   right
   intro z
   refine hmin (QaL t j % ((j : Int) + 1)).toNat (by omega) ⟨by omega, ?_⟩
   rw [Int.toNat_of_nonneg n1]
   exact z
  ·exact .inl rfl
theorem QgF {a : Int} {k : Nat} {ρ : En} (h1 : a.natAbs < 2 ^ 200) (h2 : k <= 1000) : dOp QeX (dC (.int a)) (dC (.int k)) ρ = some ⟨.int (a ^ k), true, []⟩ := by
 refine Qae (ra := ⟨.int a, true, []⟩) (rb := ⟨.int k, true, []⟩) rfl rfl ?_
 show (if 0 <= (k : Int) /\ (k : Int) <= 1000 /\ a.natAbs < 2 ^ 200 then some (D.int (a ^ (k : Int).toNat)) else none) = _
 rw [if_pos ⟨by omega, by omega, h1⟩, ZW]
theorem QtR {fa : DE} {ρ : En} {r : R} {m : Nat} {f : Nat -> Int} (h : fa ρ = some r) (e : r.d = Qb m f) : dBf Qav (Qc fa Qf) ρ = some ⟨.int m, true, []⟩ := by
 rw [QcO h e]; simp
theorem Ql4 {fs : DA} {ρ : En} {rs : RA} (h : fs ρ = some rs) (hl : rs.ds.length <= 64) : Qas fs ρ = some ⟨.lst rs.ds, rs.fr, rs.M⟩ := by
 unfold Qas
 rw [h, Za, if_pos hl]
theorem QgL (n m : Nat) (f : Nat -> Int) : (Qb m f).sim (n + 1) = true := by
 unfold Qb
 simp only [D.sim, List.all_map, ZaH]
 intro p _
 cases n <;> rfl
theorem QoG {m n : Nat} {f g : Nat -> Nat -> Int} (h : ∀ i, i < m -> ∀ j, j < n -> f i j = g i j) : Qi m n f = Qi m n g := by
 unfold Qi Qb
 congr 1
 refine ZA λ i hi => ?_
 congr 1
 refine ZA λ j hj => ?_
 rw [h i (Zn.mp hi) j (Zn.mp hj)]
theorem Qc6 {fa fb : DE} {ρ : En} {ra rb : R} {m n : Nat} {f : Nat -> Nat -> Int} {i : Int} (ha : fa ρ = some ra) (ea : ra.d = Qi m n f) (hb : fb ρ = some rb) (eb : rb.d = .int i) (h0 : 0 <= i) (h : i < m) : Qn fa fb ρ = some ⟨Qb n (f i.toNat), ra.fr, ra.M⟩ := by
 unfold Qn
 rw [ha, Za, hb, Za, ea, eb]
 simp only [Qi, D.items, Za, QiW h0 h, ZP]
 rfl
theorem Qlo {x m n : Nat} {f : Nat -> Nat -> Int} {fp fi fa : DE} {ρ : En} {i j v : Int} {rp ri ra : R} {Q : Out -> Prop} (hx : ρ[x]? = some (some (Qi m n f, true))) (hp : fp ρ = some rp) (ep : rp.d = .int i) (hi : fi ρ = some ri) (ei : ri.d = .int j) (ha : fa ρ = some ra) (ea : ra.d = .int v)
  (h0 : 0 <= i) (h : i < m) (k0 : 0 <= j) (k : j < n) (q : Q (.nx (ρ.set x (some (Qi m n (up2 f i.toNat j.toNat v), true))))) : Run (Qa4 x (QcE Qam fp) fi fa) ρ Q := by
 refine ⟨_, ?_, q⟩
 have hn : ra.norm = ⟨.int v, true, []⟩ := by unfold HS.R.norm; rw [ea]; rfl
 have hd : Qa8 (Qi m n f) [i] = some (Qb n (f i.toNat)) := by
  simp only [Qa8, Qi, D.items, Za, QiW h0 h]
 have hu : QaN [i] (Qi m n f) (.lst (((List.range n).map λ k => D.int (f i.toNat k)).set j.toNat (.int v))) = Qi m n (up2 f i.toNat j.toNat v) := by
  simp only [QaN, Qi, Zh, Zp, QcI h0 h, Qfu]
  rw [QdU]
  congr 2; funext k
  unfold up2
  split
  ·rename_i e; subst e; rfl
  ·rfl
 unfold Qa4
 rw [ha, Za, hx]
 simp only [QcE, Qam, Za, hp, ep, ZbP, hi, ei, hd, Qb, Zh, Zp, QcI k0 k, hn, ea]
 simp only [kill, List.contains_nil, Bool.not_false, ZbV, decide_true, Zay, if_true]
 rw [hu]
noncomputable def Qfr : DS := (Qe (Qp 1 (Qz (Qn (Qa 0) (dC (.int 0))) (dC (.int 1)))) (Qe (Qp 2 (QF (Qau (Qa 1)) (.nm 1) [none, none, some 1] QL (QS (Qas (Qc (dC (.int 0)) Qf)) (Qa 2)))) (Qe (Qp 5 (Qz (Qn (Qa 0) (dC (.int 1))) (QF (QY (Qn (Qa 0) (dC (.int 1)))) (.tp [1, 2]) [none, none, none] QL (QaW (Qc (Qa 2) (Qc (Qa 1) Qf)))))) (Qe (QaV (QY (Qz (Qa 5) (Qn (Qa 0) (dC (.int 2))))) (.tp [3, 4]) (Qe (Qa4 2 (QcE Qam (Qa 3)) (Qa 3) (dOp Qaq (Qn (Qn (Qa 2) (Qa 3)) (Qa 3)) (dC (.int 1)))) (Qe (Qa4 2 (QcE Qam (Qa 3)) (Qa 4) (Qz (Qn (Qn (Qa 2) (Qa 3)) (Qa 4)) (dC (.int 1)))) Qm))) (Qe (QM (QF (QY (QbY (Qa 2) QaX (QaY (Qn (Qa 0) (dC (.int 0)))))) (.nm 1) [none, none, some 0] QL (QbY (Qa 1) QaX (QaY (Qn (Qa 2) (dC (.int 0))))))) Qm)))))
theorem Qo0 {m n k : Nat} {f : Nat -> Nat -> Int} (h : n <= m) : cutD ((List.range m).map λ i => Qb k (f i)) none (some (n : Int)) = (List.range n).map λ i => Qb k (f i) := by
 unfold cutD
 simp only [Zh, Zp, HT.Qew, HT.Qfc, ZbS, ZbI, ZaD h]
 rw [← ZbU, List.take_range, ZaD h]
def TabsOk (d : Den) : Prop := ∀ (m : Nat) (R L : List (Int × Int)), 0 < m -> m <= 1000 -> R.length + R.length + L.length <= 1000000 -> (∀ s ∈ R, Good m s) -> (∀ s ∈ L, Good m s) -> d [Qt m R L] = some (Qi m m (Qj m (Qg R L)), true)
theorem QtA : TabsOk (Ql 6 Qfr) := λ m R L m0 hm hl hR hL => by
 have gS := Qb0 hR hL
 have it : ∀ {ρ : En}, ρ[0]? = some (some (Qt m R L, false)) -> Qa 0 ρ = some ⟨Qt m R L, false, []⟩ := λ h => QaD h
 have fin : Qi m m (Qj (m + 1) (Qg R L)) = Qi m m (Qj m (Qg R L)) := QoG λ i hi j hj => by
  rw [QbQ (m := m + 1) (by omega) (by omega) λ s hs => ⟨(gS s hs).1, (gS s hs).2.1⟩, QbQ hi hj λ s hs => ⟨(gS s hs).1, (gS s hs).2.1⟩]
 rw [← fin]
 refine Q4 ?_
 refine run_seq (Qh (QP (a := (m : Int)) (b := 1) (QcD (it rfl) rfl).1 rfl rfl rfl) ?_)
 rw [Qk]
 refine run_seq (Qh (QE (out := λ _ => Qb (m + 1) λ _ => 0) (List.range (m + 1)) (QaF (n := m + 1) (r := ⟨.int (m + 1 : Nat), true, []⟩) rfl rfl (by omega)) rfl λ x _ => ⟨[none, some (.int x, true), some (.int (m + 1 : Nat), true)], rfl, _, Qfn (n := m + 1) (r := ⟨.int (m + 1 : Nat), true, []⟩) rfl rfl (by omega), rfl, rfl⟩) ?_)
 rw [Qk]
 refine run_seq (Qh (QgV (A := R) (B := R.map Prod.swap) (rb := ⟨QU (R.map Prod.swap), true, []⟩) (QcD (it rfl) rfl).2.1 rfl ?_ rfl (by simp; omega)) ?_)
 ·have e1 : (R.map λ x => pairD x.swap) = (R.map Prod.swap).map pairD := by simp [Zaf, Function.comp_def]
  unfold QU
  rw [← e1]
  exact QE (toD := pairD) (out := λ x => pairD x.swap) R (Q7 (QcD (it rfl) rfl).2.1 rfl) rfl λ x _ => ⟨[none, some (.int x.1, true), some (.int x.2, true)], rfl, ⟨pairD x.swap, true, []⟩, rfl, rfl, rfl⟩
 rw [Qk]
 refine Qa6 (P := λ ρ => ∃ j3 j4, ρ = [some (Qt m R L, false), some (.int (m + 1 : Nat), true), some (Qi (m + 1) (m + 1) (Qj (m + 1) (Qg R L)), true), j3, j4, some (QU (R ++ R.map Prod.swap), true)]) ?_ ?_
 ·refine Qal (toD := pairD) (Qg R L) (λ i ρ => ∃ j3 j4, ρ = [some (Qt m R L, false), some (.int (m + 1 : Nat), true), some (Qi (m + 1) (m + 1) (Qj (m + 1) ((Qg R L).take i)), true), j3, j4, some (QU (R ++ R.map Prod.swap), true)]) (ir := ⟨(Qg R L).map pairD, []⟩) ?_ rfl ⟨none, none, rfl⟩ ?_ ?_
  ·exact Q7 (QgV (A := R ++ R.map Prod.swap) (B := L) (ra := ⟨QU (R ++ R.map Prod.swap), true, [5]⟩) rfl rfl (QcD (it rfl) rfl).2.2 rfl (by simp; omega)) rfl
  ·rintro i s ρ hi ⟨j3, j4, rfl⟩
   obtain ⟨s1, s2, s3, s4, s5⟩ := gS s (ZY hi)
   have c1 : s.1 < ((m + 1 : Nat) : Int) := by omega
   have c2 : s.2 < ((m + 1 : Nat) : Int) := by omega
   refine ⟨_, rfl, ?_⟩
   have step : Qj (m + 1) ((Qg R L).take (i + 1)) = stepT (m + 1) (Qj (m + 1) ((Qg R L).take i)) s := by
    unfold Qj
    rw [List.take_add_one, hi, List.foldl_append]; rfl
   have e1 : ∀ {ρ : En} {f : Nat -> Nat -> Int} (y : Nat) (k : Int), ρ[2]? = some (some (Qi (m + 1) (m + 1) f, true)) -> ρ[3]? = some (some (.int s.1, true)) -> ρ[y]? = some (some (.int k, true)) -> 0 <= k -> k < ((m + 1 : Nat) : Int) -> Qn (Qn (Qa 2) (Qa 3)) (Qa y) ρ = some ⟨.int (f s.1.toNat k.toNat), true, []⟩ := λ {ρ f} y k h2 h3 hy k0 kl =>
    QgM (Qc6 (QaD h2) rfl (QkQ h3) rfl s1 c1) rfl (QkQ hy) rfl k0 kl
   refine run_seq (Qlo (i := s.1) (j := s.1) (m := m + 1) (n := m + 1) rfl rfl rfl rfl rfl (Qae (e1 3 s.1 rfl rfl rfl s1 c1) rfl rfl) rfl s1 c1 s1 c1 ?_)
   refine run_seq (Qlo (i := s.1) (j := s.2) (m := m + 1) (n := m + 1) rfl rfl rfl rfl rfl (QP (e1 4 s.2 rfl rfl rfl s2 c2) rfl (QaM (.int 1) _) rfl) rfl s1 c1 s2 c2 (Qo ⟨some (.int s.1, true), some (.int s.2, true), ?_⟩))
   rw [step]
   unfold stepT
   rw [if_pos ⟨c1, c2⟩, if_pos c1]
   rfl
  ·rintro ρ ⟨j3, j4, rfl⟩
   rw [ZbD]
   exact ⟨j3, j4, rfl⟩
 rintro ρ ⟨j3, j4, rfl⟩
 refine QA (QE (toD := λ (i : Nat) => Qb (m + 1) (Qj (m + 1) (Qg R L) i)) (out := λ (i : Nat) => Qb m (Qj (m + 1) (Qg R L) i)) (ir := ⟨(List.range m).map λ i => Qb (m + 1) (Qj (m + 1) (Qg R L) i), [2]⟩) (List.range m) ?_ rfl λ i hi => ⟨[none, some (Qb (m + 1) (Qj (m + 1) (Qg R L) i), false), some (Qt m R L, false)], rfl, _, QmX (m := m + 1) (n := m) (ra := ⟨Qb (m + 1) (Qj (m + 1) (Qg R L) i), false, []⟩) rfl rfl (QcD (r := ⟨Qt m R L, false, []⟩) rfl rfl).1 rfl (by omega), rfl, rfl⟩) ⟨rfl, rfl⟩
 refine Q7 (r := ⟨.lst ((List.range m).map λ i => Qb (m + 1) (Qj (m + 1) (Qg R L) i)), false, [2]⟩) ?_ rfl
 unfold QbY QaX QaY
 rw [QaD (d := Qi (m + 1) (m + 1) (Qj (m + 1) (Qg R L))) (b := true) rfl, (QcD (it rfl) rfl).1]
 show some (Qan (cutD ((List.range (m + 1)).map λ i => Qb (m + 1) (Qj (m + 1) (Qg R L) i)) none (some (m : Int))) [2]) = _
 rw [Qo0 (by omega)]
 unfold Qan
 have : Q2 ((List.range m).map λ i => Qb (m + 1) (Qj (m + 1) (Qg R L) i)) = false := by
  cases m with
  | zero => omega
  | succ m => rw [Zbb]; rfl
 rw [this]; rfl
noncomputable def Qom : Option Int -> D
 | none => .non
 | some i => .int i
@[simp] theorem QqQ (o : Option Int) : (Qom o).flat = true := by cases o <;> rfl
noncomputable def Qw2 (m : Nat) (F : Nat -> Option Int) : D := .lst ((List.range m).map λ i => Qom (F i))
@[simp] theorem QwS (m : Nat) (F : Nat -> Option Int) : (Qw2 m F).flat = false := rfl
@[simp] theorem QwD (m : Nat) (F : Nat -> Option Int) : Q2 ((List.range m).map λ i => Qom (F i)) = true := Qbl (f := λ i => Qom (F i)) (λ _ => QqQ _) _
theorem QpL {fa fb : DE} {ρ : En} {ra rb : R} {i j : Int} {n : Nat} (ha : fa ρ = some ra) (ea : ra.d = .int i) (hb : fb ρ = some rb) (eb : rb.d = .int j) (hn : (n : Int) = j - i) (hl : n <= 16777216) (h1 : -(2 ^ 62) <= i) (h2 : i < 2 ^ 61) : Qd6 fa fb ρ = some ⟨(List.range n).map λ (k : Nat) => .int (i + k), []⟩ := by
 unfold Qd6
 rw [ha, Za, hb, Za, ea, eb]
 show (if j - i <= 16777216 /\ _ then _ else _) = _
 rw [if_pos ⟨by omega, by omega, by omega, by omega, by omega⟩]
 rw [show (j - i).toNat = n by omega]
 rfl
theorem Leg.mono {m : Nat} {T : Nat -> Nat -> Int} {f g c : Nat -> Int} (h : Leg m T f c) (e : ∀ i, i < m -> f i <= g i) : Leg m T g c := by
 induction h with
 | nil => exact .nil
 | @step c p t _ hp ht hle ih =>
  refine .step ih hp ht ?_
  have := e p hp
  unfold Qd at hle ⊢
  omega
theorem QhU {m : Nat} {T : Nat -> Nat -> Int} {f c d : Nat -> Int} (j : Nat) : Qd m T (Qd m T f c) d j = Qd m T f (λ i => c i + d i) j := by
 unfold Qd
 have e : (λ i => (c i + d i) * T i j) = λ i => c i * T i j + d i * T i j := by funext i; rw [ZK]
 rw [e, Qaz]
 show f j + Qu m (λ i => c i * T i j) + _ = _
 omega
theorem Qs3 {m : Nat} {T : Nat -> Nat -> Int} {f g c d : Nat -> Int} (j : Nat) : Qd m T (λ i => f i + g i) (λ i => c i + d i) j = Qd m T f c j + Qd m T g d j := by
 unfold Qd
 have e : (λ i => (c i + d i) * T i j) = λ i => c i * T i j + d i * T i j := by funext i; rw [ZK]
 rw [e, Qaz]
 show f j + g j + _ = _
 omega
theorem Leg.trans {m : Nat} {T : Nat -> Nat -> Int} {f c d : Nat -> Int} (h : Leg m T f c) (h2 : Leg m T (Qd m T f c) d) : Leg m T f (λ i => c i + d i) := by
 induction h2 with
 | nil => exact h.cast λ i => by simp
 | @step d p t _ hp ht hle ih =>
  rw [QhU] at hle
  refine (Leg.step ih hp ht hle).cast λ i => ?_
  unfold up
  split
  ·rename_i e; subst e; show c i + d i + t = c i + (d i + t); omega
  ·rfl
theorem Told.lay {m : Nat} {T : Nat -> Nat -> Int} {F C F' h c : Nat -> Int} (hC : Told m T F C) (hF : ∀ j, j < m -> F j <= F' j) (hh : ∀ j, j < m -> h j = Qd m T F C j + (F' j - F j)) (hc : Told m T h c) : Told m T F' (λ i => C i + c i) /\ ∀ j, j < m -> Qd m T h c j = Qd m T F' (λ i => C i + c i) j := by
 have e1 : ∀ j, j < m -> h j = Qd m T F' C j := λ j hj => by
  rw [hh j hj]
  unfold Qd
  omega
 have e2 : ∀ j, j < m -> Qd m T h c j = Qd m T F' (λ i => C i + c i) j := λ j hj => by
  rw [← QhU]
  exact Qak j (e1 j hj) λ _ _ => rfl
 exact ⟨⟨(hC.leg.mono hF).trans (hc.leg.QiL e1), λ j hj => by rw [← e2 j hj]; exact hc.pos j hj, λ j hj => by rw [← e2 j hj]; exact hc.stb j hj⟩, e2⟩
theorem Told.both {m : Nat} {T : Nat -> Nat -> Int} {f g c d e : Nat -> Int} (hf : Told m T f c) (hg : Told m T g d) (g0 : ∀ j, j < m -> 0 <= g j) (he : Told m T (λ j => Qd m T f c j + Qd m T g d j) e) : Told m T (λ j => f j + g j) (λ i => c i + d i + e i) /\ ∀ j, j < m -> Qd m T (λ j => Qd m T f c j + Qd m T g d j) e j = Qd m T (λ j => f j + g j) (λ i => c i + d i + e i) j := by
 have l1 : Leg m T (λ j => f j + g j) c := hf.leg.mono λ j hj => by have := g0 j hj; show f j <= f j + g j; omega
 have a1 : ∀ j, Qd m T (λ j => f j + g j) c j = Qd m T f c j + g j := λ j => by unfold Qd; show f j + g j + _ = _; omega
 have l2 : Leg m T (Qd m T (λ j => f j + g j) c) d := hg.leg.mono λ j hj => by rw [a1]; have := hf.pos j hj; omega
 have l3 : Leg m T (λ j => f j + g j) (λ i => c i + d i) := l1.trans l2
 have a3 : ∀ j, j < m -> Qd m T f c j + Qd m T g d j = Qd m T (λ j => f j + g j) (λ i => c i + d i) j := λ j _ => (Qs3 j).symm
 have e2 : ∀ j, j < m -> Qd m T (λ j => Qd m T f c j + Qd m T g d j) e j = Qd m T (λ j => f j + g j) (λ i => c i + d i + e i) j := λ j hj => by
  rw [← QhU (c := λ i => c i + d i) (d := e)]
  exact Qak j (a3 j hj) λ _ _ => rfl
 exact ⟨⟨l3.trans (he.leg.QiL a3), λ j hj => by rw [← e2 j hj]; exact he.pos j hj, λ j hj => by rw [← e2 j hj]; exact he.stb j hj⟩, e2⟩
theorem Told.one {m : Nat} {T : Nat -> Nat -> Int} (tp : TP m T) {f c d : Nat -> Int} (h : Told m T f c) (g : Told m T f d) : ∀ i, i < m -> c i = d i := h.leg.unique tp g.leg h.stb g.stb
abbrev QdJ (i : Int) : Prop := Builtin.Int.intBits i <= 2 ^ 20
theorem QnE {i : Int} (h : i.natAbs < 2 ^ 300) : QdJ i := Zx (ZbE h) (by decide)
noncomputable def Qkz : DS := (Qe (QM (QF (QY (Qa 0)) (.nm 1) [none, none, some 1] QL (Qn (Qa 1) (Qa 2)))) Qm)
def QfQ (d : Den) : Prop := ∀ (n m : Nat) (f : Nat -> Nat -> Int) (j : Nat), j < m -> d [Qi n m f, .int j] = some (Qb n (λ i => f i j), true)
theorem Qpb : QfQ (Ql 2 Qkz) := λ n m f j hj =>
 Q4 (QA (QE (toD := λ (i : Nat) => Qb m (f i)) (out := λ (i : Nat) => .int (f i j)) (List.range n) (Q7 (r := ⟨Qi n m f, false, []⟩) rfl rfl) rfl λ i _ => ⟨_, rfl, ⟨.int (f i j), true, []⟩, Qaj (m := m) (f := f i) (i := j) (ra := ⟨Qb m (f i), false, []⟩) (rb := ⟨.int j, true, []⟩) rfl rfl rfl rfl hj, rfl, rfl⟩) ⟨rfl, rfl⟩)
noncomputable def Qle (QbR : Den) : DS := (Qe (QM (QF (Qau (dBf Qav (Qc (Qa 0) Qf))) (.nm 1) [none, none, some 0] QL (Qr 2 QbR [] (Qc (Qa 2) (Qc (Qa 1) Qf))))) Qm)
theorem Qed {fa : DE} {ρ : En} {r : R} {n m : Nat} {f : Nat -> Nat -> Int} (h : fa ρ = some r) (e : r.d = Qi n m f) : dBf Qav (Qc fa Qf) ρ = some ⟨.int n, true, []⟩ := by
 rw [QcO h e]; simp
def Qhx (d : Den) : Prop := ∀ (n : Nat) (f : Nat -> Nat -> Int), n <= 1000 -> d [Qi n n f] = some (Qi n n (λ j i => f i j), true)
theorem QpK {dc : Den} (hc : QfQ dc) : Qhx (Ql 1 (Qle dc)) := λ n f hn =>
 Q4 (QA (QE (toD := λ (k : Nat) => .int (k : Int)) (out := λ (j : Nat) => Qb n (λ i => f i j)) (List.range n) (QaF (n := n) (Qed (n := n) (m := n) (f := f) (r := ⟨Qi n n f, false, []⟩) rfl rfl) rfl (by omega)) rfl λ j hj => ⟨[none, some (.int j, true), some (Qi n n f, false)], rfl, ⟨Qb n (λ i => f i j), true, []⟩, Qs (r := ⟨[Qi n n f, .int j], false, []⟩) rfl (hc n n f j (Zn.mp hj)) rfl, rfl, rfl⟩) ⟨rfl, rfl⟩)
noncomputable def Qey (QbG : Den) : DS := (Qe (sIf (bOr (Qdj (QI (Qi2 "list" (Qa 0)))) (QI (dOp gNe (dBf Qav (Qc (Qa 0) Qf)) (Qa 1)))) (Qe (QM (dC (.bl false))) Qm) Qm) (Qe (QM (dOp gEq (dBf Qav (Qc (QF (QY (Qa 0)) (.nm 1) [none, none] (QI (Qr 1 QbG [] (Qc (Qa 1) Qf))) (Qa 1)) Qf)) (Qa 1))) Qm))
def Ql7 (d : Den) : Prop := ∀ (n : Nat) (a : Nat -> Int), d [Qb n a, .int n] = some (.bl true, true)
theorem Qtd {dw : Den} (hw : Qi1 dw) : Ql7 (Ql 2 (Qey dw)) := λ n a => by
 refine Q4 ?_
 refine QQ (Q8 (b := false) (QdN (a := false) (b := false) (Qek (b := true) (QH (b := true) rfl rfl)) (QH (b := false) (r := ⟨.bl false, true, []⟩) ((Qdd (a := n) (b := n) (QtR (m := n) (f := a) (r := ⟨Qb n a, false, []⟩) rfl rfl) rfl (rb := ⟨.int n, true, []⟩) rfl rfl).trans (by simp)) rfl)) (λ h => by cases h) (λ _ => Qo ?_))
 have ec := Qfj (fi := QY (Qa 0)) (t := .nm 1) (cap := [none, none]) (ft := QI (Qr 1 dw [] (Qc (Qa 1) Qf))) (fe := Qa 1) (ρ := [some (Qb n a, false), some (.int n, true)]) (toD := λ (i : Nat) => .int (a i)) (keep := λ _ => true) (out := λ (i : Nat) => .int (a i)) (List.range n) (Q7 (r := ⟨Qb n a, false, []⟩) rfl rfl) rfl λ i _ => ⟨[none, some (.int (a i), true)], rfl, QH (b := true) (Qs (r := ⟨[.int (a i)], true, []⟩) rfl (hw (a i)) rfl) rfl, λ _ => ⟨⟨.int (a i), true, []⟩, rfl, rfl, rfl⟩⟩
 have el := QcO ec rfl
 rw [Zh, List.filter_eq_self.mpr λ _ _ => rfl, Zp] at el
 exact QA (r := ⟨.bl true, true, []⟩) ((QbF (a := n) (b := n) el rfl (rb := ⟨.int n, true, []⟩) rfl rfl).trans (by simp)) ⟨rfl, rfl⟩
noncomputable def QdL : DS := (Qe (sIf (QI (dOp gLt (Qa 1) (dBf Qav (Qc (Qa 0) Qf)))) (Qe (QM (Qn (Qa 0) (Qa 1))) Qm) Qm) (Qe (Qp 2 (Qz (QS (dC (.int 7919)) (Qa 1)) (dC (.int 5)))) (Qe (sIf (QI (dOp gGt (dBf Qav (Qc (Qa 0) Qf)) (dC (.int 0)))) (Qe (Qp 2 (dOp QZ (Qz (QS (Qn (Qa 0) (dOp QZ (Qa 1) (dBf Qav (Qc (Qa 0) Qf)))) (dC (.int 48271))) (QS (Qa 1) (dC (.int 7919)))) (dC (.int 2147483647)))) Qm) Qm) (Qe (QM (dOp QZ (QS (Qa 2) (Qa 2)) (dC (.int 2147483629)))) Qm))))
def QgP (d : Den) : Prop := ∀ ns : List Int, ns.length <= 63 -> (∀ k, QdJ (ns.getD k 0)) -> ∃ F : Nat -> Int, ∀ k : Nat, k <= 1000 -> d [.lst (ns.map .int), .int k] = some (.int (F k), true) /\ QdJ (F k)
set_option exponentiation.threshold 400 in
theorem Qq1 : QgP (Ql 3 QdL) := λ ns hl hb => by
 have key : ∀ k : Nat, k <= 1000 -> ∃ v, Ql 3 QdL [.lst (ns.map .int), .int k] = some (.int v, true) /\ QdJ v := λ k hk => by
  have elen : ∀ (ρ : En), ρ[0]? = some (some (.lst (ns.map .int), false)) -> dBf Qav (Qc (Qa 0) Qf) ρ = some ⟨.int ns.length, true, []⟩ := λ ρ h => by
   rw [QcO (xs := ns.map D.int) (QaD h) rfl, Zh]
  have run : Run QdL (QaI 3 [.lst (ns.map .int), .int k]) (Rt λ d fr => ∃ v, d = .int v /\ fr = true /\ QdJ v) := by
   refine QQ (Q8 (b := decide ((k : Int) < ns.length)) (QH (Qae (d := .bl (decide ((k : Int) < ns.length))) (ra := ⟨.int k, true, []⟩) rfl (elen _ rfl) rfl) rfl) (λ h => ?_) (λ h => Qo ?_))
   ·have h := of_decide_eq_true h
    obtain ⟨c, hc⟩ : ∃ c, ns[k]? = some c := ⟨_, Zar (by omega)⟩
    refine QQ (QgD (r := ⟨.int c, true, []⟩) (QgG (ns := ns) (i := k) (v := c) (ra := ⟨.lst (ns.map .int), false, []⟩) (rb := ⟨.int k, true, []⟩) rfl rfl rfl rfl (by omega) (by simpa using hc)) ⟨c, rfl, rfl, ?_⟩)
    have := hb k
    rw [Zai, hc] at this
    exact this
   have h := of_decide_eq_false h
   refine run_seq (Qh (QP (a := 7919 * k) (b := 5) (QT (a := 7919) (b := k) rfl rfl rfl rfl (QaG (by decide))) rfl rfl rfl) ?_)
   rw [Qk]
   refine Qa6 (P := λ ρ => ∃ v : Int, 0 <= v /\ v < 2147483647 /\ ρ = [some (.lst (ns.map .int), false), some (.int k, true), some (.int v, true)]) ?_ ?_
   ·refine Q8 (b := decide ((0 : Int) < ns.length)) (QH (Qae (d := .bl (decide ((0 : Int) < ns.length))) (rb := ⟨.int 0, true, []⟩) (elen _ rfl) rfl rfl) rfl) (λ h2 => ?_) (λ h2 => Qo ⟨7919 * k + 5, by omega, by omega, rfl⟩)
    have h2 := of_decide_eq_true h2
    have x0 := ZD (k : Int) (by omega : (ns.length : Int) ≠ 0)
    have x1 := ZC (k : Int) h2
    obtain ⟨c, hc⟩ : ∃ c, ns[((k : Int) % (ns.length : Int)).toNat]? = some c := ⟨_, Zar (by omega)⟩
    refine run_seq (Qh (Q6 (a := c * 48271 + k * 7919) (b := 2147483647) (QP (a := c * 48271) (b := k * 7919) (QT (a := c) (b := 48271) (QgG (ns := ns) (i := (k : Int) % (ns.length : Int)) (v := c) (ra := ⟨.lst (ns.map .int), false, []⟩) rfl rfl (Q6 (a := k) (b := ns.length) rfl rfl (elen _ rfl) rfl (by omega)) rfl x0 hc) rfl rfl rfl (Qbe (by decide))) rfl (QT (a := k) (b := 7919) rfl rfl rfl rfl (Qbe (by decide))) rfl) rfl rfl rfl (by decide)) (Qo ?_))
    rw [Qk]
    exact ⟨_, ZD _ (by decide), ZC _ (by decide), rfl⟩
   rintro ρ ⟨v, v0, v1, rfl⟩
   have y0 := ZD (v * v) (by decide : (2147483629 : Int) ≠ 0)
   have y1 := ZC (v * v) (by decide : (0 : Int) < 2147483629)
   refine QA (Q6 (a := v * v) (b := 2147483629) (QT (a := v) (b := v) rfl rfl rfl rfl (QaG (by omega))) rfl rfl rfl (by decide)) ⟨v * v % 2147483629, rfl, rfl, QnE (by
    have : (v * v % 2147483629).natAbs < 2147483629 := by omega
    exact Nat.lt_trans this (by decide))⟩
  obtain ⟨o, h1, h2⟩ := run
  cases o with
  | rt d fr =>
   obtain ⟨v, rfl, rfl, h3⟩ := h2
   exact ⟨v, by unfold Ql; rw [h1]; rfl, h3⟩
  | _ => exact h2.elim
 refine ⟨λ k => if h : k <= 1000 then (key k h).choose else 0, λ k hk => ?_⟩
 dsimp only
 rw [dif_pos hk]
 exact (key k hk).choose_spec
noncomputable def QfU : DS := (Qe (QM (dOp Qaq (dOp QZ (QS (Qa 0) (dOp QeX (dC (.int 618970019642690137449562111)) (dC (.int 3)))) (Qz (QS (dC (.int 2)) (Qa 1)) (dC (.int 1)))) (Qa 1))) Qm)
theorem Qtc : QdJ (618970019642690137449562111 ^ 3) := by decide +kernel
def QhT (d : Den) : Prop := ∀ c far : Int, QdJ c -> 0 <= far -> ∃ v, d [.int c, .int far] = some (.int v, true) /\ -far <= v /\ v <= far
theorem Qpm : QhT (Ql 2 QfU) := λ c far hc h0 => by
 have ep : ∀ ρ : En, dOp QeX (dC (.int 618970019642690137449562111)) (dC (.int 3)) ρ = some ⟨.int (618970019642690137449562111 ^ 3), true, []⟩ := λ ρ => QgF (a := 618970019642690137449562111) (k := 3) (by decide) (by decide)
 have hb := Qtc
 generalize (618970019642690137449562111 : Int) ^ 3 = big at ep hb
 have x0 := ZD (c * big) (by omega : 2 * far + 1 ≠ 0)
 have x1 := ZC (c * big) (by omega : 0 < 2 * far + 1)
 refine ⟨c * big % (2 * far + 1) - far, Q4 (QA (Qae (d := .int (c * big % (2 * far + 1) - far)) (rb := ⟨.int far, true, []⟩) (Q6 (a := c * big) (b := 2 * far + 1) (QT (a := c) (b := big) rfl rfl (ep _) rfl (Qee hc hb)) rfl (QP (a := 2 * far) (b := 1) (QT (a := 2) (b := far) rfl rfl rfl rfl (QaG (by decide))) rfl rfl rfl) rfl (by omega)) rfl rfl) ⟨rfl, rfl⟩), by omega, by omega⟩
theorem QrL {fa fb : DE} {ρ : En} {ra rb : R} {m k : Nat} {f g : Nat -> Int} (ha : fa ρ = some ra) (ea : ra.d = Qb m f) (hb : fb ρ = some rb) (eb : rb.d = Qb k g) (hl : m + k <= 1000) : Qz fa fb ρ = some ⟨Qb (m + k) (λ i => if i < m then f i else g (i - m)), true, []⟩ := by
 have e : Qb (m + k) (λ i => if i < m then f i else g (i - m)) = .lst (((List.range m).map λ i => D.int (f i)) ++ ((List.range k).map λ i => D.int (g i))) := by
  unfold Qb
  rw [List.range_add, Zax, Zaf]
  congr 2
  ·refine ZA λ i hi => ?_
   show D.int (if i < m then f i else g (i - m)) = _
   rw [if_pos (Zn.mp hi)]
  ·refine ZA λ i hi => ?_
   show D.int (if m + i < m then f (m + i) else g (m + i - m)) = _
   rw [if_neg (by omega), Nat.add_sub_cancel_left]
 rw [e]
 unfold Qz
 rw [ha, Za, hb, Za, ea, eb]
 simp only [Qb, Zh, Zp, QgI]
 rw [if_pos (by omega)]
 unfold Qan
 rw [if_pos]
 rw [Qcu, Zl]
 exact ⟨Qbl (λ _ => rfl) _, Qbl (λ _ => rfl) _⟩
noncomputable def sm : Nat -> (Nat -> Int) -> Int
 | 0, _ => 0
 | n + 1, f => sm n f + f n
theorem Qbr {f g : Nat -> Int} : ∀ {n : Nat}, (∀ i, i < n -> f i = g i) -> sm n f = sm n g
 | 0, _ => rfl
 | n + 1, h => by unfold sm; rw [Qbr λ i hi => h i (by omega), h n (by omega)]
theorem QiA (x y : Int) (f g : Nat -> Int) : ∀ n, sm n (λ i => x * f i + y * g i) = x * sm n f + y * sm n g
 | 0 => by simp [sm]
 | n + 1 => by
  unfold sm
  rw [QiA x y f g n, ZaM, ZaM]
  show _ + (x * f n + y * g n) = _
  omega
theorem Qjg {f : Nat -> Int} : ∀ {n : Nat}, (∀ i, i < n -> f i = 0) -> sm n f = 0
 | 0, _ => rfl
 | n + 1, h => by unfold sm; rw [Qjg λ i hi => h i (by omega), h n (by omega)]; rfl
theorem QdQ {f : Nat -> Int} {c : Nat} : ∀ {n : Nat}, c < n -> (∀ i, i < n -> i ≠ c -> f i = 0) -> sm n f = f c
 | 0, hc, _ => by omega
 | n + 1, hc, h => by
  unfold sm
  by_cases e : c = n
  ·rw [Qjg λ i hi => h i (by omega) (by omega), e]; omega
  ·rw [QdQ (c := c) (by omega) λ i hi => h i (by omega), h n (by omega) (Ne.symm e)]; omega
theorem QiR {f : Nat -> Int} {c d : Nat} : ∀ {n : Nat}, c < d -> d < n -> (∀ i, i < n -> i ≠ c -> i ≠ d -> f i = 0) -> sm n f = f c + f d
 | 0, _, hc, _ => by omega
 | n + 1, hcd, hd, h => by
  unfold sm
  by_cases e : d = n
  ·rw [QdQ (c := c) (by omega) λ i hi ne => h i (by omega) ne (by omega), e]
  ·rw [QiR (c := c) (d := d) hcd (by omega) λ i hi => h i (by omega), h n (by omega) (by omega) (by omega)]; omega
theorem Qnu (x : Int) (f : Nat -> Int) : ∀ n, sm n (λ i => f i * x) = sm n f * x
 | 0 => by simp [sm]
 | n + 1 => by unfold sm; rw [Qnu x f n, ZK]
noncomputable def skp (j c : Nat) : Nat := if c < j then c else c + 1
noncomputable def sgn (j : Nat) : Int := if j % 2 = 0 then 1 else -1
theorem QhH (j : Nat) : sgn (j + 1) = - sgn j := by
 unfold sgn
 by_cases h : j % 2 = 0
 ·rw [if_pos h, if_neg (by omega)]
 ·rw [if_neg h, if_pos (by omega)]; rfl
noncomputable def det : Nat -> (Nat -> Nat -> Int) -> Int
 | 0, _ => 1
 | n + 1, m => sm (n + 1) λ j => sgn j * m j 0 * det n λ c r => m (skp j c) (r + 1)
noncomputable def cup (m : Nat -> Nat -> Int) (c : Nat) (a : Nat -> Int) : Nat -> Nat -> Int := λ j => if j = c then a else m j
theorem QR (m : Nat -> Nat -> Int) (c : Nat) (a : Nat -> Int) : cup m c a c = a := by unfold cup; rw [if_pos rfl]
theorem QG (m : Nat -> Nat -> Int) {c j : Nat} (a : Nat -> Int) (h : j ≠ c) : cup m c a j = m j := by unfold cup; rw [if_neg h]
theorem Qar (m : Nat -> Nat -> Int) (c : Nat) : cup m c (m c) = m := by
 funext j
 by_cases h : j = c
 ·rw [h, QR]
 ·rw [QG _ _ h]
theorem Qjn (m : Nat -> Nat -> Int) (c : Nat) (a b : Nat -> Int) : cup (cup m c a) c b = cup m c b := by
 funext j
 by_cases h : j = c
 ·rw [h, QR, QR]
 ·rw [QG _ _ h, QG _ _ h, QG _ _ h]
theorem QaB (m : Nat -> Nat -> Int) {c d : Nat} (a b : Nat -> Int) (h : c ≠ d) : cup (cup m c a) d b = cup (cup m d b) c a := by
 funext j
 by_cases h1 : j = c
 ·subst h1; rw [QG _ _ h, QR, QR]
 ·by_cases h2 : j = d
  ·subst h2; rw [QR, QG _ _ h1, QR]
  ·rw [QG _ _ h2, QG _ _ h1, QG _ _ h1, QG _ _ h2]
theorem Qcx : ∀ {n : Nat} {m k : Nat -> Nat -> Int}, (∀ j, j < n -> ∀ r, r < n -> m j r = k j r) -> det n m = det n k
 | 0, _, _, _ => rfl
 | n + 1, m, k, h => by
  unfold det
  refine Qbr λ j hj => ?_
  rw [h j hj 0 (by omega), Qcx (n := n) (m := λ c r => m (skp j c) (r + 1)) (k := λ c r => k (skp j c) (r + 1)) λ c hc r hr => h _ (by unfold skp; split <;> omega) _ (by omega)]
theorem Qga (m : Nat -> Nat -> Int) (c : Nat) (v : Nat -> Int) : (λ c' r => cup m c v (skp c c') (r + 1)) = λ c' r => m (skp c c') (r + 1) := by
 funext c' r
 rw [QG _ _ (by unfold skp; split <;> omega)]
theorem QfI (m : Nat -> Nat -> Int) {c j : Nat} (v : Nat -> Int) (h : c ≠ j) : (λ c' r => cup m c v (skp j c') (r + 1)) = cup (λ c' r => m (skp j c') (r + 1)) (if c < j then c else c - 1) (λ r => v (r + 1)) := by
 funext c' r
 by_cases e : c' = if c < j then c else c - 1
 ·rw [e, QR]
  have : skp j (if c < j then c else c - 1) = c := by
   unfold skp
   by_cases q : c < j
   ·rw [if_pos q, if_pos q]
   ·rw [if_neg q, if_neg (by omega)]; omega
  rw [this, QR]
 ·rw [QG _ _ e, QG]
  intro z
  refine e ?_
  unfold skp at z
  by_cases q : c' < j
  ·rw [if_pos q] at z; rw [if_pos (by omega)]; omega
  ·rw [if_neg q] at z; rw [if_neg (by omega)]; omega
theorem QiY (x y : Int) (a b : Nat -> Int) : ∀ (n : Nat) (m : Nat -> Nat -> Int) (c : Nat), c < n -> ∀ (a b : Nat -> Int), det n (cup m c λ r => x * a r + y * b r) = x * det n (cup m c a) + y * det n (cup m c b)
 | 0, _, _, h, _, _ => by omega
 | n + 1, m, c, h, a, b => by
  unfold det
  rw [← QiA]
  refine Qbr λ j hj => ?_
  by_cases e : j = c
  ·subst e
   rw [Qga, Qga, Qga, QR, QR, QR]
   generalize det n _ = q
   generalize sgn j = s
   simp only [ZaM, ZK, Zah, Zbv]
  ·rw [QfI m _ (Ne.symm e), QfI m _ (Ne.symm e), QfI m _ (Ne.symm e), QG _ _ e, QG _ _ e, QG _ _ e]
   rw [QiY x y a b n _ _ (by split <;> omega)]
   generalize det n _ = q
   generalize det n _ = q'
   generalize sgn j * m j 0 = s
   simp only [ZaM, Zbv]
theorem QgZ {n : Nat} {m : Nat -> Nat -> Int} {c : Nat} (h : c < n) (a b : Nat -> Int) : det n (cup m c λ r => a r + b r) = det n (cup m c a) + det n (cup m c b) := by
 have := QiY 1 1 a b n m c h a b
 simpa only [Zal] using this
theorem QgR {n : Nat} {m : Nat -> Nat -> Int} {c : Nat} (h : c < n) (x : Int) (a : Nat -> Int) : det n (cup m c λ r => x * a r) = x * det n (cup m c a) := by
 have := QiY x 0 a a n m c h a a
 simpa only [ZN, ZaP] using this
theorem QgK : ∀ (n : Nat) (m : Nat -> Nat -> Int) (c : Nat), c + 1 < n -> m c = m (c + 1) -> det n m = 0
 | 0, _, _, h, _ => by omega
 | n + 1, m, c, h, e => by
  unfold det
  rw [QiR (c := c) (d := c + 1) (by omega) h]
  ·have : (λ c' r => m (skp c c') (r + 1)) = λ c' r => m (skp (c + 1) c') (r + 1) := by
    funext c' r
    unfold skp
    by_cases q : c' < c
    ·rw [if_pos q, if_pos (by omega)]
    ·rw [if_neg q]
     by_cases q2 : c' = c
     ·rw [if_pos (by omega), q2, e]
     ·rw [if_neg (by omega)]
   rw [this, QhH, e]
   generalize det n _ = q
   rw [Zav, Zav]; omega
  ·intro j hj h1 h2
   have : det n (λ c' r => m (skp j c') (r + 1)) = 0 := by
    by_cases q : c < j
    ·refine QgK n _ c (by omega) ?_
     funext r
     show m (skp j c) (r + 1) = m (skp j (c + 1)) (r + 1)
     unfold skp
     rw [if_pos q, if_pos (by omega), e]
    ·refine QgK n _ (c - 1) (by omega) ?_
     funext r
     show m (skp j (c - 1)) (r + 1) = m (skp j (c - 1 + 1)) (r + 1)
     unfold skp
     rw [if_neg (by omega), if_neg (by omega), show c - 1 + 1 = c by omega, e]
   rw [this, Zaa]
theorem Qhd {n : Nat} {m : Nat -> Nat -> Int} {c d : Nat} (hc : c < n) (hd : d < n) (hcd : c ≠ d) (hz : ∀ k : Nat -> Nat -> Int, k c = k d -> det n k = 0) (a b : Nat -> Int) : det n (cup (cup m c a) d b) = - det n (cup (cup m c b) d a) := by
 have z := hz (cup (cup m c λ r => a r + b r) d λ r => a r + b r) (by rw [QR, QG _ _ hcd, QR])
 have za := hz (cup (cup m c a) d a) (by rw [QR, QG _ _ hcd, QR])
 have zb := hz (cup (cup m c b) d b) (by rw [QR, QG _ _ hcd, QR])
 rw [QgZ hd, QaB _ _ _ hcd, QgZ hc, QaB _ _ _ hcd, QgZ hc, QaB _ _ _ (Ne.symm hcd), QaB _ _ _ (Ne.symm hcd), QaB _ _ _ (Ne.symm hcd), QaB _ _ _ (Ne.symm hcd), za, zb] at z
 omega
theorem QiS : ∀ (g n : Nat) (m : Nat -> Nat -> Int) (i : Nat), i + g + 1 < n -> m i = m (i + g + 1) -> det n m = 0
 | 0, n, m, i, h, e => QgK n m i h e
 | g + 1, n, m, i, h, e => by
  have := Qhd (m := m) (c := i + g + 1) (d := i + g + 1 + 1) (by omega) (by omega) (by omega) (λ k hk => QgK n k _ (by omega) hk) (m (i + g + 1)) (m (i + g + 1 + 1))
  rw [Qar, Qar] at this
  rw [this, QiS g n _ i (by omega)]
  ·rfl
  ·rw [QG _ _ (by omega), QG _ _ (by omega), QG _ _ (by omega), QR]
   exact e
theorem Qf7 {n : Nat} {m : Nat -> Nat -> Int} {i j : Nat} (hi : i < n) (hj : j < n) (hij : i ≠ j) (e : m i = m j) : det n m = 0 := by
 rcases Nat.lt_or_gt_of_ne hij with h | h
 ·exact QiS (j - i - 1) n m i (by omega) (by rw [show i + (j - i - 1) + 1 = j by omega]; exact e)
 ·exact QiS (i - j - 1) n m j (by omega) (by rw [show j + (i - j - 1) + 1 = i by omega]; exact e.symm)
theorem Qdo {n : Nat} {m : Nat -> Nat -> Int} {c d : Nat} (hc : c < n) (hd : d < n) (hcd : c ≠ d) (a b : Nat -> Int) : det n (cup (cup m c a) d b) = - det n (cup (cup m c b) d a) := Qhd hc hd hcd (λ k hk => Qf7 hc hd hcd hk) a b
theorem Qfm {n : Nat} {m : Nat -> Nat -> Int} {c : Nat} (h : c < n) (x : Nat -> Int) (E : Nat -> Nat -> Int) : ∀ k, det n (cup m c λ r => sm k λ s => x s * E s r) = sm k λ s => x s * det n (cup m c (E s))
 | 0 => by
  have := QgR (m := m) h 0 λ _ => 0
  rw [ZN] at this
  unfold sm
  simpa using this
 | k + 1 => by
  unfold sm
  rw [QgZ h, Qfm h x E k, QgR h]
theorem Qpj : ∀ {n : Nat} (σ : Nat -> Nat), (∀ j, j < n + 1 -> σ j < n) -> ∃ i j, i < n + 1 /\ j < n + 1 /\ i ≠ j /\ σ i = σ j
 | 0, σ, h => absurd (h 0 (by omega)) (by omega)
 | n + 1, σ, h => by
  by_cases q : ∃ i, i < n + 1 /\ σ i = σ (n + 1)
  ·obtain ⟨i, hi, e⟩ := q
   exact ⟨i, n + 1, by omega, by omega, by omega, e⟩
  ·have ne : ∀ i, i < n + 1 -> σ i ≠ σ (n + 1) := λ i hi e => q ⟨i, hi, e⟩
   have hv := h (n + 1) (by omega)
   obtain ⟨i, j, hi, hj, hij, e⟩ := Qpj (n := n) (λ j => if σ (n + 1) < σ j then σ j - 1 else σ j) λ j hj => by
    have := h j (by omega)
    have := ne j hj
    show (if σ (n + 1) < σ j then σ j - 1 else σ j) < n
    by_cases c : σ (n + 1) < σ j
    ·rw [if_pos c]; omega
    ·rw [if_neg c]; omega
   refine ⟨i, j, by omega, by omega, hij, ?_⟩
   have a := ne i hi
   have b := ne j hj
   have e : (if σ (n + 1) < σ i then σ i - 1 else σ i) = (if σ (n + 1) < σ j then σ j - 1 else σ j) := e
   by_cases c : σ (n + 1) < σ i
   ·rw [if_pos c] at e
    by_cases d : σ (n + 1) < σ j
    ·rw [if_pos d] at e; omega
    ·rw [if_neg d] at e; omega
   ·rw [if_neg c] at e
    by_cases d : σ (n + 1) < σ j
    ·rw [if_pos d] at e; omega
    ·rw [if_neg d] at e; omega
theorem Qmf {n : Nat} {E : Nat -> Nat -> Int} {x : Nat -> Nat -> Int} : ∀ (k : Nat) (W : Nat -> Nat -> Int) (σ : Nat -> Nat), k <= n + 1 -> (∀ j, j < n + 1 -> σ j < n) -> (∀ j, j < k -> W j = λ r => sm n λ s => x j s * E s r) -> (∀ j, k <= j -> j < n + 1 -> W j = E (σ j)) -> det (n + 1) W = 0
 | 0, W, σ, hk, hσ, _, h2 => by
  obtain ⟨i, j, hi, hj, hij, e⟩ := Qpj σ hσ
  exact Qf7 hi hj hij (by rw [h2 i (by omega) hi, h2 j (by omega) hj, e])
 | k + 1, W, σ, hk, hσ, h1, h2 => by
  have := Qfm (n := n + 1) (m := W) (c := k) (by omega) (x k) E n
  rw [← h1 k (by omega), Qar] at this
  rw [this]
  refine Qjg λ s hs => ?_
  rw [Qmf k (cup W k (E s)) (λ j => if j = k then s else σ j) (by omega) (λ j hj => by show (if j = k then s else σ j) < n; by_cases e : j = k; (rw [if_pos e]; exact hs); (rw [if_neg e]; exact hσ j hj)) (λ j hj => by rw [QG _ _ (by omega)]; exact h1 j (by omega)) λ j h3 h4 => ?_, Zaa]
  show cup W k (E s) j = E (if j = k then s else σ j)
  by_cases e : j = k
  ·rw [e, QR, if_pos rfl]
  ·rw [QG _ _ e, if_neg e]; exact h2 j (by omega) h4
noncomputable def cyc (m : Nat -> Nat -> Int) (a : Nat -> Int) (l k : Nat) : Nat -> Nat -> Int := λ c => if c < k then m c else if c = k then a else if c <= l then m (c - 1) else m c
theorem Qq4 {n : Nat} (m : Nat -> Nat -> Int) (a : Nat -> Int) {l k : Nat} (hk : k < l) (hl : l < n) : det n (cyc m a l k) = - det n (cyc m a l (k + 1)) := by
 have h := Qdo (n := n) (m := cyc m a l k) (c := k) (d := k + 1) (by omega) (by omega) (by omega) a (m k)
 have e1 : cup (cup (cyc m a l k) k a) (k + 1) (m k) = cyc m a l k := by
  have q1 : cyc m a l k k = a := by unfold cyc; rw [if_neg (by omega), if_pos rfl]
  have q2 : cyc m a l k (k + 1) = m k := by unfold cyc; rw [if_neg (by omega), if_neg (by omega), if_pos (by omega), ZaW]
  have := Qar (cyc m a l k) k
  rw [q1] at this
  rw [this, ← q2, Qar]
 have e2 : cup (cup (cyc m a l k) k (m k)) (k + 1) a = cyc m a l (k + 1) := by
  funext c
  by_cases h1 : c = k + 1
  ·subst h1; rw [QR]; unfold cyc; rw [if_neg (by omega), if_pos rfl]
  ·rw [QG _ _ h1]
   by_cases h2 : c = k
   ·subst h2; rw [QR]; unfold cyc; rw [if_pos (by omega)]
   ·rw [QG _ _ h2]
    unfold cyc
    by_cases h3 : c < k
    ·rw [if_pos h3, if_pos (by omega)]
    ·rw [if_neg h3, if_neg h2, if_neg (show ¬ c < k + 1 by omega), if_neg h1]
 rw [e1, e2] at h
 exact h
theorem Qm8 {n : Nat} (m : Nat -> Nat -> Int) (a : Nat -> Int) {l : Nat} (hl : l < n) : ∀ g k, k + g = l -> det n (cyc m a l k) = sgn g * det n (cup m l a)
 | 0, k, h => by
  have : cyc m a l k = cup m l a := by
   funext c
   unfold cyc cup
   by_cases h1 : c = l
   ·rw [if_neg (by omega), if_pos (by omega), if_pos h1]
   ·rw [if_neg h1]
    by_cases h2 : c < k
    ·rw [if_pos h2]
    ·rw [if_neg h2, if_neg (by omega), if_neg (by omega)]
  rw [this]; unfold sgn; simp
 | g + 1, k, h => by
  rw [Qq4 m a (by omega) hl, Qm8 m a hl g (k + 1) (by omega), QhH, Zav]
theorem Qt9 (j : Nat) : sgn j * sgn j = 1 := by unfold sgn; split <;> rfl
noncomputable def bE (r s q : Nat) : Int := if q = 0 then (if s = r then 1 else 0) else if s = q - 1 then 1 else 0
theorem Qig {n : Nat} (m : Nat -> Nat -> Int) (a : Nat -> Int) {r : Nat} (hr : r < n) : det n m * a r = sm n λ l => det n (cup m l a) * m l r := by
 have v0 : ∃ v : Nat -> Nat -> Int, v = λ j => if j = 0 then a else m (j - 1) := ⟨_, rfl⟩
 obtain ⟨v, hv⟩ := v0
 have hv0 : v 0 = a := by rw [hv]; rfl
 have hvs : ∀ j, v (j + 1) = m j := λ j => by rw [hv]; show (if j + 1 = 0 then a else m (j + 1 - 1)) = _; rw [if_neg (by omega), ZaW]
 have z : det (n + 1) (λ j s => if s = 0 then v j r else v j (s - 1)) = 0 := by
  have key : det (n + 1) (λ j q => sm n λ s => v j s * bE r s q) = 0 :=
   Qmf (E := bE r) (x := v) (n + 1) _ (λ _ => r) (by omega) (λ _ _ => hr) (λ j _ => rfl) (λ j h1 h2 => by omega)
  rw [← key]
  refine Qcx λ j hj s hs => ?_
  by_cases e : s = 0
  ·subst e
   rw [if_pos rfl, QdQ (c := r) hr]
   ·unfold bE; rw [if_pos rfl, if_pos rfl, ZaX]
   ·intro i _ ne; unfold bE; rw [if_pos rfl, if_neg ne, Zaa]
  ·rw [if_neg e, QdQ (c := s - 1) (by omega)]
   ·unfold bE; rw [if_neg e, if_pos rfl, ZaX]
   ·intro i _ ne; unfold bE; rw [if_neg e, if_neg ne, Zaa]
 unfold det at z
 have term : ∀ j, (sgn j * (if (0 : Nat) = 0 then v j r else v j (0 - 1)) * det n λ c q => if q + 1 = 0 then v (skp j c) r else v (skp j c) (q + 1 - 1)) = sgn j * v j r * det n λ c => v (skp j c) := λ j => by
  rw [if_pos rfl]
  congr 1
 have first : ∀ (k : Nat) (f : Nat -> Int), sm (k + 1) f = f 0 + sm k λ i => f (i + 1) := λ k f => by
  induction k with
  | zero => show 0 + f 0 = f 0 + 0; omega
  | succ k ih => show sm (k + 1) f + f (k + 1) = _; rw [ih]; show _ = f 0 + (sm k (λ i => f (i + 1)) + f (k + 1)); omega
 rw [Qbr λ j _ => term j, first] at z
 have t0 : (λ c => v (skp 0 c)) = m := by funext c; unfold skp; rw [if_neg (by omega), hvs]
 have tl : ∀ l, l < n -> sgn (l + 1) * v (l + 1) r * det n (λ c => v (skp (l + 1) c)) = - (det n (cup m l a) * m l r) := λ l hl => by
  have : (λ c => v (skp (l + 1) c)) = cyc m a l 0 := by
   funext c
   unfold skp cyc
   by_cases h0 : c = 0
   ·subst h0; rw [if_pos (show 0 < l + 1 by omega), if_neg (show ¬ 0 < 0 by omega), if_pos rfl, hv0]
   ·obtain ⟨c', rfl⟩ : ∃ c', c = c' + 1 := ⟨c - 1, by omega⟩
    rw [if_neg (show ¬ c' + 1 < 0 by omega), if_neg h0]
    by_cases h1 : c' + 1 <= l
    ·rw [if_pos (show c' + 1 < l + 1 by omega), if_pos h1, hvs, ZaW]
    ·rw [if_neg (show ¬ c' + 1 < l + 1 by omega), if_neg h1, hvs]
  rw [this, Qm8 m a hl l 0 (by omega), hvs, QhH]
  have q := Qt9 l
  generalize det n (cup m l a) = d at *
  generalize m l r = x at *
  have : - sgn l * x * (sgn l * d) = - (sgn l * sgn l * (d * x)) := by
   rw [Zav, Zav, Zah, Zbv x, ← Zah, Zak x d]
  rw [this, q, Zal]
 rw [t0, hv0] at z
 have neg := QiA (-1) 0 (λ l => det n (cup m l a) * m l r) (λ _ => 0) n
 rw [Qbr (g := λ l => -1 * (det n (cup m l a) * m l r) + 0 * 0) λ l hl => by rw [tl l hl]; omega] at z
 have s0 : sgn 0 = 1 := rfl
 rw [neg, s0, Zal] at z
 rw [Zak]
 omega
theorem Qro {n : Nat} (m : Nat -> Nat -> Int) (u a : Nat -> Int) {k i : Nat} (hk : k < n) (hi : i < n) (hki : k ≠ i) : det n m * det n (cup (cup m k u) i a) = det n (cup m k u) * det n (cup m i a) - det n (cup m i u) * det n (cup m k a) := by
 have h1 : det n m * det n (cup (cup m k u) i a) = det n (cup (cup m i a) k λ r => det n m * u r) := by
  rw [QgR hk, QaB _ _ _ hki]
 have h2 : det n (cup (cup m i a) k λ r => det n m * u r) = det n (cup (cup m i a) k λ r => sm n λ l => det n (cup m l u) * m l r) := by
  refine Qcx λ j hj r hr => ?_
  by_cases e : j = k
  ·subst e; rw [QR, QR]; exact Qig m u hr
  ·rw [QG _ _ e, QG _ _ e]
 rw [h1, h2, Qfm hk (λ l => det n (cup m l u)) m n]
 have tk : det n (cup (cup m i a) k (m k)) = det n (cup m i a) := by rw [QaB _ _ _ (Ne.symm hki), Qar]
 have ti : det n (cup (cup m i a) k (m i)) = - det n (cup m k a) := by
  rw [Qdo hi hk (Ne.symm hki), Qar]
 have tn : ∀ l, l < n -> l ≠ k -> l ≠ i -> det n (cup (cup m i a) k (m l)) = 0 := λ l hl h1 h2 => Qf7 hk hl (Ne.symm h1) (by rw [QR, QG _ _ h1, QG _ _ h2])
 rcases Nat.lt_or_gt_of_ne hki with h | h
 ·rw [QiR (c := k) (d := i) h hi λ l hl a b => by rw [tn l hl a b, Zaa], tk, ti, Zau]; omega
 ·rw [QiR (c := i) (d := k) h hk λ l hl a b => by rw [tn l hl b a, Zaa], tk, ti, Zau]; omega
noncomputable def Qa9 (j r : Nat) : Int := if j = r then 1 else 0
theorem QhK : ∀ n, det n Qa9 = 1
 | 0 => rfl
 | n + 1 => by
  unfold det
  rw [QdQ (c := 0) (by omega) λ i _ ne => by unfold Qa9; rw [if_neg ne, Zaa, ZN]]
  have : (λ c r => Qa9 (skp 0 c) (r + 1)) = Qa9 := by
   funext c r
   have e : skp 0 c = c + 1 := by unfold skp; rw [if_neg (by omega)]
   rw [e]
   unfold Qa9
   by_cases h : c = r
   ·rw [if_pos h, if_pos (by omega)]
   ·rw [if_neg h, if_neg (by omega)]
  rw [this, QhK n]
  unfold Qa9 sgn
  simp
theorem QlL {n : Nat} (a : Nat -> Int) {i : Nat} (hi : i < n) : det n (cup Qa9 i a) = a i := by
 have := Qig Qa9 a hi
 rw [QhK, Zal, QdQ (c := i) hi λ l _ ne => by rw [show Qa9 l i = 0 by unfold Qa9; rw [if_neg ne], Zaa]] at this
 rw [this, show Qa9 i i = 1 by unfold Qa9; rw [if_pos rfl], ZaX]
structure Clr (n N k : Nat) (A m R : Nat -> Nat -> Int) (d : Int) : Prop where
 le : k <= n
 det : HS.det n m = d
 nz : d ≠ 0
 ent : ∀ i j, i < n -> j < N -> R i j = HS.det n (cup m i (A j))
 own : ∀ j, j < k -> m j = A j
theorem Clr.start (n N : Nat) (A : Nat -> Nat -> Int) : Clr n N 0 A Qa9 (λ i j => A j i) 1 := ⟨by omega, QhK n, by decide, λ i j hi _ => (QlL (A j) hi).symm, λ j hj => by omega⟩
theorem Clr.exact {n N k : Nat} {A m R : Nat -> Nat -> Int} {d : Int} (h : Clr n N k A m R d) (hk : k < n) (kN : k < N) {i j : Nat} (hi : i < n) (hj : j < N) (ne : i ≠ k) : R k k * R i j - R i k * R k j = d * HS.det n (cup (cup m k (A k)) i (A j)) := by
 rw [h.ent k k hk kN, h.ent i j hi hj, h.ent i k hi kN, h.ent k j hk hj, ← Qro m (A k) (A j) hk hi (Ne.symm ne), h.det]
theorem Clr.step {n N k : Nat} {A m R R' : Nat -> Nat -> Int} {d : Int} (h : Clr n N k A m R d) (hk : k < n) (kN : k < N) (hp : R k k ≠ 0) (h1 : ∀ j, j < N -> R' k j = R k j) (h2 : ∀ i j, i < n -> i ≠ k -> j < N -> ∀ q, R k k * R i j - R i k * R k j = d * q -> R' i j = q) : Clr n N (k + 1) A (cup m k (A k)) R' (R k k) := by
 refine ⟨hk, (h.ent k k hk kN).symm, hp, λ i j hi hj => ?_, λ j hj => ?_⟩
 ·by_cases e : i = k
  ·subst e
   rw [h1 j hj, h.ent i j hi hj, Qjn]
  ·exact h2 i j hi e hj _ (h.exact hk kN hi hj e)
 ·by_cases e : j = k
  ·subst e; rw [QR]
  ·rw [QG _ _ e]; exact h.own j (by omega)
theorem Clr.swap {n N k : Nat} {A m R R' : Nat -> Nat -> Int} {d : Int} (h : Clr n N k A m R d) {i : Nat} (hk : k < n) (hi : i < n) (hki : k < i) (h1 : ∀ j, j < N -> R' k j = R i j) (h2 : ∀ j, j < N -> R' i j = - R k j) (h3 : ∀ l j, l < n -> l ≠ k -> l ≠ i -> j < N -> R' l j = R l j) : ∃ m', Clr n N k A m' R' d := by
 have ne : k ≠ i := by omega
 have neg : ∀ (c : Nat), c < n -> ∀ (M : Nat -> Nat -> Int) (a : Nat -> Int), HS.det n (cup M c λ r => - a r) = - HS.det n (cup M c a) := λ c hc M a => by
  have := QgR (m := M) hc (-1) a
  simpa only [Zav, Zal] using this
 refine ⟨cup (cup m k (m i)) i λ r => - m k r, h.le, ?_, h.nz, λ l j hl hj => ?_, λ j hj => ?_⟩
 ·rw [neg i hi, Qdo hk hi ne, Zbu, Qar, Qar]; exact h.det
 ·by_cases e1 : l = k
  ·subst e1
   rw [h1 j hj, h.ent i j hi hj, QaB _ _ _ (Ne.symm ne), Qjn, neg i hi, Qdo hl hi ne, Zbu, Qar]
  ·by_cases e2 : l = i
   ·subst e2
    rw [h2 j hj, h.ent k j hk hj, Qjn, Qdo hk hl ne, QaB _ _ _ ne]
    have := Qar m l
    rw [this]
   ·rw [h3 l j hl e1 e2 hj, h.ent l j hl hj, QaB _ _ _ (Ne.symm e2), neg i hi, QaB _ _ _ (Ne.symm e1), Qdo hk hi ne, Zbu]
    rw [QaB _ _ _ e1, Qar, QaB _ _ _ e2, Qar]
 ·rw [QG _ _ (by omega), QG _ _ (by omega)]; exact h.own j hj
theorem Clr.tell {n N k : Nat} {A m R : Nat -> Nat -> Int} {d : Int} (h : Clr n N k A m R d) {j r : Nat} (hj : j < N) (hr : r < n) : d * A j r = sm n λ l => R l j * m l r := by
 have := Qig m (A j) hr
 rw [h.det] at this
 rw [this]
 exact Qbr λ l hl => by rw [h.ent l j hl hj]
noncomputable def bnd (B : Nat) : Nat -> Nat
 | 0 => 1
 | n + 1 => (n + 1) * (B * bnd B n)
theorem Qoz {f : Nat -> Int} {C : Nat} : ∀ {n : Nat}, (∀ i, i < n -> (f i).natAbs <= C) -> (sm n f).natAbs <= n * C
 | 0, _ => by simp [sm]
 | n + 1, h => by
  unfold sm
  have h1 := Qoz (n := n) λ i hi => h i (by omega)
  have h2 := h n (by omega)
  have := Int.natAbs_add_le (sm n f) (f n)
  rw [Nat.succ_mul]
  omega
theorem Qtr (j : Nat) : (sgn j).natAbs = 1 := by unfold sgn; split <;> rfl
theorem Qd8 {B : Nat} : ∀ {n : Nat} {m : Nat -> Nat -> Int}, (∀ j, j < n -> ∀ r, r < n -> (m j r).natAbs <= B) -> (det n m).natAbs <= bnd B n
 | 0, _, _ => by show (1 : Int).natAbs <= 1; decide
 | n + 1, m, h => by
  unfold det bnd
  refine Qoz λ j hj => ?_
  rw [ZaI, ZaI, Qtr, Nat.one_mul]
  refine Zbp (h j hj 0 (by omega)) (Qd8 λ c hc r hr => h _ ?_ _ (by omega))
  unfold skp
  split <;> omega
theorem Qgo {n : Nat} (hn : n <= 8) : bnd (2 ^ 200) n < 2 ^ 2000 := by
 have h : ∀ k, k < 9 -> bnd (2 ^ 200) k < 2 ^ 2000 := by decide +kernel
 exact h n (by omega)
def QnR (n : Nat) (m : Nat -> Nat -> Int) : Prop := ∀ j, j < n -> ∀ r, r < n -> (m j r).natAbs <= 2 ^ 200
def QfM (n : Nat) (A : Nat -> Nat -> Int) : Prop := ∀ k, k < n -> ∀ c : Nat -> Int, (∀ r, r <= k -> sm (k + 1) (λ l => c l * A l r) = 0) -> c k = 0
structure QcN (n N k : Nat) (A m R : Nat -> Nat -> Int) (d : Int) : Prop where
 clr : Clr n N k A m R d
 unit : ∀ l, k <= l -> l < n -> m l = Qa9 l
 col : QnR n m
theorem QnR.put {n : Nat} {m : Nat -> Nat -> Int} (h : QnR n m) {i : Nat} {a : Nat -> Int} (ha : ∀ r, r < n -> (a r).natAbs <= 2 ^ 200) : QnR n (cup m i a) := λ j hj r hr => by
 by_cases e : j = i
 ·subst e; rw [QR]; exact ha r hr
 ·rw [QG _ _ e]; exact h j hj r hr
theorem QcN.start (n N : Nat) (A : Nat -> Nat -> Int) : QcN n N 0 A Qa9 (λ i j => A j i) 1 := ⟨Clr.start n N A, λ _ _ _ => rfl, λ j _ r _ => by unfold Qa9; split <;> decide⟩
theorem QcN.small {n N k : Nat} {A m R : Nat -> Nat -> Int} {d : Int} (h : QcN n N k A m R d) (hn : n <= 8) (hA : ∀ j, j < N -> ∀ r, r < n -> (A j r).natAbs <= 2 ^ 200) : d.natAbs < 2 ^ 2000 /\ ∀ i j, i < n -> j < N -> (R i j).natAbs < 2 ^ 2000 := by
 have b := Qgo hn
 refine ⟨?_, λ i j hi hj => ?_⟩
 ·rw [← h.clr.det]; exact Zaq (Qd8 h.col) b
 ·rw [h.clr.ent i j hi hj]; exact Zaq (Qd8 (h.col.put (hA j hj))) b
theorem Qhp {f : Nat -> Int} {k : Nat} : ∀ {n : Nat}, k <= n -> (∀ i, k <= i -> i < n -> f i = 0) -> sm n f = sm k f
 | 0, h, _ => by rw [Nat.le_zero.mp h]
 | n + 1, h, z => by
  by_cases e : k = n + 1
  ·rw [e]
  ·show sm n f + f n = sm k f
   rw [Qhp (n := n) (by omega) λ i h1 h2 => z i h1 (by omega), z n (by omega) (by omega), ZaP]
theorem QcN.Qsd {n N k : Nat} {A m R : Nat -> Nat -> Int} {d : Int} (h : QcN n N k A m R d) (hk : k < n) (kN : k < N) (hl : QfM n A) : R k k ≠ 0 := λ z => by
 refine h.clr.nz ?_
 have := hl k hk (λ l => if l = k then - d else R l k) λ r hr => by
  have t := h.clr.tell kN (show r < n by omega)
  rw [Qhp (k := k) (by omega)] at t
  ·show (sm k λ l => (if l = k then - d else R l k) * A l r) + (if k = k then - d else R k k) * A k r = 0
   rw [if_pos rfl, Qbr (g := λ l => R l k * m l r) λ l hl => by rw [if_neg (by omega), h.clr.own l hl], ← t, Zav]
   omega
  ·intro l h1 h2
   by_cases e : l = k
   ·rw [e, z, ZN]
   ·rw [h.unit l (by omega) h2, show Qa9 l r = 0 by unfold Qa9; rw [if_neg (by omega)], Zaa]
 rw [if_pos rfl] at this
 omega
theorem QcN.step {n N k : Nat} {A m R R' : Nat -> Nat -> Int} {d : Int} (h : QcN n N k A m R d) (hk : k < n) (kN : k < N) (hA : ∀ j, j < N -> ∀ r, r < n -> (A j r).natAbs <= 2 ^ 200) (hp : R k k ≠ 0) (h1 : ∀ j, j < N -> R' k j = R k j) (h2 : ∀ i j, i < n -> i ≠ k -> j < N -> ∀ q, R k k * R i j - R i k * R k j = d * q -> R' i j = q) : QcN n N (k + 1) A (cup m k (A k)) R' (R k k) :=
 ⟨h.clr.step hk kN hp h1 h2, λ l h3 h4 => by rw [QG _ _ (by omega)]; exact h.unit l (by omega) h4, h.col.put (hA k kN)⟩
theorem Qbq {i : Int} (h : i.natAbs < 2 ^ 2000) : QdJ i := Zx (ZbE h) (by decide)
theorem Qn9 {a d q : Int} (hd : d ≠ 0) (h : a = d * q) : Qde a d = q := by
 rw [Qjm, h, Int.mul_fdiv_cancel_left q hd]
theorem Qb1 {fa fb : DE} {ρ : En} {ra rb : R} {a b : Int} (ha : fa ρ = some ra) (ea : ra.d = .int a) (hb : fb ρ = some rb) (eb : rb.d = .int b) : dOp Qaq fa fb ρ = some ⟨.int (a - b), true, []⟩ := by
 refine Qae ha hb ?_
 rw [ea, eb]; rfl
theorem Qjx {fa fb : DE} {ρ : En} {ra rb : R} {a b q : Int} (ha : fa ρ = some ra) (ea : ra.d = .int a) (hb : fb ρ = some rb) (eb : rb.d = .int b) (hz : b ≠ 0) (h2 : b.natAbs < 2 ^ 2000) (h : a = b * q) : dOp Qba fa fb ρ = some ⟨.int q, true, []⟩ := by
 refine Qae ha hb ?_
 rw [ea, eb]
 show (if Qbt b = true then some (D.int (Qde a b)) else none) = _
 have : Qbt b = true := by
  unfold Qbt
  simp only [Zl, decide_eq_true_eq]
  exact ⟨hz, Zu h2 (ZH (by decide) (by decide))⟩
 rw [if_pos this, Qn9 hz h]
noncomputable def Qhg : DS := (Qe (QM (QF (QaR (Qa 0) (Qa 1)) (.tp [1, 2]) [none, none, none, some 2, some 3, some 0, some 1] QL (dOp Qba (dOp Qaq (QS (Qn (Qa 6) (Qa 3)) (Qa 1)) (QS (Qn (Qa 5) (Qa 3)) (Qa 2))) (Qa 4)))) Qm)
def Qi5 (d : Den) : Prop := ∀ (N k : Nat) (a p q : Nat -> Int) (b : Int), k < N -> b ≠ 0 -> b.natAbs < 2 ^ 2000 -> (∀ j, j < N -> (a j).natAbs < 2 ^ 2000 /\ (p j).natAbs < 2 ^ 2000) -> (∀ j, j < N -> p k * a j - a k * p j = b * q j) -> d [Qb N a, Qb N p, .int k, .int b] = some (Qb N q, true)
theorem Qqn : Qi5 (Ql 4 Qhg) := λ N k a p q b hk hb hb2 hs hq =>
 Q4 (QA (r := ⟨Qb N q, true, []⟩) (QE (toD := λ (i : Nat) => .tup [.int (a i), .int (p i)]) (out := λ (i : Nat) => .int (q i)) (List.range N) (Qbi (f := λ i => .int (a i)) (g := λ i => .int (p i)) (ra := ⟨Qb N a, false, []⟩) (rb := ⟨Qb N p, false, []⟩) rfl rfl rfl rfl) rfl λ i hi => ⟨[none, some (.int (a i), true), some (.int (p i), true), some (.int k, true), some (.int b, true), some (Qb N a, false), some (Qb N p, false)], rfl, ⟨.int (q i), true, []⟩, by
  have hi' := Zn.mp hi
  refine Qjx (Qb1 (a := p k * a i) (b := a k * p i) (QT (a := p k) (b := a i) (Qaj (m := N) (f := p) (ra := ⟨Qb N p, false, []⟩) (rb := ⟨.int k, true, []⟩) rfl rfl rfl rfl hk) rfl (rb := ⟨.int (a i), true, []⟩) rfl rfl (Qee (Qbq (hs k hk).2) (Qbq (hs i hi').1))) rfl (QT (a := a k) (b := p i) (Qaj (m := N) (f := a) (ra := ⟨Qb N a, false, []⟩) (rb := ⟨.int k, true, []⟩) rfl rfl rfl rfl hk) rfl (rb := ⟨.int (p i), true, []⟩) rfl rfl (Qee (Qbq (hs k hk).1) (Qbq (hs i hi').2))) rfl) rfl (rb := ⟨.int b, true, []⟩) rfl rfl hb hb2 (hq i hi'), rfl, rfl⟩) ⟨rfl, rfl⟩)
noncomputable def Qgk (Qao : Den) : DS := (Qe (Qp 2 (QF (Qd6 (Qa 1) (dBf Qav (Qc (Qa 0) Qf))) (.nm 1) [none, none, some 1, some 0] (QI (dOp gNe (Qn (Qn (Qa 3) (Qa 1)) (Qa 2)) (dC (.int 0)))) (Qa 1))) (Qe (sIf (bOr (Qdj (QI (Qa 2))) (QI (dOp gEq (Qn (Qa 2) (dC (.int 0))) (Qa 1)))) (Qe (QM (Qa 0)) Qm) Qm) (Qe (Qp 3 (dList (Qc (Qa 0) Qf))) (Qe (Qa4 3 Qam (Qa 1) (Qn (Qa 0) (Qn (Qa 2) (dC (.int 0))))) (Qe (Qa4 3 Qam (Qn (Qa 2) (dC (.int 0))) (Qr 1 Qao [] (Qc (Qn (Qa 0) (Qa 1)) Qf))) (Qe (QM (Qa 3)) Qm))))))
def Qjy (d : Den) : Prop := ∀ (n N k : Nat) (f : Nat -> Nat -> Int), k < n -> n <= 1000 -> k < N -> f k k ≠ 0 -> d [Qi n N f, .int k] = some (Qi n N f, false)
theorem Qqg {dop : Den} : Qjy (Ql 4 (Qgk dop)) := λ n N k f hk hn kN hp => by
 have eI := Qfj (fi := Qd6 (Qa 1) (dBf Qav (Qc (Qa 0) Qf))) (t := .nm 1) (cap := [none, none, some 1, some 0]) (ft := QI (dOp gNe (Qn (Qn (Qa 3) (Qa 1)) (Qa 2)) (dC (.int 0)))) (fe := Qa 1) (ρ := [some (Qi n N f, false), some (.int k, true), none, none])
  (toD := λ (i : Nat) => .int ((k : Int) + i)) (keep := λ i => !decide (f (k + i) k = 0)) (out := λ (i : Nat) => .int ((k : Int) + i)) (List.range (n - k)) (QpL (i := k) (j := n) (n := n - k) (ra := ⟨.int k, true, []⟩) rfl rfl (Qed (n := n) (m := N) (f := f) (r := ⟨Qi n N f, false, []⟩) rfl rfl) rfl (by omega) (by omega) (by omega) (by omega)) rfl λ i hi => ⟨[none, some (.int ((k : Int) + i), true), some (.int k, true), some (Qi n N f, false)], rfl, by
   have hi' := Zn.mp hi
   refine QH (Qdd (a := f (k + i) k) (b := 0) (Qaj (m := N) (f := f (k + i)) (i := k) ((Qc6 (m := n) (n := N) (f := f) (i := (k : Int) + i) (ra := ⟨Qi n N f, false, []⟩) (rb := ⟨.int ((k : Int) + i), true, []⟩) rfl rfl rfl rfl (by omega) (by omega)).trans (by rw [show ((k : Int) + i).toNat = k + i by omega])) rfl (rb := ⟨.int k, true, []⟩) rfl rfl kN) rfl rfl rfl) rfl, λ _ => ⟨⟨.int ((k : Int) + i), true, []⟩, rfl, rfl, rfl⟩⟩
 have hr : List.range (n - k) = 0 :: (List.range (n - k - 1)).map (· + 1) := by
  rw [show n - k = (n - k - 1) + 1 by omega, Zbb]; rfl
 rw [hr, List.filter_cons, if_pos (by show (!decide (f (k + 0) k = 0)) = true; rw [Nat.add_zero, decide_eq_false hp]; rfl), ZG] at eI
 generalize ((((List.range (n - k - 1)).map (· + 1)).filter λ i => !decide (f (k + i) k = 0)).map λ (i : Nat) => D.int ((k : Int) + i)) = xs at eI
 refine Q4 ?_
 refine run_seq (Qh eI ?_)
 rw [Qk]
 refine QQ (Q8 (b := true) ((QdN (a := false) (b := true) (Qek (b := true) (show QI (Qa 2) _ = some true from rfl)) (QH (b := true) (QbF (a := k) (b := k) (ra := ⟨.int k, true, []⟩) ?_ rfl (rb := ⟨.int k, true, []⟩) rfl rfl) (by simp))).trans rfl) (λ _ => ?_) (λ h => by cases h))
 ·unfold Qn
  show ((D.items (.lst (.int ((k : Int) + (0 : Nat)) :: xs))).bind λ ys => (atI ys (0 : Int)).map λ d => (HS.R.mk d true [2]).norm) = _
  simp only [D.items, Za]
  rw [QgB (show (0 : Int) <= 0 by decide) (by simp)]
  show some (HS.R.mk (.int ((k : Int) + (0 : Nat))) true [2]).norm = _
  rw [show (k : Int) + (0 : Nat) = k by omega]; rfl
 ·exact QQ (QgD (r := ⟨Qi n N f, false, []⟩) rfl ⟨rfl, rfl⟩)
noncomputable def QeL (QbH : Den) (Qca : Den) : DS := (Qe (Qp 1 (Qbn (Qa 0))) (Qe (Qp 2 (dC (.int 1))) (Qe (QaV (Qau (dBf Qav (Qc (Qa 0) Qf))) (.nm 3) (Qe (Qp 1 (Qr 2 QbH [] (Qc (Qa 1) (Qc (Qa 3) Qf)))) (Qe (Qp 4 (Qbn (Qn (Qa 1) (Qa 3)))) (Qe (sIf (QI (dOp gEq (Qn (Qa 4) (Qa 3)) (dC (.int 0)))) (Qe (QM (QaW (Qc (Qa 1) (Qc (dC (.int 0)) Qf)))) Qm) Qm) (Qe (Qp 1 (QF (QY (Qa 1)) (.nm 1) [none, none, some 3, some 2, some 4] QL (Qr 4 Qca [] (Qc (Qa 1) (Qc (Qa 4) (Qc (Qa 2) (Qc (Qa 3) Qf))))))) (Qe (Qa4 1 Qam (Qa 3) (Qa 4)) (Qe (Qp 2 (Qbn (Qn (Qa 4) (Qa 3)))) Qm))))))) (Qe (QM (QaW (Qc (Qa 1) (Qc (Qa 2) Qf)))) Qm))))
theorem QfO {n : Nat} {den : Den} {dfl : List D} {fs : DA} {ρ : En} {r : RA} {d : D} (h : fs ρ = some r) (e : den (r.ds ++ dfl) = some (d, false)) (hn : r.ds.length + dfl.length = n) : Qr n den dfl fs ρ = some (R.norm ⟨d, false, r.M⟩) := by
 unfold Qr
 rw [h, Za, if_pos hn, e]
 rfl
theorem Qpy {x n N k : Nat} {g : Nat -> Nat -> Int} {p : Nat -> Int} {fi fa : DE} {ρ : En} {Q : Out -> Prop} (hx : ρ[x]? = some (some (Qi n N g, true))) (hi : fi ρ = some ⟨.int k, true, []⟩) (ha : fa ρ = some ⟨Qb N p, false, []⟩) (hk : k < n)
  (q : Q (.nx (ρ.set x (some (Qi n N (λ i j => if i = k then p j else g i j), false))))) : Run (Qa4 x Qam fi fa) ρ Q := by
 refine ⟨_, ?_, q⟩
 unfold Qa4
 rw [ha, Za, hx]
 have hn : (HS.R.mk (Qb N p) false []).norm = ⟨Qb N p, false, []⟩ := by unfold R.norm Qb; rfl
 simp only [Qam, Za, hi, Qi, Qa8, Zh, Zp, hn]
 rw [QcI (show (0 : Int) <= k by omega) (by omega)]
 simp only [Za, ZW]
 have e : ((List.range n).map λ i => Qb N (g i)).set k (Qb N p) = (List.range n).map λ i => Qb N (λ j => if i = k then p j else g i j) := by
  refine Zaw λ i => ?_
  rw [List.getElem?_set]
  by_cases h : k = i
  ·subst h
   rw [if_pos rfl, if_pos (by simpa using hk), Zm, Zz hk]
   simp
  ·rw [if_neg h, Zm, Zm]
   by_cases h2 : i < n
   ·rw [Zz h2]
    simp only [ZP, if_neg (Ne.symm h)]
   ·rw [Zo (by simpa using h2)]; rfl
 rw [e]
 rfl
def Qgt (d : Den) : Prop := ∀ (n N : Nat) (A : Nat -> Nat -> Int), n <= 8 -> n <= N -> (∀ j, j < N -> ∀ r, r < n -> (A j r).natAbs <= 2 ^ 200) -> QfM n A -> ∃ m R b, d [Qi n N (λ i j => A j i)] = some (.tup [Qi n N R, .int b], false) /\ QcN n N n A m R b
theorem Qou {dp dt : Den} (hp : Qjy dp) (ht : Qi5 dt) : Qgt (Ql 5 (QeL dp dt)) := λ n N A n8 hN hA hl => by
 have key : Run (QeL dp dt) [some (Qi n N (λ i j => A j i), false), none, none, none, none] λ o => match o with | .rt d fr => fr = false /\ ∃ m R b, d = .tup [Qi n N R, .int b] /\ QcN n N n A m R b | _ => False := by
  refine run_seq (Qh (Qhv (r := ⟨Qi n N (λ i j => A j i), false, []⟩) rfl) ?_)
  refine run_seq (Qh (r := ⟨.int 1, true, []⟩) rfl ?_)
  rw [Qk]
  refine QQ (Qal (toD := λ (k : Nat) => .int (k : Int)) (List.range n) (λ k ρ => ∃ m R b j3 j4, QcN n N k A m R b /\ ρ = [some (Qi n N (λ i j => A j i), false), some (Qi n N R, false), some (.int b, true), j3, j4]) (QaF (n := n) (Qed (n := n) (m := N) (f := λ i j => A j i) (r := ⟨Qi n N (λ i j => A j i), false, []⟩) rfl rfl) rfl (by omega)) rfl ⟨_, _, _, none, none, QcN.start n N A, rfl⟩ ?_ ?_)
  ·rintro k k' ρ hk ⟨m, R, b, j3, j4, C, rfl⟩
   have hk' : k < n /\ k = k' := by
    obtain ⟨h1, h2⟩ := Zf.mp hk
    simp at h1 h2; exact ⟨h1, h2⟩
   obtain ⟨hkn, rfl⟩ := hk'
   have kN : k < N := by omega
   have pv := C.Qsd hkn kN hl
   obtain ⟨sb, sR⟩ := C.small n8 hA
   have ep := hp n N k R hkn (by omega) kN pv
   refine ⟨[some (Qi n N (λ i j => A j i), false), some (Qi n N R, false), some (.int b, true), some (.int k, true), j4], rfl, ?_⟩
   refine run_seq (Qh (r := ⟨Qi n N R, false, []⟩) ((QfO (r := ⟨[Qi n N R, .int k], false, []⟩) rfl ep rfl).trans rfl) ?_)
   refine run_seq (Qh (r := ⟨Qb N (R k), false, []⟩) ((Qhv (Qc6 (m := n) (n := N) (f := R) (i := k) (ra := ⟨Qi n N R, false, []⟩) (rb := ⟨.int k, true, []⟩) rfl rfl rfl rfl (by omega) (by omega))).trans rfl) ?_)
   refine QQ (Q8 (b := false) (QH (QbF (a := R k k) (b := 0) (Qaj (m := N) (f := R k) (i := k) (ra := ⟨Qb N (R k), false, []⟩) (rb := ⟨.int k, true, []⟩) rfl rfl rfl rfl kN) rfl rfl rfl) (by simp [pv])) (λ h => by cases h) (λ _ => Qo ?_))
   have ex : ∀ i j, ∃ q, i < n -> i ≠ k -> j < N -> R k k * R i j - R i k * R k j = b * q := λ i j => by
    by_cases h : i < n /\ i ≠ k /\ j < N
    ·exact ⟨_, λ h1 h2 h3 => C.clr.exact hkn kN h1 h3 h2⟩
    ·exact ⟨0, λ h1 h2 h3 => absurd ⟨h1, h2, h3⟩ h⟩
   have zz : ∀ j, R k k * R k j - R k k * R k j = b * 0 := λ j => by rw [Int.sub_self, Zaa]
   have eT : ∀ i, i < n -> dt [Qb N (R i), Qb N (R k), .int k, .int b] = some (Qb N (λ j => if i = k then 0 else (ex i j).choose), true) := λ i hi =>
    ht N k (R i) (R k) _ b kN C.clr.nz sb (λ j hj => ⟨sR i j hi hj, sR k j hkn hj⟩) λ j hj => by
     by_cases e : i = k
     ·rw [if_pos e, e]; exact zz j
     ·rw [if_neg e]; exact (ex i j).choose_spec hi e hj
   refine run_seq (Qh (r := ⟨Qi n N (λ i j => if i = k then 0 else (ex i j).choose), true, []⟩) (QE (toD := λ (i : Nat) => Qb N (R i)) (out := λ (i : Nat) => Qb N (λ j => if i = k then 0 else (ex i j).choose)) (List.range n) (Q7 (r := ⟨Qi n N R, false, []⟩) rfl rfl) rfl λ i hi => ⟨[none, some (Qb N (R i), false), some (.int k, true), some (.int b, true), some (Qb N (R k), false)], rfl, ⟨Qb N (λ j => if i = k then 0 else (ex i j).choose), true, []⟩, Qs (r := ⟨[Qb N (R i), Qb N (R k), .int k, .int b], false, []⟩) rfl (eT i (Zn.mp hi)) rfl, rfl, rfl⟩) ?_)
   rw [Qk]
   refine run_seq (Qpy (n := n) (N := N) (k := k) (p := R k) (g := λ i j => if i = k then 0 else (ex i j).choose) rfl rfl rfl hkn ?_)
   refine run_seq (Qh (r := ⟨.int (R k k), false, []⟩) ((Qhv (Qaj (m := N) (f := R k) (i := k) (ra := ⟨Qb N (R k), false, []⟩) (rb := ⟨.int k, true, []⟩) rfl rfl rfl rfl kN)).trans rfl) (Qo ?_))
   rw [Qep rfl]
   refine ⟨_, _, _, _, _, C.step (R' := λ i j => if i = k then R k j else (λ i j => if i = k then 0 else (ex i j).choose) i j) hkn kN hA pv (λ j _ => by show (if k = k then R k j else _) = _; rw [if_pos rfl]) (λ i j hi ne hj q hq => ?_), rfl⟩
   show (if i = k then R k j else if i = k then 0 else (ex i j).choose) = q
   rw [if_neg ne, if_neg ne]
   exact ZaQ C.clr.nz (((ex i j).choose_spec hi ne hj).symm.trans hq)
  ·rintro ρ ⟨m, R, b, j3, j4, C, rfl⟩
   rw [Zp] at C
   exact QA (r := ⟨.tup [Qi n N R, .int b], false, []⟩) rfl ⟨rfl, m, R, b, rfl, C⟩
 obtain ⟨o, h1, h2⟩ := key
 cases o with
 | rt d fr =>
  obtain ⟨rfl, m, R, b, rfl, C⟩ := h2
  exact ⟨m, R, b, by show Option.bind (QeL dp dt [some (Qi n N (λ i j => A j i), false), none, none, none, none]) outD = _; rw [h1]; rfl, C⟩
 | _ => exact h2.elim
theorem Qeb (f : Nat -> Int) : ∀ n, sm n f = Qu n f
 | 0 => rfl
 | n + 1 => by rw [Qab, ← Qeb f n]; rfl
theorem Qjo {m : Nat} {f : Nat -> Int} (h : ∀ i, i < m -> 0 <= f i) : 0 <= Qu m f := by
 have := Qdu (m := m) (f := λ _ => 0) (g := f) h
 rw [Qag] at this
 exact this
theorem Qm7 {m k : Nat} {T : Nat -> Nat -> Int} (tp : TP m T) {c : Nat -> Int} (h0 : ∀ l, k < l -> c l = 0) (h : ∀ r, r < m -> r <= k -> Qu m (λ l => c l * T l r) = 0) : ∀ l, l < m -> c l <= 0 := by
 obtain ⟨w, w0, hw⟩ := tp.wt
 have p0 : ∀ l, 0 <= (if 0 < c l then c l else 0) := λ l => by split <;> omega
 have v0 : ∀ r, r < m -> 0 <= Qu m (λ l => (if 0 < c l then c l else 0) * T l r) := λ r hr => by
  by_cases h1 : 0 < c r
  ·have hrk : r <= k := by
    by_cases z : k < r
    ·rw [h0 r z] at h1; omega
    ·omega
   have e : Qu m (λ l => (if 0 < c l then c l else 0) * T l r) = Qu m (λ l => ((if 0 < c l then c l else 0) - c l) * T l r) := by
    have := Qaz m (λ l => ((if 0 < c l then c l else 0) - c l) * T l r) (λ l => c l * T l r)
    rw [h r hr hrk, ZaP] at this
    rw [← this]
    exact QJ λ l _ => by rw [← ZK]; congr 1; omega
   rw [e]
   refine Qjo λ l hl => ?_
   by_cases e2 : l = r
   ·subst e2; rw [if_pos h1, Int.sub_self, ZN]; exact ZaN _
   ·refine Zaj ?_ (tp.pos l r hl hr e2)
    split <;> omega
  ·refine Qjo λ l hl => ?_
   by_cases e2 : l = r
   ·subst e2; rw [if_neg h1, ZN]; exact ZaN _
   ·exact Zaj (p0 l) (tp.pos l r hl hr e2)
 have s1 : 0 <= Qu m λ r => Qu m (λ l => (if 0 < c l then c l else 0) * T l r) * w r := by
  have : Qu m (λ _ => (0 : Int)) <= Qu m λ r => Qu m (λ l => (if 0 < c l then c l else 0) * T l r) * w r := Qdu λ r hr => Zaj (v0 r hr) (w0 r)
  rw [Qag] at this
  exact this
 have s2 : (Qu m λ r => Qu m (λ l => (if 0 < c l then c l else 0) * T l r) * w r) = Qu m λ l => (if 0 < c l then c l else 0) * Qu m λ r => T l r * w r := by
  have e1 : (λ r => Qu m (λ l => (if 0 < c l then c l else 0) * T l r) * w r) = λ r => Qu m λ l => (if 0 < c l then c l else 0) * (T l r * w r) := by
   funext r
   rw [Zak, ← Qdx]
   exact QJ λ l _ => by rw [Zak (w r), Zah]
  rw [e1, QoM]
  exact QJ λ l _ => by rw [Qdx]
 have s3 : (Qu m λ l => (if 0 < c l then c l else 0) * Qu m λ r => T l r * w r) <= Qu m λ l => - (if 0 < c l then c l else 0) := Qdu λ l hl => by
  have := ZJ (hw l hl) (p0 l)
  omega
 rw [QcW] at s3
 intro l hl
 have big : (if 0 < c l then c l else 0) <= Qu m λ l => (if 0 < c l then c l else 0) := by
  have := QcQ (m := m) hl (if 0 < c l then c l else 0) (λ _ => 1)
  have h2 : Qu m (λ i => (if i = l then (if 0 < c l then c l else 0) else 0) * 1) <= Qu m λ l => (if 0 < c l then c l else 0) := Qdu λ i _ => by
   rw [ZaX]
   by_cases e : i = l
   ·subst e; rw [if_pos rfl]; exact ZaN _
   ·rw [if_neg e]; exact p0 i
  omega
 by_cases z : 0 < c l
 ·rw [if_pos z] at big; omega
 ·omega
theorem QiV {m : Nat} {T : Nat -> Nat -> Int} (tp : TP m T) : QfM m λ l r => 0 - T l r := λ k hk c h => by
 have ext : ∀ r, r <= k -> Qu m (λ l => (if l <= k then c l else 0) * T l r) = 0 := λ r hr => by
  have e := h r hr
  rw [← Qeb, Qhp (k := k + 1) (by omega)]
  ·have n := QiA (-1) 0 (λ l => c l * (0 - T l r)) (λ _ => 0) (k + 1)
   rw [e] at n
   rw [Qbr (g := λ l => -1 * (c l * (0 - T l r)) + 0 * 0) λ l hl => by rw [if_pos (by omega), ZaF, Zau]; omega, n]
   omega
  ·intro l h1 h2; rw [if_neg (by omega), ZN]
 have a := Qm7 (k := k) tp (c := λ l => if l <= k then c l else 0) (λ l hl => by show (if l <= k then c l else 0) = 0; rw [if_neg (by omega)]) (λ r _ hr => ext r hr) k hk
 have b := Qm7 (k := k) tp (c := λ l => if l <= k then - c l else 0) (λ l hl => by show (if l <= k then - c l else 0) = 0; rw [if_neg (by omega)]) (λ r _ hr => by
  have := ext r hr
  rw [QJ (g := λ l => - ((if l <= k then c l else 0) * T l r)) λ l _ => by split <;> simp [Zav], QcW, this]; rfl) k hk
 have a : (if k <= k then c k else 0) <= 0 := a
 have b : (if k <= k then - c k else 0) <= 0 := b
 rw [if_pos (Zk k)] at a b
 omega
noncomputable def Qiw : DS := (Qe (QM (QF (QY (Qa 0)) (.nm 1) [none, none] QL (dOp Qaq (dC (.int 0)) (Qa 1)))) Qm)
def Qkn (d : Den) : Prop := ∀ (n : Nat) (a : Nat -> Int), d [Qb n a] = some (Qb n λ i => 0 - a i, true)
theorem QuJ : Qkn (Ql 1 Qiw) := λ n a => Q4 (QA (r := ⟨Qb n λ i => 0 - a i, true, []⟩) (QE (toD := λ (i : Nat) => .int (a i)) (out := λ (i : Nat) => .int (0 - a i)) (List.range n) (Q7 (r := ⟨Qb n a, false, []⟩) rfl rfl) rfl λ i _ => ⟨[none, some (.int (a i), true)], rfl, ⟨.int (0 - a i), true, []⟩, rfl, rfl, rfl⟩) ⟨rfl, rfl⟩)
noncomputable def Qhc (Qao : Den) (QW : Den) : DS := (Qe (QM (QF (QY (Qr 1 QW [] (Qc (Qa 0) Qf))) (.nm 1) [none, none] QL (Qr 1 Qao [] (Qc (Qa 1) Qf)))) Qm)
def QhD (d : Den) : Prop := ∀ (m : Nat) (R L : List (Int × Int)), m <= 1000 -> R.length + R.length + L.length <= 1000000 -> (∀ s ∈ R, Good m s) -> (∀ s ∈ L, Good m s) -> d [Qt m R L] = some (Qi m m λ i j => 0 - Qj m (Qg R L) i j, true)
theorem Qpo {dop dt : Den} (ho : Qkn dop) (ht : QeA dt) : QhD (Ql 1 (Qhc dop dt)) := λ m R L hm hl hR hL => by
 have et := ht m R L hm hl hR hL
 generalize Qj m (Qg R L) = T at *
 exact Q4 (QA (r := ⟨Qi m m λ i j => 0 - T i j, true, []⟩) (QE (toD := λ (i : Nat) => Qb m (T i)) (out := λ (i : Nat) => Qb m λ j => 0 - T i j) (List.range m) (Q7 (Qs (r := ⟨[Qt m R L], false, []⟩) rfl et rfl) rfl) rfl λ i _ => ⟨[none, some (Qb m (T i), false)], rfl, ⟨Qb m λ j => 0 - T i j, true, []⟩, Qs (r := ⟨[Qb m (T i)], false, []⟩) rfl (ho m (T i)) rfl, rfl, rfl⟩) ⟨rfl, rfl⟩)
noncomputable def QfA : DS := (Qe (Qp 1 (dC (.int 0))) (Qe (QaV (QY (Qa 0)) (.nm 2) (Qe (Qp 3 (Qbn (Qa 2))) (Qe (Qb2 (QI (dOp gNe (Qa 3) (dC (.int 0)))) (Qe (Qp 4 (dOp QZ (Qa 1) (Qa 3))) (Qe (Qp 1 (Qbn (Qa 3))) (Qe (Qp 3 (Qbn (Qa 4))) Qm)))) Qm))) (Qe (QM (dBf Qoo (Qc (Qa 1) Qf))) Qm)))
theorem Qqo {a b t : Int} : (t ∣ b /\ t ∣ Qcl a b) ↔ (t ∣ a /\ t ∣ b) := by
 have e : Qcl a b = a - b * Qde a b := by
  rw [Qjm, show Qcl a b = a.fmod b from QgA a b, Int.fmod_def]
 rw [e]
 constructor
 ·rintro ⟨h1, h2⟩
  refine ⟨?_, h1⟩
  have := Int.dvd_add h2 (ZbF (c := Qde a b) h1)
  rwa [Int.sub_add_cancel] at this
 ·rintro ⟨h1, h2⟩
  exact ⟨h2, Int.dvd_sub h1 (ZbF h2)⟩
theorem QsA {a b : Int} (h : b ≠ 0) : (Qcl a b).natAbs < b.natAbs := by
 rw [show Qcl a b = a.fmod b from QgA a b]
 by_cases hb : 0 < b
 ·have h1 := ZbJ a hb
  have h2 := Int.fmod_lt_of_pos a hb
  omega
 ·have hb' : 0 < -b := by omega
  have h1 := ZbJ (-a) hb'
  have h2 := Int.fmod_lt_of_pos (-a) hb'
  have h3 := Int.neg_fmod_neg a b
  omega
def QhP (d : Den) : Prop := ∀ (xs : List Int), ∃ g : Int, d [Qdk xs] = some (.int g, true) /\ 0 <= g /\ ∀ t, t ∣ g ↔ ∀ x ∈ xs, t ∣ x
theorem QpZ : QhP (Ql 5 QfA) := λ xs => by
 have key : Run QfA [some (Qdk xs, false), none, none, none, none] λ o => match o with | .rt d fr => fr = true /\ ∃ g, d = .int g /\ 0 <= g /\ ∀ t, t ∣ g ↔ ∀ x ∈ xs, t ∣ x | _ => False := by
  refine run_seq (Qh (r := ⟨.int 0, true, []⟩) rfl ?_)
  rw [Qk]
  refine QQ (Qal (toD := D.int) xs (λ k ρ => ∃ g j2 j3 j4, (∀ t, t ∣ g ↔ ∀ x ∈ xs.take k, t ∣ x) /\ ρ = [some (Qdk xs, false), some (.int g, true), j2, j3, j4]) (Q7 (r := ⟨Qdk xs, false, []⟩) rfl rfl) rfl ⟨0, none, none, none, λ t => by simp, rfl⟩ ?_ ?_)
  ·rintro k x ρ hk ⟨g, j2, j3, j4, hg, rfl⟩
   refine ⟨[some (Qdk xs, false), some (.int g, true), some (.int x, true), j3, j4], rfl, ?_⟩
   refine run_seq (Qh (r := ⟨.int x, false, []⟩) rfl ?_)
   rw [Qep rfl]
   refine Qa6 (P := λ ρ => ∃ g' j4, (∀ t, t ∣ g' ↔ (t ∣ g /\ t ∣ x)) /\ ρ = [some (Qdk xs, false), some (.int g', true), some (.int x, true), some (.int 0, true), j4]) ?_ ?_
   ·refine QfX (λ n ρ => ∃ g' r j4, n = r.natAbs /\ (∀ t, (t ∣ g' /\ t ∣ r) ↔ (t ∣ g /\ t ∣ x)) /\ ρ = [some (Qdk xs, false), some (.int g', true), some (.int x, true), some (.int r, true), j4]) ?_ x.natAbs _ ⟨g, x, j4, rfl, λ _ => Iff.rfl, rfl⟩
    rintro n ρ ⟨g', r, j4, rfl, hd, rfl⟩
    refine ⟨!decide (r = 0), QH (Qdd (a := r) (b := 0) (ra := ⟨.int r, true, []⟩) rfl rfl rfl rfl) rfl, λ h => ?_, λ h => ?_⟩
    ·have hr : r = 0 := by simpa using h
     subst hr
     exact ⟨g', j4, λ t => by rw [← hd t]; simp, rfl⟩
    ·have hr : r ≠ 0 := by simpa using h
     refine run_seq (Qh (r := ⟨.int (Qcl g' r), true, []⟩) (Qae (ra := ⟨.int g', true, []⟩) (rb := ⟨.int r, true, []⟩) rfl rfl (by show (if r ≠ 0 then some (D.int (Qcl g' r)) else none) = _; rw [if_pos hr])) ?_)
     rw [Qk]
     refine run_seq (Qh (r := ⟨.int r, false, []⟩) rfl ?_)
     rw [Qep rfl]
     refine run_seq (Qh (r := ⟨.int (Qcl g' r), false, []⟩) rfl (Qo ?_))
     rw [Qep rfl]
     exact ⟨_, QsA hr, r, Qcl g' r, _, rfl, λ t => Qqo.trans (hd t), rfl⟩
   ·rintro ρ ⟨g', j4, hd, rfl⟩
    refine Qo ⟨g', _, _, _, λ t => ?_, rfl⟩
    rw [hd t, hg t, List.take_succ, hk]
    simp only [ZF, Option.toList_some, ZE]
    exact ⟨λ ⟨a, b⟩ y hy => hy.elim (a y) λ e => e ▸ b, λ a => ⟨λ y hy => a y (.inl hy), a x (.inr rfl)⟩⟩
  ·rintro ρ ⟨g, j2, j3, j4, hg, rfl⟩
   rw [ZbD] at hg
   refine QA (r := ⟨.int (if g < 0 then -g else g), true, []⟩) rfl ⟨rfl, _, rfl, by split <;> omega, λ t => ?_⟩
   rw [← hg t]
   split
   ·exact Int.dvd_neg
   ·exact Iff.rfl
 obtain ⟨o, h1, h2⟩ := key
 cases o with
 | rt d fr =>
  obtain ⟨rfl, g, rfl, g0, hg⟩ := h2
  exact ⟨g, by show Option.bind (QfA [some (Qdk xs, false), none, none, none, none]) outD = _; rw [h1]; rfl, g0, hg⟩
 | _ => exact h2.elim
noncomputable def QeH (Qc9 : Den) : DS := (Qe (Qp 1 (Qr 1 Qc9 [] (Qc (Qa 0) Qf))) (Qe (sIf (QI (dOp gEq (Qn (Qa 1) (dC (.int 1))) (dC (.int 0)))) (Qe QB Qm) Qm) (Qe (QM (Qa 1)) Qm)))
def QfR (d : Den) : Prop := ∀ (n N : Nat) (A : Nat -> Nat -> Int), n <= 8 -> n <= N -> (∀ j, j < N -> ∀ r, r < n -> (A j r).natAbs <= 2 ^ 200) -> QfM n A -> ∃ m R b, d [Qi n N (λ i j => A j i)] = some (.tup [Qi n N R, .int b], false) /\ QcN n N n A m R b
theorem QmI {dc : Den} (hc : Qgt dc) : QfR (Ql 2 (QeH dc)) := λ n N A n8 hN hA hl => by
 obtain ⟨m, R, b, ec, C⟩ := hc n N A n8 hN hA hl
 refine ⟨m, R, b, Q4 ?_, C⟩
 refine run_seq (Qh (r := ⟨.tup [Qi n N R, .int b], false, []⟩) ((QfO (r := ⟨[Qi n N (λ i j => A j i)], false, []⟩) rfl ec rfl).trans rfl) ?_)
 refine QQ (Q8 (b := false) (QH (QbF (a := b) (b := 0) (ra := ⟨.int b, true, []⟩) rfl rfl rfl rfl) (by simp [C.clr.nz])) (λ h => by cases h) (λ _ => Qo ?_))
 exact QA (r := ⟨.tup [Qi n N R, .int b], false, []⟩) rfl ⟨rfl, rfl⟩
noncomputable def Qgl (Qds : Den) (QaO : Den) (QbR : Den) (QdA : Den) : DS := (Qe (Qp 2 (dBf Qav (Qc (Qa 0) Qf))) (Qe (sIf (QI (dOp gNe (dBf Qav (Qc (Qa 1) Qf)) (Qa 2))) (Qe QB Qm) Qm) (Qe (Qp 3 (Qr 1 QaO [] (Qc (QF (QaR (Qr 1 Qds [] (Qc (Qa 0) Qf)) (Qa 1)) (.tp [1, 2]) [none, none, none] QL (Qz (Qa 1) (Qas (Qc (Qa 2) Qf)))) Qf))) (Qe (Qp 4 (Qr 2 QbR [] (Qc (Qn (Qa 3) (dC (.int 0))) (Qc (Qa 2) Qf)))) (Qe (Qp 5 (Qr 1 QdA [] (Qc (Qz (Qa 4) (Qas (Qc (Qn (Qa 3) (dC (.int 1))) Qf))) Qf))) (Qe (sIf (QI (dOp gLt (Qn (Qa 3) (dC (.int 1))) (dC (.int 0)))) (Qe (Qp 5 (dOp Qaq (dC (.int 0)) (Qa 5))) Qm) Qm) (Qe (QM (QaW (Qc (QF (QY (Qa 4)) (.nm 1) [none, none, some 5] QL (dOp Qba (Qa 1) (Qa 2))) (Qc (dOp Qba (Qn (Qa 3) (dC (.int 1))) (Qa 5)) Qf)))) Qm)))))))
theorem QlD {fa fb : DE} {ρ : En} {ra : R} {m : Nat} {f : Nat -> Int} {x : Int} (ha : fa ρ = some ra) (ea : ra.d = Qb m f) (hb : fb ρ = some ⟨.int x, true, []⟩) (hm : m <= 1000) : Qz fa (Qas (Qc fb Qf)) ρ = some ⟨Qb (m + 1) (up f m x), true, []⟩ := by
 have hb : Qas (Qc fb Qf) ρ = some ⟨.lst [.int x], true, []⟩ := (Ql4 (rs := ⟨[.int x], true, []⟩) (Qv hb (Q5 _)) (by simp)).trans rfl
 unfold Qz
 rw [ha, Za, hb, Za, ea]
 simp only [Qb, Zh, Zp, QgI]
 rw [if_pos (by simp; omega)]
 unfold Qan
 rw [if_pos (by rw [Qcu, Zl]; exact ⟨Qbl (λ _ => rfl) _, rfl⟩)]
 congr 3
 rw [ZbQ, Zax]
 congr 1
 ·refine ZA λ i hi => ?_
  rw [Qfh, if_neg (by have := Zn.mp hi; omega)]
 ·show _ = [D.int (up f m x m)]
  rw [Qfh, if_pos rfl]
theorem QqB (n : Nat) (f : Nat -> Int) : Qb n f = Qdk ((List.range n).map f) := by unfold Qb Qdk; rw [Zaf]; rfl
def Qhr (d : Den) : Prop := ∀ (n : Nat) (f : Nat -> Nat -> Int) (row : Nat -> Int), n <= 8 -> (∀ j r, j < n -> r < n -> (f j r).natAbs <= 2 ^ 200) -> (∀ r, r < n -> (row r).natAbs <= 2 ^ 200) -> QfM n f -> ∃ tops q, d [Qi n n f, Qb n row] = some (.tup [Qb n tops, .int q], true) /\ 0 < q /\ q.natAbs < 2 ^ 2000 /\ ∀ r, r < n -> q * row r = sm n λ l => tops l * f l r
theorem Qpf {dt dc dl dm : Den} (ht : Qhx dt) (hc : QfR dc) (hl : QfQ dl) (hm : QhP dm) : Qhr (Ql 6 (Qgl dt dc dl dm)) := λ n f row n8 hf hr hL => by
 have hA : ∀ j, j < n + 1 -> ∀ r, r < n -> ((λ j r => if j = n then row r else f j r) j r).natAbs <= 2 ^ 200 := λ j hj r hr' => by
  show (if j = n then row r else f j r).natAbs <= _
  split
  ·exact hr r hr'
  ·exact hf j r (by omega) hr'
 have hL' : QfM n λ j r => if j = n then row r else f j r := λ k hk c h => hL k hk c λ r hr => by
  rw [← h r hr]
  exact Qbr λ l hl => by show c l * f l r = c l * (if l = n then row r else f l r); rw [if_neg (by omega)]
 obtain ⟨m, R, b, ec, C⟩ := hc n (n + 1) _ n8 (by omega) hA hL'
 obtain ⟨sb, _⟩ := C.small n8 hA
 obtain ⟨g, eg, g0, hg⟩ := hm ((List.range (n + 1)).map (up (λ i => R i n) n b))
 have gb : g ∣ b := (hg g).mp ⟨1, by omega⟩ b (ZQ.mpr ⟨n, Zn.mpr (by omega), by rw [Qfh, if_pos rfl]⟩)
 have gR : ∀ i, i < n -> g ∣ R i n := λ i hi => (hg g).mp ⟨1, by omega⟩ _ (ZQ.mpr ⟨i, Zn.mpr (by omega), by rw [Qfh, if_neg (by omega)]⟩)
 have bz := C.clr.nz
 have gz : g ≠ 0 := λ z => by rw [z] at gb; obtain ⟨x, hx⟩ := gb; rw [ZN] at hx; exact bz hx
 obtain ⟨p, hp⟩ : ∃ p, p = if b < 0 then 0 - g else g := ⟨_, rfl⟩
 have pz : p ≠ 0 := by rw [hp]; split <;> omega
 have pd : ∀ x, g ∣ x -> ∃ y, x = p * y := λ x ⟨y, hy⟩ => by
  rw [hp]
  split
  ·exact ⟨-y, by rw [hy, ZaF, Int.neg_mul_neg]⟩
  ·exact ⟨y, hy⟩
 obtain ⟨q, hq⟩ := pd b gb
 have tp : ∀ i, ∃ y, i < n -> R i n = p * y := λ i => by
  by_cases h : i < n
  ·obtain ⟨y, hy⟩ := pd _ (gR i h); exact ⟨y, λ _ => hy⟩
  ·exact ⟨0, λ h' => absurd h' h⟩
 have gle : g.natAbs <= b.natAbs := Int.natAbs_dvd_natAbs.mpr gb |> λ h => Nat.le_of_dvd (by omega) h
 have ple : p.natAbs < 2 ^ 2000 := by rw [hp]; split <;> omega
 have q0 : 0 < q := by
  by_cases h : b < 0
  ·rw [if_pos h] at hp
   refine Zab λ z => ?_
   have := Int.mul_nonneg_of_nonpos_of_nonpos (a := p) (b := q) (by omega) (by omega)
   omega
  ·rw [if_neg h] at hp
   refine Zab λ z => ?_
   have := Int.mul_nonpos_of_nonneg_of_nonpos (a := p) (b := q) (by omega) (by omega)
   omega
 have qle : q.natAbs < 2 ^ 2000 := by
  have : q ∣ b := ⟨p, by rw [hq, Zak]⟩
  have := Nat.le_of_dvd (by omega) (Int.natAbs_dvd_natAbs.mpr this)
  omega
 refine ⟨λ i => (tp i).choose, q, Q4 ?_, q0, qle, λ r hr' => ?_⟩
 ·refine run_seq (Qh (Qed (n := n) (m := n) (f := f) (r := ⟨Qi n n f, false, []⟩) rfl rfl) ?_)
  rw [Qk]
  refine QQ (Q8 (b := false) (QH (b := false) (r := ⟨.bl false, true, []⟩) ((Qdd (a := n) (b := n) ((QcO (xs := (List.range n).map λ i => .int (row i)) (r := ⟨Qb n row, false, []⟩) rfl rfl).trans (by rw [Zh, Zp])) rfl (rb := ⟨.int n, true, []⟩) rfl rfl).trans (by simp)) rfl) (λ h => by cases h) (λ _ => Qo ?_))
  have et := ht n f (by omega)
  have eZ : QF (QaR (Qr 1 dt [] (Qc (Qa 0) Qf)) (Qa 1)) (.tp [1, 2]) [none, none, none] QL (Qz (Qa 1) (Qas (Qc (Qa 2) Qf))) [some (Qi n n f, false), some (Qb n row, false), some (.int n, true), none, none, none] = some ⟨Qi n (n + 1) (λ i j => (λ j r => if j = n then row r else f j r) j i), true, []⟩ := by
   refine (QE (toD := λ (i : Nat) => .tup [Qb n (λ j => f j i), .int (row i)]) (out := λ (i : Nat) => Qb (n + 1) (up (λ j => f j i) n (row i))) (List.range n) (Qbi (f := λ i => Qb n (λ j => f j i)) (g := λ i => .int (row i)) (Qs (r := ⟨[Qi n n f], false, []⟩) rfl et rfl) rfl (rb := ⟨Qb n row, false, []⟩) rfl rfl) rfl λ i hi => ⟨[none, some (Qb n (λ j => f j i), false), some (.int (row i), true)], rfl, ⟨Qb (n + 1) (up (λ j => f j i) n (row i)), true, []⟩, QlD (m := n) (f := λ j => f j i) (ra := ⟨Qb n (λ j => f j i), false, []⟩) rfl rfl rfl (by omega), rfl, rfl⟩).trans ?_
   have eT : Qi n (n + 1) (λ i j => (λ j r => if j = n then row r else f j r) j i) = .lst ((List.range n).map λ i => Qb (n + 1) (up (λ j => f j i) n (row i))) := by
    unfold Qi
    refine congrArg D.lst (ZA λ i _ => ?_)
    unfold Qb
    exact congrArg D.lst (ZA λ j _ => by rw [Qfh])
   rw [eT]
  refine run_seq (Qh (r := ⟨.tup [Qi n (n + 1) R, .int b], false, []⟩) ((QfO (Qv eZ (Q5 _)) ec rfl).trans rfl) ?_)
  refine run_seq (Qh (Qs (r := ⟨[Qi n (n + 1) R, .int n], false, []⟩) rfl (hl n (n + 1) R n (by omega)) rfl) ?_)
  rw [Qk]
  refine run_seq (Qh (Qs (Qv (QlD (m := n) (f := λ i => R i n) (x := b) (ra := ⟨Qb n (λ i => R i n), true, [4]⟩) rfl rfl rfl (by omega)) (Q5 _)) (by show dm [Qb (n + 1) (up (λ i => R i n) n b)] = _; rw [QqB]; exact eg) rfl) ?_)
  rw [Qk]
  refine Qa6 (P := λ ρ => ρ = [some (Qi n n f, false), some (Qb n row, false), some (.int n, true), some (.tup [Qi n (n + 1) R, .int b], false), some (Qb n (λ i => R i n), true), some (.int p, true)]) ?_ ?_
  ·refine Q8 (b := decide (b < 0)) (QH (Qae (d := .bl (decide (b < 0))) (ra := ⟨.int b, true, []⟩) (rb := ⟨.int 0, true, []⟩) rfl rfl rfl) rfl) (λ h => ?_) (λ h => ?_)
   ·refine run_seq (Qh (r := ⟨.int (0 - g), true, []⟩) rfl (Qo ?_))
    rw [Qk, hp, if_pos (of_decide_eq_true h)]; rfl
   ·refine Qo ?_
    rw [hp, if_neg (of_decide_eq_false h)]; rfl
  ·rintro ρ rfl
   refine QA (r := ⟨.tup [Qb n λ i => (tp i).choose, .int q], true, []⟩) ?_ ⟨rfl, rfl⟩
   unfold QaW
   refine (congrArg (λ z => Option.bind z _) (Qv (QE (toD := λ (i : Nat) => .int (R i n)) (out := λ (i : Nat) => .int (tp i).choose) (List.range n) (Q7 (r := ⟨Qb n (λ i => R i n), true, [4]⟩) rfl rfl) rfl λ i hi => ⟨[none, some (.int (R i n), true), some (.int p, true)], rfl, ⟨.int (tp i).choose, true, []⟩, Qjx (a := R i n) (b := p) (ra := ⟨.int (R i n), true, []⟩) (rb := ⟨.int p, true, []⟩) rfl rfl rfl rfl pz ple ((tp i).choose_spec (Zn.mp hi)), rfl, rfl⟩) (Qv (Qjx (a := b) (b := p) (q := q) (ra := ⟨.int b, true, []⟩) (rb := ⟨.int p, true, []⟩) rfl rfl rfl rfl pz ple hq) (Q5 _)))).trans ?_
   rfl
 ·have t := C.clr.tell (j := n) (by omega) hr'
  have t : b * row r = sm n λ l => R l n * m l r := by
   have e : (if n = n then row r else f n r) = row r := if_pos rfl
   rw [← e]; exact t
  rw [Qbr (g := λ l => ((tp l).choose * f l r) * p) λ l hl => by
   rw [C.clr.own l hl]
   show R l n * (if l = n then row r else f l r) = _
   rw [if_neg (by omega), Zak _ p, ← Zah, ← (tp l).choose_spec hl], Qnu, hq] at t
  refine ZaQ pz ?_
  rw [← Zah, t, Zak]
noncomputable def QfT (Qb9 : Den) (Qbw : Den) : DS := (Qe (Qp 2 (Qr 2 Qbw [] (Qc (Qr 1 Qb9 [] (Qc (Qa 0) Qf)) (Qc (Qa 1) Qf)))) (Qe (QM (QF (QY (Qn (Qa 2) (dC (.int 0)))) (.nm 1) [none, none, some 2] QL (dOp Qba (Qa 1) (Qn (Qa 2) (dC (.int 1)))))) Qm))
theorem Qne {fa fb : DE} {ρ : En} {ra rb : R} {a b : Int} (ha : fa ρ = some ra) (ea : ra.d = .int a) (hb : fb ρ = some rb) (eb : rb.d = .int b) (h : 0 < b) (h2 : b.natAbs < 2 ^ 2000) : dOp Qba fa fb ρ = some ⟨.int (a / b), true, []⟩ := by
 refine Qae ha hb ?_
 rw [ea, eb]
 show (if Qbt b = true then some (D.int (Qde a b)) else none) = _
 have : Qbt b = true := by
  unfold Qbt
  simp only [Zl, decide_eq_true_eq]
  exact ⟨by omega, Zu h2 (ZH (by decide) (by decide))⟩
 rw [if_pos this, QhJ _ _ (by omega)]
theorem Qqb {m : Nat} {f : Nat -> Int} {C : Int} (h : ∀ i, i < m -> -C <= f i /\ f i <= C) : -(m * C) <= Qu m f /\ Qu m f <= m * C := by
 induction m with
 | zero => simp [Qu]
 | succ m ih =>
  rw [Qab]
  have h1 := ih λ i hi => h i (by omega)
  have h2 := h m (by omega)
  have e : ((m + 1 : Nat) : Int) * C = m * C + C := by rw [ZaT, ZK]; simp
  omega
theorem QoC {m : Nat} {T : Nat -> Nat -> Int} (hm : m <= 8) (hT : ∀ i j, i < m -> j < m -> (T i j).natAbs < 2 ^ 64) {f tops : Nat -> Int} {q : Int} (q0 : 0 < q) (h : ∀ r, r < m -> q * f r = sm m λ l => tops l * (0 - T l r)) : ∀ r, r < m -> -(2 ^ 67) <= Qd m T f (λ l => tops l / q) r /\ Qd m T f (λ l => tops l / q) r <= 2 ^ 67 := λ r hr => by
 have e : q * Qd m T f (λ l => tops l / q) r = Qu m λ l => - (tops l % q) * T l r := by
  unfold Qd
  rw [ZaM, h r hr, Qeb, ← Qdx, ← Qaz]
  refine QJ λ l _ => ?_
  have := Zbf (tops l) q
  have e2 : q * (tops l / q * T l r) = (q * (tops l / q)) * T l r := by rw [Zah]
  rw [e2, show q * (tops l / q) = tops l - tops l % q by omega, ZaF, Zau, Int.sub_mul, Zav]
  omega
 have b := Qqb (m := m) (f := λ l => - (tops l % q) * T l r) (C := q * 2 ^ 64) λ l hl => by
  have h1 := ZD (tops l) (by omega : q ≠ 0)
  have h2 := ZC (tops l) q0
  have h3 := hT l r hl hr
  have h4 : tops l % q * (T l r) <= q * 2 ^ 64 /\ -(q * 2 ^ 64) <= tops l % q * (T l r) := by
   have a1 : tops l % q * T l r <= tops l % q * 2 ^ 64 := ZJ (by omega) h1
   have a2 : tops l % q * 2 ^ 64 <= q * 2 ^ 64 := ZZ (by omega) (by decide)
   have a3 : tops l % q * (-(2 ^ 64)) <= tops l % q * T l r := ZJ (by omega) h1
   rw [Zau] at a3
   omega
  rw [Zav]
  omega
 rw [← e] at b
 have hm' : (m : Int) * (q * 2 ^ 64) <= 8 * (q * 2 ^ 64) := ZZ (by omega) (by omega)
 generalize Qd m T f (λ l => tops l / q) r = x at b ⊢
 constructor
 ·refine Zab λ z => ?_
  have := ZJ (show x <= -(2 ^ 67) - 1 by omega) (show 0 <= q by omega)
  rw [Int.mul_sub, Zau, ZaX] at this
  omega
 ·refine Zab λ z => ?_
  have := ZJ (show (2 ^ 67 + 1 : Int) <= x by omega) (show 0 <= q by omega)
  rw [ZaM, ZaX] at this
  omega
def Qi7 (d : Den) : Prop := ∀ (m : Nat) (R L : List (Int × Int)) (f : Nat -> Int), m <= 8 -> Qbp m R L -> (∀ j, j < m -> (f j).natAbs <= 2 ^ 200) -> ∃ c, d [Qt m R L, Qb m f] = some (Qb m c, true) /\ ∀ r, r < m -> -(2 ^ 67) <= Qd m (Qj m (Qg R L)) f c r /\ Qd m (Qj m (Qg R L)) f c r <= 2 ^ 67
theorem Qqf {dt ds : Den} (ht : QhD dt) (hs : Qhr ds) : Qi7 (Ql 3 (QfT dt ds)) := λ m R L f m8 hw hf => by
 have hg := hw.good
 have tp := hw.tp
 have et := ht m R L (by omega) (by omega) hg.1 hg.2.1
 generalize Qj m (Qg R L) = T at *
 obtain ⟨tops, q, es, q0, q1, hq⟩ := hs m (λ i j => 0 - T i j) f m8 (λ j r hj hr => by have := tp.bnd j r hj hr; have : (2 : Nat) ^ 64 <= 2 ^ 200 := ZH (by decide) (by decide); omega) hf (QiV tp)
 refine ⟨λ l => tops l / q, Q4 ?_, QoC m8 tp.bnd q0 hq⟩
 refine run_seq (Qh (Qs (Qv (Qs (r := ⟨[Qt m R L], false, []⟩) rfl et rfl) (Qv (r := ⟨Qb m f, false, []⟩) rfl (Q5 _))) es rfl) ?_)
 rw [Qk]
 refine QA (r := ⟨Qb m λ l => tops l / q, true, []⟩) (QE (toD := λ (i : Nat) => .int (tops i)) (out := λ (i : Nat) => .int (tops i / q)) (List.range m) (Q7 (r := ⟨Qb m tops, true, [2]⟩) rfl rfl) rfl λ i _ => ⟨[none, some (.int (tops i), true), some (.tup [Qb m tops, .int q], false)], rfl, ⟨.int (tops i / q), true, []⟩, Qne (a := tops i) (b := q) (ra := ⟨.int (tops i), true, []⟩) (rb := ⟨.int q, true, []⟩) rfl rfl rfl rfl q0 q1, rfl, rfl⟩) ⟨rfl, rfl⟩
noncomputable def QeT (Qci : Den) : DS := (Qe (QM (QF (QY (Qr 1 Qci [] (Qc (Qa 0) Qf))) (.nm 1) [none, none] QL (QS (dC (.int 2)) (Qa 1)))) Qm)
def Qgx (d : Den) : Prop := ∀ (m : Nat) (R L : List (Int × Int)), m <= 1000 -> R.length + R.length + L.length <= 1000000 -> (∀ s ∈ R, Good m s) -> (∀ s ∈ L, Good m s) -> d [Qt m R L] = some (Qb m λ i => 2 * QaT R L i, true)
theorem Qoh {ds : Den} (hs : Qmc ds) : Qgx (Ql 1 (QeT ds)) := λ m R L hm hl hR hL =>
 Q4 (QA (r := ⟨Qb m λ i => 2 * QaT R L i, true, []⟩) (QE (toD := λ (i : Nat) => .int (QaT R L i)) (out := λ (i : Nat) => .int (2 * QaT R L i)) (List.range m) (Q7 (Qs (r := ⟨[Qt m R L], false, []⟩) rfl (hs m R L hm hl hR hL) rfl) rfl) rfl λ i _ => ⟨[none, some (.int (QaT R L i), true)], rfl, ⟨.int (2 * QaT R L i), true, []⟩, QT (a := 2) (b := QaT R L i) rfl rfl (rb := ⟨.int (QaT R L i), true, []⟩) rfl rfl (QaG (by decide)), rfl, rfl⟩) ⟨rfl, rfl⟩)
theorem Ql6 {n N : Nat} {A : Nat -> Nat -> Int} (hN : n <= N) (hA : ∀ j, j < N -> ∀ r, r < n -> (A j r).natAbs <= 2 ^ 200) (hl : QfM n A) : ∀ k, k <= n -> ∃ m R d, QcN n N k A m R d
 | 0, _ => ⟨_, _, _, QcN.start n N A⟩
 | k + 1, hk => by
  obtain ⟨m, R, d, C⟩ := Ql6 hN hA hl k (by omega)
  have pv := C.Qsd (show k < n by omega) (by omega) hl
  have ex : ∀ i j, ∃ q, i < n -> i ≠ k -> j < N -> R k k * R i j - R i k * R k j = d * q := λ i j => by
   by_cases h : i < n /\ i ≠ k /\ j < N
   ·exact ⟨_, λ h1 h2 h3 => C.clr.exact (by omega) (by omega) h1 h3 h2⟩
   ·exact ⟨0, λ h1 h2 h3 => absurd ⟨h1, h2, h3⟩ h⟩
  refine ⟨_, λ i j => if i = k then R k j else (ex i j).choose, _, C.step (by omega) (by omega) hA pv (λ j _ => by rw [if_pos rfl]) λ i j hi ne hj q hq => ?_⟩
  rw [if_neg ne]
  exact ZaQ C.clr.nz (((ex i j).choose_spec hi ne hj).symm.trans hq)
theorem Qk9 {n N : Nat} (n8 : n <= 8) {A : Nat -> Nat -> Int} {g v : Nat -> Int} (hA : ∀ j, j < n -> ∀ r, r < n -> (A j r).natAbs <= 2 ^ 200) (hl : QfM n A) (hg : ∀ r, r < n -> (g r).natAbs <= 2 ^ 200) (h : ∀ r, r < n -> g r = sm n λ l => v l * A l r) : ∀ l, l < n -> (v l).natAbs < 2 ^ 2000 := λ l hln => by
 obtain ⟨m, R, d, C⟩ := Ql6 (Zk n) hA hl n (Zk n)
 have e1 : det n (cup A l g) = v l * det n A := by
  have e : det n (cup A l g) = det n (cup A l λ r => sm n λ i => v i * A i r) := by
   refine Qcx λ j hj r hr => ?_
   by_cases q : j = l
   ·subst q; rw [QR, QR]; exact h r hr
   ·rw [QG _ _ q, QG _ _ q]
  rw [e, Qfm hln v A n, QdQ (c := l) hln λ i hi ne => by rw [Qf7 hln hi (Ne.symm ne) (by rw [QR, QG _ _ ne]), Zaa], Qar]
 have e2 : det n A = d := by
  rw [← C.clr.det]
  exact Qcx λ j hj r _ => by rw [C.clr.own j hj]
 have b := Zaq (Qd8 (n := n) (m := cup A l g) λ j hj r hr => by
  by_cases q : j = l
  ·subst q; rw [QR]; exact hg r hr
  ·rw [QG _ _ q]; exact hA j hj r hr) (Qgo n8)
 rw [e1, e2, ZaI] at b
 have dz := C.clr.nz
 have := Nat.le_mul_of_pos_right (v l).natAbs (show 0 < d.natAbs by omega)
 omega
noncomputable def QC (m : Nat) (T : Nat -> Nat -> Int) (v : Nat -> Int) : Nat -> Int := λ j => 2 * (0 - T j j) - Qd m T (λ j => 2 * (0 - T j j)) v j
theorem QeJ {m : Nat} {T : Nat -> Nat -> Int} {v : Nat -> Int} (j : Nat) : QC m T v j = - Qu m λ i => v i * T i j := by
 unfold QC Qd; show 2 * (0 - T j j) - (2 * (0 - T j j) + _) = _; omega
def Rec (m : Nat) (T : Nat -> Nat -> Int) (v x : Nat -> Int) : Prop := ∃ (y u : Nat -> Int), (∀ j, j < m -> 0 <= y j) /\ Told m T (λ j => y j + QC m T v j) u /\ ∀ j, j < m -> x j = Qd m T (λ j => y j + QC m T v j) u j
structure Dbl (m : Nat) (T : Nat -> Nat -> Int) (v : Nat -> Int) : Prop where
 told : Told m T (λ j => 2 * (0 - T j j)) v
theorem Dbl.big {m : Nat} {T : Nat -> Nat -> Int} {v : Nat -> Int} (h : Dbl m T v) {j : Nat} (hj : j < m) : (0 - T j j) + 1 <= QC m T v j /\ QC m T v j <= 2 * (0 - T j j) := by
 have h1 := h.told.stb j hj
 have h2 := h.told.pos j hj
 unfold QC
 omega
noncomputable def Qnj (Qah : Den) (Qbc : Den) (Qd4 : Den) (Qax : Den) (Qdp : Den) : DS := (Qe (QdX (Qr 2 Qah [] (Qc (Qa 0) (Qc (Qas (Qc (Qa 1) Qf)) Qf)))) (Qe (Qp 2 (Qr 2 Qbc [] (Qc (Qa 0) (Qc (Qa 1) Qf)))) (Qe (Qp 3 (Qr 3 Qd4 [] (Qc (Qa 0) (Qc (Qa 1) (Qc (Qa 2) Qf))))) (Qe (Qp 4 (Qr 2 Qdp [] (Qc (Qa 0) (Qc (Qr 1 Qax [] (Qc (Qa 0) Qf)) Qf)))) (Qe (Qp 5 (QF (QaR (Qr 1 Qax [] (Qc (Qa 0) Qf)) (Qn (Qa 4) (dC (.int 0)))) (.tp [1, 2]) [none, none, none] QL (dOp Qaq (Qa 1) (Qa 2)))) (Qe (Qp 6 (Qz (dBf QfH (Qc (Qz (Qas (Qc (dC (.int 0)) Qf)) (QF (QaR (Qa 3) (Qa 5)) (.tp [1, 2]) [none, none, none] QL (dOp Qaq (dC (.int 0)) (dOp Qba (Qa 1) (Qa 2))))) Qf)) (dC (.int 1)))) (Qe (Qp 7 (QF (QaR (Qa 3) (Qa 5)) (.tp [1, 2]) [none, none, none, some 6] QL (Qz (Qa 1) (QS (Qa 3) (Qa 2))))) (Qe (Qp 8 (Qr 2 Qdp [] (Qc (Qa 0) (Qc (Qa 7) Qf)))) (Qe (Qp 9 (QF (Qff (Qa 2) (Qn (Qa 4) (dC (.int 1))) (Qn (Qa 8) (dC (.int 1)))) (.tp [1, 2, 3]) [none, none, none, none, some 6] QL (Qz (dOp Qaq (Qa 1) (QS (Qa 4) (Qa 2))) (Qa 3)))) (Qe (QM (QaW (Qc (Qn (Qa 8) (dC (.int 0))) (Qc (Qa 9) Qf)))) Qm))))))))))
theorem QwC {m : Nat} {f g h : Nat -> D} : QeS ((List.range m).map f) ((List.range m).map g) ((List.range m).map h) = (List.range m).map λ i => .tup [f i, g i, h i] := by
 unfold QeS
 refine Zaw λ i => ?_
 by_cases hi : i < m
 ·have a : ∀ (k : Nat -> D), ((List.range m).map k)[i]? = some (k i) := λ k => by rw [Zm, Zz hi]; rfl
  have e1 : (((List.range m).map g).zip ((List.range m).map h))[i]? = some (g i, h i) := Zan.mpr ⟨a g, a h⟩
  have e2 : (((List.range m).map f).zip (((List.range m).map g).zip ((List.range m).map h)))[i]? = some (f i, (g i, h i)) := Zan.mpr ⟨a f, e1⟩
  rw [Zm, e2, a]
  rfl
 ·rw [Zo (by simp; omega), Zo (by simp; omega)]
theorem QhF {fa fb fc : DE} {ρ : En} {ra rb rc : R} {m : Nat} {f g h : Nat -> D} (ha : fa ρ = some ra) (ea : ra.d = .lst ((List.range m).map f)) (hb : fb ρ = some rb) (eb : rb.d = .lst ((List.range m).map g)) (hc : fc ρ = some rc) (ec : rc.d = .lst ((List.range m).map h)) : Qff fa fb fc ρ = some ⟨(List.range m).map λ i => .tup [f i, g i, h i], ra.M ++ (rb.M ++ rc.M)⟩ := by
 unfold Qff
 rw [ha, Za, hb, Za, hc, Za, ea, eb, ec]
 show (if _ then _ else _) = _
 rw [if_pos (by simp), QwC]
def Qea (d : Den) : Prop := ∀ (m : Nat) (R L : List (Int × Int)) (f : Nat -> Int), 0 < m -> m <= 8 -> Qbp m R L -> (∀ j, j < m -> (f j).natAbs <= 2 ^ 200) -> ∃ k v, d [Qt m R L, Qb m f] = some (.tup [Qb m (Qd m (Qj m (Qg R L)) f k), Qb m k], true) /\ Dbl m (Qj m (Qg R L)) v /\ Rec m (Qj m (Qg R L)) v (Qd m (Qj m (Qg R L)) f k) /\ Stb m (Qj m (Qg R L)) (Qd m (Qj m (Qg R L)) f k) /\ ∀ j, j < m -> 0 <= Qd m (Qj m (Qg R L)) f k j
set_option maxHeartbeats 0 in
theorem QrV {dn dc da dd ds : Den} (hn : Qgg dn) (hc : Qi7 dc) (ha : Qju da) (hd : Qgx dd) (hs : QjC ds) : Qea (Ql 10 (Qnj dn dc da dd ds)) := λ m R L f m0 m8 hw hf => by
 have hg := hw.good
 have tp := hw.tp
 obtain ⟨c, ec, bc⟩ := hc m R L f m8 hw hf
 have ea := ha m R L f c (by omega) (by omega) hg.1 hg.2.1
 have ed := hd m R L (by omega) (by omega) hg.1 hg.2.1
 have sp : ∀ j, j < m -> QaT R L j = 0 - Qj m (Qg R L) j j := λ j hj => (hw.neg hj).symm
 rw [show (Qb m λ i => 2 * QaT R L i) = Qb m λ i => 2 * (0 - Qj m (Qg R L) i i) from congrArg D.lst (ZA λ i hi => by show D.int (2 * QaT R L i) = D.int (2 * (0 - Qj m (Qg R L) i i)); rw [sp i (Zn.mp hi)])] at ed
 obtain ⟨v, ev, hv⟩ := hs m R L (λ i => 2 * (0 - Qj m (Qg R L) i i)) m0 (by omega) hw λ j hj => by
  have := tp.neg j hj
  have := tp.bnd j j hj hj
  have : (2 : Int) ^ 66 <= 2 ^ 200 := by decide
  omega
 have DD : Dbl m (Qj m (Qg R L)) v := ⟨hv⟩
 have still := hs m R L
 generalize Qj m (Qg R L) = T at *
 generalize hlow : Qd m T f c = low at *
 have big := λ j hj => DD.big (j := j) hj
 have hmo : ∀ j, j < m -> 2 * (0 - T j j) - Qd m T (λ i => 2 * (0 - T i i)) v j = QC m T v j := λ j hj => rfl
 generalize hmore : QC m T v = mo at *
 have vb : ∀ l, l < m -> (v l).natAbs < 2 ^ 2000 := Qk9 (N := m) m8 (A := λ l r => 0 - T l r) (g := mo) (λ j hj r hr => by have := tp.bnd j r hj hr; have : (2 : Nat) ^ 64 <= 2 ^ 200 := ZH (by decide) (by decide); omega) (QiV tp) (λ r hr => by
  have b := big r hr
  have := tp.neg r hr
  have := tp.bnd r r hr hr
  have : (2 : Nat) ^ 66 <= 2 ^ 200 := ZH (by decide) (by decide)
  omega) λ r hr => by
  rw [← hmore, QeJ, Qeb, ← QcW]
  exact QJ λ i _ => by rw [ZaF, Zau]
 obtain ⟨top, ⟨i0, hi0, etop⟩, hmax, evmax⟩ := Qm5 (m := 1 + m) (by omega) (λ i => if i < 1 then 0 else 0 - low (i - 1) / mo (i - 1))
 have top0 : 0 <= top := by have := hmax 0 (by omega); rw [if_pos (by omega)] at this; exact this
 have topj : ∀ j, j < m -> 0 - low j / mo j <= top := λ j hj => by
  have := hmax (j + 1) (by omega)
  rw [if_neg (by omega), ZaW] at this
  exact this
 have mo0 : ∀ j, j < m -> 0 < mo j := λ j hj => by have := big j hj; have := tp.neg j hj; omega
 have mo1 : ∀ j, j < m -> mo j < 2 ^ 66 := λ j hj => by have := big j hj; have := tp.bnd j j hj hj; omega
 have topU : top <= 2 ^ 67 := by
  rw [etop]
  split
  ·decide
  ·rename_i h
   have hj : i0 - 1 < m := by omega
   have b := bc (i0 - 1) hj
   have p := mo0 (i0 - 1) hj
   have : -(2 ^ 67) <= low (i0 - 1) / mo (i0 - 1) := by
    rw [Int.le_ediv_iff_mul_le p]
    have := ZJ (show (1 : Int) <= mo (i0 - 1) by omega) (show (0 : Int) <= 2 ^ 67 by decide)
    rw [Zav]
    omega
   omega
 have y0 : ∀ j, j < m -> 0 <= low j + top * mo j := λ j hj => by
  have h1 := ZZ (topj j hj) (show 0 <= mo j from Int.le_of_lt (mo0 j hj))
  have h2 := Zbf (low j) (mo j)
  have h3 := ZD (low j) (by have := mo0 j hj; omega : mo j ≠ 0)
  rw [ZaF, Zav, Zak (low j / mo j)] at h1
  omega
 have hi : ∀ j, j < m -> 0 <= low j + (top + 1) * mo j /\ low j + (top + 1) * mo j < 2 ^ 200 := λ j hj => by
  have h1 := y0 j hj
  have h2 := mo0 j hj
  have h3 := mo1 j hj
  have h4 := Int.mul_le_mul (show top + 1 <= 2 ^ 67 + 1 by omega) (show mo j <= 2 ^ 66 by omega) (by omega) (by decide)
  have h5 : (2 : Int) ^ 67 + (2 ^ 67 + 1) * 2 ^ 66 < 2 ^ 200 := by decide
  have h6 := (bc j hj).2
  rw [ZK, Zal] at h4 ⊢
  omega
 obtain ⟨u, eu, hu⟩ := still (λ j => low j + (top + 1) * mo j) m0 (by omega) hw hi
 have key : ∀ j, Qd m T (λ j => low j + (top + 1) * mo j) u j = Qd m T f (λ i => c i - (top + 1) * v i + u i) j := λ j => by
  rw [← hlow, ← hmore]
  unfold Qd
  show f j + Qu m (λ i => c i * T i j) + (top + 1) * QC m T v j + Qu m (λ i => u i * T i j) = f j + Qu m λ i => (c i - (top + 1) * v i + u i) * T i j
  rw [QeJ, Zau, ← Qdx]
  have : (λ i => (c i - (top + 1) * v i + u i) * T i j) = λ i => (c i * T i j + -((top + 1) * (v i * T i j))) + u i * T i j := by
   funext i; rw [ZK, Int.sub_mul, Zah]; omega
  rw [this, Qaz, Qaz, QcW]
  omega
 have row : Qb m (Qd m T (λ j => low j + (top + 1) * mo j) u) = Qb m (Qd m T f (λ i => c i - (top + 1) * v i + u i)) := congrArg D.lst (ZA λ j _ => by rw [key j])
 refine ⟨λ i => c i - (top + 1) * v i + u i, v, Q4 ?_, DD, ⟨λ j => low j + top * mo j, u, y0, ?_, λ j _ => ?_⟩, λ j hj => ?_, λ j hj => ?_⟩
 ·refine run_seq (QfB (Qs (r := ⟨[Qt m R L, .lst [Qb m f]], false, []⟩) rfl (hn m R L [f]) rfl) ?_)
  refine run_seq (Qh (Qs (r := ⟨[Qt m R L, Qb m f], false, []⟩) rfl ec rfl) ?_)
  rw [Qk]
  refine run_seq (Qh (Qs (r := ⟨[Qt m R L, Qb m f, Qb m c], false, [2]⟩) rfl ea rfl) ?_)
  rw [Qk]
  refine run_seq (Qh (Qs (Qv (r := ⟨Qt m R L, false, []⟩) rfl (Qv (Qs (r := ⟨[Qt m R L], false, []⟩) rfl ed rfl) (Q5 _))) ev rfl) ?_)
  rw [Qk]
  refine run_seq (Qh (r := ⟨Qb m mo, true, []⟩) (QE (toD := λ (j : Nat) => .tup [.int (2 * (0 - T j j)), .int (Qd m T (λ i => 2 * (0 - T i i)) v j)]) (out := λ (j : Nat) => .int (mo j)) (List.range m) (Qbi (f := λ j => .int (2 * (0 - T j j))) (g := λ j => .int (Qd m T (λ i => 2 * (0 - T i i)) v j)) (Qs (r := ⟨[Qt m R L], false, []⟩) rfl ed rfl) rfl (rb := ⟨Qb m (Qd m T (λ i => 2 * (0 - T i i)) v), true, [4]⟩) rfl rfl) rfl λ j hj => ⟨[none, some (.int (2 * (0 - T j j)), true), some (.int (Qd m T (λ i => 2 * (0 - T i i)) v j), true)], rfl, ⟨.int (2 * (0 - T j j) - Qd m T (λ i => 2 * (0 - T i i)) v j), true, []⟩, rfl, by rw [← hmo j (Zn.mp hj)], rfl⟩) ?_)
  rw [Qk]
  refine run_seq (Qh (r := ⟨.int (top + 1), true, []⟩) (QP (a := top) (b := 1) (evmax (QrL (m := 1) (k := m) (f := λ _ => 0) (g := λ j => 0 - low j / mo j) (ra := ⟨Qb 1 λ _ => 0, true, []⟩) rfl rfl (QE (toD := λ (j : Nat) => .tup [.int (low j), .int (mo j)]) (out := λ (j : Nat) => .int (0 - low j / mo j)) (List.range m) (Qbi (f := λ j => .int (low j)) (g := λ j => .int (mo j)) (ra := ⟨Qb m low, true, [3]⟩) rfl rfl (rb := ⟨Qb m mo, true, [5]⟩) rfl rfl) rfl λ j hj => ⟨[none, some (.int (low j), true), some (.int (mo j), true)], rfl, ⟨.int (0 - low j / mo j), true, []⟩, Qb1 (a := 0) (b := low j / mo j) (ra := ⟨.int 0, true, []⟩) rfl rfl (Qne (a := low j) (b := mo j) (ra := ⟨.int (low j), true, []⟩) (rb := ⟨.int (mo j), true, []⟩) rfl rfl rfl rfl (mo0 j (Zn.mp hj)) (by have := mo0 j (Zn.mp hj); have := mo1 j (Zn.mp hj); have : (2 : Nat) ^ 66 <= 2 ^ 2000 := ZH (by decide) (by decide); omega)) rfl, rfl, rfl⟩) rfl (by omega)) rfl) rfl rfl rfl) ?_)
  rw [Qk]
  refine run_seq (Qh (r := ⟨Qb m λ j => low j + (top + 1) * mo j, true, []⟩) (QE (toD := λ (j : Nat) => .tup [.int (low j), .int (mo j)]) (out := λ (j : Nat) => .int (low j + (top + 1) * mo j)) (List.range m) (Qbi (f := λ j => .int (low j)) (g := λ j => .int (mo j)) (ra := ⟨Qb m low, true, [3]⟩) rfl rfl (rb := ⟨Qb m mo, true, [5]⟩) rfl rfl) rfl λ j hj => ⟨[none, some (.int (low j), true), some (.int (mo j), true), some (.int (top + 1), true)], rfl, ⟨.int (low j + (top + 1) * mo j), true, []⟩, QP (a := low j) (b := (top + 1) * mo j) (ra := ⟨.int (low j), true, []⟩) rfl rfl (QT (a := top + 1) (b := mo j) (ra := ⟨.int (top + 1), true, []⟩) (rb := ⟨.int (mo j), true, []⟩) rfl rfl rfl rfl (Qee (Qbq (by have : (2 : Nat) ^ 68 <= 2 ^ 2000 := ZH (by decide) (by decide); omega)) (Qbq (by have := mo0 j (Zn.mp hj); have := mo1 j (Zn.mp hj); have : (2 : Nat) ^ 66 <= 2 ^ 2000 := ZH (by decide) (by decide); omega)))) rfl, rfl, rfl⟩) ?_)
  rw [Qk]
  refine run_seq (Qh (Qs (r := ⟨[Qt m R L, Qb m λ j => low j + (top + 1) * mo j], false, [7]⟩) rfl eu rfl) ?_)
  rw [Qk]
  refine run_seq (Qh (r := ⟨Qb m λ i => c i - (top + 1) * v i + u i, true, []⟩) (QE (toD := λ (i : Nat) => .tup [.int (c i), .int (v i), .int (u i)]) (out := λ (i : Nat) => .int (c i - (top + 1) * v i + u i)) (List.range m) (QhF (f := λ i => .int (c i)) (g := λ i => .int (v i)) (h := λ i => .int (u i)) (ra := ⟨Qb m c, true, [2]⟩) rfl rfl (rb := ⟨Qb m v, true, [4]⟩) rfl rfl (rc := ⟨Qb m u, true, [8]⟩) rfl rfl) rfl λ i hi => ⟨[none, some (.int (c i), true), some (.int (v i), true), some (.int (u i), true), some (.int (top + 1), true)], rfl, ⟨.int (c i - (top + 1) * v i + u i), true, []⟩, QP (a := c i - (top + 1) * v i) (b := u i) (Qb1 (a := c i) (b := (top + 1) * v i) (ra := ⟨.int (c i), true, []⟩) rfl rfl (QT (a := top + 1) (b := v i) (ra := ⟨.int (top + 1), true, []⟩) (rb := ⟨.int (v i), true, []⟩) rfl rfl rfl rfl ?_) rfl) rfl (rb := ⟨.int (u i), true, []⟩) rfl rfl, rfl, rfl⟩) ?_)
  rotate_left
  ·rw [Qk]
   refine QA (r := ⟨.tup [Qb m (Qd m T (λ j => low j + (top + 1) * mo j) u), Qb m λ i => c i - (top + 1) * v i + u i], true, [8, 9]⟩) rfl ⟨by rw [row], rfl⟩
  ·exact Qee (Qbq (by have : (2 : Nat) ^ 68 <= 2 ^ 2000 := ZH (by decide) (by decide); omega)) (Qbq (vb i (Zn.mp hi)))
 ·refine ⟨hu.leg.QiL λ j hj => ?_, λ j hj => ?_, λ j hj => ?_⟩
  ·show _ = low j + top * mo j + QC m T v j; rw [hmore, ZK, Zal]; omega
  ·have := hu.pos j hj
   rw [Qak (g := λ j => low j + top * mo j + QC m T v j) j (by show _ = low j + top * mo j + QC m T v j; rw [hmore, ZK, Zal]; omega) λ i _ => rfl] at this
   exact this
  ·have := hu.stb j hj
   rw [Qak (g := λ j => low j + top * mo j + QC m T v j) j (by show _ = low j + top * mo j + QC m T v j; rw [hmore, ZK, Zal]; omega) λ i _ => rfl] at this
   exact this
 ·rw [← key j]
  exact Qak j (by show _ = low j + top * mo j + QC m T v j; rw [hmore, ZK, Zal]; omega) λ i _ => rfl
 ·rw [← key j]; exact hu.stb j hj
 ·rw [← key j]; exact hu.pos j hj
theorem Dbl.round {m : Nat} {T : Nat -> Nat -> Int} {v : Nat -> Int} (h : Dbl m T v) (tp : TP m T) {y u : Nat -> Int} (y0 : ∀ j, j < m -> 0 <= y j) (hu : Told m T (λ j => y j + QC m T v j) u) : Told m T (λ j => y j + QC m T v j + QC m T v j) (λ i => v i + u i) /\ ∀ j, j < m -> Qd m T (λ j => y j + QC m T v j) u j = Qd m T (λ j => y j + QC m T v j + QC m T v j) (λ i => v i + u i) j := by
 refine h.told.lay (λ j hj => ?_) (λ j hj => ?_) hu
 ·have b := h.big hj
  have := h.told.stb j hj
  have e : QC m T v j = 2 * (0 - T j j) - Qd m T (λ j => 2 * (0 - T j j)) v j := rfl
  have := y0 j hj
  omega
 ·have e : QC m T v j = 2 * (0 - T j j) - Qd m T (λ j => 2 * (0 - T j j)) v j := rfl
  omega
theorem Rec.comes {m : Nat} {T : Nat -> Nat -> Int} {v x w : Nat -> Int} (tp : TP m T) (h : Dbl m T v) (hr : Rec m T v x) (hw : Told m T (λ j => x j + QC m T v j) w) : ∀ j, j < m -> Qd m T (λ j => x j + QC m T v j) w j = x j := λ j hj => by
 obtain ⟨y, u, y0, hu, ex⟩ := hr
 obtain ⟨t2, e2⟩ := h.round tp y0 hu
 obtain ⟨t1, e1⟩ := hu.lay (F' := λ j => y j + QC m T v j + QC m T v j) (h := λ j => x j + QC m T v j) (c := w) (λ j hj => by have := h.big hj; have := tp.neg j hj; show _ <= y j + QC m T v j + QC m T v j; omega) (λ j hj => by show x j + _ = _; rw [ex j hj]; omega) hw
 have one := t1.one tp t2
 rw [e1 j hj, ex j hj, e2 j hj]
 exact Qak j rfl one
theorem Dbl.pos {m : Nat} {T : Nat -> Nat -> Int} {v : Nat -> Int} (tp : TP m T) (h : Dbl m T v) {j : Nat} (hj : j < m) : 1 <= v j := by
 refine Zab λ z => ?_
 have v0 : v j = 0 := by have := h.told.leg.nonneg j; omega
 have s := h.told.stb j hj
 have : 0 <= Qu m λ i => v i * T i j := Qjo λ i hi => by
  by_cases e : i = j
  ·rw [e, v0, ZN]; exact ZaN _
  ·exact Zaj (h.told.leg.nonneg i) (tp.pos i j hi hj e)
 have e : Qd m T (λ j => 2 * (0 - T j j)) v j = 2 * (0 - T j j) + Qu m λ i => v i * T i j := rfl
 have := tp.neg j hj
 omega
theorem Rec.Qr5 {m : Nat} {T : Nat -> Nat -> Int} {v y u : Nat -> Int} (tp : TP m T) (h : Dbl m T v) (y0 : ∀ j, j < m -> 0 <= y j) (hu : Told m T (λ j => y j + QC m T v j) u) : ∀ N : Nat, Told m T (λ j => (y j + N * QC m T v j) + QC m T v j) (λ i => u i + N * v i) /\ ∀ j, j < m -> Qd m T (λ j => (y j + N * QC m T v j) + QC m T v j) (λ i => u i + N * v i) j = Qd m T (λ j => y j + QC m T v j) u j
 | 0 => by
  have e1 : (λ j => (y j + ((0 : Nat) : Int) * QC m T v j) + QC m T v j) = λ j => y j + QC m T v j := by funext j; simp
  have e2 : (λ i => u i + ((0 : Nat) : Int) * v i) = u := by funext i; simp
  rw [e1, e2]
  exact ⟨hu, λ _ _ => rfl⟩
 | N + 1 => by
  obtain ⟨t, e⟩ := Rec.Qr5 tp h y0 hu N
  obtain ⟨t2, e2⟩ := h.round tp (y := λ j => y j + N * QC m T v j) (λ j hj => by
   have := h.big hj
   have := tp.neg j hj
   have := Zaj (show (0 : Int) <= N by omega) (show 0 <= QC m T v j by omega)
   have := y0 j hj
   show 0 <= y j + N * QC m T v j
   omega) t
  have e3 : (λ j => (y j + ((N + 1 : Nat) : Int) * QC m T v j) + QC m T v j) = λ j => y j + N * QC m T v j + QC m T v j + QC m T v j := by
   funext j; rw [ZaT, ZK]; simp; omega
  have e4 : (λ i => u i + ((N + 1 : Nat) : Int) * v i) = λ i => v i + (u i + N * v i) := by
   funext i; rw [ZaT, ZK]; simp; omega
  rw [e3, e4]
  exact ⟨t2, λ j hj => by rw [← e2 j hj, e j hj]⟩
theorem Qnh {m : Nat} {T : Nat -> Nat -> Int} {f c d : Nat -> Int} (j : Nat) : Qd m T (Qd m T f c) d j = Qd m T f (λ i => c i + d i) j := by
 unfold Qd
 have : (λ i => (c i + d i) * T i j) = λ i => c i * T i j + d i * T i j := by funext i; rw [ZK]
 rw [this, Qaz]
 omega
theorem QrO {m : Nat} (d : Nat -> Int) : ∃ N : Nat, ∀ i, i < m -> -(N : Int) <= d i := by
 induction m with
 | zero => exact ⟨0, λ i hi => by omega⟩
 | succ m ih =>
  obtain ⟨N, h⟩ := ih
  refine ⟨N + (d m).natAbs, λ i hi => ?_⟩
  by_cases e : i = m
  ·subst e; omega
  ·have := h i (by omega); omega
theorem Rec.least {m : Nat} {T : Nat -> Nat -> Int} {v x d : Nat -> Int} (tp : TP m T) (h : Dbl m T v) (hr : Rec m T v x) (hs : Stb m T (Qd m T x d)) : ∀ i, i < m -> 0 <= d i := by
 obtain ⟨y, u, y0, hu, ex⟩ := hr
 obtain ⟨N, hN⟩ := QrO (m := m) d
 obtain ⟨t, e⟩ := Rec.Qr5 tp h y0 hu N
 have := t.leg.least tp (c' := λ i => (u i + N * v i) + d i) (λ i hi => by
  have h1 := h.pos tp hi
  have h2 := hu.leg.nonneg i
  have h3 := hN i hi
  have h4 := ZJ h1 (show (0 : Int) <= N by omega)
  show 0 <= u i + N * v i + d i
  omega) (λ p hp => by
  have := hs p hp
  rw [← Qnh]
  have e2 : Qd m T (Qd m T (λ j => (y j + N * QC m T v j) + QC m T v j) λ i => u i + N * v i) d p = Qd m T x d p := Qak p (by rw [e p hp, ex p hp]) λ _ _ => rfl
  rw [e2]; exact this)
 intro i hi
 have := this i hi
 omega
theorem Rec.one {m : Nat} {T : Nat -> Nat -> Int} {v v' x x' d : Nat -> Int} (tp : TP m T) (h : Dbl m T v) (h' : Dbl m T v') (hr : Rec m T v x) (hr' : Rec m T v' x') (sx : Stb m T x) (sx' : Stb m T x') (e : ∀ j, j < m -> x' j = Qd m T x d j) : ∀ i, i < m -> d i = 0 := λ i hi => by
 have a := hr.least tp h (d := d) (λ p hp => by rw [← e p hp]; exact sx' p hp) i hi
 have b := hr'.least tp h' (d := λ i => - d i) (λ p hp => by
  have : Qd m T x' (λ i => - d i) p = x p := by
   have q : Qd m T x' (λ i => - d i) p = Qd m T (Qd m T x d) (λ i => - d i) p := Qak p (e p hp) λ _ _ => rfl
   rw [q, Qnh]
   unfold Qd
   rw [QJ (g := λ _ => 0) λ i _ => by show (d i + - d i) * T i p = 0; rw [Int.add_right_neg, ZN], Qag]
   omega
  rw [this]; exact sx p hp) i hi
 omega
noncomputable def Qdr (Q1 : Den) (Qcg : Den) (Qb3 : Den) : DS := (Qe (Qp 3 (Qz (dC (.int 1)) (dOp QZ (Qr 2 Q1 [] (Qc (Qa 0) (Qc (dC (.int 0)) Qf))) (Qa 1)))) (Qe (Qp 4 (dOp QZ (dOp Qba (Qr 2 Q1 [] (Qc (Qa 0) (Qc (dC (.int 1)) Qf))) (dC (.int 6))) (dC (.int 1000003)))) (Qe (Qp 5 (dOp QZ (Qr 2 Q1 [] (Qc (Qa 0) (Qc (dC (.int 1)) Qf))) (dC (.int 6)))) (Qe (Qp 6 (QF (Qau (dOp QZ (Qr 2 Q1 [] (Qc (Qa 0) (Qc (dC (.int 2)) Qf))) (Qz (Qa 2) (dC (.int 1))))) (.nm 1) [none, none, some 0] QL (Qr 2 Q1 [] (Qc (Qa 2) (Qc (Qz (dC (.int 3)) (Qa 1)) Qf))))) (Qe (Qp 7 (Qr 4 Qb3 [] (Qc (Qr 3 Qcg [] (Qc (Qa 3) (Qc (Qa 4) (Qc (Qa 5) Qf)))) (Qc (Qa 6) (Qc (Qa 3) (Qc (Qa 5) Qf)))))) (Qe (sIf (QI (dOp gEq (dOp QZ (Qa 4) (dC (.int 2))) (dC (.int 1)))) (Qe (Qp 7 (QlI (Qa 7) (QhA (dC (.int 1))))) Qm) Qm) (Qe (Qp 8 (QF (QY (Qa 7)) (.tp [1, 2, 3]) [none, none, none, none] (Qdj (QI (Qa 3))) (QaW (Qc (dBf QiD (Qc (Qa 1) (Qc (Qa 2) Qf))) (Qc (dBf Qio (Qc (Qa 1) (Qc (Qa 2) Qf))) Qf))))) (Qe (Qp 9 (QF (QY (Qa 7)) (.tp [1, 2, 3]) [none, none, none, none] (QI (Qa 3)) (QaW (Qc (Qa 1) (Qc (Qa 2) Qf))))) (Qe (QM (QaW (Qc (Qa 3) (Qc (Qa 8) (Qc (Qa 9) Qf))))) Qm)))))))))
def Qi4 (d : Den) : Prop := ∀ (ns : List Int) (most upto : Nat), ns.length <= 63 -> (∀ k, QdJ (ns.getD k 0)) -> 0 < most -> most <= 8 -> upto <= 20 -> ∃ (m : Nat) (R L : List (Int × Int)), d [.lst (ns.map .int), .int most, .int upto] = some (Qt m R L, true) /\ 0 < m /\ m <= most /\ Qbp m R L
theorem QqM {dc db dm : Den} (hc : QgP dc) (hb : QkF db) (hm : Qlz dm) : Qi4 (Ql 10 (Qdr dc db dm)) := λ ns most upto hl hbits hm0 hm8 hup => by
 obtain ⟨F, hF⟩ := hc ns hl hbits
 have b1 := ZD (F 0) (by omega : (most : Int) ≠ 0)
 have b2 := ZC (F 0) (by omega : (0 : Int) < most)
 obtain ⟨m1, em1⟩ : ∃ m : Nat, (m : Int) = 1 + F 0 % most := ⟨(1 + F 0 % most).toNat, by omega⟩
 have t1 := ZD (F 1 / 6) (by decide : (1000003 : Int) ≠ 0)
 have t2 := ZC (F 1 / 6) (by decide : (0 : Int) < 1000003)
 generalize et : F 1 / 6 % 1000003 = t at t1 t2
 generalize ek : F 1 % 6 = kind
 have u1 := ZD (F 2) (by omega : (upto : Int) + 1 ≠ 0)
 have u2 := ZC (F 2) (by omega : (0 : Int) < (upto : Int) + 1)
 obtain ⟨n, en⟩ : ∃ n : Nat, (n : Int) = F 2 % ((upto : Int) + 1) := ⟨(F 2 % ((upto : Int) + 1)).toNat, by omega⟩
 have key : Run (Qdr dc db dm) (QaI 10 [.lst (ns.map .int), .int most, .int upto]) (Rt λ d fr => ∃ (m : Nat) (R L : List (Int × Int)), d = Qt m R L /\ fr = true /\ 0 < m /\ m <= most /\ Qbp m R L) := by
  have cell : ∀ (ρ : En) (k : Nat), k <= 1000 -> ρ[0]? = some (some (.lst (ns.map .int), false)) -> Qr 2 dc [] (Qc (Qa 0) (Qc (dC (.int k)) Qf)) ρ = some ⟨.int (F k), true, []⟩ := λ ρ k hk h0 => Qs (Qv (QaD h0) (Qv (QaM _ _) (Q5 _))) (hF k hk).1 rfl
  refine run_seq (Qh (QP (a := 1) rfl rfl (Q6 (b := most) (cell _ 0 (by decide) rfl) rfl rfl rfl (by omega)) rfl) ?_)
  rw [Qk, ← em1]
  refine run_seq (Qh (Q6 (b := 1000003) (Qfl (b := 6) (cell _ 1 (by decide) rfl) rfl rfl rfl (by decide) (by decide)) rfl rfl rfl (by decide)) ?_)
  rw [Qk, et]
  refine run_seq (Qh (Q6 (b := 6) (cell _ 1 (by decide) rfl) rfl rfl rfl (by decide)) ?_)
  rw [Qk, ek]
  have m0 : 0 < m1 := by omega
  have m8 : m1 <= most := by omega
  have er : dOp QZ (Qr 2 dc [] (Qc (Qa 0) (Qc (dC (.int 2)) Qf))) (Qz (Qa 2) (dC (.int 1))) [some (.lst (ns.map .int), false), some (.int most, true), some (.int upto, true), some (.int m1, true), some (.int t, true), some (.int kind, true), none, none, none, none] = some ⟨.int n, true, []⟩ :=
   (Q6 (a := F 2) (b := (upto : Int) + 1) (cell _ 2 (by decide) rfl) rfl (QP (a := upto) (b := 1) (ra := ⟨.int upto, true, []⟩) (rb := ⟨.int 1, true, []⟩) rfl rfl rfl rfl) rfl (by omega)).trans (by rw [en])
  refine run_seq (Qh (r := ⟨.lst (((List.range n).map λ k => F (3 + k)).map .int), true, []⟩) ((QE (toD := λ (k : Nat) => .int (k : Int)) (out := λ (k : Nat) => .int (F (3 + k))) (List.range n) (QaF (n := n) er rfl (by omega)) rfl λ k hk => ⟨[none, some (.int k, true), some (.lst (ns.map .int), false)], rfl, ⟨.int (F (3 + k)), true, []⟩, Qs (Qv (r := ⟨.lst (ns.map .int), false, []⟩) rfl (Qv (QP (a := 3) (b := k) (ra := ⟨.int 3, true, []⟩) (rb := ⟨.int k, true, []⟩) rfl rfl rfl rfl) (Q5 _))) (by show dc [.lst (ns.map .int), .int (3 + (k : Int))] = _; rw [show (3 : Int) + k = ((3 + k : Nat) : Int) by omega]; exact (hF (3 + k) (by have := Zn.mp hk; omega)).1) rfl, rfl, rfl⟩).trans (by rw [Zaf]; rfl)) ?_)
  rw [Qk]
  generalize hcs : (List.range n).map (λ k => F (3 + k)) = cs
  have hcl : cs.length <= 20 := by rw [← hcs, Zh, Zp]; omega
  have hbase := hb m1 t kind (by omega) (by omega) t1 (by omega)
  obtain ⟨W', fr, hmore, hw1, hw2⟩ := hm m1 (Qbo m1 t kind) cs kind (by omega) (by omega) (by rw [QkS]; omega) Qlv
  have gW : ∀ w ∈ Qbo m1 t kind ++ W', GoodW m1 w := λ w hw => (ZF.mp hw).elim (Qlv w) (hw2 w)
  have easgM : ∀ fr, asg 7 (if fr = true then ⟨Q3 (Qbo m1 t kind ++ W'), true, []⟩ else R.norm ⟨Q3 (Qbo m1 t kind ++ W'), false, [6]⟩) [some (.lst (ns.map .int), false), some (.int most, true), some (.int upto, true), some (.int m1, true), some (.int t, true), some (.int kind, true), some (.lst (cs.map .int), true), none, none, none] = [some (.lst (ns.map .int), false), some (.int most, true), some (.int upto, true), some (.int m1, true), some (.int t, true), some (.int kind, true), some (.lst (cs.map .int), fr), some (Q3 (Qbo m1 t kind ++ W'), fr), none, none] := λ fr => by cases fr <;> rfl
  refine run_seq (Qh (r := if fr = true then ⟨Q3 (Qbo m1 t kind ++ W'), true, []⟩ else R.norm ⟨Q3 (Qbo m1 t kind ++ W'), false, [6]⟩) ?_ ?_)
  ·have eargs : Qc (Qr 3 db [] (Qc (Qa 3) (Qc (Qa 4) (Qc (Qa 5) Qf)))) (Qc (Qa 6) (Qc (Qa 3) (Qc (Qa 5) Qf))) [some (.lst (ns.map .int), false), some (.int most, true), some (.int upto, true), some (.int m1, true), some (.int t, true), some (.int kind, true), some (.lst (cs.map .int), true), none, none, none] = some ⟨[Q3 (Qbo m1 t kind), .lst (cs.map .int), .int m1, .int kind], true, [6]⟩ :=
    Qv (Qs (r := ⟨[.int m1, .int t, .int kind], true, []⟩) rfl hbase rfl) (rs := ⟨[.lst (cs.map .int), .int m1, .int kind], true, [6]⟩) rfl
   exact (QkU eargs hmore rfl).trans (by cases fr <;> rfl)
  refine (congrArg (λ ρ => Run _ ρ _) (easgM fr)).mpr ?_
  refine Qa6 (P := λ ρ => ∃ W b, (∀ w ∈ Qbo m1 t kind, w ∈ W) /\ (∀ w ∈ W, GoodW m1 w) /\ W.length <= 200 /\ ρ = [some (.lst (ns.map .int), false), some (.int most, true), some (.int upto, true), some (.int m1, true), some (.int t, true), some (.int kind, true), some (.lst (cs.map .int), fr), some (Q3 W, b), none, none]) ?_ ?_
  ·have hlen : (Qbo m1 t kind ++ W').length <= 200 := by rw [Zq, QkS]; omega
   refine Q8 (QH (QbF (b := 1) (Q6 (a := t) (b := 2) rfl rfl rfl rfl (by decide)) rfl rfl rfl) rfl) (λ _ => ?_) (λ _ => ?_)
   ·refine run_seq (Qh (Qov (x := 7) (W := Qbo m1 t kind ++ W') rfl) (Qo ?_))
    rw [Qk]
    exact ⟨_, true, λ w hw => List.mem_reverse.mpr (Zg _ hw), λ w hw => gW w (List.mem_reverse.mp hw), by rw [Zbl]; exact hlen, rfl⟩
   ·exact Qo ⟨_, fr, λ w hw => Zg _ hw, gW, hlen, rfl⟩
  ·rintro ρ ⟨W, b, w1, w2, w3, rfl⟩
   refine run_seq (Qh (QqN (W := W) (QaD rfl) (by cases b <;> rfl)) ?_)
   rw [Qk]
   refine run_seq (Qh (Qrw (W := W) (QaD rfl) (by cases b <;> rfl)) ?_)
   rw [Qk]
   exact QA (r := ⟨Qt m1 (QbM W) (Qcd W), true, [8, 9]⟩) rfl ⟨m1, QbM W, Qcd W, rfl, rfl, m0, m8, ⟨W, Qq8.mono w1, w2, w3, rfl, rfl⟩⟩
 obtain ⟨o, h1, h2⟩ := key
 cases o with
 | rt d fr =>
  obtain ⟨m, R, L, rfl, rfl, h3, h4, h5⟩ := h2
  exact ⟨m, R, L, by unfold Ql; rw [h1]; rfl, h3, h4, h5⟩
 | _ => exact h2.elim
noncomputable def QeK : DS := (Qe (QM (QaW (Qc (Qn (Qa 0) (dC (.int 0))) (Qc (dList (Qc (Qn (Qa 0) (dC (.int 1))) Qf)) (Qc (dList (Qc (Qn (Qa 0) (dC (.int 2))) Qf)) Qf))))) Qm)
def QjB (d : Den) : Prop := ∀ (m : Int) (R L : List (Int × Int)), d [Qt m R L] = some (Qt m R L, true)
theorem QqF : QjB (Ql 1 QeK) := λ m R L => by
 refine Q4 (QA (r := ⟨Qt m R L, true, []⟩) ?_ ⟨rfl, rfl⟩)
 obtain ⟨h1, h2, h3⟩ := QcD (m := m) (R := R) (L := L) (fa := Qa 0) (ρ := [some (Qt m R L, false)]) (r := ⟨Qt m R L, false, []⟩) rfl rfl
 unfold QaW
 refine (congrArg (λ z => Option.bind z _) (Qv h1 (Qv (Qhw (A := R) (Qv h2 (Q5 _)) rfl rfl) (Qv (Qhw (A := L) (Qv h3 (Q5 _)) rfl rfl) (Q5 _))))).trans ?_
 rfl
noncomputable def QcH : DS := (Qe (Qp 5 (QF (Qau (Qa 1)) (.nm 1) [none, none, some 3] QL (QS (Qa 2) (Qz (Qa 1) (dC (.int 2)))))) (Qe (QaV (Qau (dBf Qav (Qc (Qa 0) Qf))) (.nm 4) (Qe (Qp 6 (dOp QZ (Qa 4) (Qa 1))) (Qe (Qp 7 (Qz (Qz (QS (Qn (Qa 5) (Qa 6)) (dC (.int 48271))) (QS (Qn (Qa 0) (Qa 4)) (Qa 3))) (Qa 4))) (Qe (Qa4 5 Qam (Qa 6) (dOp QZ (Qa 7) (Qz (QS (dC (.int 2)) (Qa 2)) (dC (.int 1))))) Qm)))) (Qe (QM (QF (QY (Qa 5)) (.nm 1) [none, none, some 2] QL (dOp Qaq (dOp QZ (Qa 1) (Qz (QS (dC (.int 2)) (Qa 2)) (dC (.int 1)))) (Qa 2)))) Qm)))
def Qi6 (d : Den) : Prop := ∀ (ns : List Int) (m : Nat) (far by' : Int), ns.length <= 63 -> 0 < m -> m <= 8 -> 0 <= far -> far <= 10 ^ 17 -> 0 <= by' -> by' < 2 ^ 60 -> ∃ g, d [.lst (ns.map .int), .int m, .int far, .int by'] = some (Qb m g, true) /\ ∀ j, j < m -> -far <= g j /\ g j <= far
theorem Qru : Qi6 (Ql 8 QcH) := λ ns m far by' hl m0 m8 f0 f1 y0 y1 => by
 have key : Run QcH [some (.lst (ns.map .int), false), some (.int m, true), some (.int far, true), some (.int by', true), none, none, none, none] λ o => match o with | .rt d fr => fr = true /\ ∃ g, d = Qb m g /\ ∀ j, j < m -> -far <= g j /\ g j <= far | _ => False := by
  refine run_seq (Qh (r := ⟨Qb m λ k => by' * ((k : Int) + 2), true, []⟩) (QE (toD := λ (k : Nat) => .int (k : Int)) (out := λ (k : Nat) => .int (by' * ((k : Int) + 2))) (List.range m) (QaF (n := m) (r := ⟨.int m, true, []⟩) rfl rfl (by omega)) rfl λ k hk => ⟨[none, some (.int k, true), some (.int by', true)], rfl, ⟨.int (by' * ((k : Int) + 2)), true, []⟩, QT (a := by') (b := (k : Int) + 2) (ra := ⟨.int by', true, []⟩) rfl rfl (QP (a := k) (b := 2) (ra := ⟨.int k, true, []⟩) (rb := ⟨.int 2, true, []⟩) rfl rfl rfl rfl) rfl (QaG (by omega)), rfl, rfl⟩) ?_)
  rw [Qk]
  have efar : ∀ {ρ : En}, ρ[2]? = some (some (.int far, true)) -> Qz (QS (dC (.int 2)) (Qa 2)) (dC (.int 1)) ρ = some ⟨.int (2 * far + 1), true, []⟩ := λ {ρ} h => QP (a := 2 * far) (b := 1) (QT (a := 2) (b := far) (ra := ⟨.int 2, true, []⟩) rfl rfl (QaD h) rfl (QaG (by decide))) rfl (rb := ⟨.int 1, true, []⟩) rfl rfl
  refine QQ (Qal (toD := λ (k : Nat) => .int (k : Int)) (List.range ns.length) (λ _ ρ => ∃ g j4 j6 j7, ρ = [some (.lst (ns.map .int), false), some (.int m, true), some (.int far, true), some (.int by', true), j4, some (Qb m g, true), j6, j7]) (QaF (n := ns.length) ((QcO (xs := ns.map .int) (r := ⟨.lst (ns.map .int), false, []⟩) rfl rfl).trans (by rw [Zh])) rfl (by omega)) rfl ⟨_, none, none, none, rfl⟩ ?_ ?_)
  ·rintro k k' ρ hk ⟨g, j4, j6, j7, rfl⟩
   have hk' : k < ns.length /\ k = k' := by
    obtain ⟨h1, h2⟩ := Zf.mp hk
    simp at h1 h2; exact ⟨h1, h2⟩
   obtain ⟨hkn, rfl⟩ := hk'
   have a1 := ZD (k : Int) (by omega : (m : Int) ≠ 0)
   have a2 := ZC (k : Int) (by omega : (0 : Int) < m)
   refine ⟨[some (.lst (ns.map .int), false), some (.int m, true), some (.int far, true), some (.int by', true), some (.int k, true), some (Qb m g, true), j6, j7], rfl, ?_⟩
   refine run_seq (Qh (r := ⟨.int ((k : Int) % m), true, []⟩) (Q6 (a := k) (b := m) (ra := ⟨.int k, true, []⟩) (rb := ⟨.int m, true, []⟩) rfl rfl rfl rfl (by omega)) ?_)
   rw [Qk]
   generalize (k : Int) % m = at' at a1 a2
   obtain ⟨x, hx⟩ : ∃ x, ns[k]? = some x := ⟨_, Zar hkn⟩
   refine run_seq (Qh (r := ⟨.int (g at'.toNat * 48271 + x * by' + k), true, []⟩) (QP (a := g at'.toNat * 48271 + x * by') (b := k) (QP (a := g at'.toNat * 48271) (b := x * by') (QT (a := g at'.toNat) (b := 48271) (QgM (m := m) (f := g) (i := at') (ra := ⟨Qb m g, true, [5]⟩) (rb := ⟨.int at', true, []⟩) rfl rfl rfl rfl a1 a2) rfl (rb := ⟨.int 48271, true, []⟩) rfl rfl (Qbe (by decide))) rfl (QT (a := x) (b := by') (QgG (ns := ns) (i := k) (v := x) (ra := ⟨.lst (ns.map .int), false, []⟩) (rb := ⟨.int k, true, []⟩) rfl rfl rfl rfl (by omega) (by rw [ZW]; exact hx)) rfl (rb := ⟨.int by', true, []⟩) rfl rfl (Qbe (by omega))) rfl) rfl (rb := ⟨.int k, true, []⟩) rfl rfl) ?_)
   rw [Qk]
   refine run_seq (Qlj (m := m) (f := g) (i := at') (v := (g at'.toNat * 48271 + x * by' + k) % (2 * far + 1)) (ri := ⟨.int at', true, []⟩) rfl rfl rfl (Q6 (a := g at'.toNat * 48271 + x * by' + k) (b := 2 * far + 1) (ra := ⟨.int (g at'.toNat * 48271 + x * by' + k), true, []⟩) rfl rfl (efar rfl) rfl (by omega)) rfl a1 a2 (Qo ?_))
   exact ⟨_, _, _, _, rfl⟩
  ·rintro ρ ⟨g, j4, j6, j7, rfl⟩
   refine QA (r := ⟨Qb m λ j => g j % (2 * far + 1) - far, true, []⟩) (QE (toD := λ (j : Nat) => .int (g j)) (out := λ (j : Nat) => .int (g j % (2 * far + 1) - far)) (List.range m) (Q7 (r := ⟨Qb m g, true, [5]⟩) rfl rfl) rfl λ j _ => ⟨[none, some (.int (g j), true), some (.int far, true)], rfl, ⟨.int (g j % (2 * far + 1) - far), true, []⟩, Qb1 (a := g j % (2 * far + 1)) (b := far) (Q6 (a := g j) (b := 2 * far + 1) (ra := ⟨.int (g j), true, []⟩) rfl rfl (efar rfl) rfl (by omega)) rfl (rb := ⟨.int far, true, []⟩) rfl rfl, rfl, rfl⟩) ⟨rfl, _, rfl, λ j _ => ?_⟩
   have := ZD (g j) (by omega : 2 * far + 1 ≠ 0)
   have := ZC (g j) (by omega : 0 < 2 * far + 1)
   omega
 obtain ⟨o, h1, h2⟩ := key
 cases o with
 | rt d fr =>
  obtain ⟨rfl, g, rfl, hg⟩ := h2
  exact ⟨g, by show Option.bind (QcH [some (.lst (ns.map .int), false), some (.int m, true), some (.int far, true), some (.int by', true), none, none, none, none]) outD = _; rw [h1]; rfl, hg⟩
 | _ => exact h2.elim
noncomputable def Qcn : DS := (Qe (Qp 2 (dC (.bl true))) (Qe (Qb2 (QI (Qa 2)) (Qe (Qp 2 (dC (.bl false))) (Qe (QaV (Qau (dBf Qav (Qc (Qa 1) Qf))) (.nm 3) (Qe (Qp 4 (dOp Qba (Qn (Qa 1) (Qa 3)) (dOp Qaq (dC (.int 0)) (Qn (Qn (Qa 0) (Qa 3)) (Qa 3))))) (Qe (sIf (QI (dOp gGt (Qa 4) (dC (.int 0)))) (Qe (Qp 1 (QF (QaR (Qa 1) (Qn (Qa 0) (Qa 3))) (.tp [1, 2]) [none, none, none, some 4] QL (Qz (Qa 1) (QS (Qa 3) (Qa 2))))) (Qe (Qp 2 (dC (.bl true))) Qm)) Qm) Qm))) Qm))) (Qe (QM (Qa 1)) Qm)))
def QkA (d : Den) : Prop := ∀ (m : Nat) (T : Nat -> Nat -> Int) (f : Nat -> Int), m <= 1000 -> TP m T -> (∀ j, j < m -> 0 <= f j) -> ∃ c fr, d [Qi m m T, Qb m f] = some (Qb m (Qd m T f c), fr) /\ Told m T f c
theorem Qly {m : Nat} {T : Nat -> Nat -> Int} {f : Nat -> Int} : Qd m T f (λ _ => 0) = f := by
 funext j
 unfold Qd
 rw [QJ (g := λ _ => 0) λ i _ => ZN _, Qag, ZaP]
theorem Qtb : QkA (Ql 5 Qcn) := λ m T f hm tp hpos => by
 obtain ⟨w, hw0, hw⟩ := tp.wt
 have key : Run Qcn [some (Qi m m T, false), some (Qb m f, false), none, none, none] (Rt λ d fr => ∃ k', d = Qb m (Qd m T f k') /\ Leg m T f k' /\ (∀ j, j < m -> 0 <= Qd m T f k' j) /\ Stb m T (Qd m T f k')) := by
  refine run_seq (Qh (r := ⟨.bl true, true, []⟩) rfl ?_)
  rw [Qk]
  refine run_seq (Run.mono (Q := Nx λ ρ => ∃ k' bh j2 j3 j4, Leg m T f k' /\ (∀ j, j < m -> 0 <= Qd m T f k' j) /\ Stb m T (Qd m T f k') /\ ρ = [some (Qi m m T, false), some (Qb m (Qd m T f k'), bh), j2, j3, j4]) ?_ ?_)
  ·refine QfX (λ n ρ => ∃ k' bz bh j3 j4, Leg m T f k' /\ (∀ j, j < m -> 0 <= Qd m T f k' j) /\ (bz = false -> Stb m T (Qd m T f k')) /\ n = (wtF m w (Qd m T f k')).toNat + (if bz = true then 1 else 0) /\ ρ = [some (Qi m m T, false), some (Qb m (Qd m T f k'), bh), some (.bl bz, true), j3, j4]) ?_ _ _ ⟨λ _ => 0, true, false, none, none, .nil, λ j hj => by rw [Qly]; exact hpos j hj, λ h => by (cases h), rfl, by rw [Qly]; rfl⟩
   rintro n ρ ⟨k', bz, bh, j3, j4, hL, hP, hS, rfl, rfl⟩
   refine ⟨bz, QH (b := bz) rfl rfl, λ h => ⟨k', _, _, _, _, hL, hP, hS h, rfl⟩, λ hb => ?_⟩
   subst hb
   refine run_seq (Qh (r := ⟨.bl false, true, []⟩) rfl ?_)
   rw [Qk]
   refine QQ (Run.mono (Q := Nx λ ρ => ∃ k2 b2 bh j3 j4, Leg m T f k2 /\ (∀ j, j < m -> 0 <= Qd m T f k2 j) /\ (b2 = false -> Stb m T (Qd m T f k2)) /\ (wtF m w (Qd m T f k2) + (if b2 = true then 1 else 0) <= wtF m w (Qd m T f k')) /\ ρ = [some (Qi m m T, false), some (Qb m (Qd m T f k2), bh), some (.bl b2, true), j3, j4]) ?_ ?_)
   ·refine Qal (toD := λ (p : Nat) => .int (p : Int)) (List.range m) (λ i ρ => ∃ k2 b2 bh j3 j4, Leg m T f k2 /\ (∀ j, j < m -> 0 <= Qd m T f k2 j) /\ (b2 = false -> ∀ p, p < i -> Qd m T f k2 p < 0 - T p p) /\ (wtF m w (Qd m T f k2) + (if b2 = true then 1 else 0) <= wtF m w (Qd m T f k')) /\ ρ = [some (Qi m m T, false), some (Qb m (Qd m T f k2), bh), some (.bl b2, true), j3, j4]) (QaF (n := m) ((by cases bh; exact QcO (xs := (List.range m).map λ i => .int (Qd m T f k' i)) (r := ⟨Qb m (Qd m T f k'), false, []⟩) rfl rfl; exact QcO (xs := (List.range m).map λ i => .int (Qd m T f k' i)) (r := ⟨Qb m (Qd m T f k'), true, [1]⟩) rfl rfl : dBf Qav (Qc (Qa 1) Qf) _ = some ⟨.int ((List.range m).map λ i => D.int (Qd m T f k' i)).length, true, []⟩).trans (by rw [Zh, Zp])) rfl (by omega)) rfl ⟨k', false, _, _, _, hL, hP, λ _ p hp => absurd hp (by omega), by simp, rfl⟩ ?_ ?_
    ·rintro i p ρ hi ⟨k2, b2, bh, j3, j4, hL2, hP2, hS2, hW2, rfl⟩
     have hp' : i < m /\ i = p := by
      obtain ⟨h1, h2⟩ := Zf.mp hi
      simp at h1 h2; exact ⟨h1, h2⟩
     obtain ⟨him, rfl⟩ := hp'
     have hneg := tp.neg i him
     have hb := tp.bnd i i him him
     have h0 := hP2 i him
     refine ⟨[some (Qi m m T, false), some (Qb m (Qd m T f k2), bh), some (.bl b2, true), some (.int i, true), j4], rfl, ?_⟩
     have eT : Qn (Qa 0) (Qa 3) [some (Qi m m T, false), some (Qb m (Qd m T f k2), bh), some (.bl b2, true), some (.int i, true), j4] = some ⟨Qb m (T i), false, []⟩ := (Qc6 (m := m) (n := m) (f := T) (i := i) (ra := ⟨Qi m m T, false, []⟩) (rb := ⟨.int i, true, []⟩) rfl rfl rfl rfl (by omega) (by omega)).trans rfl
     have eh : Qn (Qa 1) (Qa 3) [some (Qi m m T, false), some (Qb m (Qd m T f k2), bh), some (.bl b2, true), some (.int i, true), j4] = some ⟨.int (Qd m T f k2 i), true, []⟩ := by
      cases bh
      ·exact Qaj (m := m) (f := Qd m T f k2) (i := i) (ra := ⟨Qb m (Qd m T f k2), false, []⟩) (rb := ⟨.int i, true, []⟩) rfl rfl rfl rfl him
      ·exact Qaj (m := m) (f := Qd m T f k2) (i := i) (ra := ⟨Qb m (Qd m T f k2), true, [1]⟩) (rb := ⟨.int i, true, []⟩) rfl rfl rfl rfl him
     refine run_seq (Qh (Qnx (a := Qd m T f k2 i) (b := 0 - T i i) eh rfl (Qb1 (a := 0) (b := T i i) (ra := ⟨.int 0, true, []⟩) rfl rfl (Qaj (m := m) (f := T i) (i := i) eT rfl (rb := ⟨.int i, true, []⟩) rfl rfl him) rfl) rfl (by omega) (by omega)) ?_)
     rw [Qk]
     generalize et : Qd m T f k2 i / (0 - T i i) = t
     have t0 : 0 <= t := by rw [← et]; exact ZbR h0 (by omega)
     refine QQ (Q8 (b := decide (0 < t)) (QH (b := decide (0 < t)) (r := ⟨.bl (decide (0 < t)), true, []⟩) rfl rfl) (λ h => ?_) (λ h => ?_))
     ·have h := of_decide_eq_true h
      have hle : t * (0 - T i i) <= Qd m T f k2 i := by rw [← et]; exact Qiz (by omega)
      refine run_seq (Qh (r := ⟨Qb m (Qd m T f (up k2 i (k2 i + t))), true, []⟩) ?_ ?_)
      ·have e := QE (fi := QaR (Qa 1) (Qn (Qa 0) (Qa 3))) (t := .tp [1, 2]) (cap := [none, none, none, some 4]) (fe := Qz (Qa 1) (QS (Qa 3) (Qa 2))) (ρ := [some (Qi m m T, false), some (Qb m (Qd m T f k2), bh), some (.bl b2, true), some (.int i, true), some (.int t, true)])
        (toD := λ (j : Nat) => .tup [.int (Qd m T f k2 j), .int (T i j)]) (out := λ (j : Nat) => .int (Qd m T f k2 j + t * T i j)) (List.range m) (ir := ⟨(List.range m).map λ j => .tup [.int (Qd m T f k2 j), .int (T i j)], if bh = true then [1] else []⟩) (by
         have eT' : Qn (Qa 0) (Qa 3) [some (Qi m m T, false), some (Qb m (Qd m T f k2), bh), some (.bl b2, true), some (.int i, true), some (.int t, true)] = some ⟨Qb m (T i), false, []⟩ := (Qc6 (m := m) (n := m) (f := T) (i := i) (ra := ⟨Qi m m T, false, []⟩) (rb := ⟨.int i, true, []⟩) rfl rfl rfl rfl (by omega) (by omega)).trans rfl
         cases bh
         ·exact Qbi (f := λ j => .int (Qd m T f k2 j)) (g := λ j => .int (T i j)) (ra := ⟨Qb m (Qd m T f k2), false, []⟩) rfl rfl eT' rfl
         ·exact Qbi (f := λ j => .int (Qd m T f k2 j)) (g := λ j => .int (T i j)) (ra := ⟨Qb m (Qd m T f k2), true, [1]⟩) rfl rfl eT' rfl) rfl λ j hj => by
         have hj := Zn.mp hj
         exact ⟨[none, some (.int (Qd m T f k2 j), true), some (.int (T i j), true), some (.int t, true)], rfl, _, QP (a := Qd m T f k2 j) rfl rfl (QT (a := t) (b := T i j) rfl rfl rfl rfl (Qbe (tp.bnd i j him hj))) rfl, rfl, rfl⟩
       refine e.trans ?_
       congr 2
       show D.lst _ = D.lst _
       congr 1
       refine ZA λ j _ => ?_
       rw [Qft him]
      ·rw [Qk]
       refine run_seq (Qh (r := ⟨.bl true, true, []⟩) rfl (Qo (Qo ?_)))
       rw [Qk]
       have hup := Qr8 (w := w) hw (f := f) (c := k2) him t0
       refine ⟨up k2 i (k2 i + t), true, true, _, _, .step hL2 him t0 hle, λ j hj => ?_, λ z => (by cases z), ?_, rfl⟩
       ·rw [Qft him]
        by_cases hji : j = i
        ·subst hji
         have : t * T j j = - (t * (0 - T j j)) := by rw [ZaF, Zau, Zbu]
         omega
        ·have := hP2 j hj
         have := Zaj t0 (tp.pos i j him hj (λ z => hji z.symm))
         omega
       ·rw [if_pos rfl]
        have : (0 : Int) <= if b2 = true then 1 else 0 := by split <;> omega
        omega
     ·have h := of_decide_eq_false h
      refine Qo (Qo ⟨k2, b2, bh, _, _, hL2, hP2, λ hb2 p hp => ?_, hW2, rfl⟩)
      by_cases hpi : p = i
      ·subst hpi; exact QiG (by omega) (by rw [et]; exact h) h0
      ·exact hS2 hb2 p (by omega)
    ·rintro ρ ⟨k2, b2, bh, j3, j4, hL2, hP2, hS2, hW2, rfl⟩
     rw [Zp] at hS2
     exact ⟨k2, b2, bh, _, _, hL2, hP2, hS2, hW2, rfl⟩
   ·intro o ho
    cases o with
    | nx ρ =>
     obtain ⟨k2, b2, bh, j3, j4, hL2, hP2, hS2, hW2, rfl⟩ := ho
     refine Qo ⟨_, ?_, k2, b2, bh, _, _, hL2, hP2, hS2, rfl, rfl⟩
     have n1 := QjR (m := m) hw0 hP2
     rw [if_pos rfl]
     cases b2 <;> simp at hW2 ⊢ <;> omega
    | _ => exact ho.elim
  ·intro o ho
   cases o with
   | nx ρ =>
    obtain ⟨k', bh, j2, j3, j4, hL, hP, hS, rfl⟩ := ho
    cases bh
    ·exact QA (r := ⟨Qb m (Qd m T f k'), false, []⟩) rfl ⟨k', rfl, hL, hP, hS⟩
    ·exact QA (r := ⟨Qb m (Qd m T f k'), true, [1]⟩) rfl ⟨k', rfl, hL, hP, hS⟩
   | _ => exact ho.elim
 obtain ⟨o, h1, h2⟩ := key
 cases o with
 | rt d fr =>
  obtain ⟨k', rfl, h3, h4, h5⟩ := h2
  exact ⟨k', fr, by show Option.bind (Qcn [some (Qi m m T, false), some (Qb m f, false), none, none, none]) outD = _; rw [h1]; rfl, h3, h4, h5⟩
 | _ => exact h2.elim
noncomputable def Qem (Qai : Den) : DS := (Qe (QaV (Qau (dBf Qav (Qc (Qa 1) Qf))) (.nm 2) (Qe (sIf (bOr (QI (dOp gLt (Qn (Qa 1) (Qa 2)) (dC (.int 0)))) (QI (dOp gGe (Qn (Qa 1) (Qa 2)) (dOp Qaq (dC (.int 0)) (Qn (Qn (Qa 0) (Qa 2)) (Qa 2)))))) (Qe (QM (dC (.bl false))) Qm) Qm) Qm)) (Qe (Qp 3 (QF (Qau (dBf Qav (Qc (Qa 1) Qf))) (.nm 1) [none, none, some 0] QL (dOp Qaq (dC (.int 0)) (QS (dC (.int 2)) (Qn (Qn (Qa 2) (Qa 1)) (Qa 1)))))) (Qe (Qp 4 (Qr 2 Qai [] (Qc (Qa 0) (Qc (Qa 3) Qf)))) (Qe (Qp 5 (QF (Qff (Qa 1) (Qa 3) (Qa 4)) (.tp [1, 2, 3]) [none, none, none, none] QL (dOp Qaq (Qz (Qa 1) (Qa 2)) (Qa 3)))) (Qe (QM (dOp gEq (Qr 2 Qai [] (Qc (Qa 0) (Qc (Qa 5) Qf))) (Qa 1))) Qm)))))
def Qgh (d : Den) : Prop := ∀ (m : Nat) (T : Nat -> Nat -> Int) (x v : Nat -> Int), 0 < m -> m <= 8 -> TP m T -> Dbl m T v -> Rec m T v x -> Stb m T x -> (∀ j, j < m -> 0 <= x j) -> d [Qi m m T, Qb m x] = some (.bl true, true)
theorem Rec.of {m : Nat} {T : Nat -> Nat -> Int} {v v' x : Nat -> Int} (tp : TP m T) (h : Dbl m T v) (h' : Dbl m T v') : ∀ j, QC m T v' j = QC m T v j := λ j => by
 have e := h.told.one tp h'.told
 rw [QeJ, QeJ]
 exact congrArg (λ z => - z) (QJ λ i hi => by rw [e i hi])
theorem Qoi {dm : Den} (hm : QkA dm) : Qgh (Ql 6 (Qem dm)) := λ m T x v m0 m8 tp Dv hr sx x0 => by
 have neg := tp.neg
 obtain ⟨v', fr1, e1, t1⟩ := hm m T (λ j => 2 * (0 - T j j)) (by omega) tp λ j hj => by have := neg j hj; omega
 have D' : Dbl m T v' := ⟨t1⟩
 have mo := Rec.of (x := x) tp Dv D'
 have hz : ∀ j, x j + 2 * (0 - T j j) - Qd m T (λ j => 2 * (0 - T j j)) v' j = x j + QC m T v j := λ j => by
  rw [← mo j]; unfold QC; omega
 obtain ⟨w, fr2, e2, t2⟩ := hm m T (λ j => x j + QC m T v j) (by omega) tp λ j hj => by
  have := x0 j hj; have := Dv.big hj; have := neg j hj; omega
 have back := hr.comes tp Dv t2
 have eb : Qb m (Qd m T (λ j => x j + QC m T v j) w) = Qb m x := congrArg D.lst (ZA λ j hj => by rw [back j (Zn.mp hj)])
 rw [eb] at e2
 have elen : ∀ {ρ : En}, ρ[1]? = some (some (Qb m x, false)) -> dBf Qav (Qc (Qa 1) Qf) ρ = some ⟨.int m, true, []⟩ := λ {ρ} h => (QcO (xs := (List.range m).map λ i => .int (x i)) (QaD h) rfl).trans (by rw [Zh, Zp])
 refine Q4 ?_
 refine QQ (Qal (toD := λ (p : Nat) => .int (p : Int)) (List.range m) (λ _ ρ => ∃ j2, ρ = [some (Qi m m T, false), some (Qb m x, false), j2, none, none, none]) (QaF (n := m) (elen rfl) rfl (by omega)) rfl ⟨none, rfl⟩ ?_ ?_)
 ·rintro i p ρ hi ⟨j2, rfl⟩
  have hp' : i < m /\ i = p := by
   obtain ⟨h1, h2⟩ := Zf.mp hi
   simp at h1 h2; exact ⟨h1, h2⟩
  obtain ⟨him, rfl⟩ := hp'
  have ex : Qn (Qa 1) (Qa 2) [some (Qi m m T, false), some (Qb m x, false), some (.int i, true), none, none, none] = some ⟨.int (x i), true, []⟩ := Qaj (m := m) (f := x) (i := i) (ra := ⟨Qb m x, false, []⟩) (rb := ⟨.int i, true, []⟩) rfl rfl rfl rfl him
  have eT : Qn (Qn (Qa 0) (Qa 2)) (Qa 2) [some (Qi m m T, false), some (Qb m x, false), some (.int i, true), none, none, none] = some ⟨.int (T i i), true, []⟩ := Qaj (m := m) (f := T i) (i := i) ((Qc6 (m := m) (n := m) (f := T) (i := i) (ra := ⟨Qi m m T, false, []⟩) (rb := ⟨.int i, true, []⟩) rfl rfl rfl rfl (by omega) (by omega)).trans rfl) rfl (rb := ⟨.int i, true, []⟩) rfl rfl him
  refine ⟨[some (Qi m m T, false), some (Qb m x, false), some (.int i, true), none, none, none], rfl, ?_⟩
  refine QQ (Q8 (b := false) ((QdN (a := false) (b := false) (QH (b := false) (Qae (d := .bl false) (rb := ⟨.int 0, true, []⟩) ex rfl ?_) rfl) (QH (b := false) (Qae (d := .bl false) ex (Qb1 (a := 0) (b := T i i) (ra := ⟨.int 0, true, []⟩) rfl rfl eT rfl) ?_) rfl)).trans rfl) (λ h => by cases h) (λ _ => Qo (Qo ⟨_, rfl⟩)))
  ·show some (D.bl (decide (x i < 0))) = _
   rw [decide_eq_false (by have := x0 i him; omega)]
  ·show some (D.bl (decide (0 - T i i <= x i))) = _
   rw [decide_eq_false (by have := sx i him; omega)]
 rintro ρ ⟨j2, rfl⟩
 refine run_seq (Qh (r := ⟨Qb m λ j => 2 * (0 - T j j), true, []⟩) (QE (toD := λ (j : Nat) => .int (j : Int)) (out := λ (j : Nat) => .int (2 * (0 - T j j))) (List.range m) (QaF (n := m) (elen rfl) rfl (by omega)) rfl λ j hj => ⟨[none, some (.int j, true), some (Qi m m T, false)], rfl, ⟨.int (0 - 2 * T j j), true, []⟩, Qb1 (a := 0) (b := 2 * T j j) (ra := ⟨.int 0, true, []⟩) rfl rfl (QT (a := 2) (b := T j j) (ra := ⟨.int 2, true, []⟩) rfl rfl (Qaj (m := m) (f := T j) (i := j) ((Qc6 (m := m) (n := m) (f := T) (i := j) (ra := ⟨Qi m m T, false, []⟩) (rb := ⟨.int j, true, []⟩) rfl rfl rfl rfl (by omega) (by have := Zn.mp hj; omega)).trans rfl) rfl (rb := ⟨.int j, true, []⟩) rfl rfl (Zn.mp hj)) rfl (QaG (by decide))) rfl, by show D.int (0 - 2 * T j j) = D.int (2 * (0 - T j j)); rw [show 0 - 2 * T j j = 2 * (0 - T j j) by omega], rfl⟩) ?_)
 rw [Qk]
 have ea : ∀ fr, asg 4 (if fr = true then ⟨Qb m (Qd m T (λ j => 2 * (0 - T j j)) v'), true, []⟩ else R.norm ⟨Qb m (Qd m T (λ j => 2 * (0 - T j j)) v'), false, [3]⟩) [some (Qi m m T, false), some (Qb m x, false), j2, some (Qb m λ j => 2 * (0 - T j j), true), none, none] = [some (Qi m m T, false), some (Qb m x, false), j2, some (Qb m λ j => 2 * (0 - T j j), fr), some (Qb m (Qd m T (λ j => 2 * (0 - T j j)) v'), fr), none] := λ fr => by cases fr <;> rfl
 refine run_seq (Qh (r := if fr1 = true then ⟨Qb m (Qd m T (λ j => 2 * (0 - T j j)) v'), true, []⟩ else R.norm ⟨Qb m (Qd m T (λ j => 2 * (0 - T j j)) v'), false, [3]⟩) (QkU (r := ⟨[Qi m m T, Qb m λ j => 2 * (0 - T j j)], false, [3]⟩) rfl e1 rfl) ?_)
 refine (congrArg (λ ρ => Run _ ρ _) (ea fr1)).mpr ?_
 refine run_seq (Qh (r := ⟨Qb m λ j => x j + QC m T v j, true, []⟩) (QE (toD := λ (j : Nat) => .tup [.int (x j), .int (2 * (0 - T j j)), .int (Qd m T (λ j => 2 * (0 - T j j)) v' j)]) (out := λ (j : Nat) => .int (x j + QC m T v j)) (List.range m) (ir := ⟨(List.range m).map λ j => .tup [.int (x j), .int (2 * (0 - T j j)), .int (Qd m T (λ j => 2 * (0 - T j j)) v' j)], if fr1 = true then [3, 4] else []⟩) (by
  cases fr1
  ·exact QhF (f := λ j => .int (x j)) (g := λ j => .int (2 * (0 - T j j))) (h := λ j => .int (Qd m T (λ j => 2 * (0 - T j j)) v' j)) (ra := ⟨Qb m x, false, []⟩) rfl rfl (rb := ⟨Qb m λ j => 2 * (0 - T j j), false, []⟩) rfl rfl (rc := ⟨Qb m (Qd m T (λ j => 2 * (0 - T j j)) v'), false, []⟩) rfl rfl
  ·exact QhF (f := λ j => .int (x j)) (g := λ j => .int (2 * (0 - T j j))) (h := λ j => .int (Qd m T (λ j => 2 * (0 - T j j)) v' j)) (ra := ⟨Qb m x, false, []⟩) rfl rfl (rb := ⟨Qb m λ j => 2 * (0 - T j j), true, [3]⟩) rfl rfl (rc := ⟨Qb m (Qd m T (λ j => 2 * (0 - T j j)) v'), true, [4]⟩) rfl rfl) rfl λ j _ => ⟨[none, some (.int (x j), true), some (.int (2 * (0 - T j j)), true), some (.int (Qd m T (λ j => 2 * (0 - T j j)) v' j), true)], rfl, ⟨.int (x j + 2 * (0 - T j j) - Qd m T (λ j => 2 * (0 - T j j)) v' j), true, []⟩, Qb1 (a := x j + 2 * (0 - T j j)) (b := Qd m T (λ j => 2 * (0 - T j j)) v' j) (QP (a := x j) (b := 2 * (0 - T j j)) (ra := ⟨.int (x j), true, []⟩) (rb := ⟨.int (2 * (0 - T j j)), true, []⟩) rfl rfl rfl rfl) rfl (rb := ⟨.int (Qd m T (λ j => 2 * (0 - T j j)) v' j), true, []⟩) rfl rfl, by rw [hz j], rfl⟩) ?_)
 rw [Qk]
 cases fr2
 ·exact QA (Qm1 (d := Qb m x) (ra := ⟨Qb m x, false, [5]⟩) ((QfO (r := ⟨[Qi m m T, Qb m λ j => x j + QC m T v j], false, [5]⟩) rfl e2 rfl).trans rfl) rfl (rb := ⟨Qb m x, false, []⟩) rfl rfl (QgL 7 _ _)) ⟨rfl, rfl⟩
 ·exact QA (Qm1 (d := Qb m x) (Qs (r := ⟨[Qi m m T, Qb m λ j => x j + QC m T v j], false, [5]⟩) rfl e2 rfl) rfl (rb := ⟨Qb m x, false, []⟩) rfl rfl (QgL 7 _ _)) ⟨rfl, rfl⟩
theorem QgX {fa : DE} {ρ : En} {r : R} {a b : D} (h : fa ρ = some r) (e : r.d = .tup [a, b]) : Qn fa (dC (.int 0)) ρ = some (HS.R.norm ⟨a, r.fr, r.M⟩) /\ Qn fa (dC (.int 1)) ρ = some (HS.R.norm ⟨b, r.fr, r.M⟩) := by
 unfold Qn
 rw [h]
 simp only [Za, e, QaM]
 exact ⟨rfl, rfl⟩
structure Qjf (m : Nat) (T : Nat -> Nat -> Int) (f k : Nat -> Int) : Prop where
 ex : ∃ v, Dbl m T v /\ Rec m T v (Qd m T f k)
 stb : Stb m T (Qd m T f k)
 nn : ∀ j, j < m -> 0 <= Qd m T f k j
noncomputable def QkI (QaH : Den) : DS := (Qe (QM (Qn (Qr 2 QaH [] (Qc (Qa 0) (Qc (QS (Qas (Qc (dC (.int 0)) Qf)) (Qn (Qa 0) (dC (.int 0)))) Qf))) (dC (.int 0)))) Qm)
def Qhu (d : Den) : Prop := ∀ (m : Nat) (R L : List (Int × Int)), 0 < m -> m <= 8 -> Qbp m R L -> ∃ k, d [Qt m R L] = some (Qb m (Qd m (Qj m (Qg R L)) (λ _ => 0) k), true) /\ Qjf m (Qj m (Qg R L)) (λ _ => 0) k
theorem Qpp {da : Den} (ha : Qea da) : Qhu (Ql 1 (QkI da)) := λ m R L m0 m8 hw => by
 obtain ⟨k, v, ek, h1, h2, h3, h4⟩ := ha m R L (λ _ => 0) m0 m8 hw λ j _ => by simp
 refine ⟨k, Q4 ?_, ⟨⟨v, h1, h2⟩, h3, h4⟩⟩
 exact QA (QgX (b := Qb m k) (Qs (Qv (r := ⟨Qt m R L, false, []⟩) rfl (Qv (Qfn (n := m) (z := 0) (r := ⟨.int m, true, []⟩) rfl rfl (by omega)) (Q5 _))) ek rfl) rfl).1 ⟨rfl, rfl⟩
noncomputable def QiN (Qao : Den) (QaH : Den) : DS := (Qe (QM (Qn (Qr 2 QaH [] (Qc (Qa 0) (Qc (Qr 1 Qao [] (Qc (Qa 1) Qf)) Qf))) (dC (.int 0)))) Qm)
theorem QtV {m : Nat} {T : Nat -> Nat -> Int} {f : Nat -> Int} (j : Nat) : Qd m T f (λ _ => 0) j = f j := by
 unfold Qd
 rw [QJ (g := λ _ => 0) λ i _ => by rw [ZN], Qag, ZaP]
theorem Qh9 {m : Nat} {T : Nat -> Nat -> Int} (tp : TP m T) {f k g k' d : Nat -> Int} (hx : Qjf m T f k) (hz : Qjf m T g k') (e : ∀ j, j < m -> Qd m T g k' j = Qd m T (Qd m T f k) d j) : ∀ j, j < m -> Qd m T g k' j = Qd m T f k j := λ j hj => by
 obtain ⟨v, hd, hr⟩ := hx.ex
 obtain ⟨v', hd', hr'⟩ := hz.ex
 have z := Rec.one tp hd hd' hr hr' hx.stb hz.stb e
 rw [e j hj, Qak (d := λ _ => 0) j rfl z, QtV]
theorem Qf8 {m : Nat} {T : Nat -> Nat -> Int} {a b : Nat -> Int} (j : Nat) : (Qu m λ i => (a i - b i) * T i j) = (Qu m λ i => a i * T i j) - Qu m λ i => b i * T i j := by
 rw [QJ (g := λ i => a i * T i j + -(b i * T i j)) λ i _ => by rw [Int.sub_mul]; omega, Qaz, QcW]; omega
theorem Qtz {m : Nat} {T : Nat -> Nat -> Int} (tp : TP m T) {x : Nat -> Int} (hs : Stb m T x) (h0 : ∀ j, j < m -> 0 <= x j) : ∀ j, j < m -> 0 <= x j /\ x j <= 2 ^ 100 := λ j hj => by
 have h1 := hs j hj
 have h2 := h0 j hj
 have h3 := tp.bnd j j hj hj
 have : (2 : Int) ^ 64 <= 2 ^ 100 := by decide
 omega
def HpB (m : Nat) (h : Nat -> Int) : Prop := ∀ j, j < m -> 0 <= h j /\ h j <= 2 ^ 62
theorem HpB.up {m : Nat} {h : Nat -> Int} (b : HpB m h) : ∀ j, j < m -> 0 <= h j /\ h j <= 2 ^ 100 := λ j hj => by
 have := b j hj
 have : (2 : Int) ^ 62 <= 2 ^ 100 := by decide
 omega
theorem Qqx {fa fb : DE} {ρ : En} {ra rb : R} {m n : Nat} {f : Nat -> Int} (ha : fa ρ = some ra) (ea : ra.d = Qb m f) (hb : fb ρ = some rb) (eb : rb.d = .int n) (h : n <= m) : QbY fa (QaY fb) QaX ρ = some ⟨Qb (m - n) λ i => f (n + i), true, []⟩ := by
 have cut : cutD ((List.range m).map λ i => D.int (f i)) (some (n : Int)) none = (List.range (m - n)).map λ i => D.int (f (n + i)) := by
  unfold cutD
  simp only [Zh, Zp, HT.Qew, HT.Qfc]
  rw [ZaD h, ← List.map_drop, ← ZbU]
  have e : ((List.range m).drop n).take (m - n) = (List.range (m - n)).map λ i => n + i := by
   rw [ZbK (by simp)]
   refine Zaw λ i => ?_
   rw [Zbq, Zm]
   by_cases hi : i < m - n
   ·rw [Zz (by omega), Zz hi]; rfl
   ·rw [Zo (by simp; omega), Zo (by simp; omega)]; rfl
  rw [e, Zaf]
  rfl
 unfold QbY QaX QaY
 simp only [ha, hb, Za, ea, eb, Qb, cut, Qan]
 have : Q2 ((List.range (m - n)).map λ i => D.int (f (n + i))) = true := by
  have := QnC ((List.range (m - n)).map λ i => f (n + i))
  rw [Zaf] at this
  exact this
 rw [if_pos this]
theorem QlT (ds : List D) (M : List Nat) : (Qan ds M).d = .lst ds := by unfold Qan; split <;> rfl
theorem Qln {fa fb : DE} {ρ : En} {ra rb : R} {xs : List D} {n : Nat} (ha : fa ρ = some ra) (ea : ra.d = .lst xs) (hb : fb ρ = some rb) (eb : rb.d = .int n) (h : n <= xs.length) : ∃ r : HS.R, QbY fa QaX (QaY fb) ρ = some r /\ r.d = .lst (xs.take n) := by
 unfold QbY QaX QaY
 simp only [ha, hb, Za, ea, eb]
 refine ⟨_, rfl, ?_⟩
 rw [QlT]
 unfold cutD
 simp only [HT.Qew, HT.Qfc, ZbS, ZbI]
 rw [ZaD h]
theorem QlP {fa fb : DE} {ρ : En} {ra rb : R} {xs : List D} {n : Nat} (ha : fa ρ = some ra) (ea : ra.d = .lst xs) (hb : fb ρ = some rb) (eb : rb.d = .int n) (h : n <= xs.length) : ∃ r : HS.R, QbY fa (QaY fb) QaX ρ = some r /\ r.d = .lst (xs.drop n) := by
 unfold QbY QaX QaY
 simp only [ha, hb, Za, ea, eb]
 refine ⟨_, rfl, ?_⟩
 rw [QlT]
 unfold cutD
 simp only [HT.Qew, HT.Qfc]
 rw [ZaD h, ZbK (by simp)]
theorem QhI {fa fb : DE} {ρ : En} {ra rb : R} {xs ys : List D} (ha : fa ρ = some ra) (ea : ra.d = .lst xs) (hb : fb ρ = some rb) (eb : rb.d = .lst ys) (h : xs.length + ys.length <= 1000) : ∃ r : HS.R, Qz fa fb ρ = some r /\ r.d = .lst (xs ++ ys) := by
 unfold Qz
 rw [ha, Za, hb, Za, ea, eb]
 refine ⟨_, if_pos (Zx h (by decide)), QlT _ _⟩
theorem Qrh {n k : Nat} (hk : k < n + 1) (g : Nat -> D) : ((List.range (n + 1)).map g).take k ++ ((List.range (n + 1)).map g).drop (k + 1) = (List.range n).map λ c => g (skp k c) := by
 refine Zaw λ i => ?_
 by_cases hi : i < n
 ·rw [Zm (l := List.range n), Zz hi, List.getElem?_append]
  have l1 : (((List.range (n + 1)).map g).take k).length = k := by rw [ZaG, Zh, Zp]; omega
  rw [l1]
  unfold skp
  by_cases q : i < k
  ·rw [if_pos q, List.getElem?_take, if_pos q, Zm, Zz (by omega)]
   simp [q]
  ·rw [if_neg q, Zbq, Zm, show k + 1 + (i - k) = i + 1 by omega, Zz (by omega)]
   simp [q]
 ·rw [Zo (by simp; omega), Zo (by simp; omega)]
theorem Qql {n k : Nat} (hk : k < n) (A : Nat -> Nat -> Int) (a : Nat -> Int) : ((List.range n).map λ i => Qb n (A i)).take k ++ [Qb n a] ++ ((List.range n).map λ i => Qb n (A i)).drop (k + 1) = (List.range n).map λ i => Qb n (cup A k a i) := by
 refine Zaw λ i => ?_
 have l1 : (((List.range n).map λ i => Qb n (A i)).take k ++ [Qb n a]).length = k + 1 := by rw [Zq, ZaG, Zh, Zp]; simp; omega
 have l2 : (((List.range n).map λ i => Qb n (A i)).take k).length = k := by rw [ZaG, Zh, Zp]; omega
 by_cases hi : i < n
 ·rw [Zm (l := List.range n) (f := λ i => Qb n (cup A k a i)), Zz hi, List.getElem?_append, l1]
  unfold cup
  by_cases q : i < k + 1
  ·rw [if_pos q, List.getElem?_append, l2]
   by_cases q2 : i < k
   ·rw [if_pos q2, List.getElem?_take, if_pos q2, Zm, Zz hi]
    simp [show ¬ i = k by omega]
   ·have e : i = k := by omega
    subst e
    rw [if_neg q2]
    simp
  ·rw [if_neg q, Zbq, Zm, show k + 1 + (i - (k + 1)) = i by omega, Zz hi]
   simp [show ¬ i = k by omega]
 ·rw [Zo (by rw [Zq, l1]; simp; omega), Zo (by simp; omega)]
noncomputable def Qbx (Qaa : Den) : DS := (Qe (sIf (QI (dOp gEq (dBf Qav (Qc (Qa 0) Qf)) (dC (.int 1)))) (Qe (QM (Qn (Qn (Qa 0) (dC (.int 0))) (dC (.int 0)))) Qm) Qm) (Qe (Qp 1 (dC (.int 0))) (Qe (QaV (Qau (dBf Qav (Qc (Qa 0) Qf))) (.nm 2) (Qe (sIf (QI (dOp gNe (Qn (Qn (Qa 0) (Qa 2)) (dC (.int 0))) (dC (.int 0)))) (Qe (Qp 3 (Qr 1 Qaa [] (Qc (QF (QY (Qz (QbY (Qa 0) QaX (QaY (Qa 2))) (QbY (Qa 0) (QaY (Qz (Qa 2) (dC (.int 1)))) QaX))) (.nm 1) [none, none] QL (QbY (Qa 1) (QaY (dC (.int 1))) QaX)) Qf))) (Qe (Qp 1 (Qz (Qa 1) (QS (QS (dOp Qaq (dC (.int 1)) (QS (dC (.int 2)) (dOp QZ (Qa 2) (dC (.int 2))))) (Qn (Qn (Qa 0) (Qa 2)) (dC (.int 0)))) (Qa 3)))) Qm)) Qm) Qm)) (Qe (QM (Qa 1)) Qm))))
def QcT (N : Nat) (d : Den) : Prop := ∀ (n : Nat) (A : Nat -> Nat -> Int), 1 <= n -> n <= N -> n <= 8 -> (∀ j, j < n -> ∀ r, r < n -> (A j r).natAbs <= 2 ^ 200) -> d [Qi n n A] = some (.int (det n A), true)
theorem Qvo : QcT 0 (λ _ => none) := λ n A h1 h2 => by omega
theorem Qur (k : Nat) : 1 - 2 * ((k : Int) % 2) = sgn k := by
 unfold sgn
 split <;> omega
set_option maxHeartbeats 0 in
theorem QeP {N : Nat} {d : Den} (ih : QcT N d) : QcT (N + 1) (Ql 4 (Qbx d)) := λ n A h1 hN h8 hA => by
 have len : ∀ {ρ : En}, ρ[0]? = some (some (Qi n n A, false)) -> dBf Qav (Qc (Qa 0) Qf) ρ = some ⟨.int n, true, []⟩ := λ {ρ} h => Qed (n := n) (m := n) (f := A) (QaD h) rfl
 have entry : ∀ {ρ : En} {fk : DE} {k : Nat}, ρ[0]? = some (some (Qi n n A, false)) -> fk ρ = some ⟨.int k, true, []⟩ -> k < n -> Qn (Qn (Qa 0) fk) (dC (.int 0)) ρ = some ⟨.int (A k 0), true, []⟩ := λ {ρ fk k} h hk hkn => Qaj (m := n) (f := A k) (i := 0) (Qc6 (m := n) (n := n) (f := A) (i := k) (QaD h) rfl hk rfl (by omega) (by omega)) rfl (QaM _ _) rfl (by omega)
 refine Q4 ?_
 refine QQ (Q8 (QH (QbF (a := n) (b := 1) (len rfl) rfl (QaM _ _) rfl) rfl) (λ h => ?_) (λ h => Qo ?_))
 ·have e : n = 1 := by have := of_decide_eq_true h; omega
  subst e
  refine QQ (QgD (entry (k := 0) rfl (QaM _ _) (by decide)) ⟨?_, rfl⟩)
  show D.int (A 0 0) = .int (sm 1 λ j => sgn j * A j 0 * 1)
  congr 1
  show A 0 0 = 0 + 1 * A 0 0 * 1
  omega
 have n2 : 2 <= n := by have := of_decide_eq_false h; omega
 obtain ⟨p, rfl⟩ : ∃ p, n = p + 1 := ⟨n - 1, by omega⟩
 refine run_seq (Qh (r := ⟨.int 0, true, []⟩) rfl ?_)
 rw [Qk]
 refine Qa6 (P := λ ρ => ∃ j2 j3, ρ = [some (Qi (p + 1) (p + 1) A, false), some (.int (det (p + 1) A), true), j2, j3]) ?_ ?_
 ·refine Qal (toD := λ (k : Nat) => .int (k : Int)) (List.range (p + 1)) (λ i ρ => ∃ j2 j3, ρ = [some (Qi (p + 1) (p + 1) A, false), some (.int (sm i λ j => sgn j * A j 0 * det p λ c r => A (skp j c) (r + 1)), true), j2, j3]) (QaF (n := p + 1) (len rfl) rfl (by omega)) rfl ⟨none, none, rfl⟩ ?_ ?_
  ·rintro k k' ρ hk ⟨j2, j3, rfl⟩
   have hk' : k < p + 1 /\ k = k' := by
    obtain ⟨h1, h2⟩ := Zf.mp hk
    simp at h1 h2; exact ⟨h1, h2⟩
   obtain ⟨hkp, rfl⟩ := hk'
   have bm : (det p λ c r => A (skp k c) (r + 1)).natAbs < 2 ^ 2000 := Zaq (Qd8 λ c hc r hr => hA (skp k c) (by unfold skp; split <;> omega) (r + 1) (by omega)) (Qgo (by omega))
   refine ⟨_, rfl, ?_⟩
   refine run_seq (Q8 (QH (Qdd (a := A k 0) (b := 0) (entry (k := k) rfl rfl hkp) rfl (QaM _ _) rfl) rfl) (λ h => ?_) (λ h => ?_))
   ·obtain ⟨r1, q1, d1⟩ := Qln (fa := Qa 0) (fb := Qa 2) (ρ := [some (Qi (p + 1) (p + 1) A, false), some (.int (sm k λ j => sgn j * A j 0 * det p λ c r => A (skp j c) (r + 1)), true), some (.int k, true), j3]) (ra := ⟨Qi (p + 1) (p + 1) A, false, []⟩) (xs := (List.range (p + 1)).map λ i => Qb (p + 1) (A i)) (n := k) rfl rfl (rb := ⟨.int k, true, []⟩) rfl rfl (by simp; omega)
    obtain ⟨r2, q2, d2⟩ := QlP (fa := Qa 0) (fb := Qz (Qa 2) (dC (.int 1))) (ρ := [some (Qi (p + 1) (p + 1) A, false), some (.int (sm k λ j => sgn j * A j 0 * det p λ c r => A (skp j c) (r + 1)), true), some (.int k, true), j3]) (ra := ⟨Qi (p + 1) (p + 1) A, false, []⟩) (xs := (List.range (p + 1)).map λ i => Qb (p + 1) (A i)) (n := k + 1) rfl rfl (QP (a := (k : Int)) (b := 1) (ra := ⟨.int k, true, []⟩) rfl rfl (QaM _ _) rfl) rfl (by simp; omega)
    obtain ⟨r3, q3, d3⟩ := QhI q1 d1 q2 d2 (by simp; omega)
    rw [Qrh hkp] at d3
    refine run_seq (Qh (Qs (Qv (QE (toD := λ (c : Nat) => Qb (p + 1) (A (skp k c))) (out := λ (c : Nat) => Qb p λ r => A (skp k c) (1 + r)) (List.range p) (Q7 q3 d3) rfl λ c _ => ⟨[none, some (Qb (p + 1) (A (skp k c)), false)], rfl, ⟨Qb p λ r => A (skp k c) (1 + r), true, []⟩, Qqx (m := p + 1) (n := 1) (f := A (skp k c)) (ra := ⟨Qb (p + 1) (A (skp k c)), false, []⟩) rfl rfl (QaM _ _) rfl (by omega), rfl, rfl⟩) (Q5 _)) (d := .int (det p λ c r => A (skp k c) (r + 1))) ?_ rfl) ?_)
    ·have := ih p (λ c r => A (skp k c) (r + 1)) (by omega) (by omega) (by omega) λ c hc r hr => hA (skp k c) (by unfold skp; split <;> omega) (r + 1) (by omega)
     have e : (List.range p).map (λ c => Qb p λ r => A (skp k c) (1 + r)) = (List.range p).map λ c => Qb p λ r => A (skp k c) (r + 1) := ZA λ c _ => Qc5 λ r _ => by rw [Nat.add_comm]
     show d [.lst ((List.range p).map λ c => Qb p λ r => A (skp k c) (1 + r))] = _
     rw [e]
     exact this
    rw [Qk]
    refine run_seq (Qh (QP (a := sm k λ j => sgn j * A j 0 * det p λ c r => A (skp j c) (r + 1)) (b := sgn k * A k 0 * det p λ c r => A (skp k c) (r + 1)) rfl rfl (QT (a := sgn k * A k 0) (b := det p λ c r => A (skp k c) (r + 1)) (QT (a := sgn k) (b := A k 0) ((Qb1 (a := 1) (b := 2 * ((k : Int) % 2)) (ra := ⟨.int 1, true, []⟩) rfl rfl (QT (a := 2) (b := (k : Int) % 2) rfl rfl (Q6 (a := (k : Int)) (b := 2) (ra := ⟨.int k, true, []⟩) rfl rfl (QaM _ _) rfl (by decide)) rfl (QaG (by decide))) rfl).trans (by rw [Qur])) rfl (entry (k := k) rfl rfl hkp) rfl (QaG (by unfold sgn; split <;> decide))) rfl (rb := ⟨.int (det p λ c r => A (skp k c) (r + 1)), true, []⟩) rfl rfl (Qee (Qbq ?_) (Qbq bm))) rfl) (Qo (Qo ?_)))
    ·have := hA k hkp 0 (by omega)
     have b : (2 : Nat) ^ 200 < 2 ^ 2000 := Nat.pow_lt_pow_right (by decide) (by decide)
     rw [ZaI]
     have s : (sgn k).natAbs = 1 := by unfold sgn; split <;> rfl
     rw [s, Nat.one_mul]
     omega
    rw [Qk]
    exact ⟨_, _, rfl⟩
   ·have z : A k 0 = 0 := by simpa using h
    refine Qo (Qo ⟨some (.int k, true), j3, ?_⟩)
    have e : (sm (k + 1) λ j => sgn j * A j 0 * det p λ c r => A (skp j c) (r + 1)) = sm k λ j => sgn j * A j 0 * det p λ c r => A (skp j c) (r + 1) := by
     show (sm k λ j => sgn j * A j 0 * det p λ c r => A (skp j c) (r + 1)) + sgn k * A k 0 * (det p λ c r => A (skp k c) (r + 1)) = _
     rw [z, Zaa, ZN, ZaP]
    rw [e]
    rfl
  ·rintro ρ ⟨j2, j3, rfl⟩
   rw [Zp]
   exact ⟨_, _, rfl⟩
 rintro ρ ⟨j2, j3, rfl⟩
 exact QA (r := ⟨.int (det (p + 1) A), true, []⟩) rfl ⟨rfl, rfl⟩
noncomputable def Qeo (Qaa : Den) : DS := (Qe (Qp 2 (Qr 1 Qaa [] (Qc (Qa 0) Qf))) (Qe (QaV (Qau (dBf Qav (Qc (Qa 0) Qf))) (.nm 3) (Qe (sIf (QI (dOp gNe (dOp QZ (Qr 1 Qaa [] (Qc (Qz (Qz (QbY (Qa 0) QaX (QaY (Qa 3))) (Qas (Qc (Qa 1) Qf))) (QbY (Qa 0) (QaY (Qz (Qa 3) (dC (.int 1)))) QaX)) Qf)) (Qa 2)) (dC (.int 0)))) (Qe (QM (dC (.bl false))) Qm) Qm) Qm)) (Qe (QM (dC (.bl true))) Qm)))
def Qgv (d : Den) : Prop := ∀ (n : Nat) (A : Nat -> Nat -> Int) (g : Nat -> Int), 1 <= n -> n <= 4 -> (∀ j, j < n -> ∀ r, r < n -> (A j r).natAbs <= 2 ^ 200) -> (∀ r, r < n -> (g r).natAbs <= 2 ^ 200) -> det n A ≠ 0 -> (∀ k, k < n -> ∃ q, det n (cup A k g) = q * det n A) -> d [Qi n n A, Qb n g] = some (.bl true, true)
theorem Qok {dm : Den} (hm : QcT 4 dm) : Qgv (Ql 4 (Qeo dm)) := λ n A g h1 h4 hA hg nz hq => by
 have e0 := hm n A h1 h4 (by omega) hA
 refine Q4 ?_
 refine run_seq (Qh (Qs (r := ⟨[Qi n n A], false, []⟩) rfl e0 rfl) ?_)
 rw [Qk]
 refine QQ (Qal (toD := λ (k : Nat) => .int (k : Int)) (List.range n) (λ i ρ => ∃ j3, ρ = [some (Qi n n A, false), some (Qb n g, false), some (.int (det n A), true), j3]) (QaF (n := n) (Qed (n := n) (m := n) (f := A) (r := ⟨Qi n n A, false, []⟩) rfl rfl) rfl (by omega)) rfl ⟨none, rfl⟩ ?_ ?_)
 ·rintro k k' ρ hk ⟨j3, rfl⟩
  have hk' : k < n /\ k = k' := by
   obtain ⟨h1, h2⟩ := Zf.mp hk
   simp at h1 h2; exact ⟨h1, h2⟩
  obtain ⟨hkn, rfl⟩ := hk'
  refine ⟨[some (Qi n n A, false), some (Qb n g, false), some (.int (det n A), true), some (.int k, true)], rfl, ?_⟩
  obtain ⟨r1, q1, d1⟩ := Qln (fa := Qa 0) (fb := Qa 3) (ρ := [some (Qi n n A, false), some (Qb n g, false), some (.int (det n A), true), some (.int k, true)]) (ra := ⟨Qi n n A, false, []⟩) (xs := (List.range n).map λ i => Qb n (A i)) (n := k) rfl rfl (rb := ⟨.int k, true, []⟩) rfl rfl (by simp; omega)
  obtain ⟨r2, q2, d2⟩ := QlP (fa := Qa 0) (fb := Qz (Qa 3) (dC (.int 1))) (ρ := [some (Qi n n A, false), some (Qb n g, false), some (.int (det n A), true), some (.int k, true)]) (ra := ⟨Qi n n A, false, []⟩) (xs := (List.range n).map λ i => Qb n (A i)) (n := k + 1) rfl rfl (QP (a := (k : Int)) (b := 1) (ra := ⟨.int k, true, []⟩) rfl rfl (QaM _ _) rfl) rfl (by simp; omega)
  obtain ⟨r3, q3, d3⟩ := QhI (fb := Qas (Qc (Qa 1) Qf)) (ys := [Qb n g]) q1 d1 (rb := ⟨.lst [Qb n g], false, []⟩) rfl rfl (by simp; omega)
  obtain ⟨r4, q4, d4⟩ := QhI q3 d3 q2 d2 (by simp; omega)
  rw [Qql hkn] at d4
  obtain ⟨q, eq⟩ := hq k hkn
  have e1 := hm n (cup A k g) h1 h4 (by omega) λ j hj r hr => by
   by_cases z : j = k
   ·subst z; rw [QR]; exact hg r hr
   ·rw [QG _ _ z]; exact hA j hj r hr
  refine QQ (Q8 (b := false) (QH (b := false) ((Qdd (a := 0) (b := 0) (ra := ⟨.int 0, true, []⟩) (Qae (d := .int 0) (ra := ⟨.int (det n (cup A k g)), true, []⟩) (rb := ⟨.int (det n A), true, []⟩) (Qs (Qv q4 (Q5 _)) (by rw [d4]; exact e1) rfl) rfl ?_) rfl (QaM _ _) rfl).trans rfl) rfl) (λ h => by cases h) (λ _ => Qo (Qo ⟨_, rfl⟩)))
  show (if det n A ≠ 0 then some (D.int (Qcl (det n (cup A k g)) (det n A))) else none) = _
  rw [if_pos nz, eq, QgA, Int.mul_fmod_left]
 ·rintro ρ ⟨j3, rfl⟩
  exact QA (r := ⟨.bl true, true, []⟩) rfl ⟨rfl, rfl⟩
noncomputable def Qm3 (QaH : Den) : DS := (Qe (QM (Qn (Qr 2 QaH [] (Qc (Qa 0) (Qc (QF (QY (Qa 1)) (.nm 1) [none, none, some 2] QL (QS (Qa 2) (Qa 1))) Qf))) (dC (.int 0)))) Qm)
def QgC (d : Den) : Prop := ∀ (m : Nat) (R L : List (Int × Int)) (f : Nat -> Int) (c : Int), 0 < m -> m <= 8 -> Qbp m R L -> (∀ j, j < m -> (f j).natAbs <= 10 ^ 18) -> c.natAbs <= 2 ^ 100 -> ∃ k, d [Qt m R L, Qb m f, .int c] = some (Qb m (Qd m (Qj m (Qg R L)) (λ j => c * f j) k), true) /\ Qjf m (Qj m (Qg R L)) (λ j => c * f j) k
theorem Qrz {da : Den} (ha : Qea da) : QgC (Ql 3 (Qm3 da)) := λ m R L f c m0 m8 hw hf hc => by
 obtain ⟨k, v, ek, h1, h2, h3, h4⟩ := ha m R L (λ j => c * f j) m0 m8 hw λ j hj => by
  show (c * f j).natAbs <= _
  rw [ZaI]
  exact Zx (Zbp hc (hf j hj)) (by decide)
 refine ⟨k, Q4 ?_, ⟨⟨v, h1, h2⟩, h3, h4⟩⟩
 exact QA (QgX (b := Qb m k) (Qs (Qv (r := ⟨Qt m R L, false, []⟩) rfl (Qv (QE (toD := λ (j : Nat) => .int (f j)) (out := λ (j : Nat) => .int (c * f j)) (List.range m) (Q7 (r := ⟨Qb m f, false, []⟩) rfl rfl) rfl λ j hj => ⟨[none, some (.int (f j), true), some (.int c, true)], rfl, ⟨.int (c * f j), true, []⟩, QT (a := c) (b := f j) (ra := ⟨.int c, true, []⟩) (rb := ⟨.int (f j), true, []⟩) rfl rfl rfl rfl (Qbe (Zaq (hf j (Zn.mp hj)) (by decide))), rfl, rfl⟩) (Q5 _))) ek rfl) rfl).1 ⟨rfl, rfl⟩
def Qgf (d : Den) : Prop := ∀ (m : Nat) (R L : List (Int × Int)) (f : Nat -> Int), 0 < m -> m <= 8 -> Qbp m R L -> (∀ j, j < m -> (f j).natAbs <= 10 ^ 18) -> ∃ k, d [Qt m R L, Qb m f] = some (Qb m (Qd m (Qj m (Qg R L)) (λ j => 0 - f j) k), true) /\ Qjf m (Qj m (Qg R L)) (λ j => 0 - f j) k
theorem QnA {dop da : Den} (ho : Qkn dop) (ha : Qea da) : Qgf (Ql 2 (QiN dop da)) := λ m R L f m0 m8 hw hf => by
 obtain ⟨k, v, ek, h1, h2, h3, h4⟩ := ha m R L (λ j => 0 - f j) m0 m8 hw λ j hj => by
  have := hf j hj
  have : (10 : Nat) ^ 18 <= 2 ^ 200 := by decide
  show (0 - f j).natAbs <= _
  omega
 refine ⟨k, Q4 ?_, ⟨⟨v, h1, h2⟩, h3, h4⟩⟩
 exact QA (QgX (b := Qb m k) (Qs (Qv (r := ⟨Qt m R L, false, []⟩) rfl (Qv (Qs (r := ⟨[Qb m f], false, []⟩) rfl (ho m f) rfl) (Q5 _))) ek rfl) rfl).1 ⟨rfl, rfl⟩
theorem QrN {n : Nat} {A : Nat -> Nat -> Int} {g v : Nat -> Int} {l : Nat} (hl : l < n) (h : ∀ r, r < n -> g r = sm n λ i => v i * A i r) : det n (cup A l g) = v l * det n A := by
 have e : det n (cup A l g) = det n (cup A l λ r => sm n λ i => v i * A i r) := by
  refine Qcx λ j hj r hr => ?_
  by_cases q : j = l
  ·subst q; rw [QR, QR]; exact h r hr
  ·rw [QG _ _ q, QG _ _ q]
 rw [e, Qfm hl v A n, QdQ (c := l) hl λ i hi ne => by rw [Qf7 hl hi (Ne.symm ne) (by rw [QR, QG _ _ ne]), Zaa], Qar]
theorem QtI {n : Nat} {A : Nat -> Nat -> Int} (hA : ∀ j, j < n -> ∀ r, r < n -> (A j r).natAbs <= 2 ^ 200) (hl : QfM n A) : det n A ≠ 0 := by
 obtain ⟨m, R, d, C⟩ := Ql6 (Zk n) hA hl n (Zk n)
 have e2 : det n A = d := by
  rw [← C.clr.det]
  exact Qcx λ j hj r _ => by rw [C.clr.own j hj]
 rw [e2]
 exact C.clr.nz
theorem Qbp.small {m : Nat} {R L : List (Int × Int)} (hw : Qbp m R L) {i j : Nat} (hi : i < m) (hj : j < m) : (Qj m (Qg R L) i j).natAbs <= 600 := by
 have g := hw.good
 have gs := Qb0 g.1 g.2.1
 rw [QbQ hi hj λ s hs => ⟨(gs s hs).1, (gs s hs).2.1⟩]
 refine Zx (QdI i j _) ?_
 unfold Qg
 rw [Zq, Zq, Zh]
 omega
theorem Qvf {n : Nat} (h : n <= 4) : bnd 600 n <= 2 ^ 60 := by
 have h4 : ∀ k, k < 5 -> bnd 600 k <= 2 ^ 60 := by decide +kernel
 exact h4 n (by omega)
noncomputable def Qac (T : Nat -> Nat -> Int) : Nat -> Nat -> Int := λ i j => 0 - T i j
theorem Qbp.QwJ {m : Nat} {R L : List (Int × Int)} (hw : Qbp m R L) (m4 : m <= 4) : (det m (Qac (Qj m (Qg R L)))).natAbs <= 2 ^ 60 := Zx (Qd8 λ j hj r hr => by have := hw.small hj hr; unfold Qac; omega) (Qvf m4)
theorem Qbp.big {m : Nat} {R L : List (Int × Int)} (hw : Qbp m R L) : ∀ j, j < m -> ∀ r, r < m -> (Qac (Qj m (Qg R L)) j r).natAbs <= 2 ^ 200 := λ j hj r hr => by
 have := hw.small hj hr
 have : (600 : Nat) <= 2 ^ 200 := by decide
 unfold Qac
 omega
theorem QkL {ρ : En} {fi : DI} {m : Nat} {T : Nat -> Nat -> Int} {ir : IR} (h : fi ρ = some ir) (hx : ir.items = (List.range m).map λ i => Qb m (T i)) : QF fi (.nm 1) [none, none] QL (QF (QY (Qa 1)) (.nm 1) [none, none] QL (dOp Qaq (dC (.int 0)) (Qa 1))) ρ = some ⟨Qi m m (Qac T), true, []⟩ :=
 QE (toD := λ (i : Nat) => Qb m (T i)) (out := λ (i : Nat) => Qb m (Qac T i)) (List.range m) h hx λ i _ => ⟨[none, some (Qb m (T i), false)], rfl, ⟨Qb m (Qac T i), true, []⟩, QE (toD := λ (j : Nat) => .int (T i j)) (out := λ (j : Nat) => .int (Qac T i j)) (List.range m) (Q7 (r := ⟨Qb m (T i), false, []⟩) rfl rfl) rfl λ j _ => ⟨[none, some (.int (T i j), true)], rfl, ⟨.int (Qac T i j), true, []⟩, rfl, rfl, rfl⟩, rfl, rfl⟩
noncomputable def QeN (Qbh : Den) (Qa1 : Den) (QbD : Den) (Qbu : Den) : DS := (Qe (Qp 4 (Qr 3 Qbh [] (Qc (Qa 0) (Qc (Qa 2) (Qc (Qa 3) Qf))))) (Qe (Qp 5 (QF (QY (Qa 1)) (.nm 1) [none, none] QL (QF (QY (Qa 1)) (.nm 1) [none, none] QL (dOp Qaq (dC (.int 0)) (Qa 1))))) (Qe (sIf (bOr (Qdj (QI (Qr 2 Qa1 [] (Qc (Qa 4) (Qc (Qn (Qa 0) (dC (.int 0))) Qf))))) (Qdj (QI (Qr 2 QbD [] (Qc (Qa 5) (Qc (Qa 4) Qf)))))) (Qe (QM (dC (.bl false))) Qm) Qm) (Qe (QM (Qr 2 Qbu [] (Qc (Qa 1) (Qc (QF (QaR (Qa 2) (Qa 4)) (.tp [1, 2]) [none, none, none, some 3] QL (dOp Qaq (QS (Qa 1) (Qa 3)) (Qa 2))) Qf)))) Qm))))
def Qh1 (d : Den) : Prop := ∀ (m : Nat) (R L : List (Int × Int)) (f : Nat -> Int) (c : Int), 0 < m -> m <= 4 -> Qbp m R L -> (∀ j, j < m -> (f j).natAbs <= 10 ^ 18) -> c.natAbs <= 2 ^ 100 -> d [Qt m R L, Qi m m (Qac (Qj m (Qg R L))), Qb m f, .int c] = some (.bl true, true)
set_option maxHeartbeats 0 in
theorem Qo7 {dt du dc da : Den} (ht : QgC dt) (hu : Ql7 du) (hc : Qgh dc) (ha : Qgv da) : Qh1 (Ql 6 (QeN dt du dc da)) := λ m R L f c m0 m4 hw hf hcb => by
 have tp := hw.tp
 obtain ⟨k, ek, rk⟩ := ht m R L f c m0 (by omega) hw hf hcb
 have cm : dc [Qi m m (Qj m (Qg R L)), Qb m (Qd m (Qj m (Qg R L)) (λ j => c * f j) k)] = some (.bl true, true) := by
  obtain ⟨v, h1, h2⟩ := rk.ex
  exact hc m _ _ v m0 (by omega) tp h1 h2 rk.stb rk.nn
 have bx := Qtz tp rk.stb rk.nn
 have al := ha m (Qac (Qj m (Qg R L))) (λ r => f r * c - Qd m (Qj m (Qg R L)) (λ j => c * f j) k r) (by omega) m4 hw.big (λ r hr => by
  have h1 := bx r hr
  have h2 : (f r * c).natAbs <= 10 ^ 18 * 2 ^ 100 := by rw [ZaI]; exact Zbp (hf r hr) hcb
  have h3 : 10 ^ 18 * 2 ^ 100 + 2 ^ 100 <= 2 ^ 200 := by decide
  have h4 : ((2 : Int) ^ 100) = ((2 ^ 100 : Nat) : Int) := by decide
  show (f r * c - Qd m (Qj m (Qg R L)) (λ j => c * f j) k r).natAbs <= _
  omega) (QtI hw.big (QiV tp)) λ l hl => ⟨k l, QrN hl λ r hr => by
   show f r * c - (c * f r + Qu m λ i => k i * Qj m (Qg R L) i r) = sm m λ i => k i * Qac (Qj m (Qg R L)) i r
   rw [Qeb, Zak (f r) c]
   have e : (Qu m λ i => k i * Qac (Qj m (Qg R L)) i r) = - Qu m λ i => k i * Qj m (Qg R L) i r := by
    rw [← QcW]
    exact QJ λ i _ => by unfold Qac; rw [ZaF, Zau]
   rw [e]
   omega⟩
 have nn : Qac (Qac (Qj m (Qg R L))) = Qj m (Qg R L) := by funext i j; unfold Qac; omega
 generalize Qj m (Qg R L) = T at *
 generalize Qd m T (λ j => c * f j) k = x at *
 refine Q4 ?_
 refine run_seq (Qh (Qs (r := ⟨[Qt m R L, Qb m f, .int c], false, []⟩) rfl ek rfl) ?_)
 rw [Qk]
 refine run_seq (Qh (QkL (m := m) (T := Qac T) (Q7 (r := ⟨Qi m m (Qac T), false, []⟩) rfl rfl) rfl) ?_)
 rw [Qk, nn]
 refine QQ (Q8 (b := false) (QdN (a := false) (b := false) (Qek (b := true) (QH (b := true) (Qs (r := ⟨[Qb m x, .int m], true, [4]⟩) rfl (hu m x) rfl) rfl)) (Qek (b := true) (QH (b := true) (Qs (r := ⟨[Qi m m T, Qb m x], true, [5, 4]⟩) rfl cm rfl) rfl))) (λ h => by cases h) (λ _ => Qo ?_))
 exact QA (Qs (Qv (r := ⟨Qi m m (Qac T), false, []⟩) rfl (Qv (QE (toD := λ (j : Nat) => .tup [.int (f j), .int (x j)]) (out := λ (j : Nat) => .int (f j * c - x j)) (List.range m) (Qbi (f := λ j => .int (f j)) (g := λ j => .int (x j)) (ra := ⟨Qb m f, false, []⟩) rfl rfl (rb := ⟨Qb m x, true, [4]⟩) rfl rfl) rfl λ j hj => ⟨[none, some (.int (f j), true), some (.int (x j), true), some (.int c, true)], rfl, ⟨.int (f j * c - x j), true, []⟩, Qb1 (a := f j * c) (b := x j) (QT (a := f j) (b := c) (ra := ⟨.int (f j), true, []⟩) (rb := ⟨.int c, true, []⟩) rfl rfl rfl rfl (QaG (Zaq (hf j (Zn.mp hj)) (by decide)))) rfl (rb := ⟨.int (x j), true, []⟩) rfl rfl, rfl, rfl⟩) (Q5 _))) al rfl) ⟨rfl, rfl⟩
theorem QpO {x m : Nat} {a : D} {f : Nat -> Int} {fi fa : DE} {ρ : En} {i : Int} {v : Int} {ri ra : R} {Q : Out -> Prop} (hx : ρ[x]? = some (some (.lst [a, Qb m f], true))) (hi : fi ρ = some ri) (ei : ri.d = .int i) (ha : fa ρ = some ra) (ea : ra.d = .int v) (h0 : 0 <= i) (h : i < m)
  (q : Q (.nx (ρ.set x (some (.lst [a, Qb m (up f i.toNat v)], true))))) : Run (Qa4 x (QcE Qam (dC (.int 1))) fi fa) ρ Q := by
 refine ⟨_, ?_, q⟩
 have hn : ra.norm = ⟨.int v, true, []⟩ := by unfold R.norm; rw [ea]; rfl
 unfold Qa4
 rw [ha, Za, hx]
 have hp : QcE Qam (dC (.int 1)) ρ = some [1] := rfl
 have hd : Qa8 (.lst [a, .lst ((List.range m).map λ i => D.int (f i))]) [1] = some (.lst ((List.range m).map λ i => D.int (f i))) := rfl
 have hu' : ∀ d, QaN [1] (.lst [a, .lst ((List.range m).map λ i => D.int (f i))]) d = .lst [a, d] := λ d => rfl
 simp only [hp, Za, hi, ei, Qb, hd, Zh, Zp, QcI h0 h, hn, ea, Qfu, hu']
 simp [kill]
noncomputable def QjK (QcK : Den) (QbC : Den) (QcB : Den) (Q1 : Den) (Qbj : Den) (Qaa : Den) (Qcj : Den) (Qa0 : Den) (Qdy : Den) (Qbh : Den) (QaH : Den) (QcJ : Den) : DS := (Qe (Qp 1 (Qr 3 QcK [] (Qc (Qa 0) (Qc (dC (.int 4)) (Qc (dC (.int 6)) Qf))))) (Qe (Qp 2 (QF (QY (Qr 1 QbC [] (Qc (Qa 1) Qf))) (.nm 1) [none, none] QL (QF (QY (Qa 1)) (.nm 1) [none, none] QL (dOp Qaq (dC (.int 0)) (Qa 1))))) (Qe (Qp 3 (Qr 4 QcB [] (Qc (Qa 0) (Qc (Qn (Qa 1) (dC (.int 0))) (Qc (dOp QeX (dC (.int 10)) (dC (.int 17))) (Qc (dC (.int 16807)) Qf)))))) (Qe (Qp 4 (dOp Qba (Qr 2 Q1 [] (Qc (Qa 0) (Qc (dC (.int 2)) Qf))) (dC (.int 7)))) (Qe (Qp 5 (Qr 2 Qbj [] (Qc (Qr 2 Q1 [] (Qc (Qa 0) (Qc (dC (.int 3)) Qf))) (Qc (Qn (Qas (Qc (dC (.int 9)) (Qc (dOp QeX (dC (.int 10)) (dC (.int 6))) (Qc (dOp QeX (dC (.int 10)) (dC (.int 17))) Qf)))) (dOp QZ (Qa 4) (dC (.int 3)))) Qf)))) (Qe (Qp 6 (Qr 1 Qaa [] (Qc (Qa 2) Qf))) (Qe (sIf (QI (dOp gEq (dOp QZ (dOp Qba (Qa 4) (dC (.int 3))) (dC (.int 3))) (dC (.int 1)))) (Qe (Qp 5 (QS (Qa 6) (dOp Qaq (dOp QZ (Qr 2 Q1 [] (Qc (Qa 0) (Qc (dC (.int 3)) Qf))) (dC (.int 7))) (dC (.int 3))))) Qm) Qm) (Qe (Qp 7 (Qas (Qc (Qr 1 Qcj [] (Qc (Qa 1) Qf)) (Qc (dList (Qc (Qa 3) Qf)) Qf)))) (Qe (sIf (bOr (Qdj (QI (Qr 4 Qa0 [] (Qc (Qn (Qa 7) (dC (.int 0))) (Qc (Qa 2) (Qc (Qn (Qa 7) (dC (.int 1))) (Qc (Qa 5) Qf))))))) (QI (dOp gNe (Qa 7) (Qas (Qc (Qa 1) (Qc (Qa 3) Qf)))))) (Qe (QM (dC (.bl false))) Qm) Qm) (Qe (Qp 8 (Qr 1 Qdy [] (Qc (Qa 1) Qf))) (Qe (sIf (bOr (QI (dOp gNe (Qr 3 Qbh [] (Qc (Qa 1) (Qc (Qa 3) (Qc (dC (.int 0)) Qf)))) (Qa 8))) (QI (dOp gNe (Qr 3 Qbh [] (Qc (Qa 1) (Qc (Qa 3) (Qc (Qa 6) Qf)))) (Qa 8)))) (Qe (QM (dC (.bl false))) Qm) Qm) (Qe (sIf (bOr (QI (dOp gNe (Qr 3 Qbh [] (Qc (Qa 1) (Qc (Qa 3) (Qc (dC (.int 1)) Qf)))) (Qn (Qr 2 QaH [] (Qc (Qa 1) (Qc (Qa 3) Qf))) (dC (.int 0))))) (QI (dOp gNe (Qr 3 Qbh [] (Qc (Qa 1) (Qc (Qa 3) (Qc (QhA (dC (.int 1))) Qf)))) (Qr 2 QcJ [] (Qc (Qa 1) (Qc (Qa 3) Qf)))))) (Qe (QM (dC (.bl false))) Qm) Qm) (Qe (Qa4 7 (QcE Qam (dC (.int 1))) (dC (.int 0)) (dOp Qaq (Qn (Qn (Qa 7) (dC (.int 1))) (dC (.int 0))) (dC (.int 1)))) (Qe (QM (QdD (Qr 4 Qa0 [] (Qc (Qa 1) (Qc (Qa 2) (Qc (Qn (Qa 7) (dC (.int 1))) (Qc (Qa 5) Qf))))) (Qr 4 Qa0 [] (Qc (Qa 1) (Qc (Qa 2) (Qc (Qa 3) (Qc (Qa 5) Qf))))))) Qm))))))))))))))
set_option maxHeartbeats 0 in
theorem QuX {dn dt dr dc du dm dcp dg dno dti da dk : Den} (hn : Qi4 dn) (ht : TabsOk dt) (hr : Qi6 dr) (hc : QgP dc) (hu : QhT du) (hm : QcT 4 dm) (hcp : QjB dcp) (hg : Qh1 dg) (hno : Qhu dno) (hti : QgC dti) (ha : Qea da) (hk : Qgf dk) (ns : List Int) (hl : ns.length <= 63) (hbits : ∀ k, QdJ (ns.getD k 0)) : Ql 9 (QjK dn dt dr dc du dm dcp dg dno dti da dk) [.lst (ns.map .int)] = some (.bl true, true) := by
 obtain ⟨m, R, L, en, m0, m4, hw⟩ := hn ns 4 6 hl hbits (by decide) (by decide) (by decide)
 have gd := hw.good
 have tp := hw.tp
 have et := ht m R L m0 (by omega) (by omega) gd.1 gd.2.1
 obtain ⟨F, hF⟩ := hc ns hl hbits
 obtain ⟨f, ef, bf⟩ := hr ns m (10 ^ 17) 16807 hl m0 (by omega) (by decide) (by decide) (by decide) (by decide)
 have f18 : ∀ j, j < m -> (f j).natAbs <= 10 ^ 18 := λ j hj => by
  have := bf j hj
  omega
 have y1 := ZD (F 2 / 7) (by decide : (3 : Int) ≠ 0)
 have y2 := ZC (F 2 / 7) (by decide : (0 : Int) < 3)
 obtain ⟨far, hfar⟩ : ∃ far, [9, 10 ^ 6, (10 : Int) ^ 17][(F 2 / 7 % 3).toNat]? = some far := ⟨_, Zar (by simp; omega)⟩
 have hfb : 0 <= far /\ far <= 10 ^ 17 := by
  have hm := ZY hfar
  have all : ∀ x ∈ [9, 10 ^ 6, (10 : Int) ^ 17], 0 <= x /\ x <= 10 ^ 17 := by decide +kernel
  exact all far hm
 obtain ⟨c0, ec0, cl, cu⟩ := hu (F 3) far (hF 3 (by decide)).2 hfb.1
 have em := hm m (Qac (Qj m (Qg R L))) (by omega) m4 (by omega) hw.big
 have db := hw.QwJ m4
 have d100 : (det m (Qac (Qj m (Qg R L)))).natAbs <= 2 ^ 100 := Zx db (by decide)
 have hgood := hg m R L
 have ecp := hcp m R L
 obtain ⟨kn, eno, rN⟩ := hno m R L m0 (by omega) hw
 obtain ⟨k0, e0, r0⟩ := hti m R L f 0 m0 (by omega) hw f18 (by decide)
 obtain ⟨kd, ed, rD⟩ := hti m R L f _ m0 (by omega) hw f18 d100
 obtain ⟨k1, e1, r1⟩ := hti m R L f 1 m0 (by omega) hw f18 (by decide)
 obtain ⟨kq, eq, rQ⟩ := hti m R L f (-1) m0 (by omega) hw f18 (by decide)
 obtain ⟨kc, ec, rC⟩ := hk m R L f m0 (by omega) hw f18
 obtain ⟨ka, v, ea, a1, a2, a3, a4⟩ := ha m R L f m0 (by omega) hw λ j hj => Zx (f18 j hj) (by decide)
 have rA : Qjf m (Qj m (Qg R L)) f ka := ⟨⟨v, a1, a2⟩, a3, a4⟩
 have q0 := Qh9 tp rN r0 (d := λ i => k0 i - kn i) λ j _ => by
  unfold Qd; rw [Qf8]; dsimp only; rw [ZN]; omega
 have qd := Qh9 tp rN rD (d := λ i => (kd i - det m (cup (Qac (Qj m (Qg R L))) i f)) - kn i) λ j hj => by
  have cr := Qig (Qac (Qj m (Qg R L))) f hj
  rw [Qeb] at cr
  have e : (Qu m λ l => det m (cup (Qac (Qj m (Qg R L))) l f) * Qac (Qj m (Qg R L)) l j) = - Qu m λ l => det m (cup (Qac (Qj m (Qg R L))) l f) * Qj m (Qg R L) l j := by
   rw [← QcW]
   exact QJ λ i _ => by unfold Qac; rw [ZaF, Zau]
  rw [e] at cr
  unfold Qd; rw [Qf8, Qf8]; dsimp only; rw [cr]; omega
 have q1 := Qh9 tp rA r1 (d := λ i => k1 i - ka i) λ j _ => by
  unfold Qd; rw [Qf8]; dsimp only; rw [Zal]; omega
 have qq := Qh9 tp rC rQ (d := λ i => kq i - kc i) λ j _ => by
  unfold Qd; rw [Qf8]; dsimp only; rw [show (-1 : Int) * f j = 0 - f j by omega]; omega
 rw [Qc5 q0] at e0
 rw [Qc5 qd] at ed
 rw [Qc5 q1] at e1
 rw [Qc5 qq] at eq
 clear q0 qd q1 qq rN r0 rD r1 rQ rC rA a1 a2 a3 a4
 generalize det m (Qac (Qj m (Qg R L))) = w at *
 generalize Qj m (Qg R L) = T at *
 generalize Qd m T (λ _ => 0) kn = N at *
 generalize Qd m T (λ j => 0 - f j) kc = C at *
 generalize Qd m T f ka = A at *
 have cell : ∀ (ρ : En) (k : Nat), ρ[0]? = some (some (.lst (ns.map .int), false)) -> k <= 1000 -> Qr 2 dc [] (Qc (Qa 0) (Qc (dC (.int k)) Qf)) ρ = some ⟨.int (F k), true, []⟩ := λ ρ k h0 hk => Qs (Qv (QaD h0) (Qv (QaM _ _) (Q5 _))) (hF k hk).1 rfl
 have it : ∀ {ρ : En} {b : Bool}, ρ[1]? = some (some (Qt m R L, b)) -> Qn (Qa 1) (dC (.int 0)) ρ = some ⟨.int m, true, []⟩ := λ {ρ b} h => (QcD (m := m) (R := R) (L := L) (QaD h) (by cases b <;> rfl)).1
 have el : ∀ ρ : En, Qas (Qc (dC (.int 9)) (Qc (dOp QeX (dC (.int 10)) (dC (.int 6))) (Qc (dOp QeX (dC (.int 10)) (dC (.int 17))) Qf))) ρ = some ⟨.lst ([9, 10 ^ 6, (10 : Int) ^ 17].map .int), true, []⟩ := λ ρ => (Ql4 (Qv (r := ⟨.int 9, true, []⟩) rfl (Qv (QgF (a := 10) (k := 6) (by decide) (by decide)) (Qv (QgF (a := 10) (k := 17) (by decide) (by decide)) (Q5 _)))) (Nat.le_of_ble_eq_true rfl)).trans rfl
 have sR : ∀ f : Nat -> Int, (Qb m f).sim 8 = true := λ f => QgL 7 m f
 have sH : (D.lst [Qt m R L, Qb m f]).sim 8 = true := by
  simp only [D.sim, List.all_cons, List.all_nil, ZbV, Zl]
  refine ⟨?_, QgL 6 m f⟩
  unfold Qt
  simp only [D.sim, List.all_cons, List.all_nil, ZbV, Bool.true_and, Zl]
  exact ⟨Qj3 4 R, Qj3 4 L⟩
 refine Q4 ?_
 refine run_seq (Qh (Qs (r := ⟨[.lst (ns.map .int), .int 4, .int 6], false, []⟩) rfl en rfl) ?_)
 rw [Qk]
 refine run_seq (Qh (QkL (m := m) (T := T) (Q7 (Qs (r := ⟨[Qt m R L], true, [1]⟩) rfl et rfl) rfl) rfl) ?_)
 rw [Qk]
 refine run_seq (Qh (Qs (Qv (r := ⟨.lst (ns.map .int), false, []⟩) rfl (Qv (it rfl) (Qv (QgF (a := 10) (k := 17) (by decide) (by decide)) (Qv (r := ⟨.int 16807, true, []⟩) rfl (Q5 _))))) ef rfl) ?_)
 rw [Qk]
 refine run_seq (Qh (Qfl (a := F 2) (b := 7) (cell _ 2 rfl (by decide)) rfl (QaM _ _) rfl (by decide) (by decide)) ?_)
 rw [Qk]
 refine run_seq (Qh (Qs (Qv (cell _ 3 rfl (by decide)) (Qv (QgG (ns := [9, 10 ^ 6, (10 : Int) ^ 17]) (i := F 2 / 7 % 3) (v := far) (el _) rfl (Q6 (a := F 2 / 7) (b := 3) rfl rfl (QaM _ _) rfl (by decide)) rfl y1 hfar) (Q5 _))) ec0 rfl) ?_)
 rw [Qk]
 refine run_seq (Qh (Qs (r := ⟨[Qi m m (Qac T)], true, [2]⟩) rfl em rfl) ?_)
 rw [Qk]
 refine Qa6 (P := λ ρ => ∃ c : Int, c.natAbs <= 2 ^ 100 /\ ρ = [some (.lst (ns.map .int), false), some (Qt m R L, true), some (Qi m m (Qac T), true), some (Qb m f, true), some (.int (F 2 / 7), true), some (.int c, true), some (.int w, true), none, none]) ?_ ?_
 ·have z1 := ZD (F 3) (by decide : (7 : Int) ≠ 0)
  have z2 := ZC (F 3) (by decide : (0 : Int) < 7)
  refine Q8 (QH (QbF (a := F 2 / 7 / 3 % 3) (b := 1) (Q6 (a := F 2 / 7 / 3) (b := 3) (Qfl (a := F 2 / 7) (b := 3) rfl rfl (QaM _ _) rfl (by decide) (by decide)) rfl (QaM _ _) rfl (by decide)) rfl (QaM _ _) rfl) rfl) (λ _ => ?_) (λ _ => ?_)
  ·refine run_seq (Qh (QT (a := w) (b := F 3 % 7 - 3) (ra := ⟨.int w, true, []⟩) rfl rfl (Qb1 (a := F 3 % 7) (b := 3) (Q6 (a := F 3) (b := 7) (cell _ 3 rfl (by decide)) rfl (QaM _ _) rfl (by decide)) rfl (QaM _ _) rfl) rfl (Qbe (by omega))) (Qo ?_))
   rw [Qk]
   refine ⟨w * (F 3 % 7 - 3), ?_, rfl⟩
   rw [ZaI]
   exact Zx (Zbp db (show (F 3 % 7 - 3).natAbs <= 3 by omega)) (by decide)
  ·refine Qo ⟨c0, ?_, rfl⟩
   have : (10 : Int) ^ 17 <= 2 ^ 100 := by decide
   omega
 clear ec0 cl cu em db d100 hfar hfb y1 y2 el cell
 rintro ρ ⟨c, cb, rfl⟩
 have g1 := hgood f c m0 m4 hw f18 cb
 have g2 := hgood (up f 0 (f 0 - 1)) c m0 m4 hw (λ j hj => by
  rw [Qfh]
  have := bf 0 m0
  have := f18 j hj
  split <;> omega) cb
 refine run_seq (Qh (r := ⟨.lst [Qt m R L, Qb m f], true, []⟩) (Ql4 (Qv (Qs (r := ⟨[Qt m R L], true, [1]⟩) rfl ecp rfl) (Qv (Qfy (m := m) (f := f) (rs := ⟨[Qb m f], true, [3]⟩) rfl rfl) (Q5 _))) (Nat.le_of_ble_eq_true rfl)) ?_)
 rw [Qk]
 change Nx _ (.nx [some (.lst (ns.map .int), false), some (Qt m R L, true), some (Qi m m (Qac T), true), some (Qb m f, true), some (.int (F 2 / 7), true), some (.int c, true), some (.int w, true), some (.lst [Qt m R L, Qb m f], true), none])
 refine QQ (Q8 (b := false) (QdN (a := false) (b := false) (Qek (b := true) (QH (b := true) (Qs (r := ⟨[Qt m R L, Qi m m (Qac T), Qb m f, .int c], true, [7, 2, 7]⟩) rfl g1 rfl) rfl)) (QH (b := false) (Qgc (d := .lst [Qt m R L, Qb m f]) (ra := ⟨.lst [Qt m R L, Qb m f], true, [7]⟩) (rb := ⟨.lst [Qt m R L, Qb m f], true, [1, 3]⟩) rfl rfl rfl rfl sH) rfl)) (λ h => by cases h) (λ _ => Qo ?_))
 refine run_seq (Qh (Qs (r := ⟨[Qt m R L], true, [1]⟩) rfl eno rfl) ?_)
 rw [Qk]
 change Nx _ (.nx [some (.lst (ns.map .int), false), some (Qt m R L, true), some (Qi m m (Qac T), true), some (Qb m f, true), some (.int (F 2 / 7), true), some (.int c, true), some (.int w, true), some (.lst [Qt m R L, Qb m f], true), some (Qb m N, true)])
 refine QQ (Q8 (b := false) (QdN (a := false) (b := false) (QH (b := false) (Qgc (d := Qb m N) (Qs (r := ⟨[Qt m R L, Qb m f, .int 0], true, [1, 3]⟩) rfl e0 rfl) rfl (rb := ⟨Qb m N, true, [8]⟩) rfl rfl (sR _)) rfl) (QH (b := false) (Qgc (d := Qb m N) (Qs (r := ⟨[Qt m R L, Qb m f, .int w], true, [1, 3]⟩) rfl ed rfl) rfl (rb := ⟨Qb m N, true, [8]⟩) rfl rfl (sR _)) rfl)) (λ h => by cases h) (λ _ => Qo ?_))
 refine QQ (Q8 (b := false) (QdN (a := false) (b := false) (QH (b := false) (Qgc (d := Qb m A) (Qs (r := ⟨[Qt m R L, Qb m f, .int 1], true, [1, 3]⟩) rfl e1 rfl) rfl (QgX (a := Qb m A) (b := Qb m ka) (Qs (r := ⟨[Qt m R L, Qb m f], true, [1, 3]⟩) rfl ea rfl) rfl).1 rfl (sR _)) rfl) (QH (b := false) (Qgc (d := Qb m C) (Qs (r := ⟨[Qt m R L, Qb m f, .int (-1)], true, [1, 3]⟩) rfl eq rfl) rfl (Qs (r := ⟨[Qt m R L, Qb m f], true, [1, 3]⟩) rfl ec rfl) rfl (sR _)) rfl)) (λ h => by cases h) (λ _ => Qo ?_))
 refine run_seq (QpO (m := m) (a := Qt m R L) (f := f) (i := 0) (v := f 0 - 1) (ri := ⟨.int 0, true, []⟩) rfl rfl rfl (Qb1 (a := f 0) (b := 1) (Qaj (m := m) (f := f) (i := 0) (ra := ⟨Qb m f, true, [7]⟩) (rb := ⟨.int 0, true, []⟩) rfl rfl rfl rfl m0) rfl (QaM _ _) rfl) rfl (by decide) (by omega) ?_)
 change Nx _ (.nx [some (.lst (ns.map .int), false), some (Qt m R L, true), some (Qi m m (Qac T), true), some (Qb m f, true), some (.int (F 2 / 7), true), some (.int c, true), some (.int w, true), some (.lst [Qt m R L, Qb m (up f 0 (f 0 - 1))], true), some (Qb m N, true)])
 exact QA (QiE (a := true) (b := true) (Qs (r := ⟨[Qt m R L, Qi m m (Qac T), Qb m (up f 0 (f 0 - 1)), .int c], true, [1, 2, 7]⟩) rfl g2 rfl) (Qs (r := ⟨[Qt m R L, Qi m m (Qac T), Qb m f, .int c], true, [1, 2, 3]⟩) rfl g1 rfl)) ⟨rfl, rfl⟩
end HS
theorem HS.some_of {α : Type} {x : Option α} {d : α} (h : x.isSome = true) : x = some (x.getD d) := by cases x with | none => cases h | some a => rfl
namespace Law
open PySem L2 HS
noncomputable section
def top (i : Nat) : Stmt := PySem.Challenge.pw_heapstill_k48_told_many_times.main.body.getD i (.Pass ⟨0, 0, 0, 0⟩)
abbrev cst : List (Str × Int) := []
abbrev Sc (s : Stmt) (P : List Str) : Prop := Qc4 (namesOf (QD s)) P (QD s)
theorem scM {s : Stmt} {P : List Str} (h1 : (QD s).kind = .function) (h2 : (QD s).isCoroutine = false) (h3 : (QD s).isGenerator = false) (h4 : (namesOf (QD s)).Nodup /\ (namesOf (QD s)).take P.length = P /\ (∀ x ∈ P, (QD s).names.lookup x = some .local ∨ (QD s).names.lookup x = some .cell) /\ ∀ y ∈ (QD s).names, y.2 ≠ .free) : Sc s P := ⟨h1, h2, h3, h4.1, h4.2.1, h4.2.2.1, h4.2.2.2⟩
noncomputable abbrev Cp (s : Stmt) (Γ : List (Str × FnR)) : Option DS := Qa7 60 (QlA s Γ cst) (QbE s)
noncomputable abbrev Dn (s : Stmt) (g : DS) : Den := Ql (namesOf (QD s)).length g
noncomputable abbrev Gc (x : Str) (n : Nat) (d : Den) (Γ : List (Str × FnR)) : List (Str × FnR) := (x, ⟨n, [], d⟩) :: Γ
abbrev Qb6 := top 6
theorem QkD : Sc Qb6 ["net", "rows"] := scM rfl rfl rfl (by decide +kernel)
theorem QmJ : Qw "need_rows" Qb6 ["net", "rows"] := λ | _, _, _, _, _, _, [_, _], _ => rfl
def Qhl := (Cp Qb6 []).getD QB
theorem Qmg : Cp Qb6 [] = some Qhl := some_of (by decide +kernel)
abbrev Qah := Dn Qb6 Qhl
abbrev Qe3 := Gc "need_rows" 2 Qah []
abbrev Qby := top 7
theorem Qke : Sc Qby ["net", "heaps"] := scM rfl rfl rfl (by decide +kernel)
theorem Qk6 : Qw "need_heaps" Qby ["net", "heaps"] := λ | _, _, _, _, _, _, [_, _], _ => rfl
def Qgp := (Cp Qby Qe3).getD QB
theorem QkW : Cp Qby Qe3 = some Qgp := some_of (by decide +kernel)
abbrev QbJ := Dn Qby Qgp
abbrev QeC := Gc "need_heaps" 2 QbJ Qe3
abbrev QdB := top 9
theorem QpR : Sc QdB ["table", "at"] := scM rfl rfl rfl (by decide +kernel)
theorem Qq2 : Qw "column" QdB ["table", "at"] := λ | _, _, _, _, _, _, [_, _], _ => rfl
def QkT := (Cp QdB QeC).getD QB
theorem Qqj : Cp QdB QeC = some QkT := some_of (by decide +kernel)
abbrev QbR := Dn QdB QkT
abbrev QhE := Gc "column" 2 QbR QeC
abbrev QdH := top 10
theorem QoD : Sc QdH ["table"] := scM rfl rfl rfl (by decide +kernel)
theorem Qq3 : Qw "turned" QdH ["table"] := λ | _, _, _, _, _, _, [_], _ => rfl
def QkH := (Cp QdH QhE).getD QB
theorem Qrk : Cp QdH QhE = some QkH := some_of (by decide +kernel)
abbrev Qds := Dn QdH QkH
abbrev QhY := Gc "turned" 1 Qds QhE
abbrev QcF := top 11
theorem Qmh : Sc QcF ["line"] := scM rfl rfl rfl (by decide +kernel)
theorem QnT : Qw "opposite" QcF ["line"] := λ | _, _, _, _, _, _, [_], _ => rfl
def Qir := (Cp QcF QhY).getD QB
theorem QnQ : Cp QcF QhY = some Qir := some_of (by decide +kernel)
abbrev Qao := Dn QcF Qir
abbrev QfC := Gc "opposite" 1 Qao QhY
abbrev Qdq := top 12
theorem Qpa : Sc Qdq ["numbers"] := scM rfl rfl rfl (by decide +kernel)
theorem QqO : Qw "common" Qdq ["numbers"] := λ | _, _, _, _, _, _, [_], _ => rfl
def Qk4 := (Cp Qdq QfC).getD QB
theorem Qqz : Cp Qdq QfC = some Qk4 := some_of (by decide +kernel)
abbrev QdA := Dn Qdq Qk4
abbrev Qht := Gc "common" 1 QdA QfC
abbrev QbN := top 14
theorem Qj6 : Sc QbN ["lines", "at"] := scM rfl rfl rfl (by decide +kernel)
theorem Qma : Qw "with_pivot" QbN ["lines", "at"] := λ | _, _, _, _, _, _, [_, _], _ => rfl
def Qf4 := (Cp QbN Qht).getD QB
theorem QlC : Cp QbN Qht = some Qf4 := some_of (by decide +kernel)
abbrev QbH := Dn QbN Qf4
abbrev Qev := Gc "with_pivot" 2 QbH Qht
abbrev Qce := top 15
theorem QkE : Sc Qce ["line", "pivot_line", "at", "before"] := scM rfl rfl rfl (by decide +kernel)
theorem QmU : Qw "taken_off" Qce ["line", "pivot_line", "at", "before"] := λ | _, _, _, _, _, _, [_, _, _, _], _ => rfl
def Qhk := (Cp Qce Qev).getD QB
theorem Qmi : Cp Qce Qev = some Qhk := some_of (by decide +kernel)
abbrev Qca := Dn Qce Qhk
abbrev Qe9 := Gc "taken_off" 4 Qca Qev
abbrev Qc3 := top 13
theorem Qot : Sc Qc3 ["lines"] := scM rfl rfl rfl (by decide +kernel)
theorem Qo5 : Qw "cleared" Qc3 ["lines"] := λ | _, _, _, _, _, _, [_], _ => rfl
def QjE := (Cp Qc3 Qe9).getD QB
theorem Qpt : Cp Qc3 Qe9 = some QjE := some_of (by decide +kernel)
abbrev Qc9 := Dn Qc3 QjE
abbrev Qgn := Gc "cleared" 1 Qc9 Qe9
abbrev QaP := top 16
theorem QhN : Sc QaP ["lines"] := scM rfl rfl rfl (by decide +kernel)
theorem Qin : Qw "cleared_whole" QaP ["lines"] := λ | _, _, _, _, _, _, [_], _ => rfl
def QeI := (Cp QaP Qgn).getD QB
theorem Qiq : Cp QaP Qgn = some QeI := some_of (by decide +kernel)
abbrev QaO := Dn QaP QeI
abbrev Qdi := Gc "cleared_whole" 1 QaO Qgn
abbrev Qbz := top 17
theorem Qj8 : Sc Qbz ["table", "row"] := scM rfl rfl rfl (by decide +kernel)
theorem Qky : Qw "shared_out" Qbz ["table", "row"] := λ | _, _, _, _, _, _, [_, _], _ => rfl
def Qgu := (Cp Qbz Qdi).getD QB
theorem Qlc : Cp Qbz Qdi = some Qgu := some_of (by decide +kernel)
abbrev Qbw := Dn Qbz Qgu
abbrev Qej := Gc "shared_out" 2 Qbw Qdi
abbrev Qec := top 19
theorem Qqd : Sc Qec ["roads", "lanes"] := scM rfl rfl rfl (by decide +kernel)
theorem QtB : Qw "steps" Qec ["roads", "lanes"] := λ | _, _, _, _, _, _, [_, _], _ => rfl
def Qnp := (Cp Qec Qej).getD QB
theorem Qtg : Cp Qec Qej = some Qnp := some_of (by decide +kernel)
abbrev Qc7 := Dn Qec Qnp
abbrev Qjh := Gc "steps" 2 Qc7 Qej
abbrev Qbv := top 20
theorem Qki : Sc Qbv ["net"] := scM rfl rfl rfl (by decide +kernel)
theorem Qlf : Qw "toll_table" Qbv ["net"] := λ | _, _, _, _, _, _, [_], _ => rfl
def Qgb := (Cp Qbv Qjh).getD QB
theorem QkK : Cp Qbv Qjh = some Qgb := some_of (by decide +kernel)
abbrev QW := Dn Qbv Qgb
abbrev Qeh := Gc "toll_table" 1 QW Qjh
abbrev Qcc := top 21
theorem Qk5 : Sc Qcc ["net"] := scM rfl rfl rfl (by decide +kernel)
theorem QmT : Qw "span_list" Qcc ["net"] := λ | _, _, _, _, _, _, [_], _ => rfl
def Qg5 := (Cp Qcc Qeh).getD QB
theorem QmO : Cp Qcc Qeh = some Qg5 := some_of (by decide +kernel)
abbrev Qci := Dn Qcc Qg5
abbrev Qe4 := Gc "span_list" 1 Qci Qeh
abbrev Qd9 := top 22
theorem Qqk : Sc Qd9 ["net", "row", "counts"] := scM rfl rfl rfl (by decide +kernel)
theorem Qsn : Qw "after" Qd9 ["net", "row", "counts"] := λ | _, _, _, _, _, _, [_, _, _], _ => rfl
def Qnc := (Cp Qd9 Qe4).getD QB
theorem QsT : Cp Qd9 Qe4 = some Qnc := some_of (by decide +kernel)
abbrev Qd4 := Dn Qd9 Qnc
abbrev Qjs := Gc "after" 3 Qd4 Qe4
abbrev Qch := top 24
theorem Qk8 : Sc Qch ["net"] := scM rfl rfl rfl (by decide +kernel)
theorem QmN : Qw "net_table" Qch ["net"] := λ | _, _, _, _, _, _, [_], _ => rfl
def Qhn := (Cp Qch Qjs).getD QB
theorem QmG : Cp Qch Qjs = some Qhn := some_of (by decide +kernel)
abbrev Qb9 := Dn Qch Qhn
abbrev Qe5 := Gc "net_table" 1 Qb9 Qjs
abbrev Qc2 := top 27
theorem Qoa : Sc Qc2 ["tolls", "heap", "counts"] := scM rfl rfl rfl (by decide +kernel)
theorem Qp1 : Qw "settled" Qc2 ["tolls", "heap", "counts"] := λ | _, _, _, _, _, _, [_, _, _], _ => rfl
def Qj0 := (Cp Qc2 Qe5).getD QB
theorem Qo4 : Cp Qc2 Qe5 = some Qj0 := some_of (by decide +kernel)
abbrev Qc8 := Dn Qc2 Qj0
abbrev Qf6 := Gc "settled" 3 Qc8 Qe5
abbrev Qd5 := top 26
theorem QqU : Sc Qd5 ["net", "heap"] := scM rfl rfl rfl (by decide +kernel)
theorem Qts : Qw "still" Qd5 ["net", "heap"] := λ | _, _, _, _, _, _, [_, _], _ => rfl
def QmV := (Cp Qd5 Qf6).getD QB
theorem Qs2 : Cp Qd5 Qf6 = some QmV := some_of (by decide +kernel)
abbrev Qdp := Dn Qd5 QmV
abbrev Qje := Gc "still" 2 Qdp Qf6
abbrev Qbf := top 30
theorem Qjq : Sc Qbf ["net", "row"] := scM rfl rfl rfl (by decide +kernel)
theorem Qkf : Qw "near_counts" Qbf ["net", "row"] := λ | _, _, _, _, _, _, [_, _], _ => rfl
def QfW := (Cp Qbf Qje).getD QB
theorem Qkg : Cp Qbf Qje = some QfW := some_of (by decide +kernel)
abbrev Qbc := Dn Qbf QfW
abbrev QdT := Gc "near_counts" 2 Qbc Qje
abbrev QaS := top 31
theorem QhS : Sc QaS ["net"] := scM rfl rfl rfl (by decide +kernel)
theorem QiM : Qw "doubled_spans" QaS ["net"] := λ | _, _, _, _, _, _, [_], _ => rfl
def QeQ := (Cp QaS QdT).getD QB
theorem QiF : Cp QaS QdT = some QeQ := some_of (by decide +kernel)
abbrev Qax := Dn QaS QeQ
abbrev Qdg := Gc "doubled_spans" 1 Qax QdT
abbrev s_again := top 29
theorem Qqp : Sc s_again ["net", "row"] := scM rfl rfl rfl (by decide +kernel)
theorem Qs8 : Qw "again" s_again ["net", "row"] := λ | _, _, _, _, _, _, [_, _], _ => rfl
def Qnm := (Cp s_again Qdg).getD QB
theorem QtP : Cp s_again Qdg = some Qnm := some_of (by decide +kernel)
abbrev QaH := Dn s_again Qnm
abbrev Qjv := Gc "again" 2 QaH Qdg
abbrev QdE := top 32
theorem QpD : Sc QdE ["net"] := scM rfl rfl rfl (by decide +kernel)
theorem Qrl : Qw "nought" QdE ["net"] := λ | _, _, _, _, _, _, [_], _ => rfl
def Ql0 := (Cp QdE Qjv).getD QB
theorem QrG : Cp QdE Qjv = some Ql0 := some_of (by decide +kernel)
abbrev Qdy := Dn QdE Ql0
abbrev QhX := Gc "nought" 1 Qdy Qjv
abbrev QcG := top 33
theorem Qmx : Sc QcG ["net", "row"] := scM rfl rfl rfl (by decide +kernel)
theorem QnJ : Qw "contrary" QcG ["net", "row"] := λ | _, _, _, _, _, _, [_, _], _ => rfl
def QiB := (Cp QcG QhX).getD QB
theorem QnH : Cp QcG QhX = some QiB := some_of (by decide +kernel)
abbrev QcJ := Dn QcG QiB
abbrev QfE := Gc "contrary" 2 QcJ QhX
abbrev Qd3 := top 34
theorem QqX : Sc Qd3 ["net", "row", "factor"] := scM rfl rfl rfl (by decide +kernel)
theorem QsH : Qw "times" Qd3 ["net", "row", "factor"] := λ | _, _, _, _, _, _, [_, _, _], _ => rfl
def Qnd := (Cp Qd3 QfE).getD QB
theorem Qtn : Cp Qd3 QfE = some Qnd := some_of (by decide +kernel)
abbrev Qbh := Dn Qd3 Qnd
abbrev Qjd := Gc "times" 3 Qbh QfE
abbrev Qb5 := top 36
theorem QlJ : Sc Qb5 ["_law_script", "_law_k"] := scM rfl rfl rfl (by decide +kernel)
theorem Qms : Qw "_law_cell" Qb5 ["_law_script", "_law_k"] := λ | _, _, _, _, _, _, [_, _], _ => rfl
def Qg7 := (Cp Qb5 Qjd).getD QB
theorem QmD : Cp Qb5 Qjd = some Qg7 := some_of (by decide +kernel)
abbrev Q1 := Dn Qb5 Qg7
abbrev QeY := Gc "_law_cell" 2 Q1 Qjd
abbrev QbL := top 37
theorem Qka : Sc QbL ["_law_found"] := scM rfl rfl rfl (by decide +kernel)
theorem Qmb : Qw "_law_whole" QbL ["_law_found"] := λ | _, _, _, _, _, _, [_], _ => rfl
def Qf2 := (Cp QbL QeY).getD QB
theorem QlG : Cp QbL QeY = some Qf2 := some_of (by decide +kernel)
abbrev QbG := Dn QbL Qf2
abbrev QeE := Gc "_law_whole" 1 QbG QeY
abbrev Qa2 := top 38
theorem QiJ : Sc Qa2 ["_law_found", "_law_size"] := scM rfl rfl rfl (by decide +kernel)
theorem Qi8 : Qw "_law_numbers" Qa2 ["_law_found", "_law_size"] := λ | _, _, _, _, _, _, [_, _], _ => rfl
def Qfi := (Cp Qa2 QeE).getD QB
theorem Qjp : Cp Qa2 QeE = some Qfi := some_of (by decide +kernel)
abbrev Qa1 := Dn Qa2 Qfi
abbrev Qdw := Gc "_law_numbers" 2 Qa1 QeE
abbrev Qbg := top 39
theorem QjA : Sc Qbg ["_law_cell_here", "_law_far"] := scM rfl rfl rfl (by decide +kernel)
theorem Qkk : Qw "_law_number" Qbg ["_law_cell_here", "_law_far"] := λ | _, _, _, _, _, _, [_, _], _ => rfl
def QfV := (Cp Qbg Qdw).getD QB
theorem Qkj : Cp Qbg Qdw = some QfV := some_of (by decide +kernel)
abbrev Qbj := Dn Qbg QfV
abbrev Qkc := Gc "_law_number" 2 Qbj Qdw
abbrev QN := top 40
theorem Qco : Sc QN ["_law_table"] := scM rfl rfl rfl (by decide +kernel)
theorem QbK : Qw "_law_measure" QN ["_law_table"] := λ | _, _, _, _, _, _, [_], _ => rfl
abbrev Qez : Den := λ _ => none
abbrev QcY := Gc "_law_measure" 1 Qez Qkc
def Qeg := (Cp QN QcY).getD QB
theorem Qhq : Cp QN QcY = some Qeg := some_of (by decide +kernel)
abbrev QbV := Dn QN Qeg
abbrev Qc0 := Gc "_law_measure" 1 QbV QcY
def Qeq := (Cp QN Qc0).getD QB
theorem QhO : Cp QN Qc0 = some Qeq := some_of (by decide +kernel)
abbrev QbZ := Dn QN Qeq
abbrev Qc1 := Gc "_law_measure" 1 QbZ Qc0
def Qen := (Cp QN Qc1).getD QB
theorem QhL : Cp QN Qc1 = some Qen := some_of (by decide +kernel)
abbrev QbT := Dn QN Qen
abbrev QcZ := Gc "_law_measure" 1 QbT Qc1
def Qeu := (Cp QN QcZ).getD QB
theorem QhV : Cp QN QcZ = some Qeu := some_of (by decide +kernel)
abbrev QbW := Dn QN Qeu
abbrev QcV := Gc "_law_measure" 1 QbW QcZ
abbrev Qaa := QbW
abbrev Qcf := top 41
theorem Qlx : Sc Qcf ["_law_many", "_law_turn", "_law_kind"] := scM rfl rfl rfl (by decide +kernel)
theorem Qmk : Qw "_law_base" Qcf ["_law_many", "_law_turn", "_law_kind"] := λ | _, _, _, _, _, _, [_, _, _], _ => rfl
def Qha := (Cp Qcf QcV).getD QB
theorem QmC : Cp Qcf QcV = some Qha := some_of (by decide +kernel)
abbrev Qcg := Dn Qcf Qha
abbrev Qfa := Gc "_law_base" 3 Qcg QcV
abbrev Qb7 := top 42
theorem Qll : Sc Qb7 ["_law_many", "_law_ways"] := scM rfl rfl rfl (by decide +kernel)
theorem QmA : Qw "_law_fits" Qb7 ["_law_many", "_law_ways"] := λ | _, _, _, _, _, _, [_, _], _ => rfl
def Qhi := (Cp Qb7 Qfa).getD QB
theorem Qmr : Cp Qb7 Qfa = some Qhi := some_of (by decide +kernel)
abbrev Qaw := Dn Qb7 Qhi
abbrev QeZ := Gc "_law_fits" 2 Qaw Qfa
abbrev Qb8 := top 43
theorem QlZ : Sc Qb8 ["_law_ways", "_law_cells", "_law_many", "_law_kind"] := scM rfl rfl rfl (by decide +kernel)
theorem QmH : Qw "_law_more" Qb8 ["_law_ways", "_law_cells", "_law_many", "_law_kind"] := λ | _, _, _, _, _, _, [_, _, _, _], _ => rfl
def Qhe := (Cp Qb8 QeZ).getD QB
theorem QmS : Cp Qb8 QeZ = some Qhe := some_of (by decide +kernel)
abbrev Qb3 := Dn Qb8 Qhe
abbrev Qe2 := Gc "_law_more" 4 Qb3 QeZ
abbrev Qcz := top 44
theorem Qmw : Sc Qcz ["_law_script", "_law_most", "_law_upto"] := scM rfl rfl rfl (by decide +kernel)
theorem QnL : Qw "_law_net" Qcz ["_law_script", "_law_most", "_law_upto"] := λ | _, _, _, _, _, _, [_, _, _], _ => rfl
def Qib := (Cp Qcz Qe2).getD QB
theorem QnB : Cp Qcz Qe2 = some Qib := some_of (by decide +kernel)
abbrev QcK := Dn Qcz Qib
abbrev Qfz := Gc "_law_net" 3 QcK Qe2
abbrev QbB := top 45
theorem Qkb : Sc QbB ["_law_net_here"] := scM rfl rfl rfl (by decide +kernel)
theorem QlN : Qw "_law_tolls" QbB ["_law_net_here"] := λ | _, _, _, _, _, _, [_], _ => rfl
def Qgz := (Cp QbB Qfz).getD QB
theorem Qlk : Cp QbB Qfz = some Qgz := some_of (by decide +kernel)
abbrev QbC := Dn QbB Qgz
abbrev QeG := Gc "_law_tolls" 1 QbC Qfz
abbrev Qcb := top 46
theorem QlH : Sc Qcb ["_law_net_here"] := scM rfl rfl rfl (by decide +kernel)
theorem Qmv : Qw "_law_copy" Qcb ["_law_net_here"] := λ | _, _, _, _, _, _, [_], _ => rfl
def Qhh := (Cp Qcb QeG).getD QB
theorem QmB : Cp Qcb QeG = some Qhh := some_of (by decide +kernel)
abbrev Qcj := Dn Qcb Qhh
abbrev Qe6 := Gc "_law_copy" 1 Qcj QeG
abbrev QcL := top 47
theorem QmP : Sc QcL ["_law_script", "_law_many", "_law_far", "_law_by"] := scM rfl rfl rfl (by decide +kernel)
theorem QnI : Qw "_law_row" QcL ["_law_script", "_law_many", "_law_far", "_law_by"] := λ | _, _, _, _, _, _, [_, _, _, _], _ => rfl
def Qit := (Cp QcL Qe6).getD QB
theorem QnN : Cp QcL Qe6 = some Qit := some_of (by decide +kernel)
abbrev QcB := Dn QcL Qit
abbrev QfG := Gc "_law_row" 4 QcB Qe6
abbrev QaC := top 48
theorem Qgq : Sc QaC ["_law_tolls_here", "_law_heap"] := scM rfl rfl rfl (by decide +kernel)
theorem Qg2 : Qw "_law_made_still" QaC ["_law_tolls_here", "_law_heap"] := λ | _, _, _, _, _, _, [_, _], _ => rfl
def QdW := (Cp QaC QfG).getD QB
theorem Qg3 : Cp QaC QfG = some QdW := some_of (by decide +kernel)
abbrev Qai := Dn QaC QdW
abbrev QcM := Gc "_law_made_still" 2 Qai QfG
abbrev QbO := top 49
theorem Qkd : Sc QbO ["_law_tolls_here", "_law_heap"] := scM rfl rfl rfl (by decide +kernel)
theorem Qld : Qw "_law_comes" QbO ["_law_tolls_here", "_law_heap"] := λ | _, _, _, _, _, _, [_, _], _ => rfl
def Qgw := (Cp QbO QcM).getD QB
theorem QkP : Cp QbO QcM = some Qgw := some_of (by decide +kernel)
abbrev QbD := Dn QbO Qgw
abbrev Qer := Gc "_law_comes" 2 QbD QcM
abbrev QbP := top 50
theorem Qkl : Sc QbP ["_law_table", "_law_row_here"] := scM rfl rfl rfl (by decide +kernel)
theorem Qme : Qw "_law_alike" QbP ["_law_table", "_law_row_here"] := λ | _, _, _, _, _, _, [_, _], _ => rfl
def Qf1 := (Cp QbP Qer).getD QB
theorem Qk3 : Cp QbP Qer = some Qf1 := some_of (by decide +kernel)
abbrev Qbu := Dn QbP Qf1
abbrev QeD := Gc "_law_alike" 2 Qbu Qer
abbrev Qb4 := top 51
theorem QlO : Sc Qb4 ["_law_net_here", "_law_table", "_law_row_here", "_law_factor"] := scM rfl rfl rfl (by decide +kernel)
theorem Qmm : Qw "_law_good" Qb4 ["_law_net_here", "_law_table", "_law_row_here", "_law_factor"] := λ | _, _, _, _, _, _, [_, _, _, _], _ => rfl
def Qhm := (Cp Qb4 QeD).getD QB
theorem Qmz : Cp Qb4 QeD = some Qhm := some_of (by decide +kernel)
abbrev Qa0 := Dn Qb4 Qhm
abbrev Qhb := Gc "_law_good" 4 Qa0 QeD
abbrev QgT := top 52
theorem Que : Sc QgT ["_law_script"] := scM rfl rfl rfl (by decide +kernel)
theorem QwA : Qw "law" QgT ["_law_script"] := λ | _, _, _, _, _, _, [_], _ => rfl
def Qsc := (Cp QgT Qhb).getD QB
theorem QvY : Cp QgT Qhb = some Qsc := some_of (by decide +kernel)
abbrev Qoj := Dn QgT Qsc
theorem Qmy : Qah = Ql 3 (HS.Qfb) := by kernel_rfl
theorem Qlg : QbJ = Ql 3 (HS.Qex Qah) := by kernel_rfl
theorem Qqv : QbR = Ql 2 (HS.Qkz) := by kernel_rfl
theorem QqV : Qds = Ql 1 (HS.Qle QbR) := by kernel_rfl
theorem Qol : Qao = Ql 1 (HS.Qiw) := by kernel_rfl
theorem Qrg : QdA = Ql 5 (HS.QfA) := by kernel_rfl
theorem Ql5 : QbH = Ql 4 (HS.Qgk Qao) := by kernel_rfl
theorem Qml : Qca = Ql 4 (HS.Qhg) := by kernel_rfl
theorem QoQ : Qc9 = Ql 5 (HS.QeL QbH Qca) := by kernel_rfl
theorem QiP : QaO = Ql 2 (HS.QeH Qc9) := by kernel_rfl
theorem Qk0 : Qbw = Ql 6 (HS.Qgl Qds QaO QbR QdA) := by kernel_rfl
theorem Qt0 : Qc7 = Ql 4 (HS.QiX) := by kernel_rfl
theorem Qmd : QW = Ql 5 (HS.Qet Qc7) := by kernel_rfl
theorem Qmj : Qci = Ql 1 (HS.Qe1 QW) := by kernel_rfl
theorem Qsr : Qd4 = Ql 6 (HS.Qnr Qah QW) := by kernel_rfl
theorem Qmp : Qb9 = Ql 1 (HS.Qhc Qao QW) := by kernel_rfl
theorem QpY : Qc8 = Ql 9 (HS.Qgy) := by kernel_rfl
theorem QsQ : Qdp = Ql 8 (HS.Qjc QbJ QW Qc8) := by kernel_rfl
theorem Qj9 : Qbc = Ql 3 (HS.QfT Qb9 Qbw) := by kernel_rfl
theorem Qii : Qax = Ql 1 (HS.QeT Qci) := by kernel_rfl
theorem Qtw : QaH = Ql 10 (HS.Qnj Qah Qbc Qd4 Qax Qdp) := by kernel_rfl
theorem Qrd : Qdy = Ql 1 (HS.QkI QaH) := by kernel_rfl
theorem Qoq : QcJ = Ql 2 (HS.QiN Qao QaH) := by kernel_rfl
theorem QsY : Qbh = Ql 3 (HS.Qm3 QaH) := by kernel_rfl
theorem QmF : Q1 = Ql 3 (HS.QdL) := by kernel_rfl
theorem QlE : QbG = Ql 1 (HS.Qgr) := by kernel_rfl
theorem Qja : Qa1 = Ql 2 (HS.Qey QbG) := by kernel_rfl
theorem Qj7 : Qbj = Ql 2 (HS.QfU) := by kernel_rfl
theorem Qh4 : QbV = Ql 4 (HS.Qbx Qez) := by kernel_rfl
theorem QhZ : QbZ = Ql 4 (HS.Qbx QbV) := by kernel_rfl
theorem QhG : QbT = Ql 4 (HS.Qbx QbZ) := by kernel_rfl
theorem QhW : QbW = Ql 4 (HS.Qbx QbT) := by kernel_rfl
theorem QmK : Qcg = Ql 7 (HS.Qhj) := by kernel_rfl
theorem QmE : Qaw = Ql 8 (HS.Qe0) := by kernel_rfl
theorem QmM : Qb3 = Ql 9 (HS.QeU Qaw) := by kernel_rfl
theorem QnM : QcK = Ql 10 (HS.Qdr Q1 Qcg Qb3) := by kernel_rfl
theorem Qlw : QbC = Ql 6 (HS.Qfr) := by kernel_rfl
theorem Qmo : Qcj = Ql 1 (HS.QeK) := by kernel_rfl
theorem QnX : QcB = Ql 8 (HS.QcH) := by kernel_rfl
theorem Qg4 : Qai = Ql 5 (HS.Qcn) := by kernel_rfl
theorem Ql3 : QbD = Ql 6 (HS.Qem Qai) := by kernel_rfl
theorem QlU : Qbu = Ql 4 (HS.Qeo Qaa) := by kernel_rfl
theorem QmQ : Qa0 = Ql 6 (HS.QeN Qbh Qa1 QbD Qbu) := by kernel_rfl
theorem QvW : Qoj = Ql 9 (HS.QjK QcK QbC QcB Q1 Qbj Qaa Qcj Qa0 Qdy Qbh QaH QcJ) := by kernel_rfl
end
end Law
namespace HS
open PySem PySem.Spec L2
noncomputable def QrC (mg : Str -> Option Value) : List Str -> Prop
 | [] => True
 | x :: r => mg x = none /\ QrC mg r
theorem QkO {mg : Str -> Option Value} : ∀ {l : List Str}, QrC mg l -> ∀ x ∈ l, mg x = none
 | [], _, x, h => by simp at h
 | y :: r, h, x, hx => by
  rcases Zv.mp hx with rfl | hx
  ·exact h.1
  ·exact QkO h.2 x hx
noncomputable def QrD (mg : Str -> Option Value) : List (Str × Int) -> Prop
 | [] => True
 | (x, i) :: r => (∃ t, mg x = some (.int i t)) /\ QrD mg r
theorem QkC {mg : Str -> Option Value} : ∀ {l : List (Str × Int)}, QrD mg l -> ∀ x i, look x l = some i -> ∃ t, mg x = some (.int i t)
 | [], _, x, i, h => by cases h
 | (y, j) :: r, h, x, i, hx => by
  unfold look at hx
  split at hx
  ·rename_i e; cases hx; subst e; exact h.1
  ·exact QkC h.2 x i hx
theorem Qt4 {mg : Str -> Option Value} {cs : List (Str × Int)} (b : QrC mg Ql2) (c : QrD mg cs) : QgS mg cs := ⟨QkO b, QkC c⟩
end HS
namespace Law
open HS
theorem QrY : QgP Q1 := by rw [QmF]; exact Qq1
theorem Quq : Qi1 QbG := by rw [QlE]; exact QqL
theorem Qw5 : Ql7 Qa1 := by rw [Qja]; exact Qtd Quq
theorem QvN : QkF Qcg := by rw [QmK]; exact QsS
theorem Qwh : Ql1 Qaw := by rw [QmE]; exact QsF
theorem Qws : Qlz Qb3 := by rw [QmM]; exact Qtl Qwh
theorem Qxh : Qi4 QcK := by rw [QnM]; exact QqM QrY QvN Qws
theorem Qu4 : TabsOk QbC := by rw [Qlw]; exact QtA
theorem Qv6 : QjB Qcj := by rw [Qmo]; exact QqF
theorem QwP : Qi6 QcB := by rw [QnX]; exact Qru
theorem Qwq : QkA Qai := by rw [Qg4]; exact Qtb
theorem QuZ : Qgh QbD := by rw [Ql3]; exact Qoi Qwq
theorem Qku : QeA QW := by rw [Qmd, Qt0]; exact QsV
theorem QnK : Qgg Qah := by rw [Qmy]; exact QtG
theorem QuF : QiT QbJ := by rw [Qlg]; exact Qq9 QnK
theorem QrR : Qf9 Qc8 := by rw [QpY]; exact Qoe
theorem Qvt : QjC Qdp := by rw [QsQ]; exact Qqm QuF Qku QrR
theorem QuW : Qju Qd4 := by rw [Qsr]; exact Qqq QnK Qku
theorem Qt8 : Qmc Qci := by rw [Qmj]; exact Qtf Qku
theorem QqI : Qgx Qax := by rw [Qii]; exact Qoh Qt8
theorem Qub : Qkn Qao := by rw [Qol]; exact QuJ
theorem Qta : QhD Qb9 := by rw [Qmp]; exact Qpo Qub Qku
theorem Qnw : QfQ QbR := by rw [Qqv]; exact Qpb
theorem Qso : Qhx Qds := by rw [QqV]; exact QpK Qnw
theorem QtC : QhP QdA := by rw [Qrg]; exact QpZ
theorem Quw : Qjy QbH := by rw [Ql5]; exact Qqg
theorem Qvb : Qi5 Qca := by rw [Qml]; exact Qqn
theorem Qre : Qgt Qc9 := by rw [QoQ]; exact Qou Quw Qvb
theorem Qpi : QfR QaO := by rw [QiP]; exact QmI Qre
theorem Qsl : Qhr Qbw := by rw [Qk0]; exact Qpf Qso Qpi Qnw QtC
theorem Qwk : Qi7 Qbc := by rw [Qj9]; exact Qqf Qta Qsl
theorem Qiv : Qea QaH := by rw [Qtw]; exact QrV QnK Qwk QuW QqI Qvt
theorem QtD : QhT Qbj := by rw [Qj7]; exact Qpm
theorem hM1 : QcT 1 QbV := by rw [Qh4]; exact QeP Qvo
theorem hM2 : QcT 2 QbZ := by rw [QhZ]; exact QeP hM1
theorem hM3 : QcT 3 QbT := by rw [QhG]; exact QeP hM2
theorem hM4 : QcT 4 QbW := by rw [QhW]; exact QeP hM3
theorem QrZ : QcT 4 Qaa := hM4
theorem QtH : Qhu Qdy := by rw [Qrd]; exact Qpp Qiv
theorem QtJ : Qgf QcJ := by rw [Qoq]; exact QnA Qub Qiv
theorem Qpz : QgC Qbh := by rw [QsY]; exact Qrz Qiv
theorem QuS : Qgv Qbu := by rw [QlU]; exact Qok QrZ
theorem QvP : Qh1 Qa0 := by rw [QmQ]; exact Qo7 Qpz Qw5 QuZ QuS
theorem Qva (ns : List Int) (h : ns.length <= 63) (hb : ∀ k : Nat, PySem.Builtin.Int.intBits (ns.getD k 0) <= 2 ^ 20) : ∃ fr, Qoj [.lst (ns.map .int)] = some (.bl true, fr) := by
 rw [QvW]
 exact ⟨true, QuX Qxh Qu4 QwP QrY QtD QrZ Qv6 QvP QtH Qpz Qiv QtJ ns h hb⟩
end Law
namespace PySem.W.Fast
def tw5865635235074729380 := 0
def tw11661306641087926218 := 0
def tw10738492750875303817 := 0
def tw1790461089720674647 := 0
def tw3899805764074498076 := 0
def tw6663671960985733877 := 0
def tw167139103821274515 := 0
def tw361638314149556423 := 0
def tw8407206602832095993 := 0
def tw12947009771756119694 := 0
def tw14482188793220089162 := 0
def tw3480763689540252581 := 0
def tw5408046623817604548 := 0
def tw7944995388832700152 := 0
def tw5070298838737786496 := 0
def tw8364290713128909222 := 0
def tw7294163776510550187 := 0
def tw5713624756626664997 := 0
def tw2417270463072666867 := 0
def tw12861993041934197501 := 0
def tw2218015317325767491 := 0
def tw10996127666727114385 := 0
def tw7336498304142652263 := 0
def tw281133650028698694 := 0
def tw3588506893332122255 := 0
def tw15964204203353855511 := 0
def tw18389725057834329748 := 0
def tw10390183269239929115 := 0
def tw1439508783239611874 := 0
def tw9134118373586454321 := 0
def tw17392087898935745769 := 0
def tw5954311064442860400 := 0
def tw12686406845859591201 := 0
def tw11815113156114394755 := 0
def tw8384503777883695118 := 0
def tw121565724394463258 := 0
def tw16758739794406347644 := 0
def tw12586196286729113591 := 0
def tw9996088014778876809 := 0
def tw6912015275299230496 := 0
def tw13589620164596107173 := 0
def tw9444432273788232071 := 0
def tw17630078523853357242 := 0
def tw18259132065435905468 := 0
def tw6025148890802432536 := 0
def tw8102691516600124383 := 0
def tw7271908836631506296 := 0
def tw351772317768805681 := 0
def tw9860901512301235800 := 0
def tw5712527839275594166 := 0
def tw1274311511757388853 := 0
def tw15247451983806038370 := 0
def tw14541609721727909729 := 0
def tw207871907395083268 := 0
def tw12490217414981235896 := 0
def tw10719311218785428206 := 0
def tw17674365369068152455 := 0
def tw7099430134745232349 := 0
def tw18247844074505193957 := 0
def tw11644389550149676529 := 0
def tw3163293231652897881 := 0
def tw10951794381734811605 := 0
def tw10184176507883344677 := 0
def tw5496555176864039880 := 0
def tw16679415351272994853 := 0
def tw16821822533451021307 := 0
def tw9816793214044943472 := 0
def tw6004892151548130815 := 0
def tw17965840182004674033 := 0
def tw6998904752034750793 := 0
def tw1212032508332013720 := 0
def tw15333978841412602092 := 0
def tw10459549489512387038 := 0
def tw531605746848126324 := 0
def tw9482798027136917332 := 0
def tw5084933039027457919 := 0
def tw3780029916491284859 := 0
def tw17509427830789670840 := 0
def tw5793324639350300046 := 0
def tw14123182236287943040 := 0
def tw16959471639310461851 := 0
def tw17639689463204844953 := 0
def tw8008387077844375888 := 0
def tw4761955758647840829 := 0
def tw17379515765121491815 := 0
def tw4259678290583665977 := 0
def tw18330562766595328545 := 0
def tw8150982402853681646 := 0
def tw15992945602919653449 := 0
def tw482414324061190319 := 0
def tw5876860071954870041 := 0
def tw6704913235799921022 := 0
def tw14786783660783151900 := 0
def tw206696050173165629 := 0
def tw10991432372389292986 := 0
def tw4943302124657838704 := 0
def tw13779507907806106147 := 0
def tw17820317844934532895 := 0
def tw10548993626632519961 := 0
def tw3701602396879880597 := 0
def tw8567704555812160500 := 0
def tw15275220775466390400 := 0
def tw9820474288200786079 := 0
def tw480587686641469415 := 0
def tw5897023288282733217 := 0
def tw11843381946882664656 := 0
def tw3174092362823250228 := 0
def tw11557717679565790226 := 0
def tw11732329194073206540 := 0
def tw13189062175884341059 := 0
def tw17666100233668902910 := 0
def tw5960108887644141688 := 0
def tw1450559209673283839 := 0
def tw10233869557890591807 := 0
end PySem.W.Fast
open PySem PySem.W PyProof.Rows HS
set_option maxRecDepth 100000 in
set_option maxHeartbeats 0 in
theorem PySem.Challenge.cw_heapstill_k48_told_many_times_holds : PySem.Challenge.rw_heapstill_k48_told_many_times.Holds := by
 w_on; o_law; k_head; (case hw => w_witness2)
 k_fill
 refine HS.QoI (l := PySem.Challenge.rw_heapstill_k48_told_many_times) (k := 45) (x := "_law_script") (den := Law.Qoj) rfl rfl ⟨rfl, by decide, by decide⟩ (λ w h Y => PySem.W.kIn_of Y) Law.Qva ?F
 case F =>
  intro w mg fa h KX G hmg
  obtain ⟨f_need_rows, f_need_heaps, f_column, f_turned, f_opposite, f_common, f_with_pivot, f_taken_off, f_cleared, f_cleared_whole, f_shared_out, f_steps, f_toll_table, f_span_list, f_after, f_net_table, f_settled, f_still, f_near_counts, f_doubled_spans, f_again, f_nought, f_contrary, f_times, f__law_cell, f__law_whole, f__law_numbers, f__law_number, f__law_measure, f__law_base, f__law_fits, f__law_more, f__law_net, f__law_tolls, f__law_copy, f__law_row, f__law_made_still, f__law_comes, f__law_alike, f__law_good, f_law⟩ : HS.Fact (L2.KOf KX) "need_rows" Law.Qb6 /\ HS.Fact (L2.KOf KX) "need_heaps" Law.Qby /\ HS.Fact (L2.KOf KX) "column" Law.QdB /\ HS.Fact (L2.KOf KX) "turned" Law.QdH /\ HS.Fact (L2.KOf KX) "opposite" Law.QcF /\ HS.Fact (L2.KOf KX) "common" Law.Qdq /\ HS.Fact (L2.KOf KX) "with_pivot" Law.QbN /\ HS.Fact (L2.KOf KX) "taken_off" Law.Qce /\ HS.Fact (L2.KOf KX) "cleared" Law.Qc3 /\ HS.Fact (L2.KOf KX) "cleared_whole" Law.QaP /\ HS.Fact (L2.KOf KX) "shared_out" Law.Qbz /\ HS.Fact (L2.KOf KX) "steps" Law.Qec /\ HS.Fact (L2.KOf KX) "toll_table" Law.Qbv /\ HS.Fact (L2.KOf KX) "span_list" Law.Qcc /\ HS.Fact (L2.KOf KX) "after" Law.Qd9 /\ HS.Fact (L2.KOf KX) "net_table" Law.Qch /\ HS.Fact (L2.KOf KX) "settled" Law.Qc2 /\ HS.Fact (L2.KOf KX) "still" Law.Qd5 /\ HS.Fact (L2.KOf KX) "near_counts" Law.Qbf /\ HS.Fact (L2.KOf KX) "doubled_spans" Law.QaS /\ HS.Fact (L2.KOf KX) "again" Law.s_again /\ HS.Fact (L2.KOf KX) "nought" Law.QdE /\ HS.Fact (L2.KOf KX) "contrary" Law.QcG /\ HS.Fact (L2.KOf KX) "times" Law.Qd3 /\ HS.Fact (L2.KOf KX) "_law_cell" Law.Qb5 /\ HS.Fact (L2.KOf KX) "_law_whole" Law.QbL /\ HS.Fact (L2.KOf KX) "_law_numbers" Law.Qa2 /\ HS.Fact (L2.KOf KX) "_law_number" Law.Qbg /\ HS.Fact (L2.KOf KX) "_law_measure" Law.QN /\ HS.Fact (L2.KOf KX) "_law_base" Law.Qcf /\ HS.Fact (L2.KOf KX) "_law_fits" Law.Qb7 /\ HS.Fact (L2.KOf KX) "_law_more" Law.Qb8 /\ HS.Fact (L2.KOf KX) "_law_net" Law.Qcz /\ HS.Fact (L2.KOf KX) "_law_tolls" Law.QbB /\ HS.Fact (L2.KOf KX) "_law_copy" Law.Qcb /\ HS.Fact (L2.KOf KX) "_law_row" Law.QcL /\ HS.Fact (L2.KOf KX) "_law_made_still" Law.QaC /\ HS.Fact (L2.KOf KX) "_law_comes" Law.QbO /\ HS.Fact (L2.KOf KX) "_law_alike" Law.QbP /\ HS.Fact (L2.KOf KX) "_law_good" Law.Qb4 /\ HS.Fact (L2.KOf KX) "law" Law.QgT := by
   refine ⟨?_, ?_, ?_, ?_, ?_, ?_, ?_, ?_, ?_, ?_, ?_, ?_, ?_, ?_, ?_, ?_, ?_, ?_, ?_, ?_, ?_, ?_, ?_, ?_, ?_, ?_, ?_, ?_, ?_, ?_, ?_, ?_, ?_, ?_, ?_, ?_, ?_, ?_, ?_, ?_, ?_⟩ <;> (dsimp only [L2.KOf]; refine' HS.fact_mk ?a ?l ?c ?k; (case a => k_is); (case l => k_is); (case c => k_is); (case k => k_is))
  have M : HS.QgS mg Law.cst := by
   obtain ⟨n_range, n_enumerate, n_zip, n_len, n_list, n_min, n_max, n_sum, n_abs, n_isinstance, n_int, n_bool, n_tuple, n_str, n_divmod, n_sorted, n_any, n_all⟩ : PySem.W.nsIn (L2.KOf KX) mainGlobals "range" = some none /\ PySem.W.nsIn (L2.KOf KX) mainGlobals "enumerate" = some none /\ PySem.W.nsIn (L2.KOf KX) mainGlobals "zip" = some none /\ PySem.W.nsIn (L2.KOf KX) mainGlobals "len" = some none /\ PySem.W.nsIn (L2.KOf KX) mainGlobals "list" = some none /\ PySem.W.nsIn (L2.KOf KX) mainGlobals "min" = some none /\ PySem.W.nsIn (L2.KOf KX) mainGlobals "max" = some none /\ PySem.W.nsIn (L2.KOf KX) mainGlobals "sum" = some none /\ PySem.W.nsIn (L2.KOf KX) mainGlobals "abs" = some none /\ PySem.W.nsIn (L2.KOf KX) mainGlobals "isinstance" = some none /\ PySem.W.nsIn (L2.KOf KX) mainGlobals "int" = some none /\ PySem.W.nsIn (L2.KOf KX) mainGlobals "bool" = some none /\ PySem.W.nsIn (L2.KOf KX) mainGlobals "tuple" = some none /\ PySem.W.nsIn (L2.KOf KX) mainGlobals "str" = some none /\ PySem.W.nsIn (L2.KOf KX) mainGlobals "divmod" = some none /\ PySem.W.nsIn (L2.KOf KX) mainGlobals "sorted" = some none /\ PySem.W.nsIn (L2.KOf KX) mainGlobals "any" = some none /\ PySem.W.nsIn (L2.KOf KX) mainGlobals "all" = some none := by refine ⟨?_, ?_, ?_, ?_, ?_, ?_, ?_, ?_, ?_, ?_, ?_, ?_, ?_, ?_, ?_, ?_, ?_, ?_⟩ <;> (dsimp only [L2.KOf]; k_is)
   exact HS.Qt4 ⟨PySem.W.mg_none_of KX G n_range, PySem.W.mg_none_of KX G n_enumerate, PySem.W.mg_none_of KX G n_zip, PySem.W.mg_none_of KX G n_len, PySem.W.mg_none_of KX G n_list, PySem.W.mg_none_of KX G n_min, PySem.W.mg_none_of KX G n_max, PySem.W.mg_none_of KX G n_sum, PySem.W.mg_none_of KX G n_abs, PySem.W.mg_none_of KX G n_isinstance, PySem.W.mg_none_of KX G n_int, PySem.W.mg_none_of KX G n_bool, PySem.W.mg_none_of KX G n_tuple, PySem.W.mg_none_of KX G n_str, PySem.W.mg_none_of KX G n_divmod, PySem.W.mg_none_of KX G n_sorted, PySem.W.mg_none_of KX G n_any, PySem.W.mg_none_of KX G n_all, True.intro⟩ True.intro
  have t0 : ∀ base : Heap, HS.Qdm (PySem.Challenge.rw_heapstill_k48_told_many_times).prog w (L2.KOf KX) mg base 0 [] := λ _ => HS.Qdm.nil
  have t_need_rows := λ b => (t0 b).cons (HS.Qx KX G f_need_rows Law.QkD Law.QmJ M (t0 b) Law.Qmg)
  have t_need_heaps := λ b => (t_need_rows b).cons (HS.Qx KX G f_need_heaps Law.Qke Law.Qk6 M (t_need_rows b) Law.QkW)
  have t_column := λ b => (t_need_heaps b).cons (HS.Qx KX G f_column Law.QpR Law.Qq2 M (t_need_heaps b) Law.Qqj)
  have t_turned := λ b => (t_column b).cons (HS.Qx KX G f_turned Law.QoD Law.Qq3 M (t_column b) Law.Qrk)
  have t_opposite := λ b => (t_turned b).cons (HS.Qx KX G f_opposite Law.Qmh Law.QnT M (t_turned b) Law.QnQ)
  have t_common := λ b => (t_opposite b).cons (HS.Qx KX G f_common Law.Qpa Law.QqO M (t_opposite b) Law.Qqz)
  have t_with_pivot := λ b => (t_common b).cons (HS.Qx KX G f_with_pivot Law.Qj6 Law.Qma M (t_common b) Law.QlC)
  have t_taken_off := λ b => (t_with_pivot b).cons (HS.Qx KX G f_taken_off Law.QkE Law.QmU M (t_with_pivot b) Law.Qmi)
  have t_cleared := λ b => (t_taken_off b).cons (HS.Qx KX G f_cleared Law.Qot Law.Qo5 M (t_taken_off b) Law.Qpt)
  have t_cleared_whole := λ b => (t_cleared b).cons (HS.Qx KX G f_cleared_whole Law.QhN Law.Qin M (t_cleared b) Law.Qiq)
  have t_shared_out := λ b => (t_cleared_whole b).cons (HS.Qx KX G f_shared_out Law.Qj8 Law.Qky M (t_cleared_whole b) Law.Qlc)
  have t_steps := λ b => (t_shared_out b).cons (HS.Qx KX G f_steps Law.Qqd Law.QtB M (t_shared_out b) Law.Qtg)
  have t_toll_table := λ b => (t_steps b).cons (HS.Qx KX G f_toll_table Law.Qki Law.Qlf M (t_steps b) Law.QkK)
  have t_span_list := λ b => (t_toll_table b).cons (HS.Qx KX G f_span_list Law.Qk5 Law.QmT M (t_toll_table b) Law.QmO)
  have t_after := λ b => (t_span_list b).cons (HS.Qx KX G f_after Law.Qqk Law.Qsn M (t_span_list b) Law.QsT)
  have t_net_table := λ b => (t_after b).cons (HS.Qx KX G f_net_table Law.Qk8 Law.QmN M (t_after b) Law.QmG)
  have t_settled := λ b => (t_net_table b).cons (HS.Qx KX G f_settled Law.Qoa Law.Qp1 M (t_net_table b) Law.Qo4)
  have t_still := λ b => (t_settled b).cons (HS.Qx KX G f_still Law.QqU Law.Qts M (t_settled b) Law.Qs2)
  have t_near_counts := λ b => (t_still b).cons (HS.Qx KX G f_near_counts Law.Qjq Law.Qkf M (t_still b) Law.Qkg)
  have t_doubled_spans := λ b => (t_near_counts b).cons (HS.Qx KX G f_doubled_spans Law.QhS Law.QiM M (t_near_counts b) Law.QiF)
  have t_again := λ b => (t_doubled_spans b).cons (HS.Qx KX G f_again Law.Qqp Law.Qs8 M (t_doubled_spans b) Law.QtP)
  have t_nought := λ b => (t_again b).cons (HS.Qx KX G f_nought Law.QpD Law.Qrl M (t_again b) Law.QrG)
  have t_contrary := λ b => (t_nought b).cons (HS.Qx KX G f_contrary Law.Qmx Law.QnJ M (t_nought b) Law.QnH)
  have t_times := λ b => (t_contrary b).cons (HS.Qx KX G f_times Law.QqX Law.QsH M (t_contrary b) Law.Qtn)
  have t__law_cell := λ b => (t_times b).cons (HS.Qx KX G f__law_cell Law.QlJ Law.Qms M (t_times b) Law.QmD)
  have t__law_whole := λ b => (t__law_cell b).cons (HS.Qx KX G f__law_whole Law.Qka Law.Qmb M (t__law_cell b) Law.QlG)
  have t__law_numbers := λ b => (t__law_whole b).cons (HS.Qx KX G f__law_numbers Law.QiJ Law.Qi8 M (t__law_whole b) Law.Qjp)
  have t__law_number := λ b => (t__law_numbers b).cons (HS.Qx KX G f__law_number Law.QjA Law.Qkk M (t__law_numbers b) Law.Qkj)
  have t__law_measure_0 := λ b => (t__law_number b).cons (HS.Qon KX G f__law_measure Law.QbK)
  have t__law_measure_1 := λ b => (t__law_measure_0 b).cons (HS.Qx KX G f__law_measure Law.Qco Law.QbK M (t__law_measure_0 b) Law.Qhq)
  have t__law_measure_2 := λ b => (t__law_measure_1 b).cons (HS.Qx KX G f__law_measure Law.Qco Law.QbK M (t__law_measure_1 b) Law.QhO)
  have t__law_measure_3 := λ b => (t__law_measure_2 b).cons (HS.Qx KX G f__law_measure Law.Qco Law.QbK M (t__law_measure_2 b) Law.QhL)
  have t__law_measure_4 := λ b => (t__law_measure_3 b).cons (HS.Qx KX G f__law_measure Law.Qco Law.QbK M (t__law_measure_3 b) Law.QhV)
  have t__law_base := λ b => (t__law_measure_4 b).cons (HS.Qx KX G f__law_base Law.Qlx Law.Qmk M (t__law_measure_4 b) Law.QmC)
  have t__law_fits := λ b => (t__law_base b).cons (HS.Qx KX G f__law_fits Law.Qll Law.QmA M (t__law_base b) Law.Qmr)
  have t__law_more := λ b => (t__law_fits b).cons (HS.Qx KX G f__law_more Law.QlZ Law.QmH M (t__law_fits b) Law.QmS)
  have t__law_net := λ b => (t__law_more b).cons (HS.Qx KX G f__law_net Law.Qmw Law.QnL M (t__law_more b) Law.QnB)
  have t__law_tolls := λ b => (t__law_net b).cons (HS.Qx KX G f__law_tolls Law.Qkb Law.QlN M (t__law_net b) Law.Qlk)
  have t__law_copy := λ b => (t__law_tolls b).cons (HS.Qx KX G f__law_copy Law.QlH Law.Qmv M (t__law_tolls b) Law.QmB)
  have t__law_row := λ b => (t__law_copy b).cons (HS.Qx KX G f__law_row Law.QmP Law.QnI M (t__law_copy b) Law.QnN)
  have t__law_made_still := λ b => (t__law_row b).cons (HS.Qx KX G f__law_made_still Law.Qgq Law.Qg2 M (t__law_row b) Law.Qg3)
  have t__law_comes := λ b => (t__law_made_still b).cons (HS.Qx KX G f__law_comes Law.Qkd Law.Qld M (t__law_made_still b) Law.QkP)
  have t__law_alike := λ b => (t__law_comes b).cons (HS.Qx KX G f__law_alike Law.Qkl Law.Qme M (t__law_comes b) Law.Qk3)
  have t__law_good := λ b => (t__law_alike b).cons (HS.Qx KX G f__law_good Law.QlO Law.Qmm M (t__law_alike b) Law.Qmz)
  exact HS.QvL KX G hmg f_law Law.Que Law.QwA M (λ base => t__law_good base) Law.QvY
