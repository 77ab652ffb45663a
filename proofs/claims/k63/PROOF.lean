import PyProof.Rows.All
import Wide.All
import OpenK.AllK
import Wide.FinOn
import Lean
import PyProof.EqAt
import PyProof.EqKinds
import PyProof.TupleCall
import PyProof.ZipIter
import PyProof.EnumMake
import PyProof.Rows.FactsT2
import PyProof.Rows.EnumRows
import PyProof.P3In
import PyProof.NeData
import PyProof.Rows.SumAny
import PyProof.Rows.MinMaxN
import PyProof.Rows.ListRangeD
import PyProof.Rows.Range3
import PyProof.Rows.RuleM_int
import PyProof.Rows.SortShell
import PySem.Challenge.RW_heapstill_k63_whole_made_good
set_option Elab.async false
set_option linter.all false
set_option maxRecDepth 100000
def Za := @Option.bind_some
def Zb := @PySem.Heap.get?_push_of_some
def Zc := @Option.map_eq_some_iff
def Zd := @List.mem_cons_of_mem
def Ze := @List.mem_append_right
def Zf := @List.getElem?_eq_some_iff
def Zg := @Bool.and_eq_true
def Zh := @List.mem_range
def Zi := @List.length_map
def Zj := @List.getElem?_set_ne
def Zk := @List.mem_cons_self
def Zl := @List.mem_append_left
def Zm := @Nat.le_refl
def Zn := @List.map_cons
def Zo := @List.getElem?_map
def Zp := @List.size_toArray
def Zq := @Int.emod_lt_of_pos
def Zr := @List.mem_cons
def Zs := @List.map_congr_left
def Zt := @List.lookup_cons
def Zu := @PySem.Heap.lt_size
def Zv := @Nat.lt_of_lt_of_le
def Zw := @List.length_append
def Zx := @List.getElem?_eq_none
def Zy := @Int.emod_nonneg
def Zz := @List.getElem?_set_self
def ZA := @PySem.Heap.get?_push_size
def ZC := @List.mem_filter
def ZD := @List.mem_singleton
def ZE := @List.mem_append
def ZF := @Nat.le_trans
def ZG := @List.length_range
def ZH := @Classical.byContradiction
def ZI := @List.length_cons
def ZJ := @List.mem_of_getElem?
def ZK := @Nat.pow_le_pow_right
def ZL := @Option.map_some
def ZM := @List.sum_cons
def ZN := @List.mem_map
def ZO := @List.getElem?_range
def ZP := @PyProof.Rows.callWith_type1
def ZQ := @Int.zero_mul
def ZR := @List.map_map
def ZS := @Nat.lt_irrefl
def ZT := @List.map_append
def ZU := @List.getElem?_eq_getElem
def ZV := @List.count_eq_zero
def ZW := @Nat.ne_of_lt
def ZX := @Int.mul_le_mul_of_nonneg_left
def ZY := @Int.toNat_natCast
def ZZ := @Int.add_mul
def Zaa := @Array.length_toList
def Zab := @Int.mul_le_mul_of_nonneg_right
def Zac := @List.eq_nil_of_length_eq_zero
def Zad := @List.nodup_cons
def Zae := @PySem.mem_of_lookup
def Zaf := @List.replicate_succ
def Zag := @Nat.zero_le
def Zah := @Int.le_refl
def Zai := @List.getElem?_append_left
def Zaj := @List.drop_eq_getElem_cons
def Zak := @List.flatten_cons
def Zal := @List.count_append
def Zam := @PySem.Heap.size_push
def Zan := @List.nodup_nil
def Zao := @List.length_take
def Zap := @List.eraseIdx_cons_succ
def Zaq := @PySem.F.plainAttrs_list
def Zar := @Int.one_mul
def Zas := @Int.mul_assoc
def Zat := @Int.mul_zero
def Zau := @Int.mul_comm
def Zav := @Int.neg_mul
def Zaw := @List.getElem?_zip_eq_some
def Zax := @Nat.le_of_ble_eq_true
def Zay := @Bool.false_ne_true
def Zaz := @List.length_drop
def ZaA := @List.count_pos_iff
def ZaB := @List.all_eq_true
def ZaC := @List.nodup_iff_count
def ZaD := @Int.mul_nonneg
def ZaE := @Bool.not_eq_true'
def ZaF := @List.append_nil
def ZaG := @Int.add_zero
def ZaH := @List.nodup_range
def ZaI := @Nat.lt_of_le_of_lt
def ZaJ := @List.getD_eq_getElem?_getD
def ZaK := @List.take_append_drop
def ZaL := @List.set_eq_take_append_cons_drop
def ZaM := @List.count_cons
def ZaN := @Int.ediv_nonneg
def ZaO := @Nat.lt_succ_self
def ZaP := @List.take_length
def ZaQ := @Int.mul_neg
def ZaR := @PySem.W.kia_one
def ZaS := @List.length_singleton
def ZaT := @List.length_filter_le
def ZaU := @List.append_assoc
def ZaV := @Nat.lt_succ_of_lt
def ZaW := @List.ext_getElem?
def ZaX := @List.getElem?_append_right
def ZaY := @Nat.add_le_add_right
def ZaZ := @Int.mul_add
def Zba := @Int.zero_sub
def Zbb := @Int.eq_of_mul_eq_mul_left
def Zbc := @List.map_eq_nil_iff
def Zbd := @List.sum_append_int
def Zbe := @PyProof.noPylong_of_log2
def Zbf := @List.length_set
def Zbg := @List.sum_append
def Zbh := @List.mem_filterMap
def Zbi := @Nat.eq_zero_or_pos
def Zbj := @Nat.add_sub_cancel
def Zbk := @Int.mul_one
def Zbl := @Nat.ne_of_gt
def Zbm := @List.nodup_append
def Zbn := @List.eraseIdxIfInBounds_toArray
def Zbo := @List.contains_iff_mem
def Zbp := @Int.emod_add_mul_ediv
def Zbq := @List.cons_append
def Zbr := @List.mem_flatten
def Zbs := @Nat.min_le_right
def Zbt := @Prod.fst_swap
def Zbu := @Nat.le_succ
def Zbv := @PySem.F.slot_zip_next
def Zbw := @List.nil_append
def Zbx := @List.range_succ
def Zby := @List.filterMap_cons
def Zbz := @List.take_succ_cons
def ZbA := @List.filter_eq_self
def ZbB := @List.map_nil
def ZbC := @Int.fdiv_eq_ediv_of_nonneg
def ZbD := @List.nodup_iff_pairwise_ne
def ZbE := @List.take_add_one
def ZbF := @Int.mul_left_comm
def ZbG := @Option.isSome_iff_exists
def ZbH := @PySem.F.slot_list_remove
def ZbI := @PySem.F.slot_list_append
def ZbJ := @PySem.F.type_list_append
def ZbK := @List.map_take
def ZbL := @Prod.snd_swap
def ZbM := @List.getElem?_replicate
def ZbN := @PySem.Heap.IsList.push
def ZbO := @List.foldlM_cons
def ZbP := @List.getElem_mem
def ZbQ := @Int.dvd_mul_of_dvd_left
def ZbR := @PySem.W.cellsFrom_some
def ZbS := @Nat.succ_mul
def ZbT := @PyProof.Rows.boot_list
def ZbU := @List.take_of_length_le
def ZbV := @List.append_eq_nil_iff
def ZbW := @List.range_succ_eq_map
def ZbX := @List.all_map
def ZbY := @Int.fmod_nonneg_of_pos
def ZbZ := @List.of_mem_zip
def Zca := @List.forIn_cons
def Zcb := @Bool.or_eq_true
def Zcc := @Nat.min_eq_left
def Zcd := @Int.natCast_add
def Zce := @Nat.log2_lt
def Zcf := @Int.mul_le_mul
def Zcg := @Int.natAbs_mul
def Zch := @List.map_drop
def Zci := @Int.add_assoc
def Zcj := @List.all_cons
def Zck := @Bool.and_true
namespace L2
open PySem PySem.Spec PyProof.Rows
noncomputable abbrev Key := Sum Int Str
noncomputable def QsZ : Key -> Value -> Bool
 | .inl k, v => Value.isInt k v
 | .inr x, v => Value.isStrOf x v
noncomputable def Qx7 (w : World) : Key -> Int
 | .inl k => hashInt k
 | .inr x => hashStr w x
theorem QaR : ∀ {k : Key} {v : Value}, QsZ k v = true -> (∃ i t, k = Sum.inl i /\ v = Value.int i t) ∨ (∃ x t, k = Sum.inr x /\ v = Value.str x t)
 | .inl i, v, h => by
  obtain ⟨t, e⟩ := Value.isInt_shape (k := i) (v := v) h
  exact .inl ⟨i, t, rfl, e⟩
 | .inr x, v, h => by
  obtain ⟨t, e⟩ := Value.isStrOf_shape (x := x) (v := v) h
  exact .inr ⟨x, t, rfl, e⟩
theorem Qv7 (a b : Int) : decide ((Sum.inl a : Key) = Sum.inl b) = (a == b) := by
 by_cases e : a = b
 ·subst e; simp
 ·have h : ¬ (Sum.inl a : Key) = Sum.inl b := λ q => e (Sum.inl.inj q)
  rw [decide_eq_false h]
  exact (beq_eq_false_iff_ne.mpr e).symm
theorem Qvk (a b : Str) : decide ((Sum.inr a : Key) = Sum.inr b) = decide (a = b) := by
 by_cases e : a = b
 ·subst e; simp
 ·have h : ¬ (Sum.inr a : Key) = Sum.inr b := λ q => e (Sum.inr.inj q)
  rw [decide_eq_false h, decide_eq_false e]
theorem Qwn (a : Int) (b : Str) : decide ((Sum.inl a : Key) = Sum.inr b) = false := decide_eq_false (λ q => nomatch q)
theorem QvW (a : Str) (b : Int) : decide ((Sum.inr a : Key) = Sum.inl b) = false := decide_eq_false (λ q => nomatch q)
noncomputable def Qjg (prog : Program) (w : World) : PySem.KeyKind prog w Key where
 is := QsZ
 hash := Qx7 w
 inj := λ v a b ha hb => by
  rcases QaR ha with ⟨i, t, rfl, rfl⟩ | ⟨x, t, rfl, rfl⟩
  ·rcases QaR hb with ⟨j, u, rfl, e⟩ | ⟨y, u, rfl, e⟩
   ·injection e with e1 _; rw [e1]
   ·exact nomatch e
  ·rcases QaR hb with ⟨j, u, rfl, e⟩ | ⟨y, u, rfl, e⟩
   ·exact nomatch e
   ·injection e with e1 _; rw [e1]
 byValue := λ k v h => by
  rcases QaR h with ⟨i, t, rfl, rfl⟩ | ⟨x, t, rfl, rfl⟩ <;> rfl
 pyHash := λ hv h => by
  rcases QaR hv with ⟨i, t, rfl, rfl⟩ | ⟨x, t, rfl, rfl⟩
  ·exact wpAny_pyHash_int h
  ·exact wpAny_pyHash_str h
 eqBool := λ hu hv h => by
  rcases QaR hu with ⟨i, t, rfl, rfl⟩ | ⟨x, t, rfl, rfl⟩
  ·rcases QaR hv with ⟨j, u, rfl, rfl⟩ | ⟨y, u, rfl, rfl⟩
   ·rw [Qv7] at h; exact wpAny_eqBool_int h
   ·rw [Qwn] at h; exact SeqAt.EqAt.int_str i t y u _ _ _ _ h
  ·rcases QaR hv with ⟨j, u, rfl, rfl⟩ | ⟨y, u, rfl, rfl⟩
   ·rw [QvW] at h; exact SeqAt.EqAt.str_int x t j u _ _ _ _ h
   ·rw [Qvk] at h; exact wpAny_eqBool_str h
 «strs» := λ k x t v h => by
  rcases QaR h with ⟨i, u, rfl, e⟩ | ⟨y, u, rfl, e⟩
  ·exact nomatch e
  ·injection e with e1 _
   subst e1
   cases v <;> rfl
end L2
namespace L2
open PySem PySem.Spec PyProof.Rows
inductive V where
 | non | bl (b : Bool) | int (i : Int) | str (x : Str) | byt (b : Array UInt8) | flt (b : UInt64) | ref (a : Addr) | ty (n : String)
 deriving DecidableEq
noncomputable def RelV : V -> Value -> Prop
 | .non, u => u = Value.none
 | .bl b, u => u = Value.bool b
 | .int i, u => ∃ t, u = Value.int i t
 | .str x, u => ∃ t, u = Value.str x t
 | .byt b, u => ∃ t, u = Value.bytes b t
 | .flt b, u => ∃ t, u = Value.float b t
 | .ref a, u => u = Value.ref a
 | .ty n, u => u = Value.type n
noncomputable abbrev Qy : List V -> List Value -> Prop := Paired RelV
theorem Qy.length {xs : List V} {us : List Value} (r : Qy xs us) : xs.length = us.length := Paired.length r
theorem Qy.get : ∀ {xs : List V} {us : List Value} {i : Nat} {x : V}, Qy xs us -> xs[i]? = some x -> ∃ u, us[i]? = some u /\ RelV x u
 | _, _, _, _, .nil, e => by simp at e
 | _, _, 0, _, .cons r _, e => by simp at e; subst e; exact ⟨_, rfl, r⟩
 | _, _, i + 1, x, .cons _ t, e => by
  obtain ⟨u, h1, h2⟩ := Qy.get (i := i) (x := x) t (by simpa using e)
  exact ⟨u, by simpa using h1, h2⟩
theorem Qy.set {x : V} {u : Value} (r : RelV x u) : ∀ {xs : List V} {us : List Value} (i : Nat), Qy xs us -> Qy (xs.set i x) (us.set i u)
 | _, _, _, .nil => .nil
 | _, _, 0, .cons _ t => .cons r t
 | _, _, i + 1, .cons q t => .cons q (Qy.set r i t)
theorem Qy.append : ∀ {xs ys : List V} {us ws : List Value}, Qy xs us -> Qy ys ws -> Qy (xs ++ ys) (us ++ ws)
 | _, _, _, _, .nil, s => s
 | _, _, _, _, .cons r t, s => .cons r (Qy.append t s)
theorem Qy.take : ∀ {xs : List V} {us : List Value} (n : Nat), Qy xs us -> Qy (xs.take n) (us.take n)
 | _, _, 0, _ => .nil
 | _, _, _ + 1, .nil => .nil
 | _, _, n + 1, .cons r t => .cons r (Qy.take n t)
theorem Qy.drop : ∀ {xs : List V} {us : List Value} (n : Nat), Qy xs us -> Qy (xs.drop n) (us.drop n)
 | _, _, 0, r => r
 | _, _, _ + 1, .nil => .nil
 | _, _, n + 1, .cons _ t => Qy.drop n t
noncomputable def QvV : Option V -> Option Value -> Prop
 | some v, some u => RelV v u
 | none, none => True
 | _, _ => False
noncomputable def KV {κ : Type} : List (κ × V) -> List (κ × Value) -> Prop := Paired λ (p : κ × V) (q : κ × Value) => p.1 = q.1 /\ RelV p.2 q.2
noncomputable def kV : Key -> V
 | .inl i => .int i
 | .inr x => .str x
inductive HO where
 | lst (xs : List V)
 | tup (xs : List V)
 | dK (kvs : List (Key × V)) | dT (kvs : List (List Key × V))
 | set (S : Int -> Bool) (n : Nat)
 | ins (C dx : Addr) (fs : List (Str × V))
 | own (x : Addr)
 | xd (fs : List (Str × V))
 | met (f x : Addr)
 | rng (lo hi : Int)
 | frz (o : Obj) (u : HO)
 | tbl (ps : Array Value)
 | ext (φ : Heap -> Prop)
noncomputable abbrev Hp := Addr -> Option HO
noncomputable def upd (H : Hp) (a : Addr) (o : HO) : Hp := λ b => if b = a then some o else H b
theorem Qar {H : Hp} {a : Addr} {o : HO} : upd H a o a = some o := by unfold upd; rw [if_pos rfl]
theorem QR {H : Hp} {a b : Addr} {o : HO} (h : b ≠ a) : upd H a o b = H b := by unfold upd; rw [if_neg h]
theorem Qoa {H : Hp} {a b : Addr} {o u : HO} (h : H a = some o) (h' : H b = some u) (d : o ≠ u) : a ≠ b := by
 intro e; subst e; rw [h] at h'; exact d (Option.some.inj h')
theorem Qbt {H : Hp} {a b : Addr} {o : HO} (h : H a = some o) (h' : H b = none) : a ≠ b := by
 intro e; subst e; rw [h] at h'; cases h'
section
variable (P : Program) (w : World)
noncomputable def Qck (H : Hp) (h : Heap) (a : Addr) : HO -> Prop
 | .lst xs => xs.length <= sizeLine /\ ∃ (its : List Value) (n : Nat), Qy xs its /\ h.get? a = some { cls := .type "list", data := .seq its.toArray n }
 | .tup xs => xs.length <= sizeLine /\ ∃ its : List Value, Qy xs its /\ IsTup h a its.toArray
 | .dK kvs => kvs.length <= sizeLine /\ (a == sysModules) = false /\ ∃ vs, KV kvs vs /\ h.DictOf (Qjg P w) a vs
 | .dT kvs => kvs.length <= sizeLine /\ (a == sysModules) = false /\ ∃ xs : List (List Key × Addr × Value),
   Paired (λ (p : List Key × V) (q : List Key × Addr × Value) => p.1 = q.1 /\ H q.2.1 = some (.tup (p.1.map kV)) /\ RelV p.2 q.2.2) kvs xs ∧
   ∃ o es ep, h.get? a = some o /\ o.ExactDict /\ o.data = .dict es ep /\ es.toList = xs.map (entryOfKey (tupleKind (Qjg P w))) /\ (xs.map (·.1)).Nodup
 | .set S n => h.SetOf (intKind P w) a S n
 | .ins C dx fs => H dx = some (.own a) /\ fs.length <= 1000 /\ dx ≠ a /\ h.get? a = some (PySem.W.instObj C dx) ∧
   ∃ mA, h.Ns1 dx mA /\ (∀ f, QvV (fs.lookup f) (mA f)) /\ PySem.Within mA (fs.map (·.1))
 | .own _ => ∃ o, h.get? a = some o
 | .xd fs => ∃ mA, h.Ns1 a mA /\ ∀ f, QvV (fs.lookup f) (mA f)
 | .rng lo hi => ∃ t u v, h.get? a = some { cls := .type "range", data := .fields #[.int lo t, .int hi u, .int 1 v] }
 | .frz o u => h.get? a = some o /\ Qck H h a u
 | .tbl ps => h.get? a = some { cls := .none, data := .fields ps }
 | .met f x => h.get? a = some (PySem.W.methodObj (.ref f) (.ref x))
 | .ext φ => φ h /\ (∃ o, h.get? a = some o) /\ ∀ h1 h2 : Heap, φ h1 -> (∀ o, h1.get? a = some o -> h2.get? a = some o) -> φ h2
def HOk (H : Hp) (h : Heap) : Prop := ∀ a o, H a = some o -> Qck P w H h a o
end
section
variable {P : Program} {w : World} {H H' : Hp} {h h' : Heap} {a : Addr} {o : HO}
theorem Qck.lt (x : Qck P w H h a o) : a < h.objs.size := by
 cases o with
 | lst xs => obtain ⟨_, _, _, _, e⟩ := x; exact Zu e
 | tup xs => obtain ⟨_, _, _, p⟩ := x; exact p.lt
 | dK kvs => obtain ⟨_, _, _, _, o, _, _, e, _⟩ := x; exact Zu e
 | dT kvs => obtain ⟨_, _, _, _, o, _, _, e, _⟩ := x; exact Zu e
 | set S n => obtain ⟨o, _, _, _, e, _⟩ := x; exact Zu e
 | ins C dx fs => obtain ⟨_, _, _, e, _⟩ := x; exact Zu e
 | own y => obtain ⟨_, e⟩ := x; exact Zu e
 | xd fs => obtain ⟨_, ⟨_, _, _, e, _⟩, _⟩ := x; exact Zu e
 | rng lo hi => obtain ⟨_, _, _, e⟩ := x; exact Zu e
 | frz ob u => obtain ⟨e, _⟩ := x; exact Zu e
 | tbl ps => exact Zu (show h.get? a = some _ from x)
 | met f y => exact Zu (show h.get? a = some _ from x)
 | ext φ => obtain ⟨_, ⟨_, e⟩, _⟩ := x; exact Zu e
theorem Paired.Qu1 {α β : Type} {F G : α -> β -> Prop} : ∀ {l₁ : List α} {l₂ : List β}, Paired F l₁ l₂ -> (∀ a b, F a b -> G a b) -> Paired G l₁ l₂
 | _, _, .nil, _ => .nil
 | _, _, .cons r t, f => .cons (f _ _ r) (Paired.Qu1 t f)
theorem Qck.Qh2 (x : Qck P w H h a o) (k : ∀ b u, (b = a ∨ H b = some (.own a)) -> h.get? b = some u -> h'.get? b = some u)
  (ho : ∀ b, H b = some (.own a) -> H' b = some (.own a)) (ht : ∀ b xs, H b = some (.tup xs) -> H' b = some (.tup xs)) : Qck P w H' h' a o := by
 induction o with
 | lst xs => obtain ⟨z, its, n, r, e⟩ := x; exact ⟨z, its, n, r, k _ _ (.inl rfl) e⟩
 | tup xs => obtain ⟨z, its, r, ob, e, c⟩ := x; exact ⟨z, its, r, ob, k _ _ (.inl rfl) e, c⟩
 | dK kvs => obtain ⟨z, y, vs, r, ob, es, ep, e, c⟩ := x; exact ⟨z, y, vs, r, ob, es, ep, k _ _ (.inl rfl) e, c⟩
 | dT kvs =>
  obtain ⟨z, y, xs, r, ob, es, ep, e, c⟩ := x
  exact ⟨z, y, xs, Paired.Qu1 r λ p q z => ⟨z.1, ht _ _ z.2.1, z.2.2⟩, ob, es, ep, k _ _ (.inl rfl) e, c⟩
 | set S n => obtain ⟨ob, es, ep, t, e, c⟩ := x; exact ⟨ob, es, ep, t, k _ _ (.inl rfl) e, c⟩
 | ins C dx fs =>
  obtain ⟨d, z, ne, e, mA, ⟨od, es, ep, e2, c⟩, r⟩ := x
  exact ⟨ho _ d, z, ne, k _ _ (.inl rfl) e, mA, ⟨od, es, ep, k _ _ (.inr d) e2, c⟩, r⟩
 | own y => obtain ⟨ob, e⟩ := x; exact ⟨ob, k _ _ (.inl rfl) e⟩
 | xd fs => obtain ⟨mA, ⟨od, es, ep, e, c⟩, r⟩ := x; exact ⟨mA, ⟨od, es, ep, k _ _ (.inl rfl) e, c⟩, r⟩
 | rng lo hi => obtain ⟨t, u, v, e⟩ := x; exact ⟨t, u, v, k _ _ (.inl rfl) e⟩
 | frz ob u ih => obtain ⟨e, q⟩ := x; exact ⟨k _ _ (.inl rfl) e, ih q⟩
 | tbl ps =>
  have e : h.get? a = some { cls := .none, data := .fields ps } := x
  show h'.get? a = some { cls := .none, data := .fields ps }
  exact k a _ (.inl rfl) e
 | met f y =>
  have e : h.get? a = some (PySem.W.methodObj (.ref f) (.ref y)) := x
  show h'.get? a = some (PySem.W.methodObj (.ref f) (.ref y))
  exact k a _ (.inl rfl) e
 | ext φ => obtain ⟨p, ⟨o, e⟩, st⟩ := x; exact ⟨st _ _ p λ o q => k _ _ (.inl rfl) q, ⟨o, k _ _ (.inl rfl) e⟩, st⟩
theorem HOk.lt (x : HOk P w H h) (e : H a = some o) : a < h.objs.size := (x a o e).lt
theorem HOk.fresh (x : HOk P w H h) (e : h.objs.size <= a) : H a = none := by
 cases q : H a with
 | none => rfl
 | some u => exact absurd (Zv (x.lt q) e) (ZS _)
theorem HOk.kept (x : HOk P w H h) (k : ∀ b u, h.get? b = some u -> h'.get? b = some u) : HOk P w H h' := λ a o e =>
 (x a o e).Qh2 (λ b u _ q => k b u q) (λ _ q => q) λ _ _ q => q
theorem HOk.laid (x : HOk P w H h) (k : ∀ b u, h.get? b = some u -> h'.get? b = some u) (hp : h.objs.size <= a) (new : Qck P w (upd H a o) h' a o) : HOk P w (upd H a o) h' := λ b u e => by
 have hn := x.fresh hp
 by_cases hb : b = a
 ·subst hb; rw [Qar] at e; cases e; exact new
 ·rw [QR hb] at e
  exact (x b u e).Qh2 (λ c v _ q => k c v q) (λ c q => by rw [QR (Qbt q hn)]; exact q) λ c xs q => by rw [QR (Qbt q hn)]; exact q
end
def Rd (H : Hp) (a : Addr) (u : HO) : Prop := H a = some u ∨ ∃ o, H a = some (.frz o u)
theorem Rd.ok {P : Program} {w : World} {H : Hp} {h : Heap} {a : Addr} {u : HO} (r : Rd H a u) (x : HOk P w H h) : Qck P w H h a u := by
 rcases r with r | ⟨o, r⟩
 ·exact x a u r
 ·obtain ⟨_, q⟩ := x a _ r
  exact q
noncomputable def Mut : Option HO -> Prop
 | some (.lst _) => True
 | some (.dK _) => True
 | some (.dT _) => True
 | some (.set _ _) => True
 | some (.ins _ _ _) => True
 | some (.ext _) => True
 | _ => False
section
variable {P : Program} {w : World} {H : Hp} {h h' : Heap} {x e : Addr} {o' : HO}
theorem HOk.write (ok : HOk P w H h) (mu : Mut (H x)) (he : e = x ∨ H e = some (.own x)) (k : ∀ b u, b ≠ e -> h.get? b = some u -> h'.get? b = some u) (heo : ∃ u, h'.get? e = some u)
  (new : Qck P w (upd H x o') h' x o') : HOk P w (upd H x o') h' := λ b u q => by
 have nown : ∀ c y, H c = some (.own y) -> c ≠ x := λ c y r z => by subst z; rw [r] at mu; exact mu
 have ntup : ∀ c xs, H c = some (.tup xs) -> c ≠ x := λ c xs r z => by subst z; rw [r] at mu; exact mu
 by_cases hb : b = x
 ·subst hb; rw [Qar] at q; cases q; exact new
 ·rw [QR hb] at q
  by_cases hbe : b = e
  ·have q' : H b = some (.own x) := by
    rcases he with z | z
    ·exact absurd (hbe.trans z) hb
    ·rw [hbe]; exact z
   rw [q] at q'; cases q'
   obtain ⟨v, hv⟩ := heo
   exact ⟨v, by rw [hbe]; exact hv⟩
  ·refine (ok b u q).Qh2 (λ c v hc r => k c v ?_ r) (λ c r => by rw [QR (nown c b r)]; exact r) λ c xs r => by rw [QR (ntup c xs r)]; exact r
   rcases hc with rfl | hc
   ·exact hbe
   ·rintro rfl
    rcases he with z | z
    ·exact nown c b hc z
    ·rw [hc] at z; cases z; exact hb rfl
end
structure Un (fs ex : List Addr) (H H' : Hp) (h h' : Heap) : Prop where
 keep : ∀ b o, h.get? b = some o -> H b = none -> b ∉ fs -> b ∉ ex -> h'.get? b = some o
 slot : ∀ b o, h.get? b = some o -> H b = none -> b ∈ fs -> b ∉ ex -> ∃ sl, h'.get? b = some { o with slots := sl }
 free : ∀ b o, h.get? b = some o -> H b = none -> b ∉ ex -> H' b = none
 there : ∀ b o, h.get? b = some o -> b ∉ ex -> ∃ o', h'.get? b = some o'
 tups : ∀ b xs, H b = some (.tup xs) -> H' b = some (.tup xs)
 frzs : ∀ b o u, H b = some (.frz o u) -> H' b = some (.frz o u)
 tbls : ∀ b ps, H b = some (.tbl ps) -> ∃ more, H' b = some (.tbl (ps ++ more))
section
variable {fs fs' ex ex' : List Addr} {H H1 H2 : Hp} {h h1 h2 h' : Heap} {a x e : Addr} {o : HO}
theorem Un.any (u : Un fs ex H H1 h h1) {b : Addr} {ob : Obj} (q : h.get? b = some ob) (n : H b = none) (hx : b ∉ ex) : ∃ sl, h1.get? b = some { ob with slots := sl } := by
 by_cases hb : b ∈ fs
 ·exact u.slot b ob q n hb hx
 ·exact ⟨ob.slots, u.keep b ob q n hb hx⟩
theorem Un.kept (k : ∀ b u, h.get? b = some u -> h'.get? b = some u) : Un fs ex H H h h' :=
 ⟨λ b ob q _ _ _ => k b ob q, λ b ob q _ _ _ => ⟨ob.slots, k b ob q⟩, λ _ _ _ n _ => n, λ b ob q _ => ⟨ob, k b ob q⟩, λ _ _ q => q, λ _ _ _ q => q, λ _ ps q => ⟨#[], by rw [q]; simp⟩⟩
theorem Un.refl : Un fs ex H H h h := Un.kept λ _ _ q => q
theorem Un.laid (k : ∀ b u, h.get? b = some u -> h'.get? b = some u) (hp : h.objs.size <= a) (hn : H a = none) : Un fs ex H (upd H a o) h h' where
 keep := λ b u q _ _ _ => k b u q
 slot := λ b u q _ _ _ => ⟨u.slots, k b u q⟩
 free := λ b u q n _ => by rw [QR (ZW (Zv (Zu q) hp))]; exact n
 there := λ b u q _ => ⟨u, k b u q⟩
 tups := λ b xs q => by rw [QR (Qbt q hn)]; exact q
 frzs := λ b u xs q => by rw [QR (Qbt q hn)]; exact q
 tbls := λ b ps q => ⟨#[], by rw [QR (Qbt q hn), q]; simp⟩
theorem Un.write (mu : Mut (H x)) (he : e = x ∨ H e = some (.own x)) (k : ∀ b u, b ≠ e -> h.get? b = some u -> h'.get? b = some u) (heo : ∃ u, h'.get? e = some u) : Un fs ex H (upd H x o) h h' := by
 have hx : ∀ b, H b = none -> b ≠ x := λ b n z => by subst z; rw [n] at mu; exact mu
 have hb : ∀ b, H b = none -> b ≠ e := λ b n z => by
  subst z
  rcases he with r | r
  ·exact hx b n r
  ·rw [n] at r; cases r
 have hm : ∀ b u, H b = some u -> ¬ Mut (some u) -> b ≠ x := λ b u q nm z => by subst z; rw [q] at mu; exact nm mu
 refine ⟨λ b u q n _ _ => k b u (hb b n) q, λ b u q n _ _ => ⟨u.slots, k b u (hb b n) q⟩, λ b u q n _ => by rw [QR (hx b n)]; exact n, λ b u q _ => ?_,
  λ b xs q => by rw [QR (hm b _ q λ z => z)]; exact q, λ b u xs q => by rw [QR (hm b _ q λ z => z)]; exact q, λ b ps q => ⟨#[], by rw [QR (hm b _ q λ z => z), q]; simp⟩⟩
 by_cases hbe : b = e
 ·subst hbe; exact heo
 ·exact ⟨u, k b u hbe q⟩
end
noncomputable def trk (h : Heap) (H : Hp) : List Addr := (List.range h.objs.size).filter λ a => (H a).isSome
noncomputable def QfL (h : Heap) (H : Hp) : Heap := PySem.W.hideAll h (trk h H)
theorem Qpr (h : Heap) (H : Hp) : (QfL h H).objs.size = h.objs.size := PySem.W.hideAll_size _ _
theorem Qr6 {h : Heap} {H : Hp} {b : Addr} {o : Obj} (e : h.get? b = some o) (n : H b = none) : (QfL h H).get? b = some o :=
 PySem.W.hideAll_get _ e λ hm => by
  have q : (H b).isSome = true := (ZC.mp hm).2
  rw [n] at q; simp at q
theorem Qtk {h : Heap} {H : Hp} {b : Addr} {o : Obj} (e : (QfL h H).get? b = some o) : h.get? b = some o /\ H b = none := by
 have e' : h.get? b = some o := PySem.W.of_hideAll (trk h H) e
 refine ⟨e', ?_⟩
 cases q : H b with
 | none => rfl
 | some x =>
  have hm : b ∈ trk h H := ZC.mpr ⟨Zh.mpr (Zu e'), by simp [q]⟩
  have z : (QfL h H).get? b = none := PySem.W.hideAll_none (trk h H) hm
  rw [z] at e; cases e
end L2
namespace L2
open PySem PySem.Spec PyProof.Rows
structure Mod (K : PySem.W.Frag) (mg : Str -> Option Value) (base : Heap) : Prop where
 kin : K.In base
 glob : base.Ns mainGlobals mg
 blt : ∃ mb, base.Ns builtinsNs mb /\ ∀ x : Str, x ≠ "__name__" -> mb x = bootBuiltins x
 nolimit : base.NoLimit
structure Cx where
 prog : Program
 w : World
 K : PySem.W.Frag
 mg : Str -> Option Value
 base : Heap
 A : Around
 N : List Str
 s₀ : Shared
 H₀ : Hp
 env : Env
 outer : List Env
 stack : List Env
 ex : List Addr
 fn : Str -> Bool
 calm : Bool
 pn : List (Addr × Obj)
 xe : Value -> Shared -> Prop
noncomputable def frs (l : List Env) : List Addr := l.filterMap (·.frame)
noncomputable abbrev Cx.fs (X : Cx) : List Addr := frs X.outer
def Vis (sc : Scope) (x : Str) : Prop := sc.names.lookup x = some .local ∨ sc.names.lookup x = some .cell ∨ sc.names.lookup x = some .free
def Loc (sc : Scope) (x : Str) : Prop := sc.names.lookup x = some .local ∨ sc.names.lookup x = some .cell
def Look (env : Env) (h : Heap) (m : Str -> Option Value) (x : Str) (u : Value) : Prop :=
 (env.kindOf x = some .local /\ m x = some u) ∨ ((env.kindOf x = some .cell ∨ env.kindOf x = some .free) /\ ∃ c, env.cells.lookup x = some c /\ h.IsCell c (some u))
structure Cx.Ok (X : Cx) : Prop where
 mod : Mod X.K X.mg X.base
 kind : X.env.scope.kind = .function
 glob : X.env.globals = mainGlobals
 blt : X.env.builtins = builtinsNs
 above : X.s₀.heap.objs.size <= X.env.locals
 inj : ∀ x y c, X.env.cells.lookup x = some c -> X.env.cells.lookup y = some c -> x = y
 has : ∀ x, (X.env.kindOf x = some .cell ∨ X.env.kindOf x = some .free) -> ∃ c, X.env.cells.lookup x = some c
 cab : ∀ x c, X.fn x = true -> X.env.cells.lookup x = some c -> X.s₀.heap.objs.size <= c
 hd : X.calm = true -> X.A.handled = none
 frames : X.A.frames = some X.stack
 stk : X.stack = X.outer ∨ (X.stack = X.env :: X.outer /\ X.env.frame = some X.env.locals)
 exf : ∀ b ∈ X.ex, b ≠ X.env.locals /\ ∀ x c, X.env.cells.lookup x = some c -> c ≠ b
 bs : ∀ b o, X.base.get? b = some o -> X.s₀.heap.get? b = some o /\ X.H₀ b = none
 bsz : X.base.objs.size <= X.s₀.heap.objs.size
 noex : ∀ b o, X.base.get? b = some o -> b ∉ X.ex
 exfs : ∀ b ∈ X.ex, b ∉ X.fs
 Qer : X.s₀.heap.FunFrames X.base X.outer
 frf : ∀ b ∈ X.fs, X.H₀ b = none
structure Inv (X : Cx) (pins : List (Addr × Obj)) (σ : List (Option V)) (H : Hp) (s : Shared) : Prop where
 ok : X.Ok
 os : s.os = X.s₀.os
 bare : AllBare s.gens
 base : Un X.fs X.ex X.H₀ H X.s₀.heap s.heap
 loc : ∃ m, s.heap.Ns X.env.locals m /\ ∀ (i : Nat) (x : Str) (v : V), X.N[i]? = some x -> σ[i]? = some (some v) -> Vis X.env.scope x -> ∃ u, RelV v u /\ Look X.env s.heap m x u
 cell : ∀ x c, X.env.cells.lookup x = some c -> ∃ v, s.heap.IsCell c v
 free : H X.env.locals = none
 freeC : ∀ x c, X.env.cells.lookup x = some c -> H c = none
 pin : ∀ p ∈ X.pn ++ pins, s.heap.get? p.1 = some p.2 /\ H p.1 = none /\ p.1 ≠ X.env.locals /\ p.1 ∉ X.fs /\ ∀ v, p.2.data ≠ .cell v
 hok : HOk X.prog X.w H s.heap
 len : σ.length = X.N.length
section
variable {X : Cx} {pins : List (Addr × Obj)} {σ : List (Option V)} {H H' : Hp} {s : Shared} {h' : Heap}
theorem Cx.Ok.QxV (ok : X.Ok) {b : Addr} {o : Obj} (e : X.base.get? b = some o) : b ∉ X.fs := λ hb => by
 have := (ok.Qer.mem hb).1
 rw [e] at this; cases this
theorem Inv.bs (I : Inv X pins σ H s) : ∀ b o, X.base.get? b = some o -> s.heap.get? b = some o /\ H b = none := λ b o e =>
 ⟨I.base.keep b o (I.ok.bs b o e).1 (I.ok.bs b o e).2 (I.ok.QxV e) (I.ok.noex b o e), I.base.free b o (I.ok.bs b o e).1 (I.ok.bs b o e).2 (I.ok.noex b o e)⟩
theorem Inv.bk (I : Inv X pins σ H s) : ∀ b o, X.base.get? b = some o -> s.heap.get? b = some o := λ b o e => (I.bs b o e).1
theorem Inv.mod (I : Inv X pins σ H s) : Mod X.K X.mg X.base := I.ok.mod
theorem Inv.kIn (I : Inv X pins σ H s) : X.K.In s.heap := I.ok.mod.kin.keeps I.bk
theorem Inv.lt (I : Inv X pins σ H s) : X.env.locals < s.heap.objs.size := let ⟨_, hn, _⟩ := I.loc; hn.lt
theorem Inv.sz (I : Inv X pins σ H s) : X.s₀.heap.objs.size <= s.heap.objs.size := ZF I.ok.above (Nat.le_of_lt I.lt)
theorem Inv.Qx1 (I : Inv X pins σ H s) {a : Addr} (h : s.heap.objs.size <= a) : a ∉ X.fs := λ hb => by
 obtain ⟨_, o, ho, _⟩ := I.ok.Qer.mem hb
 exact absurd (Zv (Zu ho) (ZF I.sz h)) (ZS _)
theorem Inv.cne (I : Inv X pins σ H s) : ∀ x c, X.env.cells.lookup x = some c -> c ≠ X.env.locals := λ x c e z => by
 obtain ⟨v, o, ho, hd⟩ := I.cell x c e
 obtain ⟨m, ⟨o', es, ep, ho', hd', _⟩, _⟩ := I.loc
 rw [z, ho'] at ho; cases ho; rw [hd'] at hd; cases hd
theorem Inv.Qer (I : Inv X pins σ H s) : s.heap.FunFrames X.base X.outer := by
 have all : ∀ (l : List Env), (∀ b ∈ frs l, b ∈ X.fs) -> X.s₀.heap.FunFrames X.base l -> s.heap.FunFrames X.base l := by
  intro l
  induction l with
  | nil => intro _ _; trivial
  | cons env r ih =>
   intro hs hl
   obtain ⟨hk, ⟨L, o, hf, hn, ho, hd⟩, hr⟩ := hl
   have hL : L ∈ X.fs := hs L (by unfold frs; rw [Zby, hf]; exact Zk)
   obtain ⟨sl, e⟩ := I.base.slot L o ho (I.ok.frf L hL) hL λ z => I.ok.exfs L z hL
   exact ⟨hk, ⟨L, _, hf, hn, e, hd⟩, ih (λ b hb => hs b (by unfold frs; rw [Zby, hf]; exact Zd _ hb)) hr⟩
 exact all X.outer (λ _ hb => hb) I.ok.Qer
theorem Inv.stack (I : Inv X pins σ H s) : s.heap.FunFrames X.base X.stack := by
 rcases I.ok.stk with e | ⟨e, hf⟩
 ·rw [e]; exact I.Qer
 ·rw [e]
  obtain ⟨m, hn, _⟩ := I.loc
  refine .cons (by rw [I.ok.kind]; decide) hf hn ?_ I.Qer
  exact Heap.get?_none_of_le (ZF I.ok.bsz I.ok.above)
theorem Inv.QiV (I : Inv X pins σ H s) : ∀ b ∈ frs X.stack, b ∈ X.env.locals :: X.fs := λ b hb => by
 rcases I.ok.stk with e | ⟨e, hf⟩
 ·rw [e] at hb; exact Zd _ hb
 ·rw [e] at hb
  unfold frs at hb
  rw [Zby, hf] at hb
  exact hb
theorem Inv.QnR (I : Inv X pins σ H s) : ∀ b ∈ frs X.stack, H b = none := λ b hb => by
 rcases Zr.mp (I.QiV b hb) with e | hb
 ·rw [e]; exact I.free
 ·obtain ⟨_, o, ho, _⟩ := I.ok.Qer.mem hb
  exact I.base.free b o ho (I.ok.frf b hb) λ z => I.ok.exfs b z hb
theorem Inv.step {g' : Array GenState} {t' : Nat} {d' : Drawn} {ch : List Addr} (I : Inv X pins σ H s)
  (hch : ∀ b ∈ ch, (b ∈ X.ex ∨ X.s₀.heap.objs.size <= b) /\ b ≠ X.env.locals /\ (∀ x c, X.env.cells.lookup x = some c -> c ≠ b) /\ ∀ p ∈ X.pn ++ pins, p.1 ≠ b)
  (keep : ∀ b o, b ≠ X.env.locals -> b ∉ X.fs -> b ∉ ch -> s.heap.get? b = some o -> H b = none -> h'.get? b = some o)
  (slot : ∀ b o, b ≠ X.env.locals -> b ∈ X.fs -> b ∉ ch -> s.heap.get? b = some o -> H b = none -> ∃ sl, h'.get? b = some { o with slots := sl }) (free : ∀ b o, b ∉ ch -> s.heap.get? b = some o -> H b = none -> H' b = none)
  (there : ∀ b o, b ∉ ch -> s.heap.get? b = some o -> ∃ o', h'.get? b = some o')
  (tups : ∀ b xs, H b = some (.tup xs) -> H' b = some (.tup xs)) (frzs : ∀ b o u, H b = some (.frz o u) -> H' b = some (.frz o u)) (tbls : ∀ b ps, H b = some (.tbl ps) -> ∃ more, H' b = some (.tbl (ps ++ more)))
  (ns : ∀ m, s.heap.Ns X.env.locals m -> h'.Ns X.env.locals m) (hok : HOk X.prog X.w H' h') (hg : AllBare g') :
  Inv X pins σ H' { s with heap := h', gens := g', drawn := d', toks := t' } := by
 have neL : ∀ b o, X.s₀.heap.get? b = some o -> b ≠ X.env.locals := λ b o e => ZW (Zv (Zu e) I.ok.above)
 have neC : ∀ b o, X.s₀.heap.get? b = some o -> b ∉ X.ex -> b ∉ ch := λ b o e hx hb => by
  rcases (hch b hb).1 with z | z
  ·exact hx z
  ·exact absurd (Zv (Zu e) z) (ZS _)
 have cellK : ∀ x c, X.env.cells.lookup x = some c -> ∀ v, s.heap.IsCell c v -> h'.IsCell c v := λ x c e v ⟨o, ho, hd⟩ => by
  have nch : c ∉ ch := λ z => (hch c z).2.2.1 x c e rfl
  by_cases hc : c ∈ X.fs
  ·obtain ⟨sl, q⟩ := slot c o (I.cne x c e) hc nch ho (I.freeC x c e)
   exact ⟨_, q, hd⟩
  ·exact ⟨o, keep c o (I.cne x c e) hc nch ho (I.freeC x c e), hd⟩
 refine ⟨I.ok, I.os, hg, ⟨λ b o e n hb hx => ?_, λ b o e n hb hx => ?_, λ b o e n hx => ?_, λ b o e hx => ?_, λ b xs e => tups b xs (I.base.tups b xs e), λ b o xs e => frzs b o xs (I.base.frzs b o xs e), λ b ps e => ?_⟩, ?_, λ x c e => ?_, ?_, λ x c e => ?_, λ p hp => ?_, hok, I.len⟩
 ·exact keep b o (neL b o e) hb (neC b o e hx) (I.base.keep b o e n hb hx) (I.base.free b o e n hx)
 ·obtain ⟨sl, e1⟩ := I.base.slot b o e n hb hx
  obtain ⟨sl', e2⟩ := slot b _ (neL b o e) hb (neC b o e hx) e1 (I.base.free b o e n hx)
  exact ⟨sl', e2⟩
 ·obtain ⟨o', e1⟩ := I.base.there b o e hx
  exact free b o' (neC b o e hx) e1 (I.base.free b o e n hx)
 ·obtain ⟨o', e1⟩ := I.base.there b o e hx
  exact there b o' (neC b o e hx) e1
 ·obtain ⟨m1, e1⟩ := I.base.tbls b ps e
  obtain ⟨m2, e2⟩ := tbls b _ e1
  exact ⟨m1 ++ m2, by rw [e2, Array.append_assoc]⟩
 ·obtain ⟨m, hn, hl⟩ := I.loc
  refine ⟨m, ns m hn, λ i x v e1 e2 e3 => ?_⟩
  obtain ⟨u, r, l⟩ := hl i x v e1 e2 e3
  refine ⟨u, r, ?_⟩
  rcases l with l | ⟨k, c, e, z⟩
  ·exact .inl l
  ·exact .inr ⟨k, c, e, cellK x c e _ z⟩
 ·obtain ⟨v, z⟩ := I.cell x c e
  exact ⟨v, cellK x c e v z⟩
 ·obtain ⟨m, ⟨o, _, _, ho, _⟩, _⟩ := I.loc
  exact free _ o (λ z => (hch _ z).2.1 rfl) ho I.free
 ·obtain ⟨v, o, ho, hd⟩ := I.cell x c e
  exact free c o (λ z => (hch c z).2.2.1 x c e rfl) ho (I.freeC x c e)
 ·obtain ⟨e, n, ne, nf, d⟩ := I.pin p hp
  have nch : p.1 ∉ ch := λ z => (hch p.1 z).2.2.2 p hp rfl
  exact ⟨keep p.1 p.2 ne nf nch e n, free p.1 p.2 nch e n, ne, nf, d⟩
theorem Inv.un {t' : Nat} (I : Inv X pins σ H s) (u : Un X.fs [] H H' s.heap h') (hok : HOk X.prog X.w H' h') : Inv X pins σ H' { s with heap := h', toks := t' } := by
 obtain ⟨m, ⟨o, es, ep, ho, r⟩, _⟩ := id I.loc
 obtain ⟨sl, hL⟩ := u.any ho I.free (by simp)
 exact I.step (g' := s.gens) (d' := s.drawn) (ch := []) (λ _ z => nomatch z) (λ b o _ hb _ e n => u.keep b o e n hb (by simp)) (λ b o _ hb _ e n => u.slot b o e n hb (by simp)) (λ b o _ e n => u.free b o e n (by simp)) (λ b o _ e => u.there b o e (by simp)) u.tups u.frzs u.tbls (λ m' hm => by
  obtain ⟨o', es', ep', ho', r'⟩ := hm
  rw [ho] at ho'; cases ho'
  exact ⟨_, es', ep', hL, r'⟩) hok I.bare
theorem Inv.call {g' : Array GenState} {t' : Nat} {d' : Drawn} {ch : List Addr} (I : Inv X pins σ H s) (u : Un (frs X.stack) ch H H' s.heap h') (hok : HOk X.prog X.w H' h') (hg : AllBare g')
  (hch : ∀ b ∈ ch, (b ∈ X.ex ∨ X.s₀.heap.objs.size <= b) /\ b ≠ X.env.locals /\ (∀ x c, X.env.cells.lookup x = some c -> c ≠ b) /\ ∀ p ∈ X.pn ++ pins, p.1 ≠ b) :
  Inv X pins σ H' { s with heap := h', gens := g', drawn := d', toks := t' } := by
 obtain ⟨m, ⟨o, es, ep, ho, r⟩, _⟩ := id I.loc
 obtain ⟨sl, hL⟩ := u.any ho I.free λ z => (hch _ z).2.1 rfl
 exact I.step (ch := ch) hch (λ b o hL hb hc e n => u.keep b o e n (λ z => (Zr.mp (I.QiV b z)).elim hL hb) hc) (λ b o _ _ hc e n => u.any e n hc) (λ b o hc e n => u.free b o e n hc) (λ b o hc e => u.there b o e hc) u.tups u.frzs u.tbls (λ m' hm => by
  obtain ⟨o', es', ep', ho', r'⟩ := hm
  rw [ho] at ho'; cases ho'
  exact ⟨_, es', ep', hL, r'⟩) hok hg
theorem Inv.turned {t' : Nat} {it : Addr} (I : Inv X pins σ H s) (k : ∀ b o, b ≠ it -> s.heap.get? b = some o -> h'.get? b = some o) (hn : H it = none) (hL : it ≠ X.env.locals)
  (h1 : it ∈ X.ex ∨ X.s₀.heap.objs.size <= it) (h2 : ∀ x c, X.env.cells.lookup x = some c -> c ≠ it) (h3 : ∀ p ∈ X.pn ++ pins, p.1 ≠ it) : Inv X pins σ H { s with heap := h', toks := t' } := by
 have nit : ∀ b u, H b = some u -> b ≠ it := λ b u e z => by rw [z, hn] at e; cases e
 refine I.step (g' := s.gens) (d' := s.drawn) (ch := [it]) (λ b hb => ?_) (λ b o _ _ hc e _ => k b o (λ z => hc (by simp [z])) e) (λ b o _ _ hc e _ => ⟨o.slots, k b o (λ z => hc (by simp [z])) e⟩) (λ _ _ _ _ n => n)
  (λ b o hc e => ⟨o, k b o (λ z => hc (by simp [z])) e⟩) (λ _ _ e => e) (λ _ _ _ e => e) (λ b ps e => ⟨#[], by rw [e]; simp⟩) (λ m hm => ?_) (λ b u e => ?_) I.bare
 ·have e : b = it := by simpa using hb
  subst e
  exact ⟨h1, hL, h2, h3⟩
 ·obtain ⟨o, es, ep, ho, r⟩ := hm
  exact ⟨o, es, ep, k _ o (Ne.symm hL) ho, r⟩
 ·refine (I.hok b u e).Qh2 (λ c v hc q => k c v ?_ q) (λ _ q => q) λ _ _ q => q
  rcases hc with z | z
  ·rw [z]; exact nit b u e
  ·exact nit c _ z
theorem Inv.tok (I : Inv X pins σ H s) (t : Nat) : Inv X pins σ H { s with toks := t } := I.un (h' := s.heap) (t' := t) Un.refl I.hok
theorem Inv.kept {t' : Nat} (I : Inv X pins σ H s) (k : ∀ b u, s.heap.get? b = some u -> h'.get? b = some u) : Inv X pins σ H { s with heap := h', toks := t' } := I.un (Un.kept k) (I.hok.kept k)
theorem Inv.laid {a : Addr} {o : HO} {t' : Nat} (I : Inv X pins σ H s) (k : ∀ b u, s.heap.get? b = some u -> h'.get? b = some u) (hp : s.heap.objs.size <= a) (new : Qck X.prog X.w (upd H a o) h' a o) :
  Inv X pins σ (upd H a o) { s with heap := h', toks := t' } := I.un (Un.laid k hp (I.hok.fresh hp)) (I.hok.laid k hp new)
theorem Inv.write {x e : Addr} {o : HO} {t' : Nat} (I : Inv X pins σ H s) (mu : Mut (H x)) (he : e = x ∨ H e = some (.own x)) (k : ∀ b u, b ≠ e -> s.heap.get? b = some u -> h'.get? b = some u) (heo : ∃ u, h'.get? e = some u)
  (new : Qck X.prog X.w (upd H x o) h' x o) : Inv X pins σ (upd H x o) { s with heap := h', toks := t' } := I.un (Un.write mu he k heo) (I.hok.write mu he k heo new)
theorem Inv.weak {σ' : List (Option V)} (I : Inv X pins σ H s) (hl : σ'.length = σ.length) (w : ∀ (i : Nat) v, σ'[i]? = some (some v) -> σ[i]? = some (some v)) : Inv X pins σ' H s :=
 ⟨I.ok, I.os, I.bare, I.base, let ⟨m, hn, hl'⟩ := I.loc; ⟨m, hn, λ i x v e1 e2 e3 => hl' i x v e1 (w i v e2) e3⟩, I.cell, I.free, I.freeC, I.pin, I.hok, hl.trans I.len⟩
theorem Inv.QnI {pins' : List (Addr × Obj)} (I : Inv X pins σ H s) (h : ∀ p ∈ pins', s.heap.get? p.1 = some p.2 /\ H p.1 = none /\ p.1 ≠ X.env.locals /\ p.1 ∉ X.fs /\ ∀ v, p.2.data ≠ .cell v) : Inv X pins' σ H s :=
 ⟨I.ok, I.os, I.bare, I.base, I.loc, I.cell, I.free, I.freeC, λ p hp => (ZE.mp hp).elim (λ z => I.pin p (Zl _ z)) (h p), I.hok, I.len⟩
theorem QlA {N : List Str} (hN : N.Nodup) {i j : Nat} {x : Str} (a : N[i]? = some x) (b : N[j]? = some x) : i = j := by
 obtain ⟨h1, e1⟩ := Zf.mp a
 obtain ⟨h2, e2⟩ := Zf.mp b
 exact (List.getElem_inj hN).mp (e1.trans e2.symm)
theorem Qkf {M : Model} {A : Around} {E : Value -> Shared -> Prop} {i : Nat} {x : Str} {v : V} {u : Value} {Q : Unit -> Shared -> Prop} (I : Inv X pins σ H s) (hN : X.N.Nodup) (hi : X.N[i]? = some x) (hx : Loc X.env.scope x) (r : RelV v u)
  (h : ∀ s', Inv X pins (σ.set i (some v)) H s' -> (∃ a, Heap.SameBut a s.heap s'.heap /\ (a = X.env.locals ∨ X.env.cells.lookup x = some a)) -> Q () s') (hf : X.fn x = true ∨ X.env.scope.names.lookup x = some .local := by first | exact .inl rfl | exact .inr rfl | assumption) : wpAny M A (storeName X.env x u) Q E s := by
 obtain ⟨m, hn, hl⟩ := id I.loc
 have hcls : (X.env.scope.kind == .class || (X.env.scope.kind == .module && X.env.locals != X.env.globals)) = false := by rw [I.ok.kind]; rfl
 have hiσ : i < σ.length := by rw [I.len]; exact (Zf.mp hi).1
 have cne := I.cne
 have tracked : ∀ {a : Addr} {h' : Heap}, (∃ o, s.heap.get? a = some o /\ H a = none) -> Heap.SameBut a s.heap h' -> HOk X.prog X.w H h' := λ {a h'} ha hs b ob e => by
  obtain ⟨_, _, hfree⟩ := ha
  refine (I.hok b ob e).Qh2 (λ c w' hc q => (hs.2 c ?_).trans q) (λ _ q => q) λ _ _ q => q
  rintro rfl
  rcases hc with rfl | hc
  ·rw [hfree] at e; cases e
  ·rw [hfree] at hc; cases hc
 rcases hx with hk | hk
 ·refine wpAny_storeName_local hk hn (λ h' hn' hs => ?_) hcls
  obtain ⟨oL, _, _, hoL, _⟩ := id hn
  refine h _ ⟨I.ok, I.os, I.bare, ⟨λ b o e n hb hx => ?_, λ b o e n hb hx => ?_, I.base.free, λ b o e hx => ?_, I.base.tups, I.base.frzs, I.base.tbls⟩, ⟨_, hn', λ j y v' e1 e2 e3 => ?_⟩, λ y c e => ?_, I.free, I.freeC, λ p hp => ?_, tracked ⟨oL, hoL, I.free⟩ hs, by simpa using I.len⟩ ⟨_, hs, .inl rfl⟩
  ·exact (hs.2 b (ZW (Zv (Zu e) I.ok.above))).trans (I.base.keep b o e n hb hx)
  ·obtain ⟨sl, e1⟩ := I.base.slot b o e n hb hx
   exact ⟨sl, (hs.2 b (ZW (Zv (Zu e) I.ok.above))).trans e1⟩
  ·obtain ⟨o', e1⟩ := I.base.there b o e hx
   exact ⟨o', (hs.2 b (ZW (Zv (Zu e) I.ok.above))).trans e1⟩
  ·by_cases hj : j = i
   ·subst hj
    rw [hi] at e1; cases e1
    rw [Zz hiσ] at e2
    cases e2
    exact ⟨u, r, .inl ⟨hk, by simp⟩⟩
   ·rw [Zj (Ne.symm hj)] at e2
    obtain ⟨u', r', q⟩ := hl j y v' e1 e2 e3
    refine ⟨u', r', ?_⟩
    rcases q with ⟨k, e⟩ | ⟨k, c, e, z⟩
    ·refine .inl ⟨k, ?_⟩
     have : y ≠ x := λ e => hj (QlA hN e1 (e ▸ hi))
     simp [this, e]
    ·exact .inr ⟨k, c, e, z.sameBut hs (cne y c e)⟩
  ·obtain ⟨w', z⟩ := I.cell y c e
   exact ⟨w', z.sameBut hs (cne y c e)⟩
  ·obtain ⟨e, n, ne, nf, d⟩ := I.pin p hp
   exact ⟨(hs.2 p.1 ne).trans e, n, ne, nf, d⟩
 ·have hfn : X.fn x = true := by
   rcases hf with z | z
   ·exact z
   ·rw [z] at hk; cases hk
  obtain ⟨c, hc⟩ := I.ok.has x (.inl hk)
  obtain ⟨w', z⟩ := I.cell x c hc
  refine wpAny_storeName_cell I.ok.kind hk hc z (λ h' hc' hs => ?_)
  obtain ⟨oc, hoc, hocd⟩ := id z
  refine h { s with heap := h' } ⟨I.ok, I.os, I.bare, ⟨λ b o e n hb hx => ?_, λ b o e n hb hx => ?_, I.base.free, λ b o e hx => ?_, I.base.tups, I.base.frzs, I.base.tbls⟩, ⟨m, hn.sameBut hs (Ne.symm (cne x c hc)), λ j y v' e1 e2 e3 => ?_⟩, λ y c' e => ?_, I.free, I.freeC, λ p hp => ?_, tracked ⟨oc, hoc, I.freeC x c hc⟩ hs, by simpa using I.len⟩ ⟨c, hs, .inr hc⟩
  ·exact (hs.2 b (ZW (Zv (Zu e) (I.ok.cab x c hfn hc)))).trans (I.base.keep b o e n hb hx)
  ·obtain ⟨sl, e1⟩ := I.base.slot b o e n hb hx
   exact ⟨sl, (hs.2 b (ZW (Zv (Zu e) (I.ok.cab x c hfn hc)))).trans e1⟩
  ·obtain ⟨o', e1⟩ := I.base.there b o e hx
   exact ⟨o', (hs.2 b (ZW (Zv (Zu e) (I.ok.cab x c hfn hc)))).trans e1⟩
  ·by_cases hj : j = i
   ·subst hj
    rw [hi] at e1; cases e1
    rw [Zz hiσ] at e2
    cases e2
    exact ⟨u, r, .inr ⟨.inl hk, c, hc, hc'⟩⟩
   ·rw [Zj (Ne.symm hj)] at e2
    obtain ⟨u', r', q⟩ := hl j y v' e1 e2 e3
    refine ⟨u', r', ?_⟩
    rcases q with q | ⟨k, c', e, z'⟩
    ·exact .inl q
    ·refine .inr ⟨k, c', e, z'.sameBut hs ?_⟩
     rintro rfl
     exact hj (QlA hN e1 (I.ok.inj _ _ _ e hc ▸ hi))
  ·by_cases hcc : c' = c
   ·subst hcc; exact ⟨_, hc'⟩
   ·obtain ⟨w2, z2⟩ := I.cell y c' e
    exact ⟨w2, z2.sameBut hs hcc⟩
  ·obtain ⟨e, n, ne, nf, d⟩ := I.pin p hp
   refine ⟨(hs.2 p.1 ?_).trans e, n, ne, nf, d⟩
   intro q
   rw [q, hoc] at e
   have q' : oc = p.2 := Option.some.inj e
   exact d w' (by rw [← q']; exact hocd)
theorem Qlo {M : Model} {A : Around} {E : Value -> Shared -> Prop} {i : Nat} {x : Str} {v : V} {u : Value} {Q : Unit -> Shared -> Prop} (I : Inv X pins σ H s) (hN : X.N.Nodup) (hi : X.N[i]? = some x) (hx : Loc X.env.scope x) (r : RelV v u)
  (h : ∀ s', Inv X pins (σ.set i (some v)) H s' -> Q () s') (hf : X.fn x = true ∨ X.env.scope.names.lookup x = some .local := by first | exact .inl rfl | exact .inr rfl | assumption) : wpAny M A (storeName X.env x u) Q E s :=
 Qkf I hN hi hx r (λ s' I' _ => h s' I') hf
theorem Inv.Qxk {s' : Shared} {ch : List Addr} (I : Inv X pins σ H s) (ho : s'.os = s.os) (u : Un (frs X.stack) ch H H' s.heap s'.heap) (hok : HOk X.prog X.w H' s'.heap) (hg : AllBare s'.gens)
  (hch : ∀ b ∈ ch, (b ∈ X.ex ∨ X.s₀.heap.objs.size <= b) /\ b ≠ X.env.locals /\ (∀ x c, X.env.cells.lookup x = some c -> c ≠ b) /\ ∀ p ∈ X.pn ++ pins, p.1 ≠ b) : Inv X pins σ H' s' := by
 obtain ⟨h', g', d', t', o'⟩ := s'
 have e : o' = s.os := ho
 subst e
 exact I.call (g' := g') (t' := t') (d' := d') u hok hg hch
end
noncomputable abbrev XK := Value -> Option Addr -> Hp -> Prop
noncomputable abbrev St := List (Option V)
noncomputable abbrev VK := V -> Hp -> Prop
noncomputable abbrev TE := St -> Hp -> VK -> Prop
noncomputable abbrev TT := St -> Hp -> (Bool -> Hp -> Prop) -> Prop
noncomputable abbrev TA := St -> Hp -> (List V -> Hp -> Prop) -> Prop
structure Ends where
 nx : St -> Hp -> Prop
 rt : VK
 bk : St -> Hp -> Prop := λ _ _ => False
 ct : St -> Hp -> Prop := λ _ _ => False
noncomputable abbrev TS := Ends -> St -> Hp -> Prop
def EP (X : Cx) (pins : List (Addr × Obj)) (σ : St) (Q : VK) (u : Value) (s' : Shared) : Prop := ∃ v H', Inv X pins σ H' s' /\ RelV v u /\ Q v H'
def TP (X : Cx) (pins : List (Addr × Obj)) (σ : St) (Q : Bool -> Hp -> Prop) (b : Bool) (s' : Shared) : Prop := ∃ H', Inv X pins σ H' s' /\ Q b H'
def AP (X : Cx) (pins : List (Addr × Obj)) (σ : St) (Q : List V -> Hp -> Prop) (us : List Value) (s' : Shared) : Prop := ∃ vs H', Inv X pins σ H' s' /\ Qy vs us /\ Q vs H'
def SP (X : Cx) (pins : List (Addr × Obj)) (D : Ends) (f : Flow) (s' : Shared) : Prop :=
 match f with
 | .next => ∃ σ' H', Inv X pins σ' H' s' /\ D.nx σ' H'
 | .brk => ∃ σ' H', Inv X pins σ' H' s' /\ D.bk σ' H'
 | .cont => ∃ σ' H', Inv X pins σ' H' s' /\ D.ct σ' H'
 | .ret u => ∃ v σ' H', Inv X pins σ' H' s' /\ RelV v u /\ D.rt v H'
def PE (X : Cx) (e : Expr) (t : TE) : Prop :=
 ∀ (pins : List (Addr × Obj)) (s : Shared) (σ : St) (H : Hp) (Q : VK), Inv X pins σ H s -> t σ H Q -> wpAny (model X.prog X.w) X.A (eval e X.env) (EP X pins σ Q) X.xe s
def PT (X : Cx) (e : Expr) (t : TT) : Prop :=
 ∀ (pins : List (Addr × Obj)) (s : Shared) (σ : St) (H : Hp) (Q : Bool -> Hp -> Prop), Inv X pins σ H s -> t σ H Q -> wpAny (model X.prog X.w) X.A (isTrue e X.env (eval e X.env)) (TP X pins σ Q) X.xe s
def PW (X : Cx) (e : Expr) (t : TT) : Prop :=
 ∀ (whole : Sem Value) (pins : List (Addr × Obj)) (s : Shared) (σ : St) (H : Hp) (Q : Bool -> Hp -> Prop), Inv X pins σ H s -> t σ H Q -> wpAny (model X.prog X.w) X.A (isTrue e X.env whole) (TP X pins σ Q) X.xe s
theorem PW.pt {X : Cx} {e : Expr} {t : TT} (h : PW X e t) : PT X e t := h _
def PA (X : Cx) (es : List Expr) (t : TA) : Prop :=
 ∀ (pos : Pos) (pins : List (Addr × Obj)) (s : Shared) (σ : St) (H : Hp) (Q : List V -> Hp -> Prop), Inv X pins σ H s -> t σ H Q -> wpAny (model X.prog X.w) X.A (spliced (backTo pos (starEach es X.env))) (AP X pins σ Q) X.xe s
def PS (X : Cx) (st : Stmt) (t : TS) : Prop :=
 ∀ (pins : List (Addr × Obj)) (s : Shared) (σ : St) (H : Hp) (D : Ends), Inv X pins σ H s -> t D σ H -> wpAny (model X.prog X.w) X.A (exec st X.env) (SP X pins D) X.xe s
def PSs (X : Cx) (st : List Stmt) (t : TS) : Prop :=
 ∀ (pins : List (Addr × Obj)) (s : Shared) (σ : St) (H : Hp) (D : Ends), Inv X pins σ H s -> t D σ H -> wpAny (model X.prog X.w) X.A (execs st X.env) (SP X pins D) X.xe s
theorem thn {α : Type} {t : Sem α} {Q Q' : α -> Shared -> Prop} {M : Model} {A : Around} {E : Value -> Shared -> Prop} {s : Shared} (h : wpAny M A t Q E s) (hQ : ∀ a s, Q a s -> Q' a s) : wpAny M A t Q' E s := wpAny_mono h hQ λ _ _ x => x
end L2
namespace L2
open PySem PySem.Spec PyProof.Rows
section
variable {X : Cx}
noncomputable def QjD (i : Nat) : TE := λ σ H Q => ∃ v, σ[i]? = some (some v) /\ Q v H
noncomputable def tC (v : V) : TE := λ _ H Q => Q v H
theorem QuP {i : Nat} {x : Str} {pos : Pos} (hN : X.N[i]? = some x) (hv : Vis X.env.scope x) (hd : (x == ("__debug__" : Str)) = false := by decide) (hcd : (x == ("__classdict__" : Str)) = false := by decide) : PE X (.Name x pos) (QjD i) := by
 intro pins s σ H Q I h
 obtain ⟨v, e, h⟩ := h
 obtain ⟨m, hn, hl⟩ := I.loc
 obtain ⟨u, r, l⟩ := hl i x v hN e hv
 have fin : EP X pins σ Q u s := ⟨v, H, I, r, h⟩
 rcases l with ⟨hk, hm⟩ | ⟨hk, c, hc, hcell⟩
 ·exact wpAny_Name (wpAny_loadName_local I.ok.kind hk hn hm fin) hd
 ·rcases hk with hk | hk
  ·exact wpAny_Name (wpAny_loadName_cell I.ok.kind hk hc hcell fin) hd
  ·exact wpAny_Name (wpAny_loadName_free I.ok.kind hk hc hcell fin hcd) hd
theorem Qmk {i j pos} : PE X (.Constant (.int i) j pos) (tC (.int i)) := λ _ _ _ H _ I h => wpAny_Constant_int ⟨.int i, H, I.tok _, ⟨_, rfl⟩, h⟩
theorem Qxi {b j pos} : PE X (.Constant (.bool b) j pos) (tC (.bl b)) := λ _ _ _ H _ I h => Constant_bool ⟨.bl b, H, I, rfl, h⟩
theorem Qvx {j pos} : PE X (.Constant .none j pos) (tC .non) := λ _ _ _ H _ I h => Constant_none ⟨.non, H, I, rfl, h⟩
theorem QvD {x j pos} : PE X (.Constant (.str x) j pos) (tC (.str x)) := λ _ _ _ H _ I h => Calls.Constant_str ⟨.str x, H, I.tok _, ⟨_, rfl⟩, h⟩
def Gl (X : Cx) (x : Str) : Prop := X.env.kindOf x = some .globalImplicit
theorem Qi6 {E : Value -> Shared -> Prop} {pins : List (Addr × Obj)} {s : Shared} {σ : St} {H : Hp} {x : Str} {u : Value} {pos : Pos} {Q : Value -> Shared -> Prop} (I : Inv X pins σ H s) (hg : Gl X x) (hm : X.mg x = some u) (h : Q u s)
  (hd : (x == ("__debug__" : Str)) = false := by decide) : wpAny (model X.prog X.w) X.A (eval (.Name x pos) X.env) Q E s :=
 Calls.Name_function_global I.ok.kind hg (Calls.loadGlobal_global (by rw [I.ok.glob]; exact I.mod.glob.keeps I.bk) hm h) hd
theorem Qcu {E : Value -> Shared -> Prop} {pins : List (Addr × Obj)} {s : Shared} {σ : St} {H : Hp} {x : Str} {u : Value} {pos : Pos} {Q : Value -> Shared -> Prop} (I : Inv X pins σ H s) (hg : Gl X x) (hm : X.mg x = none) (hv : bootBuiltins x = some u) (h : Q u s)
  (hn : x ≠ "__name__" := by decide) (hd : (x == ("__debug__" : Str)) = false := by decide) : wpAny (model X.prog X.w) X.A (eval (.Name x pos) X.env) Q E s := by
 obtain ⟨mb, h1, h2⟩ := I.mod.blt
 exact Calls.Name_function_global I.ok.kind hg (Calls.loadGlobal_builtin (by rw [I.ok.glob]; exact I.mod.glob.keeps I.bk) hm (by rw [I.ok.blt]; exact h1.keeps I.bk) ((h2 x hn).trans hv) h) hd
theorem QtT {x : Str} {v : V} {u : Value} {pos : Pos} (hg : Gl X x) (hm : X.mg x = some u) (r : RelV v u) (hd : (x == ("__debug__" : Str)) = false := by decide) : PE X (.Name x pos) (tC v) :=
 λ _ _ _ H _ I h => Qi6 I hg hm ⟨v, H, I, r, h⟩ hd
theorem Qfm {x : Str} {v : V} {u : Value} {pos : Pos} (hg : Gl X x) (hm : X.mg x = none) (hv : bootBuiltins x = some u) (r : RelV v u) (hn : x ≠ "__name__" := by decide) (hd : (x == ("__debug__" : Str)) = false := by decide) : PE X (.Name x pos) (tC v) :=
 λ _ _ _ H _ I h => Qcu I hg hm hv ⟨v, H, I, r, h⟩ hn hd
variable {a b : Expr} {ta tb : TE} {pos : Pos}
variable {tA tB' : TT} {rest : List Expr}
noncomputable def Qyc (t u : TT) : TT := λ σ H Q => t σ H λ c H1 => if c = true then u σ H1 Q else Q false H1
noncomputable def tOr (t u : TT) : TT := λ σ H Q => t σ H λ c H1 => if c = true then Q true H1 else u σ H1 Q
noncomputable def Qyd (t : TT) : TT := λ σ H Q => t σ H λ c H1 => Q (!c) H1
theorem Qur (ha : PT X a tA) : PW X (.BoolOp .And [a] pos) tA := by
 intro wh pins s σ H Q I h
 refine isTrue_and (thn (ha pins s σ H Q I h) λ c s1 e => ?_)
 cases c with
 | true => exact isTrue_and_nil e
 | false => exact e
theorem QuO (ha : PT X a tA) : PW X (.BoolOp .Or [a] pos) tA := by
 intro wh pins s σ H Q I h
 refine isTrue_or (thn (ha pins s σ H Q I h) λ c s1 e => ?_)
 cases c with
 | false => exact isTrue_or_nil e
 | true => exact e
theorem Qwe (ha : PT X a tA) (hb : PW X (.BoolOp .And (b :: rest) pos) tB') : PW X (.BoolOp .And (a :: b :: rest) pos) (Qyc tA tB') := by
 intro wh pins s σ H Q I h
 refine isTrue_and (thn (ha pins s σ H _ I h) λ c s1 ⟨H1, I1, q1⟩ => ?_)
 cases c with
 | true => exact hb wh pins s1 σ H1 Q I1 q1
 | false => exact ⟨H1, I1, q1⟩
theorem Qxq (ha : PT X a tA) (hb : PW X (.BoolOp .Or (b :: rest) pos) tB') : PW X (.BoolOp .Or (a :: b :: rest) pos) (tOr tA tB') := by
 intro wh pins s σ H Q I h
 refine isTrue_or (thn (ha pins s σ H _ I h) λ c s1 ⟨H1, I1, q1⟩ => ?_)
 cases c with
 | true => exact ⟨H1, I1, q1⟩
 | false => exact hb wh pins s1 σ H1 Q I1 q1
theorem Qv4 (ha : PT X a tA) : PT X (.UnaryOp .Not a pos) (Qyd tA) := by
 intro pins s σ H Q I h
 exact isTrue_not (ha pins s σ H (λ c H1 => Q (!c) H1) I h)
theorem Qwm {op} {t : TE} (h : PE X a t) : PE X (.BoolOp op [a] pos) t := λ pins s σ H Q I hw => BoolOp_one (h pins s σ H Q I hw)
end
end L2
namespace L2
open PySem PySem.Spec PyProof.Rows
def SqL (K : PySem.W.Frag) (H : Hp) (a : Addr) (xs : List V) : Prop :=
 Rd H a (.lst xs) ∨
  ∃ (o : Obj) (its : Array Value) (n : Nat), K.lookup a = some o /\ o.cls = .type "list" /\ o.dict = none /\ o.data = .seq its n /\ its.size <= sizeLine /\ Qy xs its.toList
def SqT (K : PySem.W.Frag) (H : Hp) (a : Addr) (xs : List V) : Prop :=
 Rd H a (.tup xs) ∨
  ∃ (o : Obj) (its : Array Value) (n : Nat), K.lookup a = some o /\ o.cls = .type "tuple" /\ o.data = .seq its n /\ its.size <= sizeLine /\ Qy xs its.toList
noncomputable def QxE : Value -> Option V
 | .none => some .non
 | .bool b => some (.bl b)
 | .int i _ => some (.int i)
 | .str x _ => some (.str x)
 | .bytes b _ => some (.byt b)
 | .float b _ => some (.flt b)
 | .ref a => some (.ref a)
 | .type n => some (.ty n)
 | _ => none
theorem RelV.abs {x : V} {u : Value} (r : RelV x u) : QxE u = some x := by
 cases x with
 | non => cases r; rfl
 | bl _ => cases r; rfl
 | int _ => obtain ⟨t, rfl⟩ := r; rfl
 | str _ => obtain ⟨t, rfl⟩ := r; rfl
 | byt _ => obtain ⟨t, rfl⟩ := r; rfl
 | flt _ => obtain ⟨t, rfl⟩ := r; rfl
 | ref _ => cases r; rfl
 | ty _ => cases r; rfl
theorem RelV.inj {x y : V} {u : Value} (r : RelV x u) (q : RelV y u) : x = y := Option.some.inj (r.abs.symm.trans q.abs)
theorem Qy.inj : ∀ {xs ys : List V} {us : List Value}, Qy xs us -> Qy ys us -> xs = ys
 | _, _, _, .nil, .nil => rfl
 | _, _, _, .cons r t, .cons r' t' => by rw [r.inj r', Qy.inj t t']
section
variable {X : Cx} {pins : List (Addr × Obj)} {σ : St} {H : Hp} {s : Shared} {a : Addr} {xs ys : List V}
theorem SqL.of {K : PySem.W.Frag} (h : H a = some (.lst xs)) : SqL K H a xs := .inl (.inl h)
theorem SqT.of {K : PySem.W.Frag} (h : H a = some (.tup xs)) : SqT K H a xs := .inl (.inl h)
theorem Inv.list (I : Inv X pins σ H s) (h : SqL X.K H a xs) : ∃ its : List Value, Qy xs its /\ PlainL s.heap a its.toArray /\ xs.length <= sizeLine := by
 rcases h with h | ⟨o, its, n, hk, hc, hd, hs, hz, r⟩
 ·obtain ⟨z, its, n, r, e⟩ := h.ok I.hok
  exact ⟨its, r, ⟨_, n, e, rfl, rfl, rfl⟩, z⟩
 ·refine ⟨its.toList, r, ⟨o, n, I.kIn a o hk, hc, hd, by simpa using hs⟩, ?_⟩
  have e := r.length
  simp only [Zaa] at e
  omega
theorem Inv.tuple (I : Inv X pins σ H s) (h : SqT X.K H a xs) : ∃ its : List Value, Qy xs its /\ IsTup s.heap a its.toArray /\ xs.length <= sizeLine := by
 rcases h with h | ⟨o, its, n, hk, hc, hs, hz, r⟩
 ·obtain ⟨z, its, r, p⟩ := h.ok I.hok
  exact ⟨its, r, p, z⟩
 ·refine ⟨its.toList, r, ⟨o, I.kIn a o hk, hc, n, by simpa using hs⟩, ?_⟩
  have e := r.length
  simp only [Zaa] at e
  omega
theorem Inv.Qc2 (I : Inv X pins σ H s) (h : SqL X.K H a xs) (h' : SqL X.K H a ys) : xs = ys := by
 obtain ⟨its, r, ⟨o, n, e, _, _, d⟩, _⟩ := I.list h
 obtain ⟨its', r', ⟨o', n', e', _, _, d'⟩, _⟩ := I.list h'
 rw [e] at e'; cases e'
 rw [d] at d'
 injection d' with d1 _
 have : its = its' := by simpa using congrArg Array.toList d1
 subst this
 exact r.inj r'
theorem Inv.Qp5 (I : Inv X pins σ H s) (h : SqT X.K H a xs) (h' : SqT X.K H a ys) : xs = ys := by
 obtain ⟨its, r, ⟨o, e, _, n, d⟩, _⟩ := I.tuple h
 obtain ⟨its', r', ⟨o', e', _, n', d'⟩, _⟩ := I.tuple h'
 rw [e] at e'; cases e'
 rw [d] at d'
 injection d' with d1 _
 have : its = its' := by simpa using congrArg Array.toList d1
 subst this
 exact r.inj r'
end
noncomputable abbrev Cx.Qe3 (X : Cx) (E : Value -> Shared -> Prop) : Cx := { X with xe := E }
noncomputable abbrev Cx.nox (X : Cx) : Cx := X.Qe3 λ _ _ => False
theorem Cx.Ok.Qe3 {X : Cx} (ok : X.Ok) (E : Value -> Shared -> Prop) : (X.Qe3 E).Ok :=
 ⟨ok.mod, ok.kind, ok.glob, ok.blt, ok.above, ok.inj, ok.has, ok.cab, ok.hd, ok.frames, ok.stk, ok.exf, ok.bs, ok.bsz, ok.noex, ok.exfs, ok.Qer, ok.frf⟩
theorem Cx.Ok.QdN {X : Cx} {E : Value -> Shared -> Prop} (ok : (X.Qe3 E).Ok) : X.Ok :=
 ⟨ok.mod, ok.kind, ok.glob, ok.blt, ok.above, ok.inj, ok.has, ok.cab, ok.hd, ok.frames, ok.stk, ok.exf, ok.bs, ok.bsz, ok.noex, ok.exfs, ok.Qer, ok.frf⟩
section
variable {X : Cx} {pins : List (Addr × Obj)} {σ : St} {H : Hp} {s : Shared} {E : Value -> Shared -> Prop}
theorem Inv.Qe3 (I : Inv X pins σ H s) (E : Value -> Shared -> Prop) : Inv (X.Qe3 E) pins σ H s := ⟨I.ok.Qe3 E, I.os, I.bare, I.base, I.loc, I.cell, I.free, I.freeC, I.pin, I.hok, I.len⟩
theorem Inv.QdN (I : Inv (X.Qe3 E) pins σ H s) : Inv X pins σ H s := ⟨I.ok.QdN, I.os, I.bare, I.base, I.loc, I.cell, I.free, I.freeC, I.pin, I.hok, I.len⟩
theorem SP.QdN {D : Ends} {f : Flow} {s' : Shared} (h : SP (X.Qe3 E) pins D f s') : SP X pins D f s' := by
 cases f with
 | next => obtain ⟨σ', H', I, q⟩ := h; exact ⟨σ', H', I.QdN, q⟩
 | brk => obtain ⟨σ', H', I, q⟩ := h; exact ⟨σ', H', I.QdN, q⟩
 | cont => obtain ⟨σ', H', I, q⟩ := h; exact ⟨σ', H', I.QdN, q⟩
 | ret u => obtain ⟨v, σ', H', I, r, q⟩ := h; exact ⟨v, σ', H', I.QdN, r, q⟩
theorem PSs.nox {st : List Stmt} {t : TS} (h : PSs X.nox st t) : PSs X st t := λ pins s σ H D I hw =>
 wpAny_mono (h pins s σ H D (I.Qe3 _) hw) (λ _ _ q => q.QdN) λ _ _ z => False.elim z
end
section
variable {X : Cx} {st : Stmt} {rest : List Stmt} {t u : TS} {e : Expr} {te : TE} {pos : Pos}
noncomputable def Qoc : TS := λ D σ H => D.nx σ H
noncomputable def Qx8 (t u : TS) : TS := λ D σ H => t { D with nx := u D } σ H
theorem Qth : PSs X [] Qoc := λ _ _ σ H _ I h => wpAny_execs_nil ⟨σ, H, I, h⟩
theorem Qrp (h1 : PS X st t) (h2 : PSs X rest u) : PSs X (st :: rest) (Qx8 t u) := by
 intro pins s σ H D I h
 refine wpAny_execs_cons (thn (h1 pins s σ H { D with nx := u D } I h) λ f s1 q => ?_)
 cases f with
 | next =>
  obtain ⟨σ', H', I', q⟩ := q
  exact h2 pins s1 σ' H' D I' q
 | ret v => exact q
 | brk => exact q
 | cont => exact q
noncomputable def QvA : TS := λ D σ H => D.bk σ H
noncomputable def QwD : TS := λ D σ H => D.ct σ H
theorem Qte : PS X (.Pass pos) Qoc := λ _ _ σ H _ I h => wpAny_Pass ⟨σ, H, I, h⟩
theorem Qrc : PS X (.Break pos) QvA := λ _ _ σ H _ I h => wpAny_Break ⟨σ, H, I, h⟩
theorem Qm9 : PS X (.Continue pos) QwD := λ _ _ σ H _ I h => wpAny_Continue ⟨σ, H, I, h⟩
theorem Inv.quiet {pins : List (Addr × Obj)} {σ : St} {H : Hp} {s : Shared} (I : Inv X pins σ H s) : interactive X.env = false := by simp [interactive, I.ok.kind]
theorem Qu8 {x j pos pos'} : PS X (.Expr (.Constant (.str x) j pos) pos') Qoc := λ _ s σ H _ I h => wpAny_Expr (Calls.Constant_str (show SP X _ _ .next { s with toks := s.toks + 1 } from ⟨σ, H, I.tok _, h⟩)) I.quiet
noncomputable def QfB (te : TE) : TS := λ D σ H => te σ H λ _ H1 => D.nx σ H1
theorem Qeb (he : PE X e te) (hs : swapsWith e none pos.line X.env = pure false := by rfl) : PS X (.Expr e pos) (QfB te) := by
 intro pins s σ H D I h
 exact wpAny_Expr_any (thn (he pins s σ H _ I h) λ v s1 ⟨x, H1, I1, r1, q1⟩ => ⟨σ, H1, I1, q1⟩) I.quiet hs
noncomputable def QxK (te : TE) : TS := λ D σ H => te σ H D.rt
theorem Qwf (he : PE X e te) : PS X (.Return (some e) pos) (QxK te) := by
 intro pins s σ H D I h
 exact wpAny_Return_some (thn (he pins s σ H _ I h) λ v s1 ⟨x, H1, I1, r1, q1⟩ => ⟨x, σ, H1, I1, r1, q1⟩)
noncomputable def Qxa : TS := λ D _ H => D.rt .non H
theorem Qtx : PS X (.Return none pos) Qxa := λ _ _ σ H _ I h => wpAny_Return_none ⟨.non, σ, H, I, rfl, h⟩
noncomputable def QxL (c : TT) (t u : TS) : TS := λ D σ H => c σ H λ b H1 => if b = true then t D σ H1 else u D σ H1
theorem QwP {c : Expr} {a b : List Stmt} {tc : TT} (hc : PT X c tc) (ha : PSs X a t) (hb : PSs X b u) : PS X (.If c a b pos) (QxL tc t u) := by
 intro pins s σ H D I h
 refine wpAny_If (thn (hc pins s σ H _ I h) λ d s1 ⟨H1, I1, q1⟩ => ?_)
 cases d with
 | true => exact ha pins s1 σ H1 D I1 q1
 | false => exact hb pins s1 σ H1 D I1 q1
noncomputable def Qvp : TS := λ _ _ _ => False
theorem QrY : PS X st Qvp := λ _ _ _ _ _ _ h => h.elim
end
noncomputable abbrev TG := V -> St -> Hp -> (St -> Hp -> Prop) -> Prop
noncomputable abbrev TGs := List V -> St -> Hp -> (St -> Hp -> Prop) -> Prop
def PG (X : Cx) (target : Expr) (t : TG) : Prop :=
 ∀ (pins : List (Addr × Obj)) (s : Shared) (σ : St) (H : Hp) (v : V) (u : Value) (Q : St -> Hp -> Prop), Inv X pins σ H s -> RelV v u -> t v σ H Q →
  wpAny (model X.prog X.w) X.A (assign target X.env u) (λ _ s' => ∃ σ' H', Inv X pins σ' H' s' /\ Q σ' H') X.xe s
def PGs (X : Cx) (ts : List Expr) (t : TGs) : Prop :=
 ∀ (pins : List (Addr × Obj)) (s : Shared) (σ : St) (H : Hp) (vs : List V) (us : List Value) (Q : St -> Hp -> Prop), Inv X pins σ H s -> Qy vs us -> t vs σ H Q →
  wpAny (model X.prog X.w) X.A (assignInOrder ((assignEach ts X.env).map (·.2)) us) (λ _ s' => ∃ σ' H', Inv X pins σ' H' s' /\ Q σ' H') X.xe s
noncomputable abbrev QlS := V -> V -> V -> Hp -> (Hp -> Prop) -> Prop
def Qr4 (X : Cx) (t : QlS) : Prop :=
 ∀ (pins : List (Addr × Obj)) (s : Shared) (σ : St) (H : Hp) (o i v : V) (ov iv u : Value) (Q : Hp -> Prop), Inv X pins σ H s -> RelV o ov -> RelV i iv -> RelV v u -> t o i v H Q →
  wpAny (model X.prog X.w) X.A (setItem ov iv u) (λ _ s' => ∃ H', Inv X pins σ H' s' /\ Q H') X.xe s
noncomputable abbrev TIp := V -> V -> Hp -> VK -> Prop
def PIp (X : Cx) (op : Operator) (t : TIp) : Prop :=
 ∀ (pins : List (Addr × Obj)) (s : Shared) (σ : St) (H : Hp) (x y : V) (v u : Value) (Q : VK), Inv X pins σ H s -> RelV x v -> RelV y u -> t x y H Q →
  wpAny (model X.prog X.w) X.A (inplaceOp op v u) (EP X pins σ Q) X.xe s
section
variable {X : Cx} {pos : Pos}
noncomputable def Qg7 (i : Nat) : TG := λ v σ H Q => Q (σ.set i (some v)) H
theorem QnU {i : Nat} {x : Str} (hN : X.N.Nodup) (hi : X.N[i]? = some x) (hx : Loc X.env.scope x) (hf : X.fn x = true ∨ X.env.scope.names.lookup x = some .local := by first | exact .inl rfl | exact .inr rfl | assumption) : PG X (.Name x pos) (Qg7 i) := by
 intro pins s σ H v u Q I r h
 exact wpAny_assign_Name (Qlo I hN hi hx r (λ s' I' => ⟨_, H, I', h⟩) hf)
noncomputable def Qvw : TGs := λ vs σ H Q => vs = [] /\ Q σ H
noncomputable def QsW (t : TG) (u : TGs) : TGs := λ vs σ H Q => ∃ v r, vs = v :: r /\ t v σ H λ σ' H' => u r σ' H' Q
theorem Qt2 : PGs X [] Qvw := by
 intro pins s σ H vs us Q I r h
 obtain ⟨e, h⟩ := h
 subst e
 cases r
 exact assignInOrder_nil ⟨σ, H, I, h⟩
theorem Qrb {e : Expr} {es : List Expr} {t : TG} {u : TGs} (h1 : PG X e t) (h2 : PGs X es u)
  (hs : (assignEach (e :: es) X.env).map (·.2) = assign e X.env :: (assignEach es X.env).map (·.2) := by rfl) : PGs X (e :: es) (QsW t u) := by
 intro pins s σ H vs us Q I r h
 obtain ⟨v, vr, e1, h⟩ := h
 subst e1
 cases r with
 | cons r rr =>
  rw [hs]
  refine assignInOrder_cons (thn (h1 pins s σ H _ _ _ I r h) λ _ s1 ⟨σ1, H1, I1, q1⟩ => ?_)
  exact h2 pins s1 σ1 H1 _ _ Q I1 rr q1
noncomputable def QxQ (K : PySem.W.Frag) (n : Nat) (t : TGs) : TG := λ v σ H Q => ∃ a xs, v = .ref a /\ SqT K H a xs /\ xs.length = n /\ t xs σ H Q
theorem Qu9 {es : List Expr} {k : Nat} {t : TGs} {n : Nat} (hc : X.calm = true) (h : PGs X es t)
  (hn : (assignEach es X.env).length = n := by rfl) (hst : (assignEach es X.env).findIdx? (·.1) = none := by rfl) : PG X (.Tuple es k pos) (QxQ X.K n t) := by
 intro pins s σ H v u Q I r hw
 obtain ⟨a, xs, e1, hq, hl, hw⟩ := hw
 subst e1
 cases r
 obtain ⟨its, rv, ht, hz⟩ := I.tuple hq
 refine assign_Tuple_tuple (I.ok.hd hc) ht (by simp [hn, ← hl, rv.length]) hst λ h' hx => ?_
 have I1 : Inv X pins σ H { s with heap := h' } := I.kept (t' := s.toks) λ b o e => hx b o (ZW (Zu e)) e
 exact h pins _ σ H xs _ Q I1 (by simpa using rv) hw
noncomputable def Qat (to ti : TE) (t : QlS) : TG := λ v σ H Q => to σ H λ o H1 => ti σ H1 λ i H2 => t o i v H2 λ H3 => Q σ H3
theorem QuU {o i : Expr} {to ti : TE} {t : QlS} (ho : PE X o to) (hi : PE X i ti) (hs : Qr4 X t)
  (ha : ∀ v, assign (.Subscript o i pos) X.env v = (do
   let ov ← holding [v] (eval o X.env)
   let iv ← holding [v, ov] (eval i X.env)
   standAt pos
   holding [v, ov, iv] (setItem ov iv v)
   release [v, ov, iv] []) := by intro _; rfl) : PG X (.Subscript o i pos) (Qat to ti t) := by
 intro pins s σ H v u Q I r h
 rw [ha]
 refine wpAny_bind (wpAny_holding (thn (ho pins s σ H _ I h) λ ov s1 ⟨x, H1, I1, r1, q1⟩ => ?_))
 refine wpAny_bind (wpAny_holding (thn (hi pins s1 σ H1 _ I1 q1) λ iv s2 ⟨y, H2, I2, r2, q2⟩ => ?_))
 refine wpAny_bind (wpAny_standAt (wpAny_bind (wpAny_holding (thn (hs pins s2 σ H2 x y v ov iv u _ I2 r1 r2 r q2) λ _ s3 ⟨H3, I3, q3⟩ => ?_))))
 exact wpAny_release ⟨σ, H3, I3, q3⟩
noncomputable def Qla (te : TE) (g : TG) : TS := λ D σ H => te σ H λ x H1 => g x σ H1 D.nx
theorem QoX {tg e : Expr} {te : TE} {g : TG} (he : PE X e te) (hg : PG X tg g) (hs : swapsWithSole [tg] e pos.line X.env = pure false := by rfl) (hw : swappedStores [tg] e X.env = pure none := by rfl)
  (h1 : (assignEach [tg] X.env).map (·.2) = [assign tg X.env] := by rfl) : PS X (.Assign [tg] e pos) (Qla te g) := by
 intro pins s σ H D I h
 refine wpAny_Assign_stores (thn (he pins s σ H _ I h) λ v s1 ⟨x, H1, I1, r1, q1⟩ => ?_) hs hw
 rw [h1]
 exact thn (hg pins s1 σ H1 x v _ I1 r1 q1) λ _ s2 q => q
theorem Ql6 {i : Nat} {x : Str} {e : Expr} {te : TE} {pos' : Pos} (hN : X.N.Nodup) (hi : X.N[i]? = some x) (hx : Loc X.env.scope x) (he : PE X e te) (hs : swapsWith e (some (.Name x pos')) pos.line X.env = pure false := by rfl) (hf : X.fn x = true ∨ X.env.scope.names.lookup x = some .local := by first | exact .inl rfl | exact .inr rfl | assumption) :
  PS X (.Assign [.Name x pos'] e pos) (Qla te (Qg7 i)) := by
 intro pins s σ H D I h
 refine wpAny_Assign_Name (thn (he pins s σ H _ I h) λ v s1 ⟨y, H1, I1, r1, q1⟩ => ?_) hs
 exact Qlo I1 hN hi hx r1 (λ s2 I2 => ⟨_, H1, I2, q1⟩) hf
noncomputable def QwZ (to ti te : TE) (tget : V -> V -> Hp -> VK -> Prop) (tip : TIp) (tset : QlS) : TS := λ D σ H => to σ H λ o H1 => ti σ H1 λ i H2 => tget o i H2 λ x H3 => te σ H3 λ y H4 => tip x y H4 λ z H5 => tset o i z H5 λ H6 => D.nx σ H6
def Qvb (X : Cx) (t : V -> V -> Hp -> VK -> Prop) : Prop :=
 ∀ (pins : List (Addr × Obj)) (s : Shared) (σ : St) (H : Hp) (o i : V) (ov iv : Value) (Q : VK), Inv X pins σ H s -> RelV o ov -> RelV i iv -> t o i H Q →
  wpAny (model X.prog X.w) X.A (getItem ov iv) (EP X pins σ Q) X.xe s
theorem QtE {o i e : Expr} {to ti te : TE} {tget : V -> V -> Hp -> VK -> Prop} {tip : TIp} {tset : QlS} {op : Operator} {tpos : Pos} (ho : PE X o to) (hi : PE X i ti) (hg : Qvb X tget) (he : PE X e te) (hp : PIp X op tip) (hs : Qr4 X tset)
  (ha : ∀ ov iv new, augStore i ov iv new = (do holding [new, ov, iv] (setItem ov iv new); release [new, ov, iv] []; pure .next) := by intros; rfl) : PS X (.AugAssign (.Subscript o i tpos) op e pos) (QwZ to ti te tget tip tset) := by
 intro pins s σ H D I h
 refine wpAny_AugAssign_SubscriptAny (thn (ho pins s σ H _ I h) λ ov s1 ⟨x1, H1, I1, r1, q1⟩ => ?_) ha
 refine thn (hi pins s1 σ H1 _ I1 q1) λ iv s2 ⟨x2, H2, I2, r2, q2⟩ => ?_
 refine thn (hg pins s2 σ H2 x1 x2 ov iv _ I2 r1 r2 q2) λ old s3 ⟨x3, H3, I3, r3, q3⟩ => ?_
 refine thn (he pins s3 σ H3 _ I3 q3) λ v s4 ⟨x4, H4, I4, r4, q4⟩ => ?_
 refine thn (hp pins s4 σ H4 x3 x4 old v _ I4 r3 r4 q4) λ new s5 ⟨x5, H5, I5, r5, q5⟩ => ?_
 exact thn (hs pins s5 σ H5 x1 x2 x5 ov iv new _ I5 r1 r2 r5 q5) λ _ s6 ⟨H6, I6, q6⟩ => ⟨σ, H6, I6, q6⟩
end
section
variable {X : Cx} {pos : Pos}
noncomputable def QuX (c : TT) (tb : TS) : TS := λ D σ H => ∃ W : Nat -> St -> Hp -> Prop, (∃ m, W m σ H) /\ ∀ m σ H, W m σ H →
 c σ H λ b H1 => if b = true then ∃ N : St -> Hp -> Prop, (∀ σ' H', N σ' H' -> ∃ m', m' < m /\ W m' σ' H') /\ tb { D with nx := N, ct := N, bk := D.nx } σ H1 else D.nx σ H1
theorem Qr2 {c : Expr} {body : List Stmt} {tc : TT} {tb : TS} (hp : PassesOwn (model X.prog X.w) X.A X.env X.xe) (hc : PT X c tc) (hb : PSs X body tb) : PS X (.While c body [] pos) (QuX tc tb) := by
 intro pins s σ H D I h
 obtain ⟨W, ⟨m0, w0⟩, turn⟩ := h
 refine wpAny_While (codeAny_whileLoop (λ n s' => ∃ σ' H', Inv X pins σ' H' s' /\ W n σ' H') ?_ m0 ⟨σ, H, I, w0⟩)
 rintro n s1 ⟨σ1, H1, I1, w1⟩
 refine wpAny_passesOwn hp (thn (hc pins s1 σ1 H1 _ I1 (turn n σ1 H1 w1)) λ b s2 ⟨H2, I2, q2⟩ => ?_)
 cases b with
 | true =>
  obtain ⟨N, hN, q2⟩ := q2
  rw [if_pos rfl]
  refine wpAny_passesOwn hp (thn (hb pins s2 σ1 H2 _ I2 q2) λ f s3 q3 => ?_)
  cases f with
  | next =>
   obtain ⟨σ3, H3, I3, n3⟩ := q3
   obtain ⟨m', hm, w3⟩ := hN σ3 H3 n3
   exact ⟨m', hm, σ3, H3, I3, w3⟩
  | cont =>
   obtain ⟨σ3, H3, I3, n3⟩ := q3
   obtain ⟨m', hm, w3⟩ := hN σ3 H3 n3
   exact ⟨m', hm, σ3, H3, I3, w3⟩
  | brk => exact q3
  | ret v => exact q3
 | false =>
  rw [if_neg Zay]
  exact wpAny_execs_nil ⟨σ1, H2, I2, q2⟩
end
structure It where
 go : Nat -> Hp -> Prop
 yld : Nat -> Hp -> V -> Hp -> Prop
 stop : Nat -> Hp -> Prop
def QdJ (X : Cx) (pins : List (Addr × Obj)) (H : Hp) (b : Addr) : Prop :=
 H b = none /\ b ≠ X.env.locals /\ b ∉ X.fs /\ (b ∈ X.ex ∨ X.s₀.heap.objs.size <= b) /\ (∀ x c, X.env.cells.lookup x = some c -> c ≠ b) /\ ∀ p ∈ X.pn ++ pins, p.1 ≠ b
theorem Inv.Qie {X : Cx} {pins : List (Addr × Obj)} {σ : St} {H H' : Hp} {s : Shared} {b : Addr} (I : Inv X pins σ H s) (hb : s.heap.objs.size <= b) (hn : H' b = none) : QdJ X pins H' b := by
 refine ⟨hn, Zbl (Zv I.lt hb), I.Qx1 hb, .inr (ZF I.sz hb), λ x c e z => ?_, λ p hp z => ?_⟩
 ·obtain ⟨v, q⟩ := I.cell x c e
  exact absurd (Zv q.lt (by rw [z]; exact hb)) (ZS _)
 ·exact absurd (Zv (Zu (I.pin p hp).1) (by rw [z]; exact hb)) (ZS _)
structure Turn (P : Program) (w : World) (K : PySem.W.Frag) (tg : Expr) (J : It) (fp : List Addr) (it : Addr) (tn : Nat -> Heap -> Prop) : Prop where
 mem : it ∈ fp
 obj : ∀ i h, tn i h -> ∀ b ∈ fp, ∃ o, h.get? b = some o /\ ∀ v, o.data ≠ .cell v
 keep : ∀ i h h', tn i h -> (∀ b ∈ fp, ∀ o, h.get? b = some o -> h'.get? b = some o) -> tn i h'
 item : ∀ (X : Cx), X.prog = P -> X.w = w -> X.K = K -> X.calm = true -> ∀ (i : Nat) (pins : List (Addr × Obj)) (s : Shared) (σ : St) (H : Hp) (E : Value -> Shared -> Prop), Inv X pins σ H s -> (∀ b ∈ fp, QdJ X pins H b) -> tn i s.heap -> J.go i H →
  wpAny (model P w) X.A (pyNext (.ref it)) (λ r s1 => ∃ u, r = some u ∧
   wpAny (model P w) X.A (letOwnedTupleGo tg (.ref it) u) (λ _ s2 => ∃ x H', Inv X pins σ H' s2 /\ RelV x u /\ J.yld i H x H' /\ tn (i + 1) s2.heap /\ ∀ b ∈ fp, H' b = none) E s1) E s
 done : ∀ (X : Cx), X.prog = P -> X.w = w -> X.K = K -> X.calm = true -> ∀ (i : Nat) (pins : List (Addr × Obj)) (s : Shared) (σ : St) (H : Hp) (E : Value -> Shared -> Prop), Inv X pins σ H s -> (∀ b ∈ fp, QdJ X pins H b) -> tn i s.heap -> J.stop i H →
  wpAny (model P w) X.A (pyNext (.ref it)) (λ r s1 => r = none /\ Inv X pins σ H s1) E s
 self : ∀ (A : Around) (i : Nat) (s : Shared) (Q : Value -> Shared -> Prop) (E : Value -> Shared -> Prop), tn i s.heap -> Q (.ref it) s -> wpAny (model P w) A (pyIter (.ref it)) Q E s
noncomputable abbrev TI := St -> Hp -> (It -> Hp -> Prop) -> Prop
def PIE (X : Cx) (pins : List (Addr × Obj)) (σ : St) (tg : Expr) (R : It -> Hp -> Prop) (itv : Value) (s2 : Shared) : Prop :=
 ∃ (it : Addr) (fp : List Addr) (tn : Nat -> Heap -> Prop) (J : It) (H' : Hp), itv = .ref it /\ Inv X pins σ H' s2 /\ Turn X.prog X.w X.K tg J fp it tn /\ tn 0 s2.heap /\ (∀ b ∈ fp, QdJ X pins H' b) /\ R J H'
def PI (X : Cx) (tg iter : Expr) (wi : TI) : Prop :=
 ∀ (pins : List (Addr × Obj)) (s : Shared) (σ : St) (H : Hp) (R : It -> Hp -> Prop), Inv X pins σ H s -> wi σ H R →
  wpAny (model X.prog X.w) X.A (eval iter X.env) (λ v s1 => wpAny (model X.prog X.w) X.A (pyIter v) (PIE X pins σ tg R) X.xe s1) X.xe s
theorem QkT {M : Model} {A : Around} {E : Value -> Shared -> Prop} {s : Shared} {tg : Expr} {it : Addr} {u : Value} {o : Obj} {n : String} {vs : Array Value} {Q : Unit -> Shared -> Prop} (ho : s.heap.get? it = some o) (hc : o.cls = .type n) (hd : o.data = .fields vs)
    (hn : ["enumerate", "zip", "dict_itemiterator", "dict_reverseitemiterator", "odict_iterator", "itertools.zip_longest", "itertools.pairwise"].contains n = false) (hQ : Q () s) : wpAny M A (letOwnedTupleGo tg (.ref it) u) Q E s := by
  unfold letOwnedTupleGo
  cases tg <;> first
    | exact wpAny_pure hQ
    | (cases u <;> first
        | exact wpAny_pure hQ
        | (refine wpAny_bind (wpAny_load ho ?_)
           rw [hc, hd]
           show wpAny M A (if (["enumerate", "zip", "dict_itemiterator", "dict_reverseitemiterator", "odict_iterator", "itertools.zip_longest", "itertools.pairwise"].contains n && vs[0]? == some (rawInt _)) = true then _ else _) Q E s
           rw [if_neg (by intro h; rw [hn, Bool.false_and] at h; cases h)]
           exact wpAny_pure hQ))
noncomputable def Itl (K : PySem.W.Frag) (a : Addr) : It :=
 ⟨λ i H => ∃ xs x, SqL K H a xs /\ xs[i]? = some x, λ i H x H' => H' = H /\ ∀ xs, SqL K H a xs -> xs[i]? = some x, λ i H => ∃ xs, SqL K H a xs /\ xs.length <= i⟩
noncomputable def Itt (K : PySem.W.Frag) (a : Addr) : It :=
 ⟨λ i H => ∃ xs x, SqT K H a xs /\ xs[i]? = some x, λ i H x H' => H' = H /\ ∀ xs, SqT K H a xs -> xs[i]? = some x, λ i H => ∃ xs, SqT K H a xs /\ xs.length <= i⟩
noncomputable def Itr (lo : Int) (n : Nat) : It := ⟨λ i _ => i < n, λ i H x H' => H' = H /\ x = .int (lo + i), λ i _ => n <= i⟩
theorem Qpk {P : Program} {w : World} {K : PySem.W.Frag} {tg : Expr} (a it : Addr) : Turn P w K tg (Itl K a) [it] it (λ i h => h.IsListIter it a i) where
 mem := by simp
 obj := λ i h st b hb => by
  have e : b = it := by simpa using hb
  subst e
  obtain ⟨o, e, c, d⟩ := st
  exact ⟨o, e, λ v z => by rw [d] at z; cases z⟩
 keep := λ i h h' st k => st.at λ o e => k it (by simp) o e
 item := by
  intro X hP hw hK hc i pins s σ H E I hf st hg
  subst hP hw hK
  obtain ⟨xs, x, hq, hx⟩ := hg
  obtain ⟨its, rv, p, hz⟩ := I.list hq
  obtain ⟨u, hu, ru⟩ := rv.get hx
  obtain ⟨f0, f1, f2, f3, f4, f5⟩ := hf it (by simp)
  refine wpAny_pyNext_list_item st p.isList (x := u) (by simpa using hu) λ h' st' sb => ?_
  have I1 : Inv X pins σ H { s with heap := h' } := I.turned (t' := s.toks) (λ b o hb e => (sb.2 b hb).trans e) f0 f1 f3 f4 f5
  obtain ⟨o, e, c, d⟩ := id st'
  exact ⟨u, rfl, QkT (s := { s with heap := h' }) e c d (by decide) ⟨x, H, I1, ru, ⟨rfl, λ ys hy => by rw [I.Qc2 hy hq]; exact hx⟩, st', λ b hb => (hf b hb).1⟩⟩
 done := by
  intro X hP hw hK hc i pins s σ H E I hf st hg
  subst hP hw hK
  obtain ⟨xs, hq, hx⟩ := hg
  obtain ⟨its, rv, p, hz⟩ := I.list hq
  obtain ⟨f0, f1, f2, f3, f4, f5⟩ := hf it (by simp)
  have hl := rv.length
  exact wpAny_pyNext_list_end (I.ok.hd hc) st p.isList (by simp; omega) λ h' eb => ⟨rfl, I.turned (t' := s.toks) (λ b o hb e => eb b o hb e) f0 f1 f3 f4 f5⟩
 self := λ _ _ _ _ _ st h => wpAny_pyIter_listiter st h
theorem Qon {P : Program} {w : World} {K : PySem.W.Frag} {tg : Expr} (a it : Addr) : Turn P w K tg (Itt K a) [it] it (λ i h => h.IsTupleIter it a i) where
 mem := by simp
 obj := λ i h st b hb => by
  have e : b = it := by simpa using hb
  subst e
  obtain ⟨o, e, c, d⟩ := st
  exact ⟨o, e, λ v z => by rw [d] at z; cases z⟩
 keep := λ i h h' st k => st.at λ o e => k it (by simp) o e
 item := by
  intro X hP hw hK hc i pins s σ H E I hf st hg
  subst hP hw hK
  obtain ⟨xs, x, hq, hx⟩ := hg
  obtain ⟨its, rv, p, hz⟩ := I.tuple hq
  obtain ⟨u, hu, ru⟩ := rv.get hx
  obtain ⟨f0, f1, f2, f3, f4, f5⟩ := hf it (by simp)
  refine wpAny_pyNext_tuple_item st (show s.heap.IsTuple a its.toArray from p) (x := u) (by simpa using hu) λ h' st' sb => ?_
  have I1 : Inv X pins σ H { s with heap := h' } := I.turned (t' := s.toks) (λ b o hb e => (sb.2 b hb).trans e) f0 f1 f3 f4 f5
  obtain ⟨o, e, c, d⟩ := id st'
  exact ⟨u, rfl, QkT (s := { s with heap := h' }) e c d (by decide) ⟨x, H, I1, ru, ⟨rfl, λ ys hy => by rw [I.Qp5 hy hq]; exact hx⟩, st', λ b hb => (hf b hb).1⟩⟩
 done := by
  intro X hP hw hK hc i pins s σ H E I hf st hg
  subst hP hw hK
  obtain ⟨xs, hq, hx⟩ := hg
  obtain ⟨its, rv, p, hz⟩ := I.tuple hq
  obtain ⟨f0, f1, f2, f3, f4, f5⟩ := hf it (by simp)
  have hl := rv.length
  exact wpAny_pyNext_tuple_end (I.ok.hd hc) st (show s.heap.IsTuple a its.toArray from p) (by simp; omega) λ h' eb => ⟨rfl, I.turned (t' := s.toks) (λ b o hb e => eb b o hb e) f0 f1 f3 f4 f5⟩
 self := λ _ _ _ _ _ st h => wpAny_pyIter_tupleiter st h
theorem QoT {P : Program} {w : World} {K : PySem.W.Frag} {tg : Expr} (it : Addr) (lo : Int) (n : Nat) : Turn P w K tg (Itr lo n) [it] it (λ i h => IsRangeIter h it (lo + (i : Nat) * 1) ((n : Int) - (i : Nat)) 1) where
 mem := by simp
 obj := λ i h st b hb => by
  have e : b = it := by simpa using hb
  subst e
  exact ⟨_, st, λ v z => by
   have z' : Data.fields _ = Data.cell v := z
   cases z'⟩
 keep := λ i h h' st k => k it (by simp) _ st
 item := by
  intro X hP hw hK hc i pins s σ H E I hf st hg
  subst hP hw hK
  obtain ⟨f0, f1, f2, f3, f4, f5⟩ := hf it (by simp)
  have W := Walks.range (prog := X.prog) (w := X.w) (I.ok.hd hc) it lo 1 n
  refine W.item i s _ _ hg st λ v h' tk hv st' kk => ?_
  obtain ⟨t, rfl⟩ := hv
  have I1 : Inv X pins σ H { s with heap := h', toks := tk } := I.turned (λ b o hb e => kk b o (by simpa using hb) e) f0 f1 f3 f4 f5
  refine ⟨_, rfl, QkT (s := { s with heap := h', toks := tk }) (n := "range_iterator") st' rfl rfl (by decide) ⟨.int (lo + i), H, I1, ⟨t, ?_⟩, ⟨rfl, rfl⟩, st', λ b hb => (hf b hb).1⟩⟩
  rw [Zbk]
 done := by
  intro X hP hw hK hc i pins s σ H E I hf st hg
  subst hP hw hK
  obtain ⟨f0, f1, f2, f3, f4, f5⟩ := hf it (by simp)
  exact wpAny_pyNext_range_end (I.ok.hd hc) st (by have : n <= i := hg; omega) λ h' eb => ⟨rfl, I.turned (t' := s.toks) (λ b o hb e => eb b o hb e) f0 f1 f3 f4 f5⟩
 self := λ _ _ _ _ _ st h => wpAny_pyIter_rangeiter st h
end L2
namespace L2
open PySem PySem.Spec PyProof.Rows
section
variable {X : Cx} {tg : Expr}
theorem QlJ {pins : List (Addr × Obj)} {σ : St} {H : Hp} {s : Shared} {R : It -> Hp -> Prop} {E : Value -> Shared -> Prop} {lo hi : Int} {t u v : Tok} {tk : Nat} (I : Inv X pins σ H s) (h1 : -(2 ^ 62) <= lo) (h2 : lo < 2 ^ 62) (h3 : -(2 ^ 62) <= hi) (h4 : hi < 2 ^ 62)
  (q : R (Itr lo (hi - lo).toNat) H) : wpAny (model X.prog X.w) X.A (pyIter (.ref s.heap.objs.size)) (PIE X pins σ tg R) E { s with heap := s.heap.push { cls := .type "range", data := .fields #[.int lo t, .int hi u, .int 1 v] }, toks := tk } := by
 refine wpAny_pyIter_range (IsRange.new ..) (small_one h1 h2 h3 h4) ?_
 have I1 : Inv X pins σ H { s with heap := s.heap.push { cls := .type "range", data := .fields #[.int lo t, .int hi u, .int 1 v] }, toks := tk } := I.kept λ b o e => Zb _ e
 refine ⟨(s.heap.push { cls := .type "range", data := .fields #[.int lo t, .int hi u, .int 1 v] }).objs.size, [(s.heap.push { cls := .type "range", data := .fields #[.int lo t, .int hi u, .int 1 v] }).objs.size], _, _, H, rfl,
  I1.kept (t' := tk) λ b o e => Zb _ e, QoT _ lo (hi - lo).toNat, ?_, λ b hb => ?_, q⟩
 ·have e1 : lo + ((0 : Nat) : Int) * 1 = lo := by simp
  have e2 : (((hi - lo).toNat : Nat) : Int) - ((0 : Nat) : Int) = Builtin.Range.rangeSize lo hi 1 := by rw [rangeSize_one]; split <;> omega
  show IsRangeIter _ _ (lo + ((0 : Nat) : Int) * 1) ((((hi - lo).toNat : Nat) : Int) - ((0 : Nat) : Int)) 1
  rw [e1, e2]
  exact ZA _ rfl
 ·have e : b = (s.heap.push { cls := .type "range", data := .fields #[.int lo t, .int hi u, .int 1 v] }).objs.size := by simpa using hb
  subst e
  exact I1.Qie (Zm _) (I1.hok.fresh (Zm _))
noncomputable def QwQ (ta : TA) : TI := λ σ H R => ta σ H λ vs H1 => ∃ j : Int, vs = [.int j] /\ -(2 ^ 62) <= j /\ j < 2 ^ 62 /\ R (Itr 0 j.toNat) H1
noncomputable def Qw6 (ta : TA) : TI := λ σ H R => ta σ H λ vs H1 => ∃ i j : Int, vs = [.int i, .int j] /\ (-(2 ^ 62) <= i /\ i < 2 ^ 62 /\ -(2 ^ 62) <= j /\ j < 2 ^ 62) /\ R (Itr i (j - i).toNat) H1
theorem QpF {a : Expr} {ta : TA} {p pos : Pos} (hg : Gl X "range") (hm : X.mg "range" = none) (ha : PA X [a] ta) (hs : starEach [a] X.env = [(false, eval a X.env)] := by rfl) : PI X tg (.Call (.Name "range" p) [a] [] pos) (QwQ ta) := by
 intro pins s σ H R I h
 refine Call_ (Qcu I hg hm boot_range (ZP (thn (ha pos pins s σ H _ I h) λ us s1 ⟨vs, H1, I1, r1, q1⟩ => ?_) hs rfl))
 obtain ⟨j, e, q1, q2, q⟩ := q1
 subst e
 cases r1 with
 | cons r rr =>
  cases rr
  obtain ⟨t, rfl⟩ := r
  exact call_range_1 (QlJ I1 (by omega) (by omega) q1 q2 (by simpa using q))
theorem Qqc {a b : Expr} {ta : TA} {p pos : Pos} (hg : Gl X "range") (hm : X.mg "range" = none) (ha : PA X [a, b] ta) (hs : starEach [a, b] X.env = [(false, eval a X.env), (false, eval b X.env)] := by rfl) (hs2 : starEach [b] X.env = [(false, eval b X.env)] := by rfl) :
  PI X tg (.Call (.Name "range" p) [a, b] [] pos) (Qw6 ta) := by
 intro pins s σ H R I h
 refine Call_ (Qcu I hg hm boot_range (ZP (thn (ha pos pins s σ H _ I h) λ us s1 ⟨vs, H1, I1, r1, q1⟩ => ?_) (by rw [hs, hs2]) (by rw [hs2]; rfl)))
 obtain ⟨i, j, e, ⟨q1, q2, q3, q4⟩, q⟩ := q1
 subst e
 cases r1 with
 | cons r rr =>
  cases rr with
  | cons r' rr =>
   cases rr
   obtain ⟨t, rfl⟩ := r
   obtain ⟨t', rfl⟩ := r'
   exact call_range_2 (QlJ I1 q1 q2 q3 q4 q)
noncomputable def QxI (wi : TI) (g : TG) (tb : TS) : TS := λ D σ H => wi σ H λ J H1 => ∃ W : Nat -> Nat -> St -> Hp -> Prop, (∃ m, W 0 m σ H1) /\ ∀ i m σ H, W i m σ H →
 (J.stop i H /\ D.nx σ H) ∨ (J.go i H /\ ∃ N : St -> Hp -> Prop, (∀ σ' H', N σ' H' -> ∃ m', m' < m /\ W (i + 1) m' σ' H') /\ ∀ x H', J.yld i H x H' -> g x σ H' λ σ2 H2 => tb { D with nx := N, ct := N, bk := D.nx } σ2 H2)
noncomputable def Qgo (fp : List Addr) (h : Heap) : List (Addr × Obj) := fp.filterMap λ b => (h.get? b).map λ o => (b, o)
theorem QfV {fp : List Addr} {h : Heap} {b : Addr} {o : Obj} (hb : b ∈ fp) (e : h.get? b = some o) : (b, o) ∈ Qgo fp h := Zbh.mpr ⟨b, hb, by rw [e]; rfl⟩
theorem QpV {fp : List Addr} {h : Heap} {p : Addr × Obj} (hp : p ∈ Qgo fp h) : p.1 ∈ fp /\ h.get? p.1 = some p.2 := by
 obtain ⟨b, hb, e⟩ := Zbh.mp hp
 cases q : h.get? b with
 | none => rw [q] at e; cases e
 | some o =>
  rw [q] at e
  have e' : (b, o) = p := Option.some.inj e
  subst e'
  exact ⟨hb, q⟩
theorem Inv.pinned {pins : List (Addr × Obj)} {σ : St} {H : Hp} {s : Shared} {fp : List Addr} (I : Inv X pins σ H s) (hf : ∀ b ∈ fp, QdJ X pins H b) (ho : ∀ b ∈ fp, ∃ o, s.heap.get? b = some o /\ ∀ v, o.data ≠ .cell v) : Inv X (pins ++ Qgo fp s.heap) σ H s :=
 I.QnI λ p hp => (ZE.mp hp).elim (λ z => I.pin p (Ze _ z)) λ z => by
  obtain ⟨hb, e⟩ := QpV z
  obtain ⟨f0, f1, f2, _⟩ := hf p.1 hb
  obtain ⟨o, e', d⟩ := ho p.1 hb
  rw [e] at e'; cases e'
  exact ⟨e, f0, f1, f2, d⟩
theorem Inv.QfW {pins pl : List (Addr × Obj)} {σ : St} {H : Hp} {s : Shared} (I : Inv X (pins ++ pl) σ H s) : Inv X pins σ H s := I.QnI λ p hp => I.pin p (Ze _ (Zl _ hp))
theorem Qwr {iter : Expr} {body : List Stmt} {wi : TI} {g : TG} {tb : TS} {pos : Pos} (hp : PassesOwn (model X.prog X.w) X.A X.env X.xe) (hc : X.calm = true) (hi : PI X tg iter wi) (hg : PG X tg g) (hb : PSs X body tb)
  (hs : ∀ x, foldedSetIterable iter X.env x = pure x := by intro _; rfl) : PS X (.For tg iter body [] pos) (QxI wi g tb) := by
 intro pins s σ H D I h
 refine wpAny_For (thn (hi pins s σ H _ I h) λ v s1 h1 => thn h1 λ itv s2 h2 => ?_) hs
 obtain ⟨it, fp, tn, J, H2, e, I2, T, st2, f2, W, ⟨m0, w0⟩, turn⟩ := h2
 subst e
 have stat : ∀ {H' : Hp}, (∀ b ∈ fp, H' b = none) -> ∀ b ∈ fp, QdJ X pins H' b := λ hn b hb => ⟨hn b hb, (f2 b hb).2⟩
 refine codeAny_forLoop_any (λ n s' => ∃ i σ' H', Inv X pins σ' H' s' /\ tn i s'.heap /\ (∀ b ∈ fp, H' b = none) /\ W i n σ' H') ?_ m0 ⟨0, σ, H2, I2, st2, λ b hb => (f2 b hb).1, w0⟩
 rintro n s3 ⟨i, σ3, H3, I3, st3, fr3, w3⟩
 rcases turn i n σ3 H3 w3 with ⟨stop, qn⟩ | ⟨go, N, hN, step⟩
 ·refine wpAny_passesOwn hp (thn (T.done X rfl rfl rfl hc i pins s3 σ3 H3 X.xe I3 (stat fr3) st3 stop) λ r s4 ⟨hr, I4⟩ => ?_)
  subst hr
  exact wpAny_execs_nil ⟨σ3, H3, I4, qn⟩
 ·refine wpAny_passesOwn hp (thn (T.item X rfl rfl rfl hc i pins s3 σ3 H3 X.xe I3 (stat fr3) st3 go) λ r s4 ⟨u, hr, h4⟩ => ?_)
  subst hr
  refine wpAny_passesOwn hp (thn h4 λ _ s5 ⟨x, H5, I5, r5, y5, st5, fr5⟩ => ?_)
  have I5' := I5.pinned (stat fr5) (T.obj _ _ st5)
  refine wpAny_passesOwn hp (thn (hg _ s5 σ3 H5 x u _ I5' r5 (step x H5 y5)) λ _ s6 ⟨σ6, H6, I6, q6⟩ => ?_)
  refine wpAny_passesOwn hp (thn (hb _ s6 σ6 H6 _ I6 q6) λ f s7 q7 => ?_)
  have again : ∀ {σ7 : St} {H7 : Hp}, Inv X (pins ++ Qgo fp s5.heap) σ7 H7 s7 -> N σ7 H7 -> ∃ m, m < n /\ ∃ i σ' H', Inv X pins σ' H' s7 /\ tn i s7.heap /\ (∀ b ∈ fp, H' b = none) /\ W i m σ' H' := λ {σ7 H7} I7 n7 => by
   obtain ⟨m', hm, w7⟩ := hN σ7 H7 n7
   refine ⟨m', hm, i + 1, σ7, H7, I7.QfW, T.keep _ _ _ st5 λ b hb o e => (I7.pin (b, o) (Ze _ (Ze _ (QfV hb e)))).1, λ b hb => ?_, w7⟩
   obtain ⟨o, e, d⟩ := T.obj _ _ st5 b hb
   exact (I7.pin (b, o) (Ze _ (Ze _ (QfV hb e)))).2.1
  cases f with
  | next => obtain ⟨σ7, H7, I7, n7⟩ := q7; exact again I7 n7
  | cont => obtain ⟨σ7, H7, I7, n7⟩ := q7; exact again I7 n7
  | brk => obtain ⟨σ7, H7, I7, q7⟩ := q7; exact ⟨σ7, H7, I7.QfW, q7⟩
  | ret v => obtain ⟨x7, σ7, H7, I7, r7, q7⟩ := q7; exact ⟨x7, σ7, H7, I7.QfW, r7, q7⟩
end
end L2
namespace L2
open PySem PySem.Spec PyProof.Rows
noncomputable abbrev R2 := V -> V -> Hp -> VK -> Prop
def OpR (X : Cx) (f : Value -> Value -> Sem Value) (r : R2) : Prop :=
 ∀ (pins : List (Addr × Obj)) (s : Shared) (σ : St) (H : Hp) (x y : V) (v u : Value) (Q : VK), Inv X pins σ H s -> RelV x v -> RelV y u -> r x y H Q →
  wpAny (model X.prog X.w) X.A (f v u) (EP X pins σ Q) X.xe s
def UnR (X : Cx) (f : Value -> Sem Value) (r : V -> Hp -> VK -> Prop) : Prop :=
 ∀ (pins : List (Addr × Obj)) (s : Shared) (σ : St) (H : Hp) (x : V) (v : Value) (Q : VK), Inv X pins σ H s -> RelV x v -> r x H Q →
  wpAny (model X.prog X.w) X.A (f v) (EP X pins σ Q) X.xe s
def QcV (X : Cx) (f : Value) (r : List V -> Hp -> VK -> Prop) : Prop :=
 ∀ (pins : List (Addr × Obj)) (s : Shared) (σ : St) (H : Hp) (xs : List V) (us : List Value) (Q : VK), Inv X pins σ H s -> Qy xs us -> r xs H Q →
  wpAny (model X.prog X.w) X.A (call f us) (EP X pins σ Q) X.xe s
def QxO (X : Cx) (r : V -> Hp -> (Bool -> Hp -> Prop) -> Prop) : Prop :=
 ∀ (pins : List (Addr × Obj)) (s : Shared) (σ : St) (H : Hp) (x : V) (v : Value) (Q : Bool -> Hp -> Prop), Inv X pins σ H s -> RelV x v -> r x H Q →
  wpAny (model X.prog X.w) X.A (truthy v) (TP X pins σ Q) X.xe s
noncomputable def tOp (r : R2) (ta tb : TE) : TE := λ σ H Q => ta σ H λ x H1 => tb σ H1 λ y H2 => r x y H2 Q
noncomputable def tUn (r : V -> Hp -> VK -> Prop) (ta : TE) : TE := λ σ H Q => ta σ H λ x H1 => r x H1 Q
noncomputable def rI (C : Int -> Int -> Prop) (g : Int -> Int -> V) : R2 := λ x y H Q => ∃ i j, x = .int i /\ y = .int j /\ C i j /\ Q (g i j) H
noncomputable def rI0 (g : Int -> Int -> V) : R2 := λ x y H Q => ∃ i j, x = .int i /\ y = .int j /\ Q (g i j) H
noncomputable def rU (g : Int -> V) : V -> Hp -> VK -> Prop := λ x H Q => ∃ i, x = .int i /\ Q (g i) H
section
variable {X : Cx} {a b c : Expr} {ta tb tc : TE} {pos : Pos}
theorem Qrt (ha : PE X a ta) (hb : PE X b tb) {pins : List (Addr × Obj)} {s : Shared} {σ : St} {H : Hp} {R : V -> V -> Hp -> Prop} (I : Inv X pins σ H s)
  (h : ta σ H λ x H1 => tb σ H1 λ y H2 => R x y H2) {Q : Value -> Shared -> Prop} {f : Value -> Value -> Sem Value}
  (hf : ∀ v u s2 x y H2, Inv X pins σ H2 s2 -> RelV x v -> RelV y u -> R x y H2 -> wpAny (model X.prog X.w) X.A (f v u) Q X.xe s2) :
  wpAny (model X.prog X.w) X.A (eval a X.env) (λ v s₁ => wpAny (model X.prog X.w) X.A (eval b X.env) (λ u s₂ => wpAny (model X.prog X.w) X.A (f v u) Q X.xe s₂) X.xe s₁) X.xe s := by
 refine thn (ha pins s σ H _ I h) λ v s1 ⟨x, H1, I1, r1, q1⟩ => ?_
 refine thn (hb pins s1 σ H1 _ I1 q1) λ u s2 ⟨y, H2, I2, r2, q2⟩ => ?_
 exact hf v u s2 x y H2 I2 r1 r2 q2
theorem Qoj {op : Operator} {r : R2} (ho : OpR X (binaryOp op) r) (ha : PE X a ta) (hb : PE X b tb) : PE X (.BinOp a op b pos) (tOp r ta tb) := by
 intro pins s σ H Q I h
 exact wpAny_BinOp (Qrt ha hb I h λ v u s2 x y H2 I2 rx ry q => ho pins s2 σ H2 x y v u Q I2 rx ry q)
theorem Qw9 {op : UnaryOp} {r : V -> Hp -> VK -> Prop} (ho : UnR X (unaryOp op) r) (ha : PE X a ta) : PE X (.UnaryOp op a pos) (tUn r ta) := by
 intro pins s σ H Q I h
 exact UnaryOp_ (thn (ha pins s σ H _ I h) λ v s1 ⟨x, H1, I1, r1, q1⟩ => ho pins s1 σ H1 x v Q I1 r1 q1)
theorem Qx4 {op : Operator} {r : R2} (ho : OpR X (inplaceOp op) r) {pins : List (Addr × Obj)} {s : Shared} {σ : St} {H : Hp} {x y : V} {v u : Value} {Q : VK} (I : Inv X pins σ H s)
  (rx : RelV x v) (ry : RelV y u) (q : r x y H Q) : wpAny (model X.prog X.w) X.A (inplaceOp op v u) (EP X pins σ Q) X.xe s := ho pins s σ H x y v u Q I rx ry q
theorem opI {f : Value -> Value -> Sem Value} {C : Int -> Int -> Prop} {g : Int -> Int -> Int}
  (rule : ∀ (i j : Int) (t u : Tok) (s : Shared) (Q : Value -> Shared -> Prop) (E : Value -> Shared -> Prop), C i j -> Q (.int (g i j) s.toks) { s with toks := s.toks + 1 } -> wpAny (model X.prog X.w) X.A (f (.int i t) (.int j u)) Q E s) :
  OpR X f (rI C λ i j => .int (g i j)) := by
 intro pins s σ H x y v u Q I rx ry h
 obtain ⟨i, j, rfl, rfl, hc, q⟩ := h
 obtain ⟨t, rfl⟩ := rx
 obtain ⟨t', rfl⟩ := ry
 exact rule i j t t' s _ _ hc ⟨.int (g i j), H, I.tok _, ⟨_, rfl⟩, q⟩
theorem Qog {f : Value -> Value -> Sem Value} {g : Int -> Int -> Int}
  (rule : ∀ (i j : Int) (t u : Tok) (s : Shared) (Q : Value -> Shared -> Prop) (E : Value -> Shared -> Prop), Q (.int (g i j) s.toks) { s with toks := s.toks + 1 } -> wpAny (model X.prog X.w) X.A (f (.int i t) (.int j u)) Q E s) :
  OpR X f (rI0 λ i j => .int (g i j)) := by
 intro pins s σ H x y v u Q I rx ry h
 obtain ⟨i, j, rfl, rfl, q⟩ := h
 obtain ⟨t, rfl⟩ := rx
 obtain ⟨t', rfl⟩ := ry
 exact rule i j t t' s _ _ ⟨.int (g i j), H, I.tok _, ⟨_, rfl⟩, q⟩
theorem Qoi {f : Value -> Value -> Sem Value} {g : Int -> Int -> Bool}
  (rule : ∀ (i j : Int) (t u : Tok) (s : Shared) (Q : Value -> Shared -> Prop) (E : Value -> Shared -> Prop), Q (.bool (g i j)) s -> wpAny (model X.prog X.w) X.A (f (.int i t) (.int j u)) Q E s) :
  OpR X f (rI0 λ i j => .bl (g i j)) := by
 intro pins s σ H x y v u Q I rx ry h
 obtain ⟨i, j, rfl, rfl, q⟩ := h
 obtain ⟨t, rfl⟩ := rx
 obtain ⟨t', rfl⟩ := ry
 exact rule i j t t' s _ _ ⟨.bl (g i j), H, I, rfl, q⟩
theorem QoS (k : Nat) : (0 : Int) <= 2 ^ k := by
 rw [two_pow_cast]
 exact Int.natCast_nonneg _
theorem QvB : OpR X (binaryOp .Add) (rI0 λ i j => .int (i + j)) := Qog λ _ _ _ _ _ _ _ q => add_int q
theorem QuY : OpR X (binaryOp .Sub) (rI0 λ i j => .int (i - j)) := Qog λ _ _ _ _ _ _ _ q => sub_int q
theorem Qwi : OpR X (binaryOp .RShift) (rI (λ _ j => 0 <= j) λ i j => .int (i / 2 ^ j.toNat)) := opI λ i j _ _ _ _ _ hc q =>
 rshift_int hc (by rw [ZbC i (QoS _)]; exact q)
theorem Quv : OpR X (inplaceOp .Add) (rI0 λ i j => .int (i + j)) := Qog λ _ _ _ _ _ _ _ q => iadd_int q
theorem QtH : OpR X (inplaceOp .Sub) (rI0 λ i j => .int (i - j)) := Qog λ _ _ _ _ _ _ _ q => isub_int q
theorem unI {f : Value -> Sem Value} {g : Int -> Int}
  (rule : ∀ (i : Int) (t : Tok) (s : Shared) (Q : Value -> Shared -> Prop) (E : Value -> Shared -> Prop), Q (.int (g i) s.toks) { s with toks := s.toks + 1 } -> wpAny (model X.prog X.w) X.A (f (.int i t)) Q E s) :
  UnR X f (rU λ i => .int (g i)) := by
 intro pins s σ H x v Q I rx h
 obtain ⟨i, rfl, q⟩ := h
 obtain ⟨t, rfl⟩ := rx
 exact rule i t s _ _ ⟨.int (g i), H, I.tok _, ⟨_, rfl⟩, q⟩
theorem Qu0 : UnR X (unaryOp .USub) (rU λ i => .int (-i)) := unI λ _ _ _ _ _ q => neg_int q
end
section
variable {X : Cx} {a b c : Expr} {ta tb tc : TE} {pos : Pos}
theorem Qxh : OpR X (compareOp .Lt) (rI0 λ i j => .bl (decide (i < j))) := Qoi λ _ _ _ _ _ _ _ q => lt_int q
theorem QwH : OpR X (compareOp .LtE) (rI0 λ i j => .bl (decide (i <= j))) := Qoi λ _ _ _ _ _ _ _ q => le_int q
theorem QwV : OpR X (compareOp .Gt) (rI0 λ i j => .bl (decide (j < i))) := Qoi λ _ _ _ _ _ _ _ q => gt_int q
theorem QwY : OpR X (compareOp .GtE) (rI0 λ i j => .bl (decide (j <= i))) := Qoi λ _ _ _ _ _ _ _ q => ge_int q
theorem OpR.or {f : Value -> Value -> Sem Value} {r r' : R2} (h : OpR X f r) (h' : OpR X f r') : OpR X f (λ x y H Q => r x y H Q ∨ r' x y H Q) := by
 intro pins s σ H x y v u Q I rx ry q
 rcases q with q | q
 ·exact h pins s σ H x y v u Q I rx ry q
 ·exact h' pins s σ H x y v u Q I rx ry q
theorem QtQ {op : CmpOp} {r : R2} (ho : OpR X (compareOp op) r) (ha : PE X a ta) (hb : PE X b tb) (hm : behindInMarks op b = false) : PE X (.Compare a [op] [b] pos) (tOp r ta tb) := by
 intro pins s σ H Q I h
 exact wpAny_Compare1 (Qrt ha hb I h λ v u s2 x y H2 I2 rx ry q => ho pins s2 σ H2 x y v u Q I2 rx ry q) hm
noncomputable def QwO (t : TE) : TT := λ σ H Q => t σ H λ x H' => ∃ k, x = .bl k /\ Q k H'
theorem Quk {op : CmpOp} {r : R2} (ho : OpR X (compareOp op) r) (ha : PE X a ta) (hb : PE X b tb) (hm : behindInMarks op b = false) : PT X (.Compare a [op] [b] pos) (QwO (tOp r ta tb)) := by
 intro pins s σ H Q I h
 refine wpAny_isTrue_Compare1 (thn (ha pins s σ H _ I h) λ v s1 ⟨x, H1, I1, r1, q1⟩ => thn (hb pins s1 σ H1 _ I1 q1) λ u s2 ⟨y, H2, I2, r2, q2⟩ =>
  thn (ho pins s2 σ H2 x y v u _ I2 r1 r2 q2) λ c s3 ⟨z, H3, I3, r3, k, e, q3⟩ => ?_) hm
 subst e
 cases r3
 exact wpAny_truthy_bool ⟨H3, I3, q3⟩
def QsD (K : PySem.W.Frag) (x : V) (H : Hp) (k : Bool) : Prop :=
 match x with
 | .non => k = false
 | .bl b => k = b
 | .int i => k = (i != 0)
 | .str y => y.length <= sizeLine /\ k = ((y.length : Int) != 0)
 | .byt y => y.size <= sizeLine /\ k = ((y.size : Int) != 0)
 | .ref p => (∃ xs, SqL K H p xs /\ k = !xs.isEmpty) ∨ (∃ xs, SqT K H p xs /\ k = !xs.isEmpty) ∨ ∃ kvs, H p = some (.dK kvs) /\ k = !kvs.isEmpty
 | _ => False
theorem QoP {κ : Type} {kvs : List (κ × V)} {vs : List (κ × Value)} (r : KV kvs vs) : (!vs.isEmpty) = !kvs.isEmpty := by
 cases r <;> rfl
theorem QiO {xs : List V} {its : List Value} (r : Qy xs its) : (!its.toArray.isEmpty) = !xs.isEmpty := by
 cases r <;> simp
theorem Qfn : (sizeLine : Nat) < 2 ^ 63 := by rw [sizeLine_eq]; decide
theorem QiS : QxO X (λ x H Q => ∃ k, QsD X.K x H k /\ Q k H) := by
 intro pins s σ H x v Q I rx h
 obtain ⟨k, e, q⟩ := h
 have hl := Qfn
 have hs : sizeLine = 16777216 := sizeLine_eq
 cases x with
 | non =>
  cases rx
  have e' : k = false := e
  subst e'
  exact truthy_none ⟨H, I, q⟩
 | bl b =>
  cases rx
  have e' : k = b := e
  subst e'
  exact wpAny_truthy_bool ⟨H, I, q⟩
 | int i =>
  obtain ⟨t, rfl⟩ := rx
  have e' : k = (i != 0) := e
  subst e'
  exact PySem.P.truthy_int ⟨H, I, q⟩
 | str y =>
  obtain ⟨t, rfl⟩ := rx
  obtain ⟨hy, e'⟩ : y.length <= sizeLine /\ k = ((y.length : Int) != 0) := e
  subst e'
  exact PySem.P.truthy_str (by omega) ⟨H, I.tok _, q⟩
 | byt y =>
  obtain ⟨t, rfl⟩ := rx
  obtain ⟨hy, e'⟩ : y.size <= sizeLine /\ k = ((y.size : Int) != 0) := e
  subst e'
  exact PySem.W.truthy_bytes (by omega) ⟨H, I.tok _, q⟩
 | ref p =>
  cases rx
  have e' : (∃ xs, SqL X.K H p xs /\ k = !xs.isEmpty) ∨ (∃ xs, SqT X.K H p xs /\ k = !xs.isEmpty) ∨ ∃ kvs, H p = some (.dK kvs) /\ k = !kvs.isEmpty := e
  rcases e' with ⟨xs, hx, e'⟩ | ⟨xs, hx, e'⟩ | ⟨kvs, hx, e'⟩
  ·subst e'
   obtain ⟨its, r, pl, hz⟩ := I.list hx
   have hlen := r.length
   exact wpAny_truthy_list pl.isList (by simp only [Zp]; omega) ⟨H, I.tok _, by rw [QiO r]; exact q⟩
  ·subst e'
   obtain ⟨its, r, pl, hz⟩ := I.tuple hx
   have hlen := r.length
   exact truthy_tuple pl (by simp only [Zp]; omega) ⟨H, I.tok _, by rw [QiO r]; exact q⟩
  ·subst e'
   obtain ⟨hz, hS, vs, r, m⟩ : kvs.length <= sizeLine /\ (p == sysModules) = false /\ ∃ vs, KV kvs vs /\ s.heap.DictOf (Qjg X.prog X.w) p vs := I.hok p _ hx
   have hlen : kvs.length = vs.length := Paired.length r
   exact wpAny_truthy_dict hS m (by omega) ⟨H, I.tok _, by rw [QoP r]; exact q⟩
 | _ => exact (show False from e).elim
theorem Qrf (ha : PE X a ta) (he : ∀ whole, isTrue a X.env whole = (do let v ← whole; standAt a.pos; holding [v] (truthy v))) :
  PT X a (λ σ H Q => ta σ H λ x H' => ∃ k, QsD X.K x H' k /\ Q k H') := by
 intro pins s σ H Q I h
 exact isTrue_plain (thn (ha pins s σ H _ I h) λ v s1 ⟨x, H1, I1, r1, q1⟩ => QiS pins s1 σ H1 x v Q I1 r1 q1) (he _)
theorem vals1 {x : V} {us : List Value} (r : Qy [x] us) : ∃ u, us = [u] /\ RelV x u := by
 cases r with
 | cons r1 r2 => cases r2; exact ⟨_, rfl, r1⟩
theorem vals2 {x y : V} {us : List Value} (r : Qy [x, y] us) : ∃ u w', us = [u, w'] /\ RelV x u /\ RelV y w' := by
 cases r with
 | cons r1 r2 =>
  cases r2 with
  | cons r3 r4 => cases r4; exact ⟨_, _, rfl, r1, r3⟩
theorem QqY : QcV X (.builtin "abs") (λ xs H Q => ∃ i, xs = [.int i] /\ Q (.int (if i < 0 then -i else i)) H) := by
 intro pins s σ H xs us Q I r h
 obtain ⟨i, rfl, q⟩ := h
 obtain ⟨u, rfl, t, rfl⟩ := vals1 r
 exact call_abs_int λ u tk => ⟨.int (if i < 0 then -i else i), H, I.tok _, ⟨_, rfl⟩, q⟩
theorem Qp7 (hc : X.calm = true) : QcV X (.builtin "max") (λ xs H Q => ∃ i j, xs = [.int i, .int j] /\ Q (.int (if j > i then j else i)) H) := by
 intro pins s σ H xs us Q I r h
 obtain ⟨i, j, rfl, q⟩ := h
 obtain ⟨u, w', rfl, ⟨t, rfl⟩, ⟨t', rfl⟩⟩ := vals2 r
 refine max_two_ints (I.ok.hd hc) λ h' tk k => ⟨_, H, I.kept k, ?_, q⟩
 by_cases hj : j > i
 ·rw [if_pos hj, if_pos hj]; exact ⟨_, rfl⟩
 ·rw [if_neg hj, if_neg hj]; exact ⟨_, rfl⟩
theorem Qqo (hc : X.calm = true) : QcV X (.builtin "min") (λ xs H Q => ∃ i j, xs = [.int i, .int j] /\ Q (.int (if j < i then j else i)) H) := by
 intro pins s σ H xs us Q I r h
 obtain ⟨i, j, rfl, q⟩ := h
 obtain ⟨u, w', rfl, ⟨t, rfl⟩, ⟨t', rfl⟩⟩ := vals2 r
 refine min_two_ints (I.ok.hd hc) λ h' tk k => ⟨_, H, I.kept k, ?_, q⟩
 by_cases hj : j < i
 ·rw [if_pos hj, if_pos hj]; exact ⟨_, rfl⟩
 ·rw [if_neg hj, if_neg hj]; exact ⟨_, rfl⟩
end
end L2
namespace L2
open PySem PySem.Spec PyProof.Rows
structure Qyi (h : Heap) (x dx C : Addr) (mA : Str -> Option Value) : Prop where
 obj : h.get? x = some (PySem.W.instObj C dx)
 ns : h.Ns1 dx mA
 ne : dx ≠ x
section
variable {prog : Program} {w : World} {A : Around} {E : Value -> Shared -> Prop} {s : Shared} {K : PySem.W.Frag} {x dx C f : Addr} {mA : Str -> Option Value} {name : Str} {v : Value}
end
section
variable {P : Program} {w : World} {H H' : Hp} {h h' : Heap} {a C dx : Addr} {fs fs' : List (Str × V)}
end
structure Cls (K : PySem.W.Frag) (C : Addr) : Prop where
 pg : PySem.W.plainGet K C Str.empty = true
 hd : PySem.W.hasDictIn K C = true
 po : PySem.W.plainOver K C = true
 sa : PySem.W.findIn K (.ref C) "__setattr__" = some (some (.builtin "object.__setattr__"))
structure Con (K : PySem.W.Frag) (C : Addr) (f : Str) (v : V) (u : Value) : Prop where
 at_ : PySem.W.findIn K (.ref C) f = some (some u)
 rel : RelV v u
 get : PySem.W.specialIn K u "__get__" = some none
 cp : PySem.W.copiedNames.contains f = false
structure Qyh (K : PySem.W.Frag) (C : Addr) (m : Str) (f : Addr) : Prop where
 at_ : PySem.W.findIn K (.ref C) m = some (some (.ref f))
 fn : PySem.W.isFn K (.ref f) = true
 kp : PySem.W.keepIn K (.ref f) = true
section
variable {X : Cx} {pins : List (Addr × Obj)} {σ : St} {H : Hp} {s : Shared} {a C dx : Addr} {fs : List (Str × V)} {f : Str} {v : V} {A : Around} {E : Value -> Shared -> Prop}
end
section
variable {X : Cx} {o e value : Expr} {f : Str} {pos pos' tpos : Pos} {ta tv : TE}
end
section
variable {X : Cx} {pins : List (Addr × Obj)} {σ : St} {H : Hp} {s : Shared} {A : Around} {E : Value -> Shared -> Prop} {Q : Value -> Shared -> Prop} {c : Value} {b : Bool}
inductive QeJ (K : PySem.W.Frag) (H : Hp) : V -> Value -> Prop where
 | non : QeJ K H .non (.type "NoneType")
 | bl (x : Bool) : QeJ K H (.bl x) (.type "bool")
 | int (i : Int) : QeJ K H (.int i) (.type "int")
 | str (x : Str) : QeJ K H (.str x) (.type "str")
 | flt (x : UInt64) : QeJ K H (.flt x) (.type "float")
 | lst {a : Addr} {xs : List V} (e : H a = some (.lst xs)) : QeJ K H (.ref a) (.type "list")
 | frz {a : Addr} {o : Obj} {xs : List V} (e : H a = some (.frz o (.lst xs))) : QeJ K H (.ref a) (.type "list")
 | tup {a : Addr} {xs : List V} (e : H a = some (.tup xs)) : QeJ K H (.ref a) (.type "tuple")
 | dK {a : Addr} {kvs : List (Key × V)} (e : H a = some (.dK kvs)) : QeJ K H (.ref a) (.type "dict")
 | dT {a : Addr} {kvs : List (List Key × V)} (e : H a = some (.dT kvs)) : QeJ K H (.ref a) (.type "dict")
 | ins {a C dx : Addr} {fs : List (Str × V)} (e : H a = some (.ins C dx fs)) (cl : Cls K C) (ha : PySem.W.findIn K (.ref C) "__class__" = some (some (.builtin "object.__class__")))
   (hn : PySem.W.specialIn K (.builtin "object.__class__") "__get__" = some (some (.builtin "getset_descriptor.__get__"))) (htk : PySem.W.takesIn K (.builtin "object.__class__") = some true)
   (hm : PySem.W.mroIn K C (.type "object") = some true) : QeJ K H (.ref a) (.ref C)
end
end L2
namespace L2
open PySem PySem.Spec PyProof.Rows
structure Qbl (k : Nat) (A : Around) : Prop where
 hd : A.handled = none
 dp : A.depth + 3 * k + 5 < recursionLimit
 un : A.units + 16 * k + 200 < cLine
theorem Qbl.mono {j k : Nat} {A : Around} (r : Qbl k A) (h : j <= k) : Qbl j A := ⟨r.hd, by have := r.dp; omega, by have := r.un; omega⟩
theorem Qbl.deeper {k : Nat} {A : Around} (r : Qbl (k + 1) A) (env : Env) : Qbl k (A.deeper env) :=
 ⟨r.hd, by have := r.dp; show A.depth + 1 + 3 * k + 5 < _; omega, by have := r.un; show A.units + 3 + 16 * k + 200 < _; omega⟩
theorem Qbl.depth {k : Nat} {A : Around} (r : Qbl k A) : A.depth < recursionLimit := by have := r.dp; omega
theorem Qbl.units {k : Nat} {A : Around} (r : Qbl k A) : A.units + 64 < cLine := by have := r.un; omega
noncomputable def QdZ : TA := λ _ H Q => Q [] H
noncomputable def QcF (ta : TE) (tr : TA) : TA := λ σ H Q => ta σ H λ x H1 => tr σ H1 λ xs H2 => Q (x :: xs) H2
section
variable {X : Cx} {e : Expr} {es : List Expr} {te : TE} {t : TA} {pos : Pos}
theorem Qbh : PA X [] QdZ := λ _ _ _ _ H Q I h => Calls.spliced_nil ⟨[], H, I, .nil, h⟩
theorem Q2 (ha : PE X e te) (hr : PA X es t) (hs : starEach (e :: es) X.env = (false, eval e X.env) :: starEach es X.env := by rfl) : PA X (e :: es) (QcF te t) := by
 intro pos pins s σ H Q I h
 rw [hs]
 show wpAny _ _ (spliced ((false, eval e X.env) :: backTo pos (starEach es X.env))) _ _ s
 refine Calls.spliced_cons (thn (ha pins s σ H _ I h) λ u s1 ⟨x, H1, I1, r1, q1⟩ => ?_)
 exact thn (hr pos pins s1 σ H1 _ I1 q1) λ us s2 ⟨xs, H2, I2, r2, q2⟩ => ⟨x :: xs, H2, I2, .cons r1 r2, q2⟩
noncomputable def QxF (t : TA) : TE := λ σ H Q => t σ H λ xs H1 => xs.length <= sizeLine /\ ∀ p, H1 p = none -> Q (.ref p) (upd H1 p (.tup xs))
noncomputable def QxH (t : TA) : TE := λ σ H Q => t σ H λ xs H1 => xs.length <= sizeLine /\ ∀ p, H1 p = none -> Q (.ref p) (upd H1 p (.lst xs))
theorem QpT {x1} (h : PA X es t) : PE X (.Tuple es x1 pos) (QxF t) := by
 intro pins s σ H Q I hq
 refine wpAny_Tuple_spliced (thn (h pos pins s σ H _ I hq) λ us s1 ⟨xs, H1, I1, r, z, q⟩ => ⟨by rw [← r.length]; exact z, ?_⟩)
 have hf : H1 s1.heap.objs.size = none := I1.hok.fresh (Zm _)
 refine ⟨.ref s1.heap.objs.size, upd H1 s1.heap.objs.size (.tup xs), I1.laid (t' := s1.toks) (λ b u e => Zb _ e) (Zm _) ?_, rfl, q _ hf⟩
 exact ⟨z, us, r, ⟨_, ZA _ rfl, rfl, _, rfl⟩⟩
theorem Qvz (h : PA X es t) : PE X (.List es pos) (QxH t) := by
 intro pins s σ H Q I hq
 refine wpAny_List_spliced (thn (h pos pins s σ H _ I hq) λ us s1 ⟨xs, H1, I1, r, z, q⟩ => ⟨by rw [← r.length]; exact z, ?_⟩)
 have hf : H1 s1.heap.objs.size = none := I1.hok.fresh (Zm _)
 refine ⟨.ref s1.heap.objs.size, upd H1 s1.heap.objs.size (.lst xs), I1.laid (t' := s1.toks) (λ b u e => Zb _ e) (Zm _) ?_, rfl, q _ hf⟩
 exact ⟨z, us, 0, r, ZA _ rfl⟩
end
noncomputable abbrev Sp := List V -> Hp -> VK -> XK -> Prop
noncomputable abbrev CXT := List Env -> Hp -> Shared -> XK -> Value -> Shared -> Prop
structure QoR (P : Program) (w : World) (K : PySem.W.Frag) (mg : Str -> Option Value) (base : Heap) (A : Around) (outer : List Env) (s : Shared) (H : Hp) : Prop where
 frames : A.frames = some outer
 mod : Mod K mg base
 bs : ∀ b o, base.get? b = some o -> s.heap.get? b = some o /\ H b = none
 bsz : base.objs.size <= s.heap.objs.size
 Qer : s.heap.FunFrames base outer
 frf : ∀ b ∈ frs outer, H b = none
 hok : HOk P w H s.heap
 bare : AllBare s.gens
def CE (outer : List Env) (P : Program) (w : World) (H : Hp) (s : Shared) (Q : VK) (u : Value) (s' : Shared) : Prop :=
 ∃ v H', s'.os = s.os /\ AllBare s'.gens /\ Un (frs outer) [] H H' s.heap s'.heap /\ HOk P w H' s'.heap /\ RelV v u /\ Q v H'
def CR (CX : CXT) (outer : List Env) (P : Program) (w : World) (H : Hp) (s : Shared) (Q : VK) (E : XK) (r : Result) (s' : Shared) : Prop :=
 match r with
 | .ok (.ret u) => CE outer P w H s Q u s'
 | .ok _ => False
 | .error e => CX outer H s E e s'
structure QcR (P : Program) (w : World) (K : PySem.W.Frag) (mg : Str -> Option Value) (base : Heap) (CX : CXT) (k : Nat) (f : Addr) (fd : FuncData) (ps : List Str) (sp : Sp) : Prop where
 len : ∀ vs H Q E, sp vs H Q E -> vs.length = ps.length
 run : ∀ (A : Around) (outer : List Env) (s : Shared) (H : Hp) (args : Args) (us : List Value) (vs : List V) (Q : VK) (E : XK), Qbl k A -> QoR P w K mg base A outer s H -> BindsTo s fd args (ps.zip us) -> Qy vs us -> sp vs H Q E →
  codeAny (model P w) A (.call (.ref f) args) (CR CX outer P w H s Q E) s
theorem QcR.mono {P : Program} {w : World} {K : PySem.W.Frag} {mg : Str -> Option Value} {base : Heap} {CX : CXT} {j k : Nat} {f : Addr} {fd : FuncData} {ps : List Str} {sp : Sp} (F : QcR P w K mg base CX j f fd ps sp) (h : j <= k) :
  QcR P w K mg base CX k f fd ps sp := ⟨F.len, λ A outer s H args us vs Q E hr => F.run A outer s H args us vs Q E (hr.mono h)⟩
section
variable {X : Cx} {pins : List (Addr × Obj)} {σ : St} {H : Hp} {s s' : Shared}
theorem Inv.Qx3 (I : Inv X pins σ H s) : QoR X.prog X.w X.K X.mg X.base X.A X.stack s H :=
 ⟨I.ok.frames, I.ok.mod, I.bs, ZF I.ok.bsz I.sz, I.stack, I.QnR, I.hok, I.bare⟩
theorem Inv.after {Q : VK} {u : Value} (I : Inv X pins σ H s) (h : CE X.stack X.prog X.w H s Q u s') : EP X pins σ Q u s' := by
 obtain ⟨v, H', os, bare, un, hok, r, q⟩ := h
 obtain ⟨hh, g, d, t, os'⟩ := s'
 obtain rfl : os' = s.os := os
 exact ⟨v, H', I.call (h' := hh) (g' := g) (d' := d) (t' := t) (ch := []) un hok bare (λ b z => absurd z (by simp)), r, q⟩
end
noncomputable def Qof (sp : Sp) (dvs : List V) (E : XK) (t : TA) : TE := λ σ H Q => t σ H λ vs H1 => sp (vs ++ dvs) H1 Q E
def Binds (K : PySem.W.Frag) (fd : FuncData) (ps : List Str) (ds : List Value) : Prop :=
 ∀ (s : Shared) (us : List Value), K.In s.heap -> (us ++ ds).length = ps.length -> BindsTo s fd ⟨us, []⟩ (ps.zip (us ++ ds))
theorem Binds.all {K : PySem.W.Frag} {fd : FuncData} {ps : List Str} (h : ∀ us : List Value, us.length = ps.length -> bindArgs fd ⟨us, []⟩ = pure (ps.zip us)) : Binds K fd ps [] := λ s us _ hl => by
 rw [ZaF] at hl ⊢
 exact .of_eq (h us hl)
def Qis (CX : CXT) (X : Cx) (E : XK) : Prop := ∀ (pins : List (Addr × Obj)) (σ : St) (H : Hp) (s : Shared) (e : Value) (s' : Shared), Inv X pins σ H s -> CX X.stack H s E e s' -> X.xe e s'
section
variable {X : Cx} {CX : CXT} {k : Nat} {f C : Addr} {fd : FuncData} {ps : List Str} {sp : Sp} {dvs : List V} {ds : List Value} {E : XK} {x m : Str} {p pos apos : Pos} {e o : Expr} {es : List Expr} {ta : TE} {t : TA}
theorem QpQ {pins : List (Addr × Obj)} {σ : St} {H : Hp} {s : Shared} {Q : VK} {us : List Value} {vs : List V} (F : QcR X.prog X.w X.K X.mg X.base CX k f fd ps sp) (hr : Qbl k X.A) (hb : Binds X.K fd ps ds) (hd : Qy dvs ds) (hx : Qis CX X E)
  (I : Inv X pins σ H s) (r : Qy vs us) (h : sp (vs ++ dvs) H Q E) : wpAny (model X.prog X.w) X.A (call (.ref f) us) (EP X pins σ Q) X.xe s := by
 have r2 : Qy (vs ++ dvs) (us ++ ds) := r.append hd
 have hl : (us ++ ds).length = ps.length := by rw [← r2.length]; exact F.len _ _ _ _ h
 refine wpAny_call (codeAny_mono (F.run X.A X.stack s H ⟨us, []⟩ (us ++ ds) (vs ++ dvs) Q E hr I.Qx3 (hb s us I.kIn hl) r2 h) λ r s' hq => ?_)
 cases r with
 | error e => exact hx pins σ H s e s' I hq
 | ok fl =>
  cases fl with
  | ret u => exact I.after hq
  | next => exact False.elim hq
  | brk => exact False.elim hq
  | cont => exact False.elim hq
theorem QuF (F : QcR X.prog X.w X.K X.mg X.base CX k f fd ps sp) (hr : Qbl k X.A) (hg : Gl X x) (hm : X.mg x = some (.ref f)) (hk : PySem.W.keepIn X.K (.ref f) = true) (hb : Binds X.K fd ps ds) (hd : Qy dvs ds) (hx : Qis CX X E)
  (ha : PA X (e :: es) t) (hdb : (x == ("__debug__" : Str)) = false := by decide) (he : starEach (e :: es) X.env = (false, eval e X.env) :: starEach es X.env := by rfl) (hpl : (backTo pos (starEach es X.env)).any (·.1) = false := by rfl) :
  PE X (.Call (.Name x p) (e :: es) [] pos) (Qof sp dvs E t) := by
 intro pins s σ H Q I h
 refine wpAny_Call_Name_kw (Qi6 I hg hm ?_ hdb)
 refine PySem.W.callWith_K (h₀ := X.base) I.ok.mod.kin hk (thn (ha pos pins s σ H _ I h) λ us s1 ⟨vs, H1, I1, r, q⟩ => ⟨I1.kIn, ?_⟩) he hpl
 exact QpQ F hr hb hd hx I1 r q
theorem QsM (F : QcR X.prog X.w X.K X.mg X.base CX k f fd ps sp) (hr : Qbl k X.A) (hg : Gl X x) (hm : X.mg x = some (.ref f)) (hk : PySem.W.keepIn X.K (.ref f) = true) (hb : Binds X.K fd ps ds) (hd : Qy dvs ds) (hx : Qis CX X E)
  (hdb : (x == ("__debug__" : Str)) = false := by decide) : PE X (.Call (.Name x p) [] [] pos) (Qof sp dvs E QdZ) := by
 intro pins s σ H Q I h
 refine wpAny_Call_Name_kw (Qi6 I hg hm ?_ hdb)
 exact PySem.W.callWith_K0 I.kIn hk (QpQ (us := []) F hr hb hd hx I .nil h)
structure Mk (K : PySem.W.Frag) (C f : Addr) : Prop where
 makes : PySem.W.makesIn K C = true
 init : PySem.W.findIn K (.ref C) "__init__" = some (some (.ref f))
 fn : PySem.W.isFn K (.ref f) = true
 kp : PySem.W.keepIn K (.ref C) = true
end
section
variable {X : Cx} {CX : CXT} {k : Nat} {f C : Addr} {fd : FuncData} {ps ks : List Str} {sp : Sp} {E : XK} {x m : Str} {p pos apos kpos : Pos} {e o : Expr} {es : List Expr} {kws : List Keyword} {te ta : TE} {t tk : TA} {nm : Option Str}
structure Qyf (K : PySem.W.Frag) (fd : FuncData) (ps ks : List Str) (g : List Value -> List Value -> List Value) (gV : List V -> List V -> List V) : Prop where
 to : ∀ (s : Shared) (us ws : List Value), K.In s.heap -> (g us ws).length = ps.length -> BindsTo s fd ⟨us, ks.zip ws⟩ (ps.zip (g us ws))
 rel : ∀ {vs : List V} {us : List Value} {zs : List V} {ws : List Value}, Qy vs us -> Qy zs ws -> Qy (gV vs zs) (g us ws)
variable {g : List Value -> List Value -> List Value} {gV : List V -> List V -> List V}
end
structure Qc8 (N P : List Str) (sc : Scope) : Prop where
 kind : sc.kind = .function
 co : sc.isCoroutine = false
 gen : sc.isGenerator = false
 nd : N.Nodup
 pre : N.take P.length = P
 par : ∀ x ∈ P, sc.names.lookup x = some .local ∨ sc.names.lookup x = some .cell
 nofree : ∀ y ∈ sc.names, y.2 ≠ .free
theorem Qkb {kindOf : Str -> Option NameKind} {x : Str} : ∀ {binds : List (Str × Value)} {m : Str -> Option Value}, (∀ v, (x, v) ∉ binds) -> bindL kindOf binds m x = m x
 | [], _, _ => rfl
 | (n, v) :: r, m, h => by
  unfold bindL
  rw [Qkb λ w hw => h w (Zd _ hw)]
  split
  ·have : x ≠ n := by rintro rfl; exact h v Zk
   simp [this]
  ·rfl
theorem Qkl {kindOf : Str -> Option NameKind} {x : Str} : ∀ {binds : List (Str × Value)} {m : Str -> Option Value}, (∀ v, (x, v) ∉ binds) -> bindC kindOf binds m x = m x
 | [], _, _ => rfl
 | (n, v) :: r, m, h => by
  unfold bindC
  rw [Qkl λ w hw => h w (Zd _ hw)]
  split
  ·rfl
  ·have : x ≠ n := by rintro rfl; exact h v Zk
   simp [this]
theorem Qj2 {kindOf : Str -> Option NameKind} {x : Str} {v : Value} : ∀ {P : List Str} {vs : List Value} {i : Nat} {m : Str -> Option Value}, P.Nodup -> P[i]? = some x -> vs[i]? = some v -> kindOf x = some .local →
  bindL kindOf (P.zip vs) m x = some v
 | [], _, _, _, _, h, _, _ => by simp at h
 | _ :: _, [], _, _, _, _, h, _ => by simp at h
 | p :: P, w :: vs, 0, m, nd, h1, h2, hk => by
  simp at h1 h2; subst h1; subst h2
  show bindL kindOf ((p, w) :: P.zip vs) m p = _
  unfold bindL
  rw [Qkb λ v hv => (Zad.mp nd).1 (ZbZ hv).1, if_pos hk]
  simp
 | p :: P, w :: vs, i + 1, m, nd, h1, h2, hk => by
  show bindL kindOf ((p, w) :: P.zip vs) m x = _
  unfold bindL
  exact Qj2 (i := i) (Zad.mp nd).2 (by simpa using h1) (by simpa using h2) hk
theorem Qj1 {kindOf : Str -> Option NameKind} {x : Str} {v : Value} : ∀ {P : List Str} {vs : List Value} {i : Nat} {m : Str -> Option Value}, P.Nodup -> P[i]? = some x -> vs[i]? = some v -> kindOf x ≠ some .local →
  bindC kindOf (P.zip vs) m x = some v
 | [], _, _, _, _, h, _, _ => by simp at h
 | _ :: _, [], _, _, _, _, h, _ => by simp at h
 | p :: P, w :: vs, 0, m, nd, h1, h2, hk => by
  simp at h1 h2; subst h1; subst h2
  show bindC kindOf ((p, w) :: P.zip vs) m p = _
  unfold bindC
  rw [Qkl λ v hv => (Zad.mp nd).1 (ZbZ hv).1, if_neg hk]
  simp
 | p :: P, w :: vs, i + 1, m, nd, h1, h2, hk => by
  show bindC kindOf ((p, w) :: P.zip vs) m x = _
  unfold bindC
  exact Qj1 (i := i) (Zad.mp nd).2 (by simpa using h1) (by simpa using h2) hk
noncomputable def start (N : List Str) (vs : List V) : St := vs.map some ++ List.replicate (N.length - vs.length) none
noncomputable def QhU (CX : CXT) (P : Program) (w : World) (K : PySem.W.Frag) (mg : Str -> Option Value) (base : Heap) (N : List Str) (qual : Str) (scope : Scope) (f : Addr) (cd : Value) (A : Around) (outer : List Env) (s : Shared) (H : Hp) (E : XK) : Cx where
 prog := P
 w := w
 K := K
 mg := mg
 base := base
 A := A.deeper (envOfC qual scope s.heap.objs.size f cd)
 N := N
 s₀ := s
 H₀ := H
 env := envOfC qual scope s.heap.objs.size f cd
 outer := outer
 stack := envOfC qual scope s.heap.objs.size f cd :: outer
 ex := []
 calm := true
 fn := λ _ => true
 pn := []
 xe := λ e s' => wpAny (model P w) (A.deeper (envOfC qual scope s.heap.objs.size f cd)) (leaving (envOfC qual scope s.heap.objs.size f cd) e) (λ _ s'' => CX outer H s E e s'') (λ e' s'' => CX outer H s E e' s'') s'
theorem Qmi {sc : Scope} {n : Nat} {x : Str} (h : sc.names.lookup x = some .cell) : ∃ c, (cellsFrom n sc.names []).lookup x = some c := by
 have q := ZbR sc.names n [] (.inl h)
 exact ZbG.mp q
theorem Qo7 {CX : CXT} {P : Program} {w : World} {K : PySem.W.Frag} {mg : Str -> Option Value} {base : Heap} {N ps : List Str} {qual : Str} {scope : Scope} {f : Addr} {cd : Value} {A : Around} {outer : List Env} {s s1 : Shared} {H : Hp} {E : XK} {us : List Value} {vs : List V}
  (S : Qc8 N ps scope) (hd : A.handled = none) (e0 : QoR P w K mg base A outer s H) (hl : vs.length = ps.length) (r : Qy vs us)
  (x : InCallC s s.heap.objs.size (bindL (envOfC qual scope s.heap.objs.size f cd).kindOf (ps.zip us) λ _ => none) (cellsFrom (s.heap.objs.size + 1) scope.names []) (bindC (envOfC qual scope s.heap.objs.size f cd).kindOf (ps.zip us) λ _ => none) s1) :
  Inv (QhU CX P w K mg base N qual scope f cd A outer s H E) [] (start N vs) H s1 := by
 have hpl : ps.length <= N.length := by have := congrArg List.length S.pre; rw [Zao] at this; omega
 obtain ⟨h1, tk, rfl, hk⟩ := x.done
 have noA : ∀ b : Addr, b ∉ (QhU CX P w K mg base N qual scope f cd A outer s H E).ex := λ b z => absurd (show b ∈ ([] : List Addr) from z) (by simp)
 refine ⟨⟨e0.mod, S.kind, rfl, rfl, Zm _, λ y z c h1 h2 => ?_, λ y hy => ?_, λ y c _ h => ?_, λ _ => hd, Around.frames_deeper e0.frames, .inr ⟨rfl, rfl⟩, λ b z => absurd z (noA b), e0.bs, e0.bsz, λ b _ _ => noA b, λ b z => absurd z (noA b), e0.Qer, e0.frf⟩,
  rfl, e0.bare, Un.kept hk, ⟨_, x.toInCall.ns, λ i y v h1 h2 h3 => ?_⟩, λ y c h => ⟨_, x.cell y c h⟩, e0.hok.fresh (Zm _), λ y c h => ?_, λ p hp => absurd (show p ∈ ([] : List (Addr × Obj)) from hp) (by simp), e0.hok.kept hk, ?_⟩
 ·exact name_of_addr x.apart (Zae h1) (Zae h2)
 ·have hy : scope.names.lookup y = some .cell ∨ scope.names.lookup y = some .free := hy
  rcases hy with hy | hy
  ·exact Qmi hy
  ·exact absurd rfl (S.nofree _ (Zae hy))
 ·exact Nat.le_of_lt (x.above y c (Zae h))
 ·have hi : i < vs.length := by
   unfold start at h2
   by_cases hi : i < vs.length
   ·exact hi
   ·rw [ZaX (by simpa using hi)] at h2
    rw [ZbM] at h2
    split at h2 <;> cases h2
  have ha : vs[i]? = some v := by
   unfold start at h2
   rw [Zai (by simpa using hi), Zo] at h2
   cases e : vs[i]? with
   | none => rw [e] at h2; cases h2
   | some a => rw [e] at h2; cases h2; rfl
  obtain ⟨u, hu, rv⟩ := r.get ha
  have hp : ps[i]? = some y := by
   rw [← S.pre, List.getElem?_take_of_lt (by omega)]; exact h1
  have ndP : ps.Nodup := by rw [← S.pre]; exact S.nd.sublist (List.take_sublist _ _)
  refine ⟨u, rv, ?_⟩
  rcases S.par y (ZJ hp) with k | k
  ·exact .inl ⟨k, Qj2 ndP hp hu k⟩
  ·obtain ⟨c, e⟩ := Qmi (n := s.heap.objs.size + 1) k
   refine .inr ⟨.inl k, c, e, ?_⟩
   have q := x.cell y c e
   rw [Qj1 ndP hp hu (by show scope.names.lookup y ≠ _; rw [k]; decide)] at q
   exact q
 ·exact e0.hok.fresh (Nat.le_of_lt (x.above y c (Zae h)))
 ·unfold start
  show _ = N.length
  rw [Zw, Zi, List.length_replicate]
  omega
theorem Qxj {CX : CXT} {P : Program} {w : World} {K : PySem.W.Frag} {mg : Str -> Option Value} {base : Heap} {k : Nat} {f : Addr} {name qual : Str} {params : Arguments} {body : List Stmt} {scope : Scope} {dV kV doc pm cdv ct oc : Value} {an od : Option Addr}
  {osl : Array (Option Value)} {N ps : List Str} {sp : Sp} (lk : K.lookup f = some ⟨oc, od, .func (PySem.W.fnOf name qual params body scope dV kV doc pm an cdv ct), osl⟩) (hcd : PySem.W.codeIn K cdv qual = true) (S : Qc8 N ps scope)
  (len : ∀ vs H Q E, sp vs H Q E -> vs.length = ps.length)
  (hbody : ∀ (A : Around) (outer : List Env) (s : Shared) (H : Hp) (vs : List V) (Q : VK) (E : XK), Qbl k (A.deeper (envOfC qual scope s.heap.objs.size f cdv)) -> sp vs H Q E →
   ∃ t, PSs (QhU CX P w K mg base N qual scope f cdv A outer s H E) body t /\ t { nx := λ _ H' => Q .non H', rt := Q } (start N vs) H) :
  QcR P w K mg base CX (k + 1) f (PySem.W.fnOf name qual params body scope dV kV doc pm an cdv ct) ps sp := by
 refine ⟨len, λ A outer s H args us vs Q E hr e0 hb r hsp => ?_⟩
 have hl := len _ _ _ _ hsp
 have KX : K.In s.heap := e0.mod.kin.keeps λ b o e => (e0.bs b o e).1
 have lim : s.heap.NoLimit := e0.mod.nolimit.keeps λ b o e => (e0.bs b o e).1
 have hkind : ∀ y ∈ ps.zip us, scope.names.lookup y.1 = some .local ∨ (scope.names.lookup y.1 = some .cell /\ ((cellsFrom (s.heap.objs.size + 1) scope.names []).lookup y.1).isSome = true) := λ ⟨n, v⟩ hy => by
  rcases S.par n (ZbZ hy).1 with q | q
  ·exact .inl q
  ·exact .inr ⟨q, ZbR _ _ _ (.inl q)⟩
 refine codeAny_call_function hr.depth (KX _ _ lk) rfl S.co S.gen rfl (PySem.W.codeRec_of KX hcd) (hb _ _ _ _ ?_)
 refine wpAny_newFunctionEnv_cells S.kind hkind λ env he s1 x => ?_
 subst he
 refine ⟨lim.keeps x.toInCall.keep, codeAny_func ?_⟩
 obtain ⟨t, ht, hq⟩ := hbody A outer s H vs Q E (hr.deeper _) hsp
 have I : Inv (QhU CX P w K mg base N qual scope f cdv A outer s H E) [] (start N vs) H s1 := Qo7 S hr.hd e0 hl r x
 refine wpAny_mono (ht [] s1 (start N vs) H _ I hq) (λ fl s' hs => ?_) λ e s' hs => hs
 have fin : ∀ {σ' : St} {H' : Hp} {v : V} {u : Value}, Inv (QhU CX P w K mg base N qual scope f cdv A outer s H E) [] σ' H' s' -> RelV v u -> Q v H' -> CE outer P w H s Q u s' :=
  λ {σ' H' v u} J rv q => ⟨v, H', J.os, J.bare, J.base, J.hok, rv, q⟩
 cases fl with
 | ret u =>
  obtain ⟨v, σ', H', J, rv, q⟩ := hs
  exact fin J rv q
 | next =>
  obtain ⟨σ', H', J, q⟩ := hs
  exact fin (v := V.non) (u := Value.none) J rfl q
 | brk =>
  obtain ⟨_, _, _, q⟩ := hs
  exact False.elim q
 | cont =>
  obtain ⟨_, _, _, q⟩ := hs
  exact False.elim q
end L2
namespace L2
open PySem PySem.Spec PyProof.Rows
section
variable {X : Cx} {x : Str} {p pos : Pos} {e : Expr} {es : List Expr} {t : TA} {id T : String} {r : List V -> Hp -> VK -> Prop}
noncomputable def tCB (r : List V -> Hp -> VK -> Prop) (t : TA) : TE := λ σ H Q => t σ H λ vs H1 => r vs H1 Q
theorem Qh0 (hc : QcV X (.builtin id) r) (hg : Gl X x) (hm : X.mg x = none) (hv : bootBuiltins x = some (.builtin id)) (ha : PA X (e :: es) t) (hn : x ≠ "__name__" := by decide) (hdb : (x == ("__debug__" : Str)) = false := by decide)
  (he : starEach (e :: es) X.env = (false, eval e X.env) :: starEach es X.env := by rfl) (hpl : (backTo pos (starEach es X.env)).any (·.1) = false := by rfl) : PE X (.Call (.Name x p) (e :: es) [] pos) (tCB r t) := by
 intro pins s σ H Q I h
 refine wpAny_Call_Name_kw (Qcu I hg hm hv ?_ hn hdb)
 exact PyProof.Rows.callWith_builtin1 (thn (ha pos pins s σ H _ I h) λ us s1 ⟨vs, H1, I1, r1, q1⟩ => hc pins s1 σ H1 vs us Q I1 r1 q1) he hpl
theorem QpA (hc : QcV X (.type T) r) (hg : Gl X x) (hm : X.mg x = none) (hv : bootBuiltins x = some (.type T)) (ha : PA X (e :: es) t) (hn : x ≠ "__name__" := by decide) (hdb : (x == ("__debug__" : Str)) = false := by decide)
  (he : starEach (e :: es) X.env = (false, eval e X.env) :: starEach es X.env := by rfl) (hpl : (backTo pos (starEach es X.env)).any (·.1) = false := by rfl) : PE X (.Call (.Name x p) (e :: es) [] pos) (tCB r t) := by
 intro pins s σ H Q I h
 refine wpAny_Call_Name_kw (Qcu I hg hm hv ?_ hn hdb)
 exact ZP (thn (ha pos pins s σ H _ I h) λ us s1 ⟨vs, H1, I1, r1, q1⟩ => hc pins s1 σ H1 vs us Q I1 r1 q1) he hpl
end
end L2
namespace HT
open PySem PyProof.Rows
section
open PySem.SeqAt
open PySem.AutoSeq1 (wpAny_loadPart')
open PySem.MeetsSeq PySem.MeetsSeq2 PySem.MeetsSeq3
end
section
variable {prog : Program} {w : World} {A : Around} {E : Value -> Shared -> Prop} {s : Shared}
noncomputable def sIx (n d : Nat) : Option Int -> Nat
 | none => d
 | some v => if v < 0 then (v + (n : Int)).toNat else min v.toNat n
theorem QkZ (n d : Nat) : sIx n d none = d := rfl
theorem Qjp (n d k : Nat) : sIx n d (some (k : Int)) = min k n := by
 show (if (k : Int) < 0 then ((k : Int) + (n : Int)).toNat else min (k : Int).toNat n) = min k n
 rw [if_neg (by omega), ZY]
end
end HT
namespace L2
open PySem PySem.Spec PyProof.Rows
noncomputable abbrev TO := St -> Hp -> (Option Int -> Hp -> Prop) -> Prop
def PO (X : Cx) (e : Option Expr) (t : TO) : Prop :=
 ∀ (pins : List (Addr × Obj)) (s : Shared) (σ : St) (H : Hp) (Q : Option Int -> Hp -> Prop), Inv X pins σ H s -> t σ H Q →
  wpAny (model X.prog X.w) X.A (evalPart e X.env) (λ u s' => ∃ o H', Inv X pins σ H' s' /\ IsPart u o /\ Q o H') X.xe s
noncomputable def Qtv : TO := λ _ H Q => Q none H
noncomputable def Qw2 (t : TE) : TO := λ σ H Q => t σ H λ x H1 => ∃ i, x = .int i /\ Q (some i) H1
theorem intsAre_of {ns : List Int} : ∀ {us : List Value}, Qy (ns.map V.int) us -> IntsAre us ns := by
 induction ns with
 | nil => intro us r; rw [ZbB] at r; cases r; exact .nil
 | cons n ns ih =>
  intro us r
  rw [Zn] at r
  cases r with
  | cons r1 r2 =>
   obtain ⟨t, e⟩ := r1
   subst e
   exact .cons n t (ih r2)
section
variable {X : Cx} {e : Expr} {te : TE} {lo hi : Option Expr} {tl th : TO} {pos p2 : Pos}
theorem Qtf : PO X none Qtv := by
 intro pins s σ H Q I h
 rw [evalPart_none]
 exact wpAny_pure ⟨none, H, I, .none, h⟩
theorem Qt8 (h : PE X e te) : PO X (some e) (Qw2 te) := by
 intro pins s σ H Q I hw
 rw [evalPart_some]
 refine thn (h pins s σ H _ I hw) λ u s1 ⟨x, H1, I1, r1, q1⟩ => ?_
 obtain ⟨i, rfl, q⟩ := q1
 obtain ⟨t, rfl⟩ := r1
 exact ⟨some i, H1, I1, .int i t, q⟩
def SlR (X : Cx) (r : V -> Option Int -> Option Int -> Hp -> VK -> Prop) : Prop :=
 ∀ (pins : List (Addr × Obj)) (s : Shared) (σ : St) (H : Hp) (x : V) (v vl vu : Value) (lo hi : Option Int) (sl : Addr) (Q : VK), Inv X pins σ H s -> RelV x v -> s.heap.IsSliceOf sl vl vu .none -> IsPart vl lo -> IsPart vu hi -> r x lo hi H Q →
  ∃ T id, typeLookup (.type T) "__getitem__" = pure (some (.builtin id)) /\ s.TypeIs v T /\ wpAny (model X.prog X.w) X.A (getItem v (.ref sl)) (EP X pins σ Q) X.xe s
noncomputable def tSl (r : V -> Option Int -> Option Int -> Hp -> VK -> Prop) (te : TE) (tl th : TO) : TE := λ σ H Q => te σ H λ x H1 => tl σ H1 λ l H2 => th σ H2 λ u H3 => r x l u H3 Q
theorem QrO {r : V -> Option Int -> Option Int -> Hp -> VK -> Prop} (hr : SlR X r) (he : PE X e te) (hl : PO X lo tl) (hu : PO X hi th) : PE X (.Subscript e (.Slice lo hi none p2) pos) (tSl r te tl th) := by
 intro pins s σ H Q I h
 refine Subscript_ (thn (he pins s σ H _ I h) λ v s1 ⟨x, H1, I1, r1, q1⟩ => ?_)
 refine wpAny_Slice (thn (hl pins s1 σ H1 _ I1 q1) λ vl s2 ⟨l, H2, I2, pl, q2⟩ => thn (hu pins s2 σ H2 _ I2 q2) λ vu s3 ⟨u, H3, I3, pu, q3⟩ => ?_)
 rw [evalPart_none]
 refine wpAny_pure ?_
 have I4 : Inv X pins σ H3 { s3 with heap := s3.heap.push { cls := .type "slice", data := .fields #[vl, vu, .none] } } := I3.kept (t' := s3.toks) λ b ob q => Zb _ q
 obtain ⟨T, id, hT, ht, hg⟩ := hr pins { s3 with heap := s3.heap.push { cls := .type "slice", data := .fields #[vl, vu, .none] } } σ H3 x v vl vu l u s3.heap.objs.size Q I4 r1 (Heap.IsSliceOf.new ..) pl pu q3
 show wpAny (model X.prog X.w) X.A (subscriptTail e (.Slice lo hi none p2) v (.ref s3.heap.objs.size)) (EP X pins σ Q) X.xe { s3 with heap := s3.heap.push { cls := .type "slice", data := .fields #[vl, vu, .none] } }
 exact tail_any (ops := [.ref s3.heap.objs.size, v]) ht hT hg (by with_unfolding_all rfl)
noncomputable def Qi8 (xs : List V) (lo hi : Option Int) : List V := (xs.drop (HT.sIx xs.length 0 lo)).take (HT.sIx xs.length xs.length hi - HT.sIx xs.length 0 lo)
theorem Qm1 (xs : List V) (lo hi : Option Int) : (Qi8 xs lo hi).length <= xs.length := by
 unfold Qi8
 rw [Zao, Zaz]
 omega
end
end L2
namespace L2
open PySem PySem.Spec PyProof.Rows
noncomputable def ixN (n : Nat) (i : Int) : Option Nat := if 0 <= i then (if i < n then some i.toNat else none) else if -(n : Int) <= i then some (i + n).toNat else none
noncomputable def atI {α : Type} (xs : List α) (i : Int) : Option α := (ixN xs.length i).bind λ j => xs[j]?
theorem Qft {n : Nat} {i : Int} {j : Nat} (h : ixN n i = some j) : seqIndex? i n = some j /\ j < n /\ -(n : Int) <= i /\ i < n := by
 unfold ixN at h
 by_cases h0 : 0 <= i
 ·rw [if_pos h0] at h
  by_cases h1 : i < n
  ·rw [if_pos h1] at h
   have e : i.toNat = j := Option.some.inj h
   exact ⟨by rw [seqIndex_of h0 h1, e], by omega, by omega, h1⟩
  ·rw [if_neg h1] at h; cases h
 ·rw [if_neg h0] at h
  by_cases h1 : -(n : Int) <= i
  ·rw [if_pos h1] at h
   have e : (i + n).toNat = j := Option.some.inj h
   exact ⟨by rw [seqIndex_neg (by omega) h1, e], by omega, h1, by omega⟩
  ·rw [if_neg h1] at h; cases h
theorem QjL {α : Type} {xs : List α} {i : Int} {v : α} (h : atI xs i = some v) : ∃ j, seqIndex? i xs.length = some j /\ xs[j]? = some v /\ j < xs.length /\ -(xs.length : Int) <= i /\ i < xs.length := by
 unfold atI at h
 cases e : ixN xs.length i with
 | none => rw [e] at h; cases h
 | some j =>
  rw [e] at h
  obtain ⟨h1, h2, h3, h4⟩ := Qft e
  exact ⟨j, h1, h, h2, h3, h4⟩
def Qhn (b : Expr) : Prop := ∀ o i, subscripted b false o i = operate [o, i] (getItem o i)
def IxR (X : Cx) (r : R2) : Prop :=
 ∀ (value slice : Expr) (pins : List (Addr × Obj)) (s : Shared) (σ : St) (H : Hp) (x y : V) (v u : Value) (Q : VK), Inv X pins σ H s -> RelV x v -> RelV y u -> r x y H Q →
  subscripted slice false v u = operate [v, u] (getItem v u) -> wpAny (model X.prog X.w) X.A (subscriptTail value slice v u) (EP X pins σ Q) X.xe s
def MtR (X : Cx) (id : String) (r : V -> List V -> Hp -> VK -> Prop) : Prop :=
 ∀ (pins : List (Addr × Obj)) (s : Shared) (σ : St) (H : Hp) (x : V) (xs : List V) (v : Value) (us : List Value) (Q : VK), Inv X pins σ H s -> RelV x v -> Qy xs us -> r x xs H Q →
  wpAny (model X.prog X.w) X.A (call (.builtin id) (v :: us)) (EP X pins σ Q) X.xe s
section
variable {X : Cx} {a b : Expr} {ta tb : TE} {pos : Pos}
theorem IxR.or {r r' : R2} (h : IxR X r) (h' : IxR X r') : IxR X (λ x y H Q => r x y H Q ∨ r' x y H Q) := by
 intro value slice pins s σ H x y v u Q I rx ry q hs
 rcases q with q | q
 ·exact h value slice pins s σ H x y v u Q I rx ry q hs
 ·exact h' value slice pins s σ H x y v u Q I rx ry q hs
theorem QkL {r : R2} (hr : IxR X r) (ha : PE X a ta) (hb : PE X b tb) (hs : Qhn b) : PE X (.Subscript a b pos) (tOp r ta tb) := by
 intro pins s σ H Q I h
 exact Subscript_ (Qrt ha hb I h λ v u s2 x y H2 I2 rx ry q => hr a b pins s2 σ H2 x y v u Q I2 rx ry q (hs _ _))
noncomputable def Qwx (K : PySem.W.Frag) : R2 := λ x y H Q => ∃ p xs i v, x = .ref p /\ y = .int i /\ SqL K H p xs /\ atI xs i = some v /\ Q v H
noncomputable def QxC (K : PySem.W.Frag) : R2 := λ x y H Q => ∃ p xs i v, x = .ref p /\ y = .int i /\ SqT K H p xs /\ atI xs i = some v /\ Q v H
theorem QnD : IxR X (Qwx X.K) := by
 intro value slice pins s σ H x y v u Q I rx ry h hs
 obtain ⟨p, xs, i, z, rfl, rfl, hq, he, q⟩ := h
 cases rx
 obtain ⟨t, rfl⟩ := ry
 obtain ⟨its, r, pl, hz⟩ := I.list hq
 obtain ⟨j, h1, h2, h3, h4, h5⟩ := QjL he
 obtain ⟨w, ew, rw'⟩ := r.get h2
 have hl := r.length
 have hn := Qfn
 have fin : EP X pins σ Q w s := ⟨z, H, I, rw', q⟩
 by_cases h0 : 0 <= i
 ·have hj : i.toNat = j := by
   rw [seqIndex_of h0 h5] at h1
   exact Option.some.inj h1
  exact item_listR pl.isList h0 (by omega) (by rw [hj]; simpa using ew) fin hs
 ·have hj : (i + (its.toArray.size : Int)).toNat = j := by
   rw [seqIndex_neg (by omega) h4] at h1
   rw [Zp, ← hl]
   exact Option.some.inj h1
  exact subscriptTail_builtinR (x := w) pl.isList.typeIs slot_list_getitem.lookup
   (wpAny_getItem_list_neg (Q := λ r s' => r = w /\ EP X pins σ Q r s') pl.isList (by omega) (by rw [Zp] <;> omega) (by omega) (by rw [hj]; simpa using ew) ⟨rfl, fin⟩) hs
theorem QiM : IxR X (QxC X.K) := by
 intro value slice pins s σ H x y v u Q I rx ry h hs
 obtain ⟨p, xs, i, z, rfl, rfl, hq, he, q⟩ := h
 cases rx
 obtain ⟨t, rfl⟩ := ry
 obtain ⟨its, r, pl, hz⟩ := I.tuple hq
 obtain ⟨j, h1, h2, h3, h4, h5⟩ := QjL he
 obtain ⟨w, ew, rw'⟩ := r.get h2
 have hl := r.length
 have hn := Qfn
 have fin : EP X pins σ Q w s := ⟨z, H, I, rw', q⟩
 exact subscriptTail_builtinR (x := w) pl.typeIs slot_tuple_getitem.lookup
  (getItem_tuple (j := j) (Q := λ r s' => r = w /\ EP X pins σ Q r s') pl (by omega) (by omega) (by rw [Zp, ← hl]; exact h1) (by simpa using ew) ⟨rfl, fin⟩) hs
theorem Qoh (its : List Value) (n j : Nat) (u : Value) : Obj.mapSeq (·.setIfInBounds j u) { cls := .type "list", data := .seq its.toArray n } = { cls := .type "list", data := .seq (its.set j u).toArray n } := by
 simp [Obj.mapSeq]
theorem Inv.lst {pins : List (Addr × Obj)} {σ : St} {H : Hp} {s : Shared} {p : Addr} {xs : List V} (I : Inv X pins σ H s) (h : H p = some (.lst xs)) :
  ∃ (its : List Value) (n : Nat), Qy xs its /\ s.heap.get? p = some { cls := .type "list", data := .seq its.toArray n } /\ xs.length <= sizeLine := by
 obtain ⟨z, its, n, r, e⟩ := I.hok p _ h
 exact ⟨its, n, r, e, z⟩
theorem Inv.QuG {pins : List (Addr × Obj)} {σ : St} {H : Hp} {s : Shared} {p : Addr} {xs ys : List V} {its its' : List Value} {n n' : Nat} {f : Obj -> Obj} (I : Inv X pins σ H s) (h : H p = some (.lst xs))
  (ho : s.heap.get? p = some { cls := .type "list", data := .seq its.toArray n }) (hf : f { cls := .type "list", data := .seq its.toArray n } = { cls := .type "list", data := .seq its'.toArray n' }) (r : Qy ys its') (hz : ys.length <= sizeLine) (t : Nat) :
  Inv X pins σ (upd H p (.lst ys)) { s with heap := s.heap.update p f, toks := t } := by
 have e : (s.heap.update p f).get? p = some { cls := .type "list", data := .seq its'.toArray n' } := by
  rw [Heap.get?_update_self f ho (by rw [hf] <;> rfl), hf]
 refine I.write (x := p) (e := p) (by rw [h]; trivial) (.inl rfl) (λ b u hb q => (Heap.get?_update_other _ _ (Ne.symm hb)).trans q) ⟨_, e⟩ ?_
 exact ⟨hz, its', n', r, e⟩
noncomputable def QsP : V -> V -> V -> Hp -> (Hp -> Prop) -> Prop := λ o i v H Q => ∃ p xs k j, o = .ref p /\ i = .int k /\ H p = some (.lst xs) /\ ixN xs.length k = some j /\ Q (upd H p (.lst (xs.set j v)))
theorem set_list : Qr4 X QsP := by
 intro pins s σ H o i v ov iv u Q I ro ri rv h
 obtain ⟨p, xs, k, j, rfl, rfl, hp, hj, q⟩ := h
 cases ro
 obtain ⟨t, rfl⟩ := ri
 obtain ⟨its, n, r, ho, hz⟩ := I.lst hp
 obtain ⟨h1, h2, h3, h4⟩ := Qft hj
 have hl := r.length
 have hn := Qfn
 have I' : Inv X pins σ (upd H p (.lst (xs.set j v))) { s with heap := s.heap.update p (Obj.mapSeq (·.setIfInBounds j u)) } :=
  I.QuG hp ho (Qoh its n j u) (r.set rv j) (by rw [Zbf]; exact hz) s.toks
 by_cases h0 : 0 <= k
 ·have hk : k.toNat = j := by
   rw [seqIndex_of h0 h4] at h1
   exact Option.some.inj h1
  exact PySem.W.ki_setAt ho h0 (by omega) (by rw [Zp, ← hl]; exact h4) (by rw [hk]; exact ⟨_, I', q⟩)
 ·have hk : (k + (its.toArray.size : Int)).toNat = j := by
   rw [seqIndex_neg (by omega) h3] at h1
   rw [Zp, ← hl]
   exact Option.some.inj h1
  exact PySem.W.ki_setBack ho (by omega) (by rw [Zp, ← hl]; exact h3) (by omega) (by rw [hk]; exact ⟨_, I', q⟩)
theorem QkY (lo hi : Option Int) (n : Nat) : (sliceBounds lo hi none n).1 = ((HT.sIx n 0 lo : Nat) : Int) /\ (sliceBounds lo hi none n).2.1 = ((HT.sIx n n hi : Nat) : Int) /\ (sliceBounds lo hi none n).2.2 = 1 := by
 refine ⟨?_, ?_, rfl⟩
 ·cases lo with
  | none => simp [sliceBounds, HT.sIx]
  | some i =>
   simp only [sliceBounds, HT.sIx, Option.getD_none, show (1 : Int) > 0 by decide, if_true]
   by_cases h : i < 0
   ·simp only [h, if_true] <;> omega
   ·simp only [h, if_false] <;> omega
 ·cases hi with
  | none => simp [sliceBounds, HT.sIx]
  | some i =>
   simp only [sliceBounds, HT.sIx, Option.getD_none, show (1 : Int) > 0 by decide, if_true]
   by_cases h : i < 0
   ·simp only [h, if_true] <;> omega
   ·simp only [h, if_false] <;> omega
theorem QkB (its : List Value) (lo hi : Option Int) : slicePick its.toArray lo hi none = ((its.drop (HT.sIx its.length 0 lo)).take (HT.sIx its.length its.length hi - HT.sIx its.length 0 lo)).toArray := by
 obtain ⟨h1, h2, h3⟩ := QkY lo hi its.toArray.size
 unfold slicePick
 rw [h1, h2, h3]
 simp only [sliceRange_one, pick_run, Zp] <;> rfl
noncomputable def QxW (K : PySem.W.Frag) : V -> Option Int -> Option Int -> Hp -> VK -> Prop := λ x lo hi H Q => ∃ a xs, x = .ref a /\ SqL K H a xs /\ ∀ p, H p = none -> Q (.ref p) (upd H p (.lst (Qi8 xs lo hi)))
theorem Quq : SlR X (QxW X.K) := by
 intro pins s σ H x v vl vu lo hi sl Q I rx hs pl pu h
 obtain ⟨a, xs, rfl, hx, q⟩ := h
 cases rx
 obtain ⟨its, r, ht, hz⟩ := I.list hx
 have hlen := r.length
 refine ⟨"list", _, slot_list_getitem.lookup, ht.isList.typeIs, ?_⟩
 refine wpAny_getItem_list_slice ht.isList hs pl pu .none (by simp) ?_ (by rw [Zp] <;> omega)
 rw [QkB, ← hlen]
 refine ⟨.ref s.heap.objs.size, _, I.laid (t' := s.toks) (o := .lst (Qi8 xs lo hi)) (λ b ob q => Zb _ q) (Zm _) ?_, rfl, q _ (I.hok.fresh (Zm _))⟩
 exact ⟨ZF (Qm1 xs lo hi) hz, _, 0, (r.drop (HT.sIx xs.length 0 lo)).take (HT.sIx xs.length xs.length hi - HT.sIx xs.length 0 lo), ZA _ rfl⟩
theorem Ql0 : QcV X (.builtin "len") (λ xs H Q => ∃ p ys, xs = [.ref p] /\ (SqL X.K H p ys ∨ SqT X.K H p ys) /\ Q (.int ys.length) H) := by
 intro pins s σ H xs us Q I r h
 obtain ⟨p, ys, rfl, hq, q⟩ := h
 obtain ⟨u, rfl, rx⟩ := vals1 r
 cases rx
 have hn := Qfn
 rcases hq with hq | hq
 ·obtain ⟨its, r', pl, hz⟩ := I.list hq
  have hlen := r'.length
  exact Calls.call_len_list pl.isList (by simp only [Zp] <;> omega) ⟨.int ys.length, H, I.tok _, ⟨s.toks + 1, by rw [Zp, hlen]⟩, q⟩
 ·obtain ⟨its, r', pl, hz⟩ := I.tuple hq
  have hlen := r'.length
  exact len_tuple pl (by simp only [Zp] <;> omega) ⟨.int ys.length, H, I.tok _, ⟨s.toks + 1, by rw [Zp, hlen]⟩, q⟩
theorem Qmn : QcV X (.type "list") (λ xs H Q => ∃ p ys, xs = [.ref p] /\ (SqL X.K H p ys ∨ SqT X.K H p ys) /\ ∀ l, H l = none -> Q (.ref l) (upd H l (.lst ys))) := by
 intro pins s σ H xs us Q I r h
 obtain ⟨p, ys, rfl, hq, q⟩ := h
 obtain ⟨u, rfl, rx⟩ := vals1 r
 cases rx
 have fin : ∀ (its : List Value), Qy ys its -> ys.length <= sizeLine -> ∀ (h' : Heap) (c' : Nat), (∀ b o', s.heap.get? b = some o' -> h'.get? b = some o') →
   h'.get? s.heap.objs.size = some { cls := .type "list", dict := none, data := .seq its.toArray c', slots := #[] } -> EP X pins σ Q (.ref s.heap.objs.size) { s with heap := h' } := λ its r' hz h' c' kp e =>
  ⟨.ref s.heap.objs.size, _, I.laid (t' := s.toks) kp (Zm _) (show Qck X.prog X.w _ h' _ (.lst ys) from ⟨hz, its, c', r', e⟩), rfl, q _ (I.hok.fresh (Zm _))⟩
 rcases hq with hq | hq
 ·obtain ⟨its, r', pl, hz⟩ := I.list hq
  have hlen := r'.length
  obtain ⟨o, ho, hc, n, hd⟩ := pl.isList
  exact call_list_seq p (.inl rfl) ho hc hd (λ h' c' kp e => fin its r' hz h' c' kp e) (by simp only [Zp] <;> omega)
 ·obtain ⟨its, r', pl, hz⟩ := I.tuple hq
  have hlen := r'.length
  obtain ⟨o, ho, hc, n, hd⟩ := pl
  exact call_list_seq p (.inr rfl) ho hc hd (λ h' c' kp e => fin its r' hz h' c' kp e) (by simp only [Zp] <;> omega)
def tyV (K : PySem.W.Frag) (T : String) (x : V) (H : Hp) : Prop := match x with
 | .str _ => T = "str"
 | .int _ => T = "int"
 | .ref p => (T = "list" /\ ∃ xs, SqL K H p xs) ∨ (T = "tuple" /\ ∃ o, K.lookup p = some o /\ o.cls = .type "tuple" /\ o.dict = none) ∨
   (T = "dict" /\ ((∃ kvs, H p = some (.dK kvs)) ∨ ∃ kvs, H p = some (.dT kvs))) ∨ (T = "set" /\ ∃ S n, H p = some (.set S n))
 | _ => False
theorem QpY {pins : List (Addr × Obj)} {σ : St} {H : Hp} {s : Shared} {T : String} {x : V} {v : Value} (I : Inv X pins σ H s) (r : RelV x v) (ty : tyV X.K T x H) :
  s.TypeIs v T /\ ∀ a, v = .ref a -> ∃ ob, s.heap.get? a = some ob /\ ob.dict = none := by
 cases x with
 | str z =>
  obtain ⟨t, rfl⟩ := r
  cases (show T = "str" from ty)
  exact ⟨typeIs_str s z t, λ _ e => nomatch e⟩
 | int i =>
  obtain ⟨t, rfl⟩ := r
  cases (show T = "int" from ty)
  exact ⟨typeIs_int s i t, λ _ e => nomatch e⟩
 | ref p =>
  cases r
  rcases ty with ⟨rfl, xs, hq⟩ | ⟨rfl, o, hk, hc, hd⟩ | ⟨rfl, hk⟩ | ⟨rfl, S, n, hk⟩
  ·obtain ⟨its, _, pl, _⟩ := I.list hq
   refine ⟨pl.isList.typeIs, λ a e => ?_⟩
   cases e
   obtain ⟨o, n, e, c, hd, _⟩ := pl
   exact ⟨o, e, hd⟩
  ·refine ⟨⟨o, I.kIn p o hk, hc⟩, λ a e => ?_⟩
   cases e
   exact ⟨o, I.kIn _ o hk, hd⟩
  ·have z : ∃ o, s.heap.get? p = some o /\ o.ExactDict := by
    rcases hk with ⟨kvs, hk⟩ | ⟨kvs, hk⟩
    ·obtain ⟨_, _, _, _, o, _, _, e, ex, _⟩ := I.hok p _ hk
     exact ⟨o, e, ex⟩
    ·obtain ⟨_, _, _, _, o, _, _, e, ex, _⟩ := I.hok p _ hk
     exact ⟨o, e, ex⟩
   obtain ⟨o, e, ex⟩ := z
   refine ⟨⟨o, e, ex.1⟩, λ a e2 => ?_⟩
   cases e2
   exact ⟨o, e, ex.2.1⟩
  ·obtain ⟨o, _, _, _, e, ex, _⟩ := I.hok p _ hk
   refine ⟨⟨o, e, ex.1⟩, λ a e2 => ?_⟩
   cases e2
   exact ⟨o, e, ex.2.1⟩
 | _ => exact False.elim ty
noncomputable def Qwq (K : PySem.W.Frag) (T : String) (r : V -> List V -> Hp -> VK -> Prop) (to : TE) : TE := λ σ H Q => to σ H λ x H1 => tyV K T x H1 /\ r x [] H1 Q
noncomputable def tBM (K : PySem.W.Frag) (T : String) (r : V -> List V -> Hp -> VK -> Prop) (to : TE) (t : TA) : TE := λ σ H Q => to σ H λ x H1 => tyV K T x H1 /\ t σ H1 λ xs H2 => r x xs H2 Q
variable {o e : Expr} {es : List Expr} {to : TE} {t : TA} {name : Str} {apos cpos : Pos} {T id : String} {r : V -> List V -> Hp -> VK -> Prop}
theorem QqF (pa : PlainAttrs T) (slot : Slot T name id) (hty : typeOf (.builtin id) = pure (.type "method_descriptor")) (hm : MtR X id r) (ho : PE X o to)
  (hbase : attributeBase o name X.env (eval o X.env) = eval o X.env := by rfl) (hline : (apos.endLine == cpos.line) = true := by rfl) : PE X (.Call (.Attribute o name apos) [] [] cpos) (Qwq X.K T r to) := by
 intro pins s σ H Q I h
 refine wpAny_Call_method0_late hbase hline (thn (ho pins s σ H _ I h) λ v s1 ⟨x, H1, I1, r1, ty, q1⟩ => ?_)
 obtain ⟨h1, h2⟩ := QpY I1 r1 ty
 exact ⟨T, id, pa, slot, hty, h1, h2, Calls.callWith_builtin rfl (PySem.evalArgs_none (hm pins s1 σ H1 x [] v [] Q I1 r1 .nil q1))⟩
theorem QiJ (pa : PlainAttrs T) (slot : Slot T name id) (hty : typeOf (.builtin id) = pure (.type "method_descriptor")) (hm : MtR X id r) (ho : PE X o to) (ha : PA X (e :: es) t)
  (hbase : attributeBase o name X.env (eval o X.env) = eval o X.env := by rfl)
  (hfew : ((backTo cpos (starEach (e :: es) X.env)).all (λ x => !x.1) && (backToKw cpos (keywordEach [] X.env)).all (λ x => x.1.isSome)
   && decide ((e :: es).length + ([] : List Keyword).length + (if ([] : List Keyword).isEmpty then 0 else 1) < 30)) = true := by rfl)
  (hline : (apos.endLine == cpos.line) = true := by rfl) (hs : starEach (e :: es) X.env = (false, eval e X.env) :: starEach es X.env := by rfl) (hplain : (backTo cpos (starEach es X.env)).any (·.1) = false := by rfl) :
  PE X (.Call (.Attribute o name apos) (e :: es) [] cpos) (tBM X.K T r to t) := by
 intro pins s σ H Q I h
 refine wpAny_Call_method_late hbase hfew hline rfl (thn (ho pins s σ H _ I h) λ v s1 ⟨x, H1, I1, r1, ty, q1⟩ => ?_)
 obtain ⟨h1, h2⟩ := QpY I1 r1 ty
 refine ⟨T, id, pa, slot, hty, h1, h2, ?_⟩
 have hA := ha cpos pins s1 σ H1 _ I1 q1
 rw [hs] at hA ⊢
 refine Calls.callWith_builtin (by show (false || (backTo cpos (starEach es X.env)).any (·.1)) = false; rw [hplain] <;> rfl) (Calls.evalArgs_plain ?_)
 exact thn hA λ us s2 ⟨vs, H2, I2, r2, q2⟩ => hm pins s2 σ H2 x vs v us Q I2 r1 r2 q2
end
end L2
namespace L2
open PySem PySem.Spec PyProof.Rows
def MtM (X : Cx) (id : String) (r : V -> List V -> Hp -> VK -> Prop) : Prop :=
 ∀ (pins : List (Addr × Obj)) (s : Shared) (σ : St) (H : Hp) (x : V) (xs : List V) (v : Value) (us : List Value) (Q : VK), Inv X pins σ H s -> RelV x v -> Qy xs us -> r x xs H Q →
  wpAny (model X.prog X.w) X.A (call (.builtin id) (v :: us)) (EP X pins σ Q) X.xe s
theorem Qy.one : ∀ {x : V} {us : List Value}, Qy [x] us -> ∃ u, us = [u] /\ RelV x u
 | _, _, .cons r .nil => ⟨_, rfl, r⟩
theorem Qy.zero : ∀ {us : List Value}, Qy [] us -> us = []
 | _, .nil => rfl
theorem Qy.eraseIdx : ∀ {xs : List V} {us : List Value} (i : Nat), Qy xs us -> Qy (xs.eraseIdx i) (us.eraseIdx i)
 | _, _, _, .nil => .nil
 | _, _, 0, .cons _ t => t
 | _, _, i + 1, .cons r t => .cons r (Qy.eraseIdx i t)
theorem Qy.rep {xs : List V} {us : List Value} (h : Qy xs us) : ∀ k : Nat, Qy (List.replicate k xs).flatten (List.replicate k us).flatten
 | 0 => .nil
 | k + 1 => by
  rw [Zaf, Zaf, Zak, Zak]
  exact Qy.append h (Qy.rep h k)
theorem QeT {α : Type} : ∀ (l : List α) (i : Nat), (l.eraseIdx i).length <= l.length
 | [], _ => Zm _
 | _ :: _, 0 => Zbu _
 | _ :: r, i + 1 => Nat.succ_le_succ (QeT r i)
theorem foldl_rep (its : List Value) : ∀ (k : Nat) (acc : List Value),
  List.foldl (λ x1 x2 => x1 ++ x2) acc.toArray (List.replicate k its.toArray) = (acc ++ (List.replicate k its).flatten).toArray
 | 0, acc => by simp
 | k + 1, acc => by
  have e : acc.toArray ++ its.toArray = (acc ++ its).toArray := by simp
  have e2 : (acc ++ its) ++ (List.replicate k its).flatten = acc ++ (List.replicate (k + 1) its).flatten := by
   rw [Zaf, Zak, ZaU]
  rw [← e2, ← foldl_rep its k (acc ++ its), ← e, Zaf, List.foldl_cons]
section
variable {X : Cx} {pins : List (Addr × Obj)} {σ : St} {H : Hp} {s : Shared} {l b : Addr} {xs ys zs : List V}
theorem Inv.Qmb {its its' : List Value} {n : Nat} {f : Array Value -> Array Value} {t' : Nat} (I : Inv X pins σ H s) (hH : H l = some (.lst xs))
  (e : s.heap.get? l = some { cls := .type "list", data := .seq its.toArray n }) (hf : f its.toArray = its'.toArray) (hv : Qy ys its') (hz : ys.length <= sizeLine) :
  Inv X pins σ (upd H l (.lst ys)) { s with heap := s.heap.update l (Obj.mapSeq f), toks := t' } := by
 have q := PySem.IsL.update e f
 rw [hf] at q
 refine I.write (x := l) (e := l) (by rw [hH]; exact trivial) (.inl rfl) (λ b' u hb hu => (Heap.get?_update_other s.heap (Obj.mapSeq f) (Ne.symm hb)).trans hu) ⟨_, q⟩ ?_
 exact ⟨hz, its', _, hv, q⟩
theorem Inv.QuK {its : List Value} {t' : Nat} (I : Inv X pins σ H s) (hv : Qy ys its) (hz : ys.length <= sizeLine) :
  Inv X pins σ (upd H s.heap.objs.size (.lst ys)) { s with heap := s.heap.push { cls := .type "list", data := .seq its.toArray }, toks := t' } :=
 I.laid (λ _ _ q => Zb _ q) (Zm _) ⟨hz, its, 0, hv, ZA _ rfl⟩
theorem Inv.fresh (I : Inv X pins σ H s) : H s.heap.objs.size = none := I.hok.fresh (Zm _)
theorem Inv.Qje (I : Inv X pins σ H s) (hH : H l = some (.lst xs)) : xs.length <= sizeLine /\ ∃ (its : List Value) (n : Nat), Qy xs its /\ xs.length = its.length /\ s.heap.get? l = some { cls := .type "list", data := .seq its.toArray n } := by
 obtain ⟨z, its, n, r, e⟩ := I.hok l _ hH
 exact ⟨z, its, n, r, r.length, e⟩
theorem Qr1 {n : Nat} (h : n <= sizeLine) : Builtin.List.listTooLong n = false := by
 unfold Builtin.List.listTooLong
 exact decide_eq_false (by omega)
end
section
variable {X : Cx}
noncomputable def QjQ : V -> List V -> Hp -> VK -> Prop := λ x vs H Q => ∃ l xs y, x = .ref l /\ vs = [y] /\ H l = some (.lst xs) /\ xs.length < sizeLine /\ Q .non (upd H l (.lst (xs ++ [y])))
theorem QgP : MtM X "list.append" QjQ := by
 intro pins s σ H x vs v us Q I rx rv h
 obtain ⟨l, xs, y, rfl, rfl, hH, hz, q⟩ := h
 cases rx
 obtain ⟨u, rfl, ru⟩ := rv.one
 obtain ⟨z, its, n, r, hl, e⟩ := I.Qje hH
 refine call_meets F.slot_list_append ⟨_, e, rfl⟩ F.entry_list_append (F.args_list_append_2 _ _) (PySem.list_append l its.toArray n u (by rw [Zp]; omega)) ⟨e, ?_⟩
 refine ⟨.non, _, I.Qmb (its' := its ++ [u]) hH e (by simp) (r.append (.cons ru .nil)) ?_, rfl, q⟩
 rw [Zw, ZaS]
 omega
noncomputable def QlE : V -> List V -> Hp -> VK -> Prop := λ x vs H Q => ∃ l xs i k y, x = .ref l /\ vs = [.int i] /\ H l = some (.lst xs) /\ -(2 ^ 63) <= i /\ i < 2 ^ 63 /\ seqIndex? i xs.length = some k /\ xs[k]? = some y /\ Q y (upd H l (.lst (xs.eraseIdx k)))
theorem QsN : MtM X "list.pop" QlE := by
 intro pins s σ H x vs v us Q I rx rv h
 obtain ⟨l, xs, i, k, y, rfl, rfl, hH, h1, h2, hk, hy, q⟩ := h
 cases rx
 obtain ⟨u, rfl, ru⟩ := rv.one
 obtain ⟨t, rfl⟩ := ru
 obtain ⟨z, its, n, r, hl, e⟩ := I.Qje hH
 obtain ⟨w, hw, rw'⟩ := r.get hy
 refine call_meets F.slot_list_pop ⟨_, e, rfl⟩ F.entry_list_pop (F.args_list_pop_2 _ _)
  (MeetsSeq.list_pop_at l its.toArray n i t k w (fitsIndex_both h1 h2) (by rw [Zp, ← hl]; exact hk) (by rw [← Array.getElem?_toList]; exact hw) (by rw [Zp]; omega)) ⟨e, ?_⟩
 refine ⟨y, _, I.Qmb (its' := its.eraseIdx k) hH e ?_ (r.eraseIdx k) ?_, rw', q⟩
 ·show its.toArray.eraseIdxIfInBounds k = (its.eraseIdx k).toArray
  rw [Zbn]
 ·have := QeT xs k
  omega
noncomputable def Qpg : V -> List V -> Hp -> VK -> Prop := λ x vs H Q => ∃ l xs, x = .ref l /\ vs = [] /\ H l = some (.lst xs) /\ Q .non (upd H l (.lst []))
theorem QqW : MtM X "list.clear" Qpg := by
 intro pins s σ H x vs v us Q I rx rv h
 obtain ⟨l, xs, rfl, rfl, hH, q⟩ := h
 cases rx
 have hus := rv.zero
 subst hus
 obtain ⟨z, its, n, r, hl, e⟩ := I.Qje hH
 refine call_meets F.slot_list_clear ⟨_, e, rfl⟩ F.entry_list_clear (F.args_list_clear_1 _) (AutoSeq1.list_clear_list_0 l its.toArray n (by rw [Zp]; omega)) ⟨e, ?_⟩
 exact ⟨.non, _, I.Qmb (its' := []) (ys := []) hH e rfl .nil (Zag _), rfl, q⟩
theorem len_rep {α : Type} (xs : List α) (k : Nat) : (List.replicate k xs).flatten.length = k * xs.length := by
 induction k with
 | zero => simp
 | succ k ih => rw [Zaf, Zak, Zw, ih, ZbS, Nat.add_comm]
end
section
variable {prog : Program} {w : World} {A : Around} {E : Value -> Shared -> Prop} {s : Shared}
end
section
variable {X : Cx}
end
end L2
namespace Att
open PySem PySem.W PySem.Calls PyProof.Rows
theorem QiC {P : Params} {h : Heap} : ∀ (ns : List Int) (vs : List Value), WellAll P h vs (ns.map WData.int) -> IntsAre vs ns := by
 intro ns
 induction ns with
 | nil =>
  intro vs w
  rw [ZbB] at w
  cases w
  exact .nil
 | cons n ns ih =>
  intro vs w
  rw [Zn] at w
  cases w with
  | cons a b =>
   cases a
   exact .cons _ _ (ih _ b)
theorem Qpj {l : OpenLaw} {n : Nat} (hn : l.most = some n) {P : Params} {h : Heap} {args : List WData} {vals : List Value}
  (hpre : l.row.toRowW.claim.pre args = true) (hwl : WellAll P h vals args) :
  ∃ a vs ns, vals = [Value.ref a] /\ args = [WData.list (ns.map WData.int)] /\ h.get? a = some { cls := .type "list", data := .seq vs.toArray } /\ IntsAre vs ns /\ ns.length <= n := by
 have hsh : WShape.hasAll [] args [.list .int] = true := (pre_splitW hpre).1
 have hc : l.pre.holds [] { args := args } = true := (pre_splitW hpre).2
 obtain ⟨d, r, rfl, h1, h2⟩ := hasAllW_cons hsh
 obtain rfl := hasAllW_nil h2
 obtain ⟨xs, rfl, h3⟩ := hasW_list h1
 obtain ⟨ns, rfl⟩ := items_int h3
 have hlen : ns.length <= n := by
  unfold OpenLaw.pre at hc
  have h4 : (WTm.not (.lt (.lit (.int (n : Int))) (.len (.arg 0)))).holds [] { args := [.list (ns.map .int)] } = true := by
   have h4 := (holds_andW hc).1
   rw [hn] at h4
   exact h4
  have h5 := condW_of h4 (w_not (w_lt w_lit (w_len_list (w_arg rfl))))
  rw [Zi] at h5
  refine Nat.le_of_not_lt λ q => ?_
  have q' : (n : Int) < ((ns.length : Nat) : Int) := by omega
  first
   | (rw [decide_eq_true q'] at h5; exact absurd h5 (by decide))
   | (simp at h5; omega)
 cases hwl with
 | cons w1 w2 =>
  cases w2
  cases w1 with
  | list ho hall => exact ⟨_, _, ns, rfl, rfl, ho, QiC ns _ hall, hlen⟩
theorem Qqw (l : OpenLaw) (args : List WData) : l.row.toRowW.claim.post args (.bool true) args = true :=
 postW_of (r := l.row.toRowW) (X := (true == true))
  (show WShape.has [] (.bool true) .bool = true by first | rfl | decide | simp [WShape.has, WShape.arms, WShape.armsAll])
  (show (WTm.eq .res (.lit (.bool true))).value [] { args := args, res := some (.bool true), after := args } = some (.bool (true == true)) from w_eq_bool (w_res rfl) w_lit) rfl
theorem Qm2 {l : OpenLaw} {n : Nat} {q : Program} {loose : List Str} {XP : (Str -> Option Value) -> Heap -> Prop} {YP : World -> Heap -> Prop} {d : DefRec}
  (hn : l.most = some n) (hdf : d.params.defaults = [])
  (call : ∀ (w : World) (s₀ s₁ : Shared) (mg mb : Str -> Option Value) (fa : Addr) (o : Obj) (pm cd doc : Value) (a : Addr) (vs : List Value) (ns : List Int),
   Ground q loose [] XP w s₀ mg mb s₁.heap -> YP w s₁.heap →
   s₁.heap.get? fa = some o -> o.data = .func (docDef d.name d.params d.body d.scope pm cd doc) -> s₁.heap.CodeRec cd d.name -> mg d.name = some (.ref fa) →
   s₁.heap.get? a = some { cls := .type "list", data := .seq vs.toArray } -> IntsAre vs ns -> ns.length <= n -> s₁.gens = #[] →
   codeAny (model l.prog w) callerA (.call (.ref fa) ⟨[.ref a], []⟩) (λ r s' => r = .ok (.ret (.bool true)) /\ OldK s₁.heap s'.heap /\ s'.os = s₁.os /\ AllBare s'.gens) s₁) :
  WalkO q loose XP YP l.row.toRowW d [] (λ f vs => PySem.call f vs) := by
 intro w s₀ s₁ mg mb G Y fa o pm cd doc dV kV ho hd hcd hD hmg hg args vals as hpre hlay hrd hwl hlo
 obtain rfl : dV = .none := Dflts.none hD hdf
 obtain rfl : kV = .none := Dflts.noKw hD
 obtain ⟨a, vs, ns, rfl, rfl, hobj, hints, hlen⟩ := Qpj hn hpre hwl
 refine enter_call (codeAny_mono (call w s₀ s₁ mg mb fa o pm cd doc a vs ns G Y ho (fd_plain hd) hcd hmg hobj hints hlen hg) λ r s' hq => ?_)
 obtain ⟨rfl, h2, h3, h4⟩ := hq
 exact ⟨.inl ⟨.bool true, .bool true, [], rfl, λ _ => rfl, .bool true, Qqw l _, λ _ => ⟨List.Pairwise.nil, λ _ hm => (nomatch hm)⟩⟩, h2, h3, h4⟩
section
variable {prog : Program} {w : World} {A : Around} {E : Value -> Shared -> Prop} {s : Shared} {K : Frag}
end
end Att
namespace L2
open PySem PySem.Spec PyProof.Rows
theorem QbU : ∀ {vs : List Value} {ns : List Int}, IntsAre vs ns -> Qy (ns.map V.int) vs
 | _, _, .nil => .nil
 | _, _, .cons n t h => .cons ⟨t, rfl⟩ (QbU h)
def QvR (H : Hp) : Prop := ∀ b, H b = none ∨ ∃ o xs, H b = some (.frz o (.lst xs))
theorem QsH {P : Program} {w : World} {K : PySem.W.Frag} {mg mb : Str -> Option Value} {CX : CXT} {k : Nat} {fa a : Addr} {fd : FuncData} {x : Str} {sp : Sp} {s₁ : Shared} {vs : List Value} {ns : List Int}
  (KX : K.In s₁.heap) (hns : s₁.heap.Ns mainGlobals mg) (hb : s₁.heap.Ns builtinsNs mb) (hbb : ∀ x : Str, x ≠ "__name__" -> mb x = bootBuiltins x) (hlim : s₁.heap.NoLimit) (hg : s₁.gens = #[])
  (ha : s₁.heap.get? a = some { cls := .type "list", data := .seq vs.toArray }) (hi : IntsAre vs ns) (hl : ns.length <= sizeLine) (hr : Qbl k callerA)
  (F : ∀ base : Heap, K.In base -> base.Ns mainGlobals mg -> QcR P w K mg base CX k fa fd [x] sp) (hbind : ∀ (s : Shared) (u : Value), BindsTo s fd ⟨[u], []⟩ [(x, u)])
  (hsp : ∀ H : Hp, QvR H -> SqL K H a (ns.map V.int) -> sp [.ref a] H (λ v _ => v = .bl true) λ _ _ _ => False)
  (hCX : ∀ H e s', CX [] H s₁ (λ _ _ _ => False) e s' -> False) :
  codeAny (model P w) callerA (.call (.ref fa) ⟨[.ref a], []⟩) (λ r s' => r = .ok (.ret (.bool true)) /\ OldK s₁.heap s'.heap /\ s'.os = s₁.os /\ AllBare s'.gens) s₁ := by
 have rv := QbU hi
 have lenV := hi.length
 have core : ∀ H : Hp, QvR H -> SqL K H a (ns.map V.int) -> HOk P w H s₁.heap -> (∀ b, H b ≠ none -> b = a) -> (H a ≠ none -> K.lookup a = none) →
   codeAny (model P w) callerA (.call (.ref fa) ⟨[.ref a], []⟩) (λ r s' => r = .ok (.ret (.bool true)) /\ OldK s₁.heap s'.heap /\ s'.os = s₁.os /\ AllBare s'.gens) s₁ := by
  intro H hO hS hok hA hK
  have base_of : ∀ {b : Addr} {o : Obj}, s₁.heap.get? b = some o -> H b = none -> (QfL s₁.heap H).get? b = some o := λ e n => Qr6 e n
  have noA : ∀ {b : Addr} {o : Obj} {es : Array DictEntry} {ep : Nat}, s₁.heap.get? b = some o -> o.data = .dict es ep -> H b = none := λ {b o es ep} e d => by
   cases q : H b with
   | none => rfl
   | some u =>
    have e' : b = a := hA b (by rw [q]; simp)
    subst e'
    rw [ha] at e; cases e
    have d' : Data.seq vs.toArray _ = Data.dict es ep := d
    cases d'
  have nsK : ∀ {b : Addr} {m : Str -> Option Value}, s₁.heap.Ns b m -> (QfL s₁.heap H).Ns b m := λ {b m} ⟨o, es, ep, e, d, r⟩ => ⟨o, es, ep, base_of e (noA e d), d, r⟩
  have hKb : K.In (QfL s₁.heap H) := λ b o e => base_of (KX b o e) (by
   cases q : H b with
   | none => rfl
   | some u =>
    have e' : b = a := hA b (by rw [q]; simp)
    subst e'
    rw [hK (by rw [q]; simp)] at e; cases e)
  have hM : Mod K mg (QfL s₁.heap H) := ⟨hKb, nsK hns, ⟨mb, nsK hb, hbb⟩, let ⟨mc, h1, h2⟩ := hlim; ⟨mc, nsK h1, h2⟩⟩
  have e0 : QoR P w K mg (QfL s₁.heap H) callerA [] s₁ H := ⟨rfl, hM, λ b o e => Qtk e, Nat.le_of_eq (Qpr _ _), trivial, λ b hb => absurd (show b ∈ ([] : List Addr) from hb) (by simp), hok, .of_eq hg⟩
  refine codeAny_mono ((F _ hKb (nsK hns)).run callerA [] s₁ H ⟨[.ref a], []⟩ [.ref a] [.ref a] _ _ hr e0 (hbind s₁ (.ref a)) (.cons rfl .nil) (hsp H hO hS)) λ r s' h => ?_
  cases r with
  | error e => exact (hCX H e s' h).elim
  | ok fl =>
   cases fl with
   | next => exact False.elim h
   | brk => exact False.elim h
   | cont => exact False.elim h
   | ret u =>
    obtain ⟨v, H', os, bare, un, hok', r', q⟩ := h
    have q' : v = .bl true := q
    subst q'
    obtain rfl : u = Value.bool true := r'
    refine ⟨rfl, OldK.of_keep λ b o e => ?_, os, bare⟩
    cases q : H b with
    | none => exact un.keep b o e q (by intro z; exact absurd (show b ∈ ([] : List Addr) from z) (by simp)) (by simp)
    | some u =>
     rcases hO b with z | ⟨ob, xs, z⟩
     ·rw [q] at z; cases z
     ·have z2 := un.frzs b ob _ z
      obtain ⟨e1, _⟩ := hok b _ z
      obtain ⟨e2, _⟩ := hok' b _ z2
      rw [e] at e1; cases e1
      exact e2
 cases hk : K.lookup a with
 | some o =>
  have e := KX a o hk
  rw [ha] at e
  cases e
  refine core (λ _ => none) (λ _ => .inl rfl) (.inr ⟨_, vs.toArray, _, hk, rfl, rfl, rfl, by rw [Zp, lenV]; exact hl, by simpa using rv⟩) (λ b u z => by have z' : (none : Option HO) = some u := z; cases z') (λ b z => absurd rfl z) λ z => absurd rfl z
 | none =>
  refine core (λ b => if b = a then some (.frz { cls := .type "list", data := .seq vs.toArray } (.lst (ns.map V.int))) else none) (λ b => ?_) (.inl (.inr ⟨{ cls := .type "list", data := .seq vs.toArray }, if_pos rfl⟩)) (λ b u z => ?_) (λ b z => ?_) λ _ => hk
  ·by_cases hb : b = a
   ·exact .inr ⟨_, _, if_pos hb⟩
   ·exact .inl (if_neg hb)
  ·by_cases hb : b = a
   ·have z' := (if_pos hb).symm.trans z
    cases z'
    subst hb
    exact ⟨ha, by rw [Zi]; exact hl, vs, _, rv, ha⟩
   ·have z' := (if_neg hb).symm.trans z
    cases z'
  ·by_cases hb : b = a
   ·exact hb
   ·exact absurd (if_neg hb) z
end L2
namespace L2
open PySem PySem.Spec PyProof.Rows
noncomputable abbrev KOf {K : PySem.W.Frag} {h : Heap} (_ : K.In h) : PySem.W.Frag := K
end L2
namespace L2
open PySem PySem.Spec PyProof.Rows
noncomputable def Qd9 (s : Stmt) : Arguments := match s with
 | .FunctionDef _ a _ _ _ _ _ _ _ _ => a
 | _ => { posonlyargs := [], args := [], vararg := none, kwonlyargs := [], kw_defaults := [], kwarg := none, defaults := [] }
noncomputable def QbM (s : Stmt) : List Stmt := match s with
 | .FunctionDef _ _ b _ _ _ _ _ _ _ => b
 | _ => []
noncomputable def QD (s : Stmt) : Scope := match s with
 | .FunctionDef _ _ _ _ _ _ sc _ _ _ => sc
 | _ => { kind := .function, names := [], isGenerator := false, isCoroutine := false }
noncomputable abbrev CX0 : CXT := λ _ _ _ _ _ _ => False
noncomputable abbrev E0 : XK := λ _ _ _ => False
theorem QsV {X : Cx} : Qis CX0 X E0 := λ _ _ _ _ _ _ _ h => h.elim
structure Fun (K : PySem.W.Frag) (x qual : Str) (st : Stmt) (f : Addr) (fd : FuncData) : Prop where
 ex : ∃ (oc : Value) (od : Option Addr) (kV doc pm : Value) (an : Option Addr) (cdv ct : Value) (osl : Array (Option Value)),
  fd = PySem.W.fnOf x qual (Qd9 st) (QbM st) (QD st) .none kV doc pm an cdv ct /\ K.lookup f = some ⟨oc, od, .func fd, osl⟩ /\ PySem.W.codeIn K cdv qual = true
 kp : PySem.W.keepIn K (.ref f) = true
section
variable {P : Program} {w : World} {K : PySem.W.Frag} {mg : Str -> Option Value} {base : Heap}
theorem Fun.ok {x qual : Str} {st : Stmt} {f : Addr} {fd : FuncData} {N ps : List Str} {k : Nat} {sp : Sp} (F : Fun K x qual st f fd) (S : Qc8 N ps (QD st)) (len : ∀ vs H Q E, sp vs H Q E -> vs.length = ps.length)
  (hbody : ∀ (cdv : Value) (A : Around) (outer : List Env) (s : Shared) (H : Hp) (vs : List V) (Q : VK) (E : XK), Qbl k (A.deeper (envOfC qual (QD st) s.heap.objs.size f cdv)) -> sp vs H Q E →
   ∃ t, PSs (QhU CX0 P w K mg base N qual (QD st) f cdv A outer s H E).nox (QbM st) t /\ t { nx := λ _ H' => Q .non H', rt := Q } (start N vs) H) : QcR P w K mg base CX0 (k + 1) f fd ps sp := by
 obtain ⟨oc, od, kV, doc, pm, an, cdv, ct, osl, rfl, lk, hcd⟩ := F.ex
 refine Qxj lk hcd S len λ A outer s H vs Q E hr hsp => ?_
 obtain ⟨t, h, q⟩ := hbody cdv A outer s H vs Q E hr hsp
 exact ⟨t, h.nox, q⟩
theorem Fun.binds {x qual : Str} {st : Stmt} {f : Addr} {fd : FuncData} {ps : List Str} (F : Fun K x qual st f fd)
  (h : ∀ (kV doc pm : Value) (an : Option Addr) (cdv ct : Value) (us : List Value), us.length = ps.length -> bindArgs (PySem.W.fnOf x qual (Qd9 st) (QbM st) (QD st) .none kV doc pm an cdv ct) ⟨us, []⟩ = pure (ps.zip us)) : Binds K fd ps [] := by
 obtain ⟨oc, od, kV, doc, pm, an, cdv, ct, osl, rfl, lk, hcd⟩ := F.ex
 exact .all (h kV doc pm an cdv ct)
theorem QvK {x qual : Str} {st : Stmt} {f : Addr} {oc : Value} {od an : Option Addr} {osl : Array (Option Value)} {kV doc pm cdv ct : Value} (l : K.lookup f = some ⟨oc, od, .func (PySem.W.fnOf x qual (Qd9 st) (QbM st) (QD st) .none kV doc pm an cdv ct), osl⟩)
  (c : PySem.W.codeIn K cdv qual = true) (k : PySem.W.keepIn K (.ref f) = true) : Fun K x qual st f (PySem.W.fnOf x qual (Qd9 st) (QbM st) (QD st) .none kV doc pm an cdv ct) := ⟨⟨oc, od, kV, doc, pm, an, cdv, ct, osl, rfl, l, c⟩, k⟩
end
section
variable {X : Cx}
end
theorem Qsb {A B : Prop} (h : B) : if false = true then A else B := by
 rw [if_neg Zay]
 exact h
theorem QrW {A B : Prop} (h : A) : if true = true then A else B := by
 rw [if_pos rfl]
 exact h
def QL (H H' : Hp) : Prop := ∀ b o, H b = some o -> H' b = some o
theorem QL.refl (H : Hp) : QL H H := λ _ _ h => h
theorem QL.trans {H H1 H2 : Hp} (a : QL H H1) (b : QL H1 H2) : QL H H2 := λ c o h => b c o (a c o h)
theorem QL.free {H H' : Hp} (e : QL H H') {l : Addr} (h : H' l = Option.none) : H l = Option.none := by
 cases q : H l with
 | none => rfl
 | some o =>
  rw [e l o q] at h
  cases h
end L2
namespace L2
open PySem PySem.Spec PyProof.Rows
theorem QjT (env : Env) (body : Str × NameKind -> List (Str × Addr) -> Sem (ForInStep (List (Str × Addr))))
  (hb : ∀ n k cs, body (n, k) cs = if (k == NameKind.free) = true then (do let c ← cellOf env n; pure (ForInStep.yield ((n, c) :: cs))) else pure (ForInStep.yield cs)) :
  ∀ (names : List (Str × NameKind)) (acc : List (Str × Addr)), (∀ y ∈ names, y.2 = .free -> ∃ c, env.cells.lookup y.1 = some c) -> (∀ x c, acc.lookup x = some c -> env.cells.lookup x = some c) →
   ∃ cl, forIn names acc body = (pure cl : Sem _) /\ (∀ x c, cl.lookup x = some c -> env.cells.lookup x = some c) /\ (∀ x, acc.lookup x ≠ none -> cl.lookup x ≠ none) /\ ∀ y ∈ names, y.2 = .free -> cl.lookup y.1 ≠ none
 | [], acc, _, ha => ⟨acc, rfl, ha, λ _ h => h, λ y hy => by simp at hy⟩
 | (n, k) :: r, acc, hn, ha => by
  rw [Zca, hb]
  have hr : ∀ y ∈ r, y.2 = .free -> ∃ c, env.cells.lookup y.1 = some c := λ y hy => hn y (Zd _ hy)
  by_cases hk : k = .free
  ·subst hk
   obtain ⟨c, hc⟩ := hn (n, .free) Zk rfl
   have hce : cellOf env n = pure c := by unfold cellOf; rw [show env.cells.lookup n = some c from hc]
   rw [if_pos (by rfl), hce]
   obtain ⟨cl, e, h1, h2, h3⟩ := QjT env body hb r ((n, c) :: acc) hr (λ x c' e => by
    rw [Zt] at e
    cases q : x == n with
    | true => rw [q] at e; cases e; rw [beq_iff_eq] at q; rw [q]; exact hc
    | false => rw [q] at e; exact ha x c' e)
   have hcons : ∀ x, ((n, c) :: acc).lookup x ≠ none -> cl.lookup x ≠ none := h2
   refine ⟨cl, by simpa using e, h1, λ x hx => hcons x ?_, λ y hy hf => ?_⟩
   ·rw [Zt]; cases x == n with
    | true => simp
    | false => exact hx
   ·rcases Zr.mp hy with rfl | hy
    ·exact hcons _ (by simp [Zt])
    ·exact h3 y hy hf
  ·rw [if_neg (by simpa using hk)]
   obtain ⟨cl, e, h1, h2, h3⟩ := QjT env body hb r acc hr ha
   refine ⟨cl, by simpa using e, h1, h2, λ y hy hf => ?_⟩
   rcases Zr.mp hy with rfl | hy
   ·exact absurd hf hk
   ·exact h3 y hy hf
theorem Quy {scope : Scope} {env : Env} (h : ∀ y ∈ scope.names, y.2 = .free -> ∃ c, env.cells.lookup y.1 = some c) :
  ∃ cl, closureFor scope env = pure cl /\ (∀ x c, cl.lookup x = some c -> env.cells.lookup x = some c) /\ ∀ y ∈ scope.names, y.2 = .free -> ∃ c, cl.lookup y.1 = some c := by
 unfold closureFor
 obtain ⟨cl, e, h1, _, h3⟩ := QjT env (λ x cs => match x with | (name, kind) => if (kind == NameKind.free) = true then (do let c ← cellOf env name; pure (ForInStep.yield ((name, c) :: cs))) else pure (ForInStep.yield cs)) (λ _ _ _ => rfl) scope.names [] h (λ x c e => by simp at e)
 refine ⟨cl, ?_, h1, λ y hy hf => Option.ne_none_iff_exists'.mp (h3 y hy hf)⟩
 show (forIn scope.names [] _ >>= λ r => pure r) = _
 rw [e]; rfl
noncomputable def cxc (X : Cx) (N' : List Str) (scope : Scope) (cl : List (Str × Addr)) (C : Addr) (fp : List Addr) (s3 : Shared) (H3 : Hp) : Cx :=
 { X with N := N', s₀ := s3, H₀ := H3, env := compEnvC scope cl C X.env, outer := X.stack, ex := fp, fn := λ x => decide (scope.names.lookup x = some .cell), pn := [], xe := λ _ _ => False }
def PTs (X : Cx) (ifs : List Expr) (t : TT) : Prop :=
 ∀ (pins : List (Addr × Obj)) (s : Shared) (σ : St) (H : Hp) (Q : Bool -> Hp -> Prop), Inv X pins σ H s -> t σ H Q →
  wpAny (model X.prog X.w) X.A (forIn ifs true λ c r => if r = true then do let ok ← isTrue c X.env (eval c X.env); pure (ForInStep.yield ok) else pure (ForInStep.yield r)) (TP X pins σ Q) X.xe s
noncomputable def QxY : TT := λ _ H Q => Q true H
theorem Qtc {X : Cx} : PTs X [] QxY := λ _ _ _ H _ I h => wpAny_tests_nil ⟨H, I, h⟩
theorem Qtd {X : Cx} {c : Expr} {t : TT} (h : PT X c t) : PTs X [c] t := λ pins s σ H Q I q => wpAny_tests_one (h pins s σ H Q I q)
def Qiq (X : Cx) (N' : List Str) (scope : Scope) (σ σ' : St) : Prop :=
 σ'.length = N'.length /\ ∀ (j : Nat) (x : Str) (v : V), N'[j]? = some x -> σ'[j]? = some (some v) -> scope.names.lookup x = some .free /\ ∃ i : Nat, X.N[i]? = some x /\ σ[i]? = some (some v) /\ (X.env.kindOf x = some .cell ∨ X.env.kindOf x = some .free)
noncomputable def QkU (wi : TI) (cap : St -> St -> Prop) (g : TG) (tc : TT) (te : TE) : TE := λ σ H Q => wi σ H λ J H1 => ∃ σc, cap σ σc /\ ∀ D, H1 D = none -> ∃ W : Nat -> Nat -> List V -> Hp -> Prop,
 (∃ m, W 0 m [] (upd H1 D (.lst []))) /\ ∀ i m acc H2, W i m acc H2 -> (J.stop i H2 /\ Q (.ref D) H2) ∨
  (J.go i H2 /\ ∀ x H3, J.yld i H2 x H3 -> g x σc H3 λ σ2 H4 => (∀ (j : Nat) v, σc[j]? = some (some v) -> σ2[j]? = some (some v)) /\ tc σ2 H4 λ b H5 => if b = true then
   te σ2 H5 λ y H6 => H6 D = some (.lst acc) /\ acc.length < sizeLine /\ ∃ m', m' < m /\ W (i + 1) m' (acc ++ [y]) (upd H6 D (.lst (acc ++ [y])))
   else ∃ m', m' < m /\ W (i + 1) m' acc H5)
theorem Qci {env : Env} : ∀ {names : List (Str × NameKind)} {x : Str}, names.lookup x = some .free →
  (names.map λ (n, k) => if (k == NameKind.free && env.scope.kind == .function && env.kindOf n == some .cell) then (n, NameKind.cell) else (n, k)).lookup x = some .cell ∨
  (names.map λ (n, k) => if (k == NameKind.free && env.scope.kind == .function && env.kindOf n == some .cell) then (n, NameKind.cell) else (n, k)).lookup x = some .free
 | [], _, h => by simp at h
 | (n, k) :: r, x, h => by
  have ih := @Qci env r x
  rw [Zn]
  cases hx : x == n with
  | true =>
   simp only [Zt, hx] at h
   cases h
   dsimp only
   split
   ·left; simp [Zt, hx]
   ·right; simp [Zt, hx]
  | false =>
   simp only [Zt, hx] at h
   dsimp only
   split
   ·simp only [Zt, hx]; exact ih h
   ·simp only [Zt, hx]; exact ih h
theorem QdQ {env : Env} : ∀ {names : List (Str × NameKind)} {x : Str},
  ((names.map λ (n, k) => if (k == NameKind.free && env.scope.kind == .function && env.kindOf n == some .cell) then (n, NameKind.cell) else (n, k)).lookup x = some .cell ∨
  (names.map λ (n, k) => if (k == NameKind.free && env.scope.kind == .function && env.kindOf n == some .cell) then (n, NameKind.cell) else (n, k)).lookup x = some .free) →
  ∃ k, (x, k) ∈ names /\ (k = .free ∨ k = .cell)
 | [], _, h => by simp at h
 | (n, k) :: r, x, h => by
  have ih := @QdQ env r x
  rw [Zn] at h
  cases hx : x == n with
  | true =>
   have hn : x = n := by simpa using hx
   subst hn
   dsimp only at h
   split at h
   ·rename_i hc
    simp only [Zg] at hc
    refine ⟨k, Zk, .inl (by simpa using hc.1.1)⟩
   ·simp only [Zt, hx] at h
    refine ⟨k, Zk, ?_⟩
    rcases h with h | h
    ·exact .inr (Option.some.inj h)
    ·exact .inl (Option.some.inj h)
  | false =>
   dsimp only at h
   have : ∃ k, (x, k) ∈ r /\ (k = .free ∨ k = .cell) := by
    apply ih
    split at h
    ·simpa only [Zt, hx] using h
    ·simpa only [Zt, hx] using h
   obtain ⟨k', h1, h2⟩ := this
   exact ⟨k', Zd _ h1, h2⟩
theorem Qfe : ∀ (names : List (Str × NameKind)) (n : Nat) (acc : List (Str × Addr)) (x : Str) (c : Addr), (cellsFrom n names acc).lookup x = some c -> acc.lookup x = some c ∨ (n <= c /\ (x, NameKind.cell) ∈ names)
 | [], _, _, _, _, h => .inl h
 | (nm, k) :: r, n, acc, x, c, h => by
  unfold cellsFrom at h
  split at h
  ·rename_i hk
   have hk : k = .cell := by simpa using hk
   rcases Qfe r (n + 1) ((nm, n) :: acc) x c h with h | ⟨h1, h2⟩
   ·rw [Zt] at h
    cases q : x == nm with
    | true =>
     rw [q] at h
     cases h
     have : x = nm := by simpa using q
     exact .inr ⟨Zm _, by rw [this, hk]; exact Zk⟩
    | false => rw [q] at h; exact .inl h
   ·exact .inr ⟨by omega, Zd _ h2⟩
  ·rcases Qfe r n acc x c h with h | ⟨h1, h2⟩
   ·exact .inl h
   ·exact .inr ⟨h1, Zd _ h2⟩
theorem Qmj : ∀ (names : List (Str × NameKind)) (n : Nat) (acc : List (Str × Addr)) (x : Str) (c : Addr), (x, NameKind.cell) ∈ names -> (cellsFrom n names acc).lookup x = some c -> n <= c
 | (nm, k) :: r, n, acc, x, c, hm, h => by
  unfold cellsFrom at h
  split at h
  ·by_cases hr : (x, NameKind.cell) ∈ r
   ·have := Qmj r (n + 1) _ x c hr h
    omega
   ·have hx : x = nm := by
     rcases Zr.mp hm with e | e
     ·exact (Prod.mk.inj e).1
     ·exact absurd e hr
    rcases Qfe r (n + 1) ((nm, n) :: acc) x c h with h | ⟨h1, _⟩
    ·rw [Zt, show (x == nm) = true by simpa using hx] at h
     cases h
     exact Zm _
    ·omega
  ·rename_i hk
   rcases Zr.mp hm with e | e
   ·exact absurd (by rw [← (Prod.mk.inj e).2]; rfl) hk
   ·exact Qmj r n acc x c e h
theorem Qmf : ∀ (names : List (Str × NameKind)) (n : Nat) (acc : List (Str × Addr)), (∀ x y c, acc.lookup x = some c -> acc.lookup y = some c -> x = y) -> (∀ x c, acc.lookup x = some c -> c < n) →
  ∀ x y c, (cellsFrom n names acc).lookup x = some c -> (cellsFrom n names acc).lookup y = some c -> x = y
 | [], _, _, hi, _, x, y, c, h1, h2 => hi x y c h1 h2
 | (nm, k) :: r, n, acc, hi, hb, x, y, c, h1, h2 => by
  unfold cellsFrom at h1 h2
  split at h1
  ·rename_i hk
   rw [if_pos hk] at h2
   refine Qmf r (n + 1) ((nm, n) :: acc) (λ x y c h1 h2 => ?_) (λ x c h => ?_) x y c h1 h2
   ·rw [Zt] at h1 h2
    cases qx : x == nm with
    | true =>
     rw [qx] at h1
     cases h1
     cases qy : y == nm with
     | true => rw [show x = nm by simpa using qx, show y = nm by simpa using qy]
     | false => rw [qy] at h2; exact absurd (hb y _ h2) (ZS _)
    | false =>
     rw [qx] at h1
     cases qy : y == nm with
     | true => rw [qy] at h2; cases h2; exact absurd (hb x _ h1) (ZS _)
     | false => rw [qy] at h2; exact hi x y c h1 h2
   ·rw [Zt] at h
    cases qx : x == nm with
    | true => rw [qx] at h; cases h; exact ZaO _
    | false => rw [qx] at h; exact ZaV (hb x c h)
  ·rename_i hk
   rw [if_neg hk] at h2
   exact Qmf r n acc hi hb x y c h1 h2
theorem Qfo : ∀ (names : List (Str × NameKind)) (n : Nat) (acc : List (Str × Addr)) (x : Str), (∃ c, acc.lookup x = some c) -> ∃ c, (cellsFrom n names acc).lookup x = some c
 | [], _, _, _, h => h
 | (nm, k) :: r, n, acc, x, h => by
  unfold cellsFrom
  split
  ·refine Qfo r (n + 1) _ x ?_
   rw [Zt]
   cases x == nm with
   | true => exact ⟨n, rfl⟩
   | false => exact h
  ·exact Qfo r n acc x h
theorem Ql2 : ∀ (names : List (Str × NameKind)) (n : Nat) (acc : List (Str × Addr)) (x : Str), (x, NameKind.cell) ∈ names -> ∃ c, (cellsFrom n names acc).lookup x = some c
 | (nm, k) :: r, n, acc, x, hm => by
  unfold cellsFrom
  rcases Zr.mp hm with e | e
  ·obtain ⟨e1, e2⟩ := Prod.mk.inj e
   subst e1
   rw [← e2, if_pos (by rfl)]
   exact Qfo r (n + 1) _ x ⟨n, by simp [Zt]⟩
  ·split
   ·exact Ql2 r (n + 1) _ x e
   ·exact Ql2 r n acc x e
theorem QjO (lo : Nat) : ∀ (names : List (Str × NameKind)) (h : Heap) (acc : List (Str × Addr)), (∀ x c, acc.lookup x = some c -> lo <= c -> h.IsCell c none) -> lo <= h.objs.size →
  ∀ x c, (cellsFrom h.objs.size names acc).lookup x = some c -> lo <= c -> (pushCells h names).IsCell c none
 | [], _, _, ha, _, x, c, e, hl => ha x c e hl
 | (nm, k) :: r, h, acc, ha, hlo, x, c, e, hl => by
  unfold cellsFrom at e
  unfold pushCells
  split at e
  ·rename_i hk
   rw [if_pos hk]
   have hs := Zam h { cls := .type "cell", data := .cell none }
   refine QjO lo r (h.push { cls := .type "cell", data := .cell none }) ((nm, h.objs.size) :: acc) (λ x c e hl => ?_) (by rw [hs]; omega) x c (by rw [hs]; exact e) hl
   rw [Zt] at e
   cases q : x == nm with
   | true => rw [q] at e; cases e; exact ⟨_, ZA _ rfl, rfl⟩
   | false => rw [q] at e; exact (ha x c e hl).keeps λ b o e => Zb _ e
  ·rename_i hk
   rw [if_neg hk]
   exact QjO lo r h acc ha hlo x c e hl
theorem QoB {M : Model} {A : Around} {E : Value -> Shared -> Prop} {s : Shared} {scope : Scope} {globals builtins : Addr} {cl : List (Str × Addr)} {qual : Str} {env : Env} {Q : Env -> Shared -> Prop}
  (hQ : ∀ h' : Heap, h'.Ns s.heap.objs.size (λ _ => none) -> (∀ b o, s.heap.get? b = some o -> h'.get? b = some o) -> ((∀ x c, cl.lookup x = some c -> c < s.heap.objs.size) -> ∀ x c, (cellsFrom (s.heap.objs.size + 1) scope.names cl).lookup x = some c -> s.heap.objs.size + 1 <= c -> h'.IsCell c none) →
   Q (newEnv scope s.heap.objs.size globals (cellsFrom (s.heap.objs.size + 1) scope.names cl) qual none .none (some env) builtins) { s with heap := h' }) :
  wpAny M A (newFunctionEnv scope globals cl [] qual none .none (some env) builtins) Q E s := by
 simp only [newFunctionEnv, Option.isSome_some, if_true]
 refine wpAny_bind (wpAny_alloc ?_)
 refine wpAny_bind (wpAny_layCells _ (λ name kind cells => by cases hkc : kind == NameKind.cell <;> simp [hkc]) _ _ _ _ ?_)
 have hs := Zam s.heap { cls := .type "dict", data := .dict #[] }
 rw [show ({ s with heap := s.heap.push { cls := .type "dict", data := .dict #[] } } : Shared).heap.objs.size = s.heap.objs.size + 1 from hs]
 refine wpAny_bind (wpAny_pure (wpAny_pure ?_))
 refine hQ _ ((Heap.Ns.new s.heap (.type "dict")).keeps (pushCells_keeps _ _)) (λ b o e => pushCells_keeps _ _ b o (Zb _ e)) λ hb x c e hl => ?_
 refine QjO (s.heap.objs.size + 1) scope.names (s.heap.push { cls := .type "dict", data := .dict #[] }) cl (λ x c e hl => ?_) (by rw [hs]; exact Zm _) x c (by rw [hs]; exact e) hl
 exact absurd (Zv (hb x c e) (ZF (Zbu _) hl)) (ZS _)
section
variable {X : Cx} {tg iter elt : Expr} {ifs : List Expr} {scope : Scope} {N' : List Str} {pos : Pos}
structure QdU (X : Cx) (N' : List Str) (scope : Scope) : Prop where
 kind : scope.kind = .function
 own : ∀ y ∈ scope.names, y.2 = .cell -> scope.names.lookup y.1 = some .cell
 loc : ∀ y ∈ scope.names, y.2 = .local -> scope.names.lookup y.1 = some .local
 free : ∀ y ∈ scope.names, y.2 = .free -> X.env.kindOf y.1 = some .cell ∨ X.env.kindOf y.1 = some .free
theorem Qr7 {pins : List (Addr × Obj)} {σ σc : St} {H3 : Hp} {s3 : Shared} {fp : List Addr} {cl : List (Str × Addr)} {h' : Heap} {tk : Nat} (S : QdU X N' scope) (I : Inv X pins σ H3 s3)
  (hf : ∀ b ∈ fp, QdJ X pins H3 b) (hfl : ∀ b ∈ fp, b < s3.heap.objs.size) (hc1 : ∀ x c, cl.lookup x = some c -> X.env.cells.lookup x = some c) (hc2 : ∀ y ∈ scope.names, y.2 = .free -> ∃ c, cl.lookup y.1 = some c) (cap : Qiq X N' scope σ σc)
  (hns : h'.Ns s3.heap.objs.size (λ _ => none)) (hk : ∀ b o, s3.heap.get? b = some o -> h'.get? b = some o)
  (hown : (∀ x c, cl.lookup x = some c -> c < s3.heap.objs.size) -> ∀ x c, (cellsFrom (s3.heap.objs.size + 1) scope.names cl).lookup x = some c -> s3.heap.objs.size + 1 <= c -> h'.IsCell c none) :
  Inv (cxc X N' scope (cellsFrom (s3.heap.objs.size + 1) scope.names cl) s3.heap.objs.size fp s3 H3) [] σc H3 { s3 with heap := h', toks := tk } := by
 have nold : ∀ b, b ∈ fp -> b ≠ s3.heap.objs.size := λ b hb e => absurd (hfl b hb) (by rw [e]; exact ZS _)
 have cellOld : ∀ x c, cl.lookup x = some c -> ∃ v, s3.heap.IsCell c v := λ x c e => I.cell x c (hc1 x c e)
 have cellLt : ∀ x c, cl.lookup x = some c -> c < s3.heap.objs.size := λ x c e => let ⟨v, q⟩ := cellOld x c e; q.lt
 have cellNew : ∀ c v, s3.heap.IsCell c v -> h'.IsCell c v := λ c v ⟨o, ho, hd⟩ => ⟨o, hk c o ho, hd⟩
 have hown := hown cellLt
 have look : ∀ x c, (cellsFrom (s3.heap.objs.size + 1) scope.names cl).lookup x = some c -> cl.lookup x = some c ∨ (s3.heap.objs.size + 1 <= c /\ (x, NameKind.cell) ∈ scope.names) := Qfe scope.names _ cl
 refine ⟨⟨I.ok.mod, S.kind, I.ok.glob, I.ok.blt, Zm _, Qmf scope.names _ cl (λ x y c h1 h2 => I.ok.inj x y c (hc1 x c h1) (hc1 y c h2)) (λ x c e => ZaV (cellLt x c e)), λ x hx => ?_, λ x c e1 e2 => ?_, I.ok.hd, I.ok.frames, .inl rfl, λ b hb => ⟨nold b hb, λ x c e => ?_⟩,
  I.bs, ZF I.ok.bsz I.sz, λ b o e hb => ?_, λ b hb hs => ?_, I.stack, I.QnR⟩, rfl, I.bare, Un.kept hk, ⟨_, hns, λ j x v h1 h2 h3 => ?_⟩, λ x c e => ?_, I.hok.fresh (Zm _), λ x c e => ?_, λ p hp => absurd (show p ∈ ([] : List (Addr × Obj)) from hp) (by simp), I.hok.kept hk, cap.1⟩
 ·obtain ⟨k, hm, hk'⟩ := QdQ (env := X.env) (names := scope.names) (x := x) hx
  rcases hk' with rfl | rfl
  ·exact Qfo scope.names _ cl x (hc2 _ hm rfl)
  ·exact Ql2 scope.names _ cl x hm
 ·have e1 : decide (scope.names.lookup x = some .cell) = true := e1
  have := Qmj scope.names _ cl x c (Zae (of_decide_eq_true e1)) e2
  exact ZF (Zbu _) this
 ·rcases look x c e with e | ⟨e, _⟩
  ·exact (hf b hb).2.2.2.2.1 x c (hc1 x c e)
  ·intro z
   rw [z] at e
   exact absurd (Zv (hfl b hb) (ZF (Zbu _) e)) (ZS _)
 ·rcases (hf b hb).2.2.2.1 with z | z
  ·exact I.ok.noex b o e z
  ·exact absurd (Zv (Zu e) (ZF I.ok.bsz z)) (ZS _)
 ·rcases Zr.mp (I.QiV b hs) with e | z
  ·exact (hf b hb).2.1 e
  ·exact (hf b hb).2.2.1 z
 ·obtain ⟨hl, i, e1, e2, e3⟩ := cap.2 j x v h1 h2
  obtain ⟨m, hn, look'⟩ := I.loc
  obtain ⟨u, r, l⟩ := look' i x v e1 e2 (e3.elim (λ z => .inr (.inl z)) λ z => .inr (.inr z))
  refine ⟨u, r, .inr ⟨Qci hl, ?_⟩⟩
  rcases l with ⟨k, _⟩ | ⟨_, c, ec, hcell⟩
  ·rcases e3 with z | z <;> (rw [k] at z; cases z)
  ·obtain ⟨c', ec'⟩ := Qfo scope.names (s3.heap.objs.size + 1) cl x (hc2 (x, .free) (Zae hl) rfl)
   rcases look x c' ec' with q | ⟨_, q⟩
   ·have := hc1 x c' q
    rw [ec] at this; cases this
    exact ⟨c, ec', cellNew c _ hcell⟩
   ·have := S.own _ q rfl
    rw [hl] at this
    cases this
 ·rcases look x c e with q | ⟨q, _⟩
  ·obtain ⟨v, q⟩ := cellOld x c q
   exact ⟨v, cellNew c v q⟩
  ·exact ⟨none, hown x c e q⟩
 ·rcases look x c e with q | ⟨q, _⟩
  ·exact I.freeC x c (hc1 x c q)
  ·exact I.hok.fresh (by omega)
theorem Qpi {prog : Program} {w : World} {A : Around} {env : Env} {it acc : Value} {R : Result -> Shared -> Prop} {s0 : Shared} (J : Nat -> Shared -> Prop)
  (turn : ∀ n s, J n s -> wpAny (model prog w) A (pyNext it) (λ r s1 => match r with
   | none => R (.ok .next) s1
   | some v => wpAny (model prog w) A (letOwnedTupleGo tg it v) (λ _ s2 => wpAny (model prog w) A (assign tg env v) (λ _ s3 =>
     wpAny (model prog w) A (forIn ifs true λ c r => if r = true then do let ok ← isTrue c env (eval c env); pure (ForInStep.yield ok) else pure (ForInStep.yield r)) (λ ok s4 =>
      if ok = true then wpAny (model prog w) A (eval elt env) (λ x s5 => wpAny (model prog w) A (call (.builtin "list.append") [acc, x]) (λ _ s6 => ∃ m, m < n /\ J m s6) (λ _ _ => False) s5) (λ _ _ => False) s4
      else ∃ m, m < n /\ J m s4) (λ _ _ => False) s3) (λ _ _ => False) s2) (λ _ _ => False) s1) (λ _ _ => False) s)
  (n : Nat) (h : J n s0) : codeAny (model prog w) A (.compLoop (.ListComp elt [⟨tg, iter, ifs, 0⟩] scope pos) 0 it acc env) R s0 := by
 have up : ∀ {α : Type} {t : Sem α} {Q : α -> Shared -> Prop} {E : Value -> Shared -> Prop} {s : Shared}, wpAny (model prog w) A t Q (λ _ _ => False) s -> wpAny (model prog w) A t Q E s := λ h => wpAny_mono h (λ _ _ q => q) λ _ _ f => f.elim
 refine codeAny_loop (by rfl) J (λ k sk hk => ?_) n h
 show wpAny (model prog w) A ((compTurn (.ListComp elt [⟨tg, iter, ifs, 0⟩] scope pos) 0 it acc env).onRaise (λ x => do noteFrame x env; theTreesLotGoes x)) _ _ sk
 refine wpAny_noted (up ?_)
 rw [compTurn_list]
 refine wpAny_bind (wpAny_standAt (wpAny_bind (thn (turn k sk hk) λ r s1 h1 => ?_)))
 cases r with
 | none => exact wpAny_pure h1
 | some v =>
  refine wpAny_bind (thn h1 λ _ s2 h2 => wpAny_bind (thn h2 λ _ s3 h3 => wpAny_bind (thn h3 λ ok s4 h4 => ?_)))
  cases ok with
  | false => exact wpAny_pure ⟨rfl, h4⟩
  | true => exact wpAny_bind (wpAny_bind (thn h4 λ x s5 h5 => wpAny_bind (thn h5 λ _ s6 h6 => wpAny_pure (wpAny_pure ⟨rfl, h6⟩))))
theorem Qrr {it D C : Addr} {fp : List Addr} {tn : Nat -> Heap -> Prop} {J : It} {cl : List (Str × Addr)} {s3 s4 : Shared} {H3 : Hp} {σc : St} {g : TG} {tc : TT} {te : TE} {Q : Hp -> Prop} (hcalm : X.calm = true)
  (T : Turn X.prog X.w X.K tg J fp it tn)
  (hg : PG (cxc X N' scope cl C fp s3 H3) tg g) (ht : PTs (cxc X N' scope cl C fp s3 H3) ifs tc) (he : PE (cxc X N' scope cl C fp s3 H3) elt te)
  (I : Inv (cxc X N' scope cl C fp s3 H3) [] σc H3 s4) (st : tn 0 s4.heap) (ff : ∀ b ∈ fp, QdJ (cxc X N' scope cl C fp s3 H3) [] H3 b)
  (W : Nat -> Nat -> List V -> Hp -> Prop) (hw : ∃ m, W 0 m [] H3)
  (turn : ∀ i m acc H2, W i m acc H2 -> (J.stop i H2 /\ Q H2) ∨
   (J.go i H2 /\ ∀ x H5, J.yld i H2 x H5 -> g x σc H5 λ σ2 H6 => (∀ (j : Nat) v, σc[j]? = some (some v) -> σ2[j]? = some (some v)) /\ tc σ2 H6 λ b H7 => if b = true then
    te σ2 H7 λ y H8 => H8 D = some (.lst acc) /\ acc.length < sizeLine /\ ∃ m', m' < m /\ W (i + 1) m' (acc ++ [y]) (upd H8 D (.lst (acc ++ [y])))
    else ∃ m', m' < m /\ W (i + 1) m' acc H7))
  {R : Result -> Shared -> Prop} (hR : ∀ H' s', Inv (cxc X N' scope cl C fp s3 H3) [] σc H' s' -> Q H' -> R (.ok .next) s') :
  codeAny (model X.prog X.w) X.A (.compStart (.ListComp elt [⟨tg, iter, ifs, 0⟩] scope pos) 0 (.ref it) (.ref D) (compEnvC scope cl C X.env)) R s4 := by
 obtain ⟨m0, w0⟩ := hw
 have stat : ∀ {H' : Hp}, (∀ b ∈ fp, H' b = none) -> ∀ b ∈ fp, QdJ (cxc X N' scope cl C fp s3 H3) [] H' b := λ hn b hb => ⟨hn b hb, (ff b hb).2⟩
 have loop : codeAny (model X.prog X.w) X.A (.compLoop (.ListComp elt [⟨tg, iter, ifs, 0⟩] scope pos) 0 (.ref it) (.ref D) (compEnvC scope cl C X.env)) R s4 := by
  refine Qpi (λ n s' => ∃ i acc H', Inv (cxc X N' scope cl C fp s3 H3) [] σc H' s' /\ tn i s'.heap /\ (∀ b ∈ fp, H' b = none) /\ W i n acc H') ?_ m0 ⟨0, [], H3, I, st, λ b hb => (ff b hb).1, w0⟩
  rintro n s5 ⟨i, acc, H5, I5, st5, fr5, w5⟩
  rcases turn i n acc H5 w5 with ⟨stop, q⟩ | ⟨go, step⟩
  ·refine thn (T.done (cxc X N' scope cl C fp s3 H3) rfl rfl rfl hcalm i [] s5 σc H5 _ I5 (stat fr5) st5 stop) λ r s6 ⟨hr, I6⟩ => ?_
   subst hr
   exact hR H5 s6 I6 q
  ·refine thn (T.item (cxc X N' scope cl C fp s3 H3) rfl rfl rfl hcalm i [] s5 σc H5 _ I5 (stat fr5) st5 go) λ r s6 ⟨u, hr, h6⟩ => ?_
   subst hr
   refine thn h6 λ _ s7 ⟨x, H7, I7, r7, y7, st7, fr7⟩ => ?_
   have I7' := I7.pinned (stat fr7) (T.obj _ _ st7)
   refine thn (hg _ s7 σc H7 x u _ I7' r7 (step x H7 y7)) λ _ s8 ⟨σ8, H8, I8, k8, q8⟩ => ?_
   refine thn (ht _ s8 σ8 H8 _ I8 q8) λ ok s9 ⟨H9, I9, q9⟩ => ?_
   have again : ∀ {H' : Hp} {s' : Shared} {acc' : List V}, Inv (cxc X N' scope cl C fp s3 H3) ([] ++ Qgo fp s7.heap) σ8 H' s' -> (∃ m', m' < n /\ W (i + 1) m' acc' H') →
     ∃ m, m < n /\ ∃ i acc H', Inv (cxc X N' scope cl C fp s3 H3) [] σc H' s' /\ tn i s'.heap /\ (∀ b ∈ fp, H' b = none) /\ W i m acc H' := λ {H' s' acc'} I' ⟨m', hm, w'⟩ => by
    have pin : ∀ b ∈ fp, ∀ o, s7.heap.get? b = some o -> s'.heap.get? b = some o /\ H' b = none := λ b hb o e => by
     have z := I'.pin (b, o) (Ze _ (Ze _ (QfV hb e)))
     exact ⟨z.1, z.2.1⟩
    refine ⟨m', hm, i + 1, acc', H', ?_, T.keep _ _ _ st7 λ b hb o e => (pin b hb o e).1, λ b hb => ?_, w'⟩
    ·exact I'.QfW.weak (I.len.trans I8.len.symm) k8
    ·obtain ⟨o, e, _⟩ := T.obj _ _ st7 b hb
     exact (pin b hb o e).2
   cases ok with
   | false =>
    rw [if_neg Zay] at q9 ⊢
    exact again I9 q9
   | true =>
    rw [if_pos rfl] at q9 ⊢
    refine thn (he _ s9 σ8 H9 _ I9 q9) λ yv s10 ⟨y, H10, I10, r10, e10, l10, q10⟩ => ?_
    refine thn (QgP _ s10 σ8 H10 (.ref D) [y] (.ref D) [yv] (λ v H11 => H11 = upd H10 D (.lst (acc ++ [y]))) I10 rfl (.cons r10 .nil) ⟨D, acc, y, rfl, rfl, e10, l10, rfl⟩) λ _ s11 ⟨_, H11, I11, _, e11⟩ => ?_
    subst e11
    exact again I11 q10
 exact codeAny_compStart_list loop (T.self _ 0 _ _ _ st loop)
theorem QlL {wi : TI} {g : TG} {tc : TT} {te : TE} {cp : Pos} {use : Option (Value -> Sem Unit)} {pins : List (Addr × Obj)} {s : Shared} {σ : St} {H : Hp} {QV : Value -> Shared -> Prop} {Q : VK} (hcalm : X.calm = true) (S : QdU X N' scope) (hi : PI X tg iter wi)
  (hin : ∀ cl C fp s3 H3, PG (cxc X N' scope cl C fp s3 H3) tg g /\ PTs (cxc X N' scope cl C fp s3 H3) ifs tc /\ PE (cxc X N' scope cl C fp s3 H3) elt te)
  (hs : ∀ x, foldedSetIterable iter X.env x = pure x) (I : Inv X pins σ H s) (h : QkU wi (Qiq X N' scope) g tc te σ H Q)
  (fin : ∀ (D C : Addr) (H' : Hp) (s' : Shared), Inv X pins σ H' s' -> H' C = none -> C ≠ X.env.locals -> X.s₀.heap.objs.size <= C -> (∀ x c, X.env.cells.lookup x = some c -> c ≠ C) -> (∀ p ∈ X.pn ++ pins, p.1 ≠ C) -> (∃ m, s'.heap.Ns C m) -> Q (.ref D) H' →
   compPost (model X.prog X.w) X.A X.xe use QV (.ref D) C (.ok .next) s') :
  wpAny (model X.prog X.w) X.A (comprehension (.ListComp elt [⟨tg, iter, ifs, 0⟩] scope pos) scope X.env cp (newList []) false (eval iter X.env) use) QV X.xe s := by
 obtain ⟨cl, hcl, hc1, hc2⟩ := Quy (scope := scope) (env := X.env) λ y hy hf => I.ok.has y.1 (S.free y hy hf)
 refine wpAny_comprehension_free (g := ⟨tg, iter, ifs, 0⟩) (gs := []) rfl hs hcl S.kind S.loc ?_
 refine thn (hi pins s σ H _ I h) λ v s1 h1 => thn h1 λ itv s2 h2 => ?_
 obtain ⟨it, fp, tn, J, H2, e, I2, T, st2, f2, σc, cap, hw⟩ := h2
 subst e
 have hD0 : H2 s2.heap.objs.size = none := I2.hok.fresh (Zm _)
 obtain ⟨W, hW0, turn⟩ := hw _ hD0
 have fpl : ∀ b ∈ fp, b < s2.heap.objs.size := λ b hb => let ⟨o, e, _⟩ := T.obj _ _ st2 b hb; Zu e
 have hlist : ∀ D : Addr, D = s2.heap.objs.size -> ∃ x, x = D := λ D _ => ⟨D, rfl⟩
 refine wpAny_newObj_type ?_
 have I3 : Inv X pins σ (upd H2 s2.heap.objs.size (.lst [])) { s2 with heap := s2.heap.push { cls := .type "list", dict := none, data := .seq ([] : List Value).toArray } } :=
  I2.laid (t' := s2.toks) (λ b o e => Zb _ e) (Zm _) ⟨Zag _, [], 0, .nil, ZA _ rfl⟩
 generalize hs3 : ({ s2 with heap := s2.heap.push { cls := .type "list", dict := none, data := .seq ([] : List Value).toArray } } : Shared) = s3 at I3
 have hs3' : s3.heap = s2.heap.push { cls := .type "list", dict := none, data := .seq ([] : List Value).toArray } := by rw [← hs3]
 have sz3 : s3.heap.objs.size = s2.heap.objs.size + 1 := by rw [hs3', Zam]
 have old3 : ∀ b o, s2.heap.get? b = some o -> s3.heap.get? b = some o := λ b o e => by rw [hs3']; exact Zb _ e
 have f3 : ∀ b ∈ fp, QdJ X pins (upd H2 s2.heap.objs.size (.lst [])) b := λ b hb => ⟨by rw [QR (ZW (fpl b hb))]; exact (f2 b hb).1, (f2 b hb).2⟩
 have fpl3 : ∀ b ∈ fp, b < s3.heap.objs.size := λ b hb => by rw [sz3]; exact ZaV (fpl b hb)
 refine QoB (λ h4 hns4' keep4 hown4 => ?_)
 have I4 := Qr7 (tk := s3.toks) S I3 f3 fpl3 hc1 hc2 cap hns4' keep4 hown4
 have hout : ∀ H' s', Inv (cxc X N' scope (cellsFrom (s3.heap.objs.size + 1) scope.names cl) s3.heap.objs.size fp s3 (upd H2 s2.heap.objs.size (.lst []))) [] σc H' s' -> Inv X pins σ H' s' := λ H' s' J' =>
  I3.Qxk (ch := fp) J'.os J'.base J'.hok J'.bare λ b hb => ⟨(f3 b hb).2.2.2.1, (f3 b hb).2.1, (f3 b hb).2.2.2.2.1, (f3 b hb).2.2.2.2.2⟩
 obtain ⟨hg, ht, he⟩ := hin (cellsFrom (s3.heap.objs.size + 1) scope.names cl) s3.heap.objs.size fp s3 (upd H2 s2.heap.objs.size (.lst []))
 have fc : ∀ b ∈ fp, QdJ (cxc X N' scope (cellsFrom (s3.heap.objs.size + 1) scope.names cl) s3.heap.objs.size fp s3 (upd H2 s2.heap.objs.size (.lst []))) [] (upd H2 s2.heap.objs.size (.lst [])) b := λ b hb =>
  ⟨(f3 b hb).1, ZW (fpl3 b hb), λ hs' => (Zr.mp (I3.QiV b hs')).elim (f3 b hb).2.1 (f3 b hb).2.2.1, .inl hb, λ x c e => (by
   rcases Qfe scope.names _ cl x c e with e | ⟨e, _⟩
   ·exact (f3 b hb).2.2.2.2.1 x c (hc1 x c e)
   ·intro z
    rw [z] at e
    exact absurd (Zv (fpl3 b hb) (ZF (Zbu _) e)) (ZS _)), λ p hp => absurd (show p ∈ ([] : List (Addr × Obj)) from hp) (by simp)⟩
 have hC1 : s3.heap.objs.size ≠ X.env.locals := Ne.symm (ZW I3.lt)
 refine Qrr (D := s2.heap.objs.size) (C := s3.heap.objs.size) (s3 := s3) (σc := σc) (H3 := upd H2 s2.heap.objs.size (.lst [])) (W := W) (Q := λ H' => Q (.ref s2.heap.objs.size) H') hcalm T hg ht he I4 (T.keep _ _ _ st2 λ b hb o e => keep4 b o (old3 b o e)) fc hW0 turn λ H' s' J' q => ?_
 have O := hout H' s' J'
 refine fin _ _ H' s' O J'.free hC1 (ZF I3.sz (Zm _)) (λ x c e z => ?_) (λ p hp z => ?_) (let ⟨m, hn, _⟩ := J'.loc; ⟨m, hn⟩) q
 ·obtain ⟨v, o, ho, _⟩ := I3.cell x c e
  exact absurd (Zu ho) (by rw [z]; exact ZS _)
 ·exact absurd (Zu (I3.pin p hp).1) (by rw [z]; exact ZS _)
theorem Inv.Qs0 {pins : List (Addr × Obj)} {σ : St} {H : Hp} {s : Shared} {C : Addr} {h' : Heap} (I : Inv X pins σ H s) (hs : Heap.SameBut C s.heap h') (hn : H C = none) (hL : C ≠ X.env.locals) (h1 : X.s₀.heap.objs.size <= C)
  (h2 : ∀ x c, X.env.cells.lookup x = some c -> c ≠ C) (h3 : ∀ p ∈ X.pn ++ pins, p.1 ≠ C) : Inv X pins σ H { s with heap := h' } :=
 I.turned (t' := s.toks) (λ b o hb e => (hs.2 b hb).trans e) hn hL (.inr h1) h2 h3
theorem Qnv {wi : TI} {g : TG} {tc : TT} {te : TE} (hcalm : X.calm = true) (S : QdU X N' scope) (hi : PI X tg iter wi)
  (hin : ∀ cl C fp s3 H3, PG (cxc X N' scope cl C fp s3 H3) tg g /\ PTs (cxc X N' scope cl C fp s3 H3) ifs tc /\ PE (cxc X N' scope cl C fp s3 H3) elt te)
  (hs : ∀ x, foldedSetIterable iter X.env x = pure x := by intro _; rfl) : PE X (.ListComp elt [⟨tg, iter, ifs, 0⟩] scope pos) (QkU wi (Qiq X N' scope) g tc te) := by
 intro pins s σ H Q I h
 rw [eval_ListComp]
 refine QlL (use := none) hcalm S hi hin hs I h λ D C H' s' O h1 h2 h3 h4 h5 ⟨m, hm⟩ q => ?_
 exact ⟨m, hm, λ h' hs' => ⟨.ref D, H', O.Qs0 hs' h1 h2 h3 h4 h5, rfl, q⟩⟩
theorem Que {wi : TI} {g : TG} {tc : TT} {te : TE} {i : Nat} {x : Str} {pos' spos : Pos} (hN : X.N.Nodup) (hx1 : X.N[i]? = some x) (hx : Loc X.env.scope x) (hf : X.fn x = true ∨ X.env.scope.names.lookup x = some .local) (hcalm : X.calm = true) (S : QdU X N' scope) (hi : PI X tg iter wi)
  (hin : ∀ cl C fp s3 H3, PG (cxc X N' scope cl C fp s3 H3) tg g /\ PTs (cxc X N' scope cl C fp s3 H3) ifs tc /\ PE (cxc X N' scope cl C fp s3 H3) elt te)
  (hs : ∀ x, foldedSetIterable iter X.env x = pure x := by intro _; rfl) :
  PS X (.Assign [.Name x pos'] (.ListComp elt [⟨tg, iter, ifs, 0⟩] scope pos) spos) (Qla (QkU wi (Qiq X N' scope) g tc te) (Qg7 i)) := by
 have hb : ∃ b, swapsWith (.ListComp elt [⟨tg, iter, ifs, 0⟩] scope pos) (some (.Name x pos')) spos.line X.env = pure b := ⟨_, rfl⟩
 obtain ⟨b, hb⟩ := hb
 cases b with
 | false => exact Ql6 hN hx1 hx (Qnv hcalm S hi hin hs) hb hf
 | true =>
  intro pins s σ H D I h
  rw [exec_Assign_Name_used _ _ _ _ hb]
  refine wpAny_bind (wpAny_standAt (wpAny_bind ?_))
  show wpAny _ X.A (do let _ ← comprehension (.ListComp elt [⟨tg, iter, ifs, 0⟩] scope pos) scope X.env _ (newList []) false (eval iter X.env) (some (assign (.Name x pos') X.env))) _ _ s
  refine wpAny_bind (thn (QlL (use := some (assign (.Name x pos') X.env)) (QV := λ _ s' => SP X pins D .next s') hcalm S hi hin hs I h λ Dl C H' s' O h1 h2 h3 h4 h5 ⟨m, hm⟩ q => ?_) λ _ s' hq => wpAny_pure (wpAny_pure hq))
  refine wpAny_assign_Name (Qkf O hN hx1 hx (v := .ref Dl) (u := .ref Dl) rfl (λ s2 I2 hsb => ?_) hf)
  obtain ⟨a, sb, ha⟩ := hsb
  have haC : C ≠ a := by
   rcases ha with rfl | ha
   ·exact h2
   ·exact Ne.symm (h4 _ _ ha)
  exact ⟨m, hm.sameBut sb haC, λ h' hs' => ⟨_, H', I2.Qs0 hs' h1 h2 h3 h4 h5, q⟩⟩
end
end L2
namespace L2
open PySem PySem.Spec PyProof.Rows
section
variable {X : Cx} {pins : List (Addr × Obj)} {σ : St} {H H' : Hp} {s : Shared} {h' : Heap}
theorem Inv.Qn2 {t' : Nat} {ch : List Addr} {T : Addr} {ts : List V} (I : Inv X pins σ H s) (hf : ∀ b ∈ ch, QdJ X pins H b) (k : ∀ b o, b ∉ ch -> s.heap.get? b = some o -> h'.get? b = some o) (hp : ∀ b ∈ ch, ∃ o, h'.get? b = some o)
  (hT : s.heap.objs.size <= T) (hnew : ts.length <= sizeLine /\ ∃ its : List Value, Qy ts its /\ IsTup h' T its.toArray) : Inv X pins σ (upd H T (.tup ts)) { s with heap := h', toks := t' } := by
 have hn : H T = none := I.hok.fresh hT
 have neT : ∀ b u, H b = some u -> b ≠ T := λ b u e => Qbt e hn
 have nch : ∀ b u, H b = some u -> b ∉ ch := λ b u e hb => by rw [(hf b hb).1] at e; cases e
 have ltT : ∀ b o, s.heap.get? b = some o -> b ≠ T := λ b o e => ZW (Zv (Zu e) hT)
 refine I.step (g' := s.gens) (d' := s.drawn) (ch := ch) (λ b hb => ?_) (λ b o _ _ hc e _ => k b o hc e) (λ b o _ _ hc e _ => ⟨o.slots, k b o hc e⟩) (λ b o _ e n => by rw [QR (ltT b o e)]; exact n)
  (λ b o hc e => ⟨o, k b o hc e⟩) (λ b xs e => by rw [QR (neT b _ e)]; exact e) (λ b o u e => by rw [QR (neT b _ e)]; exact e) (λ b ps e => ⟨#[], by rw [QR (neT b _ e), e]; simp⟩) (λ m hm => ?_) (λ b u e => ?_) I.bare
 ·obtain ⟨f0, f1, f2, f3, f4, f5⟩ := hf b hb
  exact ⟨f3, f1, f4, f5⟩
 ·obtain ⟨o, es, ep, ho, r⟩ := hm
  exact ⟨o, es, ep, k _ o (λ z => (hf _ z).2.1 rfl) ho, r⟩
 ·by_cases hb : b = T
  ·subst hb
   rw [Qar] at e
   cases e
   exact hnew
  ·rw [QR hb] at e
   refine (I.hok b u e).Qh2 (λ c v hc q => k c v ?_ q) (λ c q => by rw [QR (neT c _ q)]; exact q) λ c xs q => by rw [QR (neT c _ q)]; exact q
   rcases hc with z | z
   ·rw [z]; exact nch b u e
   ·exact nch c _ z
theorem Inv.turns {t' : Nat} {ch : List Addr} (I : Inv X pins σ H s) (hf : ∀ b ∈ ch, QdJ X pins H b) (k : ∀ b o, b ∉ ch -> s.heap.get? b = some o -> h'.get? b = some o) : Inv X pins σ H { s with heap := h', toks := t' } := by
 have nch : ∀ b u, H b = some u -> b ∉ ch := λ b u e hb => by rw [(hf b hb).1] at e; cases e
 refine I.step (g' := s.gens) (d' := s.drawn) (ch := ch) (λ b hb => ?_) (λ b o _ _ hc e _ => k b o hc e) (λ b o _ _ hc e _ => ⟨o.slots, k b o hc e⟩) (λ b o _ e n => n)
  (λ b o hc e => ⟨o, k b o hc e⟩) (λ b xs e => e) (λ b o u e => e) (λ b ps e => ⟨#[], by rw [e]; simp⟩) (λ m hm => ?_) (λ b u e => ?_) I.bare
 ·obtain ⟨f0, f1, f2, f3, f4, f5⟩ := hf b hb
  exact ⟨f3, f1, f4, f5⟩
 ·obtain ⟨o, es, ep, ho, r⟩ := hm
  exact ⟨o, es, ep, k _ o (λ z => (hf _ z).2.1 rfl) ho, r⟩
 ·refine (I.hok b u e).Qh2 (λ c v hc q => k c v ?_ q) (λ c q => q) λ c xs q => q
  rcases hc with z | z
  ·rw [z]; exact nch b u e
  ·exact nch c _ z
end
noncomputable def Ite (K : PySem.W.Frag) (a : Addr) : It :=
 ⟨λ i H => ∃ xs x, SqL K H a xs /\ xs[i]? = some x, λ i H v H' => ∃ p x, v = .ref p /\ H p = none /\ H' = upd H p (.tup [.int i, x]) /\ ∀ xs, SqL K H a xs -> xs[i]? = some x, λ i H => ∃ xs, SqL K H a xs /\ xs.length <= i⟩
theorem QqI {P : Program} {w : World} {K : PySem.W.Frag} {es : List Expr} {tk : Nat} {tpos : Pos} (a e it : Addr) (hne : e ≠ it) : Turn P w K (.Tuple es tk tpos) (Ite K a) [e, it] e (λ i h => ∃ old, IsEnum h e it (i : Int) old /\ h.IsListIter it a i) where
 mem := by simp
 obj := λ i h st b hb => by
  obtain ⟨old, he, o, ho, hc, hd⟩ := st
  have hb : b = e ∨ b = it := by simpa using hb
  rcases hb with rfl | rfl
  ·exact ⟨_, he, λ v z => by cases z⟩
  ·exact ⟨o, ho, λ v z => by rw [hd] at z; cases z⟩
 keep := λ i h h' st k => by
  obtain ⟨old, he, hi⟩ := st
  exact ⟨old, k e (by simp) _ he, hi.at λ o q => k it (by simp) o q⟩
 item := by
  intro X hP hw hK hc i pins s σ H E I hf st hg
  subst hP hw hK
  obtain ⟨old, he, hi⟩ := st
  obtain ⟨xs, x, hq, hx⟩ := hg
  obtain ⟨its, rv, p, hz⟩ := I.list hq
  obtain ⟨u, hu, ru⟩ := rv.get hx
  refine wpAny_pyNext_enum_item he hi p.isList (x := u) (by simpa using hu) hne λ h1 heo hi1 ht1 hz1 hk1 => ?_
  refine ⟨.ref s.heap.objs.size, rfl, wpAny_letOwnedTupleGo_enum heo λ h2 he2 hs2 => ?_⟩
  replace hs2 : Heap.SameBut e h1 h2 := hs2
  have helt : e < s.heap.objs.size := Zu he
  have hilt : it < s.heap.objs.size := by obtain ⟨o, ho, _⟩ := hi; exact Zu ho
  have ht2 : IsTup h2 s.heap.objs.size [Value.int i s.toks, u].toArray := ⟨_, (hs2.2 _ (Zbl helt)).trans ht1, rfl, _, rfl⟩
  have hi2 : h2.IsListIter it a (i + 1) := hi1.extBut hs2.extBut (Ne.symm hne)
  have kk : ∀ b o, b ∉ [e, it] -> s.heap.get? b = some o -> h2.get? b = some o := λ b o hb q => by
   have h1 : b ≠ e := λ z => hb (by simp [z])
   have h2 : b ≠ it := λ z => hb (by simp [z])
   exact hs2.extBut b o h1 (hk1 b o h1 h2 q)
  refine ⟨.ref s.heap.objs.size, upd H s.heap.objs.size (.tup [.int i, x]), I.Qn2 (t' := s.toks + 1) hf kk (λ b hb => ?_) (Zm _) ⟨by show 2 <= sizeLine; decide, _, .cons ⟨_, rfl⟩ (.cons ru .nil), ht2⟩, rfl,
   ⟨_, x, rfl, I.hok.fresh (Zm _), rfl, λ ys hy => by rw [I.Qc2 hy hq]; exact hx⟩, ⟨u, ?_, hi2⟩, λ b hb => ?_⟩
  ·have hb : b = e ∨ b = it := by simpa using hb
   rcases hb with rfl | rfl
   ·exact ⟨_, he2⟩
   ·obtain ⟨o, ho, _⟩ := hi2; exact ⟨o, ho⟩
  ·have : ((i + 1 : Nat) : Int) = (i : Int) + 1 := by push_cast; rfl
   rw [this]; exact he2
  ·have hb' : b = e ∨ b = it := by simpa using hb
   have : b ≠ s.heap.objs.size := by
    rcases hb' with rfl | rfl
    ·exact ZW helt
    ·exact ZW hilt
   rw [QR this]; exact (hf b hb).1
 done := by
  intro X hP hw hK hc i pins s σ H E I hf st hg
  subst hP hw hK
  obtain ⟨old, he, hi⟩ := st
  obtain ⟨xs, hq, hx⟩ := hg
  obtain ⟨its, rv, p, hz⟩ := I.list hq
  have hl := rv.length
  refine wpAny_pyNext_enum_end (I.ok.hd hc) he hi p.isList (by simp; omega) λ h1 eb => ⟨rfl, ?_⟩
  exact I.turns (t' := s.toks) hf λ b o hb q => eb b o (λ z => hb (by simp [z])) q
 self := λ _ _ _ _ _ st h => by
  obtain ⟨old, he, hi⟩ := st
  exact wpAny_pyIter_enum he h
section
variable {X : Cx}
noncomputable def Qw1 (K : PySem.W.Frag) (ta : TA) : TI := λ σ H R => ta σ H λ vs H1 => ∃ a, vs = [.ref a] /\ (∃ xs, SqL K H1 a xs) /\ R (Ite K a) H1
theorem Qub {a : Expr} {ta : TA} {p pos : Pos} {es : List Expr} {tk : Nat} {tpos : Pos} (hg : Gl X "enumerate") (hm : X.mg "enumerate" = none) (ha : PA X [a] ta) (hs : starEach [a] X.env = [(false, eval a X.env)]) :
  PI X (.Tuple es tk tpos) (.Call (.Name "enumerate" p) [a] [] pos) (Qw1 X.K ta) := by
 intro pins s σ H R I h
 refine Call_ (Qcu I hg hm PyProof.Rows.boot_enumerate (ZP (thn (ha pos pins s σ H _ I h) λ us s1 ⟨vs, H1, I1, r1, q1⟩ => ?_) hs rfl))
 obtain ⟨l, e, ⟨xs, hq⟩, q⟩ := q1
 subst e
 obtain ⟨u, rfl, ru⟩ := vals1 r1
 cases ru
 obtain ⟨its, rv, pl, hz⟩ := I1.list hq
 refine call_enumerate_list pl.isList λ h2 he2 hi2 hz2 hk2 => ?_
 have I2 : Inv X pins σ H1 { s1 with heap := h2 } := I1.kept (t' := s1.toks) hk2
 refine wpAny_pyIter_enum he2 ⟨_, [s1.heap.objs.size + 1, s1.heap.objs.size], _, _, H1, rfl, I2, QqI l _ _ (Nat.succ_ne_self _), ⟨_, he2, hi2⟩, λ b hb => ?_, q⟩
 have hb : b = s1.heap.objs.size + 1 ∨ b = s1.heap.objs.size := by simpa using hb
 have hle : s1.heap.objs.size <= b := by rcases hb with rfl | rfl <;> omega
 exact I1.Qie hle (I1.hok.fresh hle)
end
noncomputable def Itz (K : PySem.W.Frag) (a b : Addr) : It :=
 ⟨λ i H => ∃ xs ys x y, SqL K H a xs /\ SqL K H b ys /\ xs[i]? = some x /\ ys[i]? = some y, λ i H v H' => ∃ p x y, v = .ref p /\ H p = none /\ H' = upd H p (.tup [x, y]) /\ (∀ xs, SqL K H a xs -> xs[i]? = some x) /\ ∀ ys, SqL K H b ys -> ys[i]? = some y,
  λ i H => ∃ xs ys, SqL K H a xs /\ SqL K H b ys /\ (xs.length <= i ∨ ys.length <= i)⟩
structure QtB (z TI TO i1 i2 : Addr) : Prop where
 a : TI ≠ z
 b : TO ≠ z
 c : i1 ≠ z
 d : i2 ≠ z
 e : TI ≠ TO
 f : TI ≠ i1
 g : TI ≠ i2
 h : TO ≠ i1
 i : TO ≠ i2
 j : i1 ≠ i2
theorem Qsc {P : Program} {w : World} {K : PySem.W.Frag} {es : List Expr} {tk : Nat} {tpos : Pos} (l1 l2 z TI TO i1 i2 : Addr) (D : QtB z TI TO i1 i2) :
  Turn P w K (.Tuple es tk tpos) (Itz K l1 l2) [z, TI, TO, i1, i2] z (λ i h => IsZip h z TI TO .none /\ IsPair h TI (.ref i1) (.ref i2) /\ (∃ a b, IsPair h TO a b) /\ h.IsListIter i1 l1 i /\ h.IsListIter i2 l2 i) where
 mem := by simp
 obj := λ i h st b hb => by
  obtain ⟨hz, hTI, ⟨p, q, hTO⟩, ⟨o1, ho1, hc1, hd1⟩, ⟨o2, ho2, hc2, hd2⟩⟩ := st
  have hb : b = z ∨ b = TI ∨ b = TO ∨ b = i1 ∨ b = i2 := by simpa using hb
  rcases hb with rfl | rfl | rfl | rfl | rfl
  ·exact ⟨_, hz, λ v z => by cases z⟩
  ·exact ⟨_, hTI, λ v z => by cases z⟩
  ·exact ⟨_, hTO, λ v z => by cases z⟩
  ·exact ⟨o1, ho1, λ v z => by rw [hd1] at z; cases z⟩
  ·exact ⟨o2, ho2, λ v z => by rw [hd2] at z; cases z⟩
 keep := λ i h h' st k => by
  obtain ⟨hz, hTI, ⟨p, q, hTO⟩, h1, h2⟩ := st
  exact ⟨k z (by simp) _ hz, k TI (by simp) _ hTI, ⟨p, q, k TO (by simp) _ hTO⟩, h1.at λ o e => k i1 (by simp) o e, h2.at λ o e => k i2 (by simp) o e⟩
 item := by
  intro X hP hw hK hc i pins s σ H E I hf st hg
  subst hP hw hK
  obtain ⟨hz, hTI, ⟨a0, b0, hTO⟩, h1, h2⟩ := st
  obtain ⟨xs, ys, x, y, hq1, hq2, hx, hy⟩ := hg
  obtain ⟨its, rv, p, hzz⟩ := I.list hq1
  obtain ⟨its2, rv2, p2, hzz2⟩ := I.list hq2
  obtain ⟨u, hu, ru⟩ := rv.get hx
  obtain ⟨u2, hu2, ru2⟩ := rv2.get hy
  have free : ∀ l ys, SqL X.K H l ys -> ∀ b, b ∈ [z, TI, TO, i1, i2] -> l ≠ b := λ l ys hq b hb e => by
   subst e
   rcases hq with (hq | ⟨o, hq⟩) | ⟨o, its, n, hk, hc', _, hd', _⟩
   ·rw [(hf l hb).1] at hq; cases hq
   ·rw [(hf l hb).1] at hq; cases hq
   ·have e1 := I.kIn l o hk
    obtain ⟨o1, ho1, hcc1, hd1⟩ := id h1
    obtain ⟨o2, ho2, hcc2, hd2⟩ := id h2
    have hb : l = z ∨ l = TI ∨ l = TO ∨ l = i1 ∨ l = i2 := by simpa using hb
    rcases hb with rfl | rfl | rfl | rfl | rfl
    ·rw [hz] at e1; cases e1; simp at hc'
    ·rw [hTI] at e1; cases e1; simp at hc'
    ·rw [hTO] at e1; cases e1; simp at hc'
    ·rw [ho1] at e1; cases e1; rw [hc'] at hcc1; simp at hcc1
    ·rw [ho2] at e1; cases e1; rw [hc'] at hcc2; simp at hcc2
  have A1 := free l1 xs hq1
  have A2 := free l2 ys hq2
  have DD : ZipApart z TI TO i1 i2 l1 l2 := ⟨D.a, D.b, D.c, D.d, D.e, D.f, D.g, D.h, D.i, D.j, A1 z (by simp), A1 TO (by simp), A1 i1 (by simp), A1 i2 (by simp), A2 z (by simp), A2 TO (by simp), A2 i1 (by simp), A2 i2 (by simp)⟩
  refine wpAny_pyNext_zip_item DD hz hTI hTO h1 h2 p.isList p2.isList (x := u) (y := u2) (by simpa using hu) (by simpa using hu2) λ h3 z3 TO3 a3 b3 T3 sz3 k3 => ?_
  refine ⟨.ref s.heap.objs.size, rfl, wpAny_letOwnedTupleGo_zip z3 λ h4 z4 hs4 => ?_⟩
  replace hs4 : Heap.SameBut z h3 h4 := hs4
  have lt : ∀ {c o}, s.heap.get? c = some o -> c < s.heap.objs.size := λ e => Zu e
  have hzlt := lt hz
  have all : ∀ b ∈ [z, TI, TO, i1, i2], b < s.heap.objs.size := λ b hb => by
   have hb : b = z ∨ b = TI ∨ b = TO ∨ b = i1 ∨ b = i2 := by simpa using hb
   obtain ⟨o1, ho1, _⟩ := h1
   obtain ⟨o2, ho2, _⟩ := h2
   rcases hb with rfl | rfl | rfl | rfl | rfl
   ·exact lt hz
   ·exact lt hTI
   ·exact lt hTO
   ·exact lt ho1
   ·exact lt ho2
  have kk : ∀ b o, b ∉ [z, TI, TO, i1, i2] -> s.heap.get? b = some o -> h4.get? b = some o := λ b o hb q => by
   have n1 : b ≠ z := λ e => hb (by simp [e])
   exact hs4.extBut b o n1 (k3 b o n1 (λ e => hb (by simp [e])) (λ e => hb (by simp [e])) (λ e => hb (by simp [e])) q)
  have TI4 : IsPair h4 TI (.ref i1) (.ref i2) := hs4.extBut _ _ D.a (k3 _ _ D.a D.e D.f D.g hTI)
  have TO4 : IsPair h4 TO u u2 := hs4.extBut _ _ D.b TO3
  have a4 : h4.IsListIter i1 l1 (i + 1) := a3.extBut hs4.extBut D.c
  have b4 : h4.IsListIter i2 l2 (i + 1) := b3.extBut hs4.extBut D.d
  have T4 : IsTup h4 s.heap.objs.size [u, u2].toArray := ⟨_, (hs4.2 _ (Zbl hzlt)).trans T3, rfl, _, rfl⟩
  refine ⟨.ref s.heap.objs.size, upd H s.heap.objs.size (.tup [x, y]), I.Qn2 (t' := s.toks) hf kk (λ b hb => ?_) (Zm _) ⟨by show 2 <= sizeLine; decide, _, .cons ru (.cons ru2 .nil), T4⟩, rfl,
   ⟨_, x, y, rfl, I.hok.fresh (Zm _), rfl, λ zs hy' => by rw [I.Qc2 hy' hq1]; exact hx, λ zs hy' => by rw [I.Qc2 hy' hq2]; exact hy⟩, ⟨z4, TI4, ⟨_, _, TO4⟩, a4, b4⟩, λ b hb => ?_⟩
  ·have hb : b = z ∨ b = TI ∨ b = TO ∨ b = i1 ∨ b = i2 := by simpa using hb
   obtain ⟨o1, ho1, _⟩ := a4
   obtain ⟨o2, ho2, _⟩ := b4
   rcases hb with rfl | rfl | rfl | rfl | rfl
   ·exact ⟨_, z4⟩
   ·exact ⟨_, TI4⟩
   ·exact ⟨_, TO4⟩
   ·exact ⟨_, ho1⟩
   ·exact ⟨_, ho2⟩
  ·rw [QR (ZW (all b hb))]; exact (hf b hb).1
 done := by
  intro X hP hw hK hc i pins s σ H E I hf st hg
  subst hP hw hK
  obtain ⟨hz, hTI, ⟨a0, b0, hTO⟩, h1, h2⟩ := st
  obtain ⟨xs, ys, hq1, hq2, hx⟩ := hg
  obtain ⟨its, rv, p, hzz⟩ := I.list hq1
  obtain ⟨its2, rv2, p2, hzz2⟩ := I.list hq2
  have free : ∀ l ys, SqL X.K H l ys -> ∀ b, b ∈ [z, TI, TO, i1, i2] -> l ≠ b := λ l ys hq b hb e => by
   subst e
   rcases hq with (hq | ⟨o, hq⟩) | ⟨o, its, n, hk, hc', _, hd', _⟩
   ·rw [(hf l hb).1] at hq; cases hq
   ·rw [(hf l hb).1] at hq; cases hq
   ·have e1 := I.kIn l o hk
    obtain ⟨o1, ho1, hcc1, hd1⟩ := id h1
    obtain ⟨o2, ho2, hcc2, hd2⟩ := id h2
    have hb : l = z ∨ l = TI ∨ l = TO ∨ l = i1 ∨ l = i2 := by simpa using hb
    rcases hb with rfl | rfl | rfl | rfl | rfl
    ·rw [hz] at e1; cases e1; simp at hc'
    ·rw [hTI] at e1; cases e1; simp at hc'
    ·rw [hTO] at e1; cases e1; simp at hc'
    ·rw [ho1] at e1; cases e1; rw [hc'] at hcc1; simp at hcc1
    ·rw [ho2] at e1; cases e1; rw [hc'] at hcc2; simp at hcc2
  have A1 := free l1 xs hq1
  have A2 := free l2 ys hq2
  have DD : ZipApart z TI TO i1 i2 l1 l2 := ⟨D.a, D.b, D.c, D.d, D.e, D.f, D.g, D.h, D.i, D.j, A1 z (by simp), A1 TO (by simp), A1 i1 (by simp), A1 i2 (by simp), A2 z (by simp), A2 TO (by simp), A2 i1 (by simp), A2 i2 (by simp)⟩
  have hl := rv.length
  have hl2 := rv2.length
  refine wpAny_pyNext_zip_end (I.ok.hd hc) DD hz hTI hTO h1 h2 p.isList p2.isList (by rcases hx with hx | hx; (left; simp; omega); (right; simp; omega)) λ h3 k3 => ⟨rfl, ?_⟩
  exact I.turns (t' := s.toks) hf λ b o hb q => k3 b o (λ e => hb (by simp [e])) (λ e => hb (by simp [e])) (λ e => hb (by simp [e])) (λ e => hb (by simp [e])) q
 self := λ _ _ _ _ _ st h => wpAny_pyIter_zip st.1 h
section
variable {X : Cx}
noncomputable def Qx6 (K : PySem.W.Frag) (ta : TA) : TI := λ σ H R => ta σ H λ vs H1 => ∃ a b, vs = [.ref a, .ref b] /\ (∃ xs, SqL K H1 a xs) /\ (∃ ys, SqL K H1 b ys) /\ R (Itz K a b) H1
theorem Qvu {a b : Expr} {ta : TA} {p pos : Pos} {es : List Expr} {tk : Nat} {tpos : Pos} (hg : Gl X "zip") (hm : X.mg "zip" = none) (ha : PA X [a, b] ta) (hs : starEach [a, b] X.env = [(false, eval a X.env), (false, eval b X.env)]) (hs2 : starEach [b] X.env = [(false, eval b X.env)]) :
  PI X (.Tuple es tk tpos) (.Call (.Name "zip" p) [a, b] [] pos) (Qx6 X.K ta) := by
 intro pins s σ H R I h
 refine Call_ (Qcu I hg hm PyProof.Rows.boot_zip (ZP (thn (ha pos pins s σ H _ I h) λ us s1 ⟨vs, H1, I1, r1, q1⟩ => ?_) (by rw [hs, hs2]) (by rw [hs2]; rfl)))
 obtain ⟨l, l2, e, ⟨xs, hq⟩, ⟨ys, hq2⟩, q⟩ := q1
 subst e
 obtain ⟨u, u2, rfl, ru, ru2⟩ := vals2 r1
 cases ru
 cases ru2
 obtain ⟨its, rv, pl, hz⟩ := I1.list hq
 obtain ⟨its2, rv2, pl2, hz2⟩ := I1.list hq2
 refine call_zip_2 pl.isList pl2.isList λ h2 hz hTI hTO h1 h2' hsz hk2 => ?_
 have I2 : Inv X pins σ H1 { s1 with heap := h2 } := I1.kept (t' := s1.toks) hk2
 refine wpAny_pyIter_zip hz ⟨_, [s1.heap.objs.size + 4, s1.heap.objs.size + 2, s1.heap.objs.size + 3, s1.heap.objs.size, s1.heap.objs.size + 1], _, _, H1, rfl, I2, Qsc l l2 _ _ _ _ _ ⟨?_, ?_, ?_, ?_, ?_, ?_, ?_, ?_, ?_, ?_⟩, ⟨hz, hTI, ⟨_, _, hTO⟩, h1, h2'⟩, λ b hb => ?_, q⟩
 iterate 10 (exact (by intro e; first | (have e' : (s1.heap.objs.size : Nat) + _ = _ := e; omega) | (have e' : (s1.heap.objs.size : Nat) = _ := e; omega)))
 have hle : s1.heap.objs.size <= b := by
  simp only [Zr, List.not_mem_nil, or_false] at hb
  rcases hb with rfl | rfl | rfl | rfl | rfl <;> first | exact Zm _ | exact Nat.le_add_right _ _
 exact I1.Qie hle (I1.hok.fresh hle)
end
end L2
namespace L2
open PySem PySem.Spec
theorem Qi5 (a b c : Value) : checkTypeCall "zip" ⟨[a, b, c], []⟩ = pure () := by kernel_rfl
theorem Qks (a b c : Value) : checkBuiltinCall "zip.__new__" ⟨[.type "zip", a, b, c], []⟩ = pure () := by kernel_rfl
theorem QgG (a b c d : Value) : argsOk "object.__init__" ⟨[a, b, c, d], []⟩ := by
 unfold argsOk; rw [signature?_of (id := "object.__init__") (n := ['_', '_', 't', 'i', 'n', 'i', '_', '_']) (o := ['t', 'c', 'e', 'j', 'b', 'o']) (by kernel_rfl) F.owner_object]; kernel_rfl
abbrev Qaa (h : Heap) (T : Addr) (a b c : Value) : Prop := h.get? T = some { cls := .type "tuple", data := .seq #[a, b, c] }
section
variable {prog : Program} {w : World} {A : Around} {E : Value -> Shared -> Prop} {s : Shared}
theorem QdK {T : Addr} {a b c x : Value} {k : Nat} {Q : Unit -> Shared -> Prop} (hT : Qaa s.heap T a b c)
  (h : ∀ h', h'.get? T = some { cls := .type "tuple", data := .seq ((#[a, b, c] : Array Value).setIfInBounds k x) } -> Heap.SameBut T s.heap h' -> Q () { s with heap := h' }) :
  wpAny (model prog w) A (updateSeq T (·.setIfInBounds k x)) Q E s := by
 refine wpAny_updateSeq hT rfl (h _ ?_ (Heap.SameBut.update ..))
 rw [Heap.get?_update_self _ hT rfl]
 simp [Obj.mapSeq]
structure Six (z TI TO i1 i2 i3 : Addr) : Prop where
 TIz : TI ≠ z
 TOz : TO ≠ z
 i1z : i1 ≠ z
 i2z : i2 ≠ z
 i3z : i3 ≠ z
 TITO : TI ≠ TO
 TIi1 : TI ≠ i1
 TIi2 : TI ≠ i2
 TIi3 : TI ≠ i3
 TOi1 : TO ≠ i1
 TOi2 : TO ≠ i2
 TOi3 : TO ≠ i3
 i12 : i1 ≠ i2
 i13 : i1 ≠ i3
 i23 : i2 ≠ i3
def Off (z TO i1 i2 i3 l : Addr) : Prop := l ≠ z /\ l ≠ TO /\ l ≠ i1 /\ l ≠ i2 /\ l ≠ i3
theorem Qpe {z TI TO i1 i2 i3 l1 l2 l3 : Addr} {k : Nat} {xs ys zs : Array Value} {x y u a b c : Value} {Q : Value -> Shared -> Prop} (D : Six z TI TO i1 i2 i3) (O1 : Off z TO i1 i2 i3 l1) (O2 : Off z TO i1 i2 i3 l2) (O3 : Off z TO i1 i2 i3 l3)
  (hz : IsZip s.heap z TI TO .none) (hTI : Qaa s.heap TI (.ref i1) (.ref i2) (.ref i3)) (hTO : Qaa s.heap TO a b c)
  (h1 : s.heap.IsListIter i1 l1 k) (h2 : s.heap.IsListIter i2 l2 k) (h3 : s.heap.IsListIter i3 l3 k) (hl1 : s.heap.IsList l1 xs) (hl2 : s.heap.IsList l2 ys) (hl3 : s.heap.IsList l3 zs) (hx : xs[k]? = some x) (hy : ys[k]? = some y) (hu : zs[k]? = some u)
  (hQ : ∀ h', IsZip h' z TI TO (rawInt s.heap.objs.size) -> Qaa h' TO x y u -> h'.IsListIter i1 l1 (k + 1) -> h'.IsListIter i2 l2 (k + 1) -> h'.IsListIter i3 l3 (k + 1) -> Qaa h' s.heap.objs.size x y u -> h'.objs.size = s.heap.objs.size + 1 →
   (∀ c o, c ≠ z -> c ≠ TO -> c ≠ i1 -> c ≠ i2 -> c ≠ i3 -> s.heap.get? c = some o -> h'.get? c = some o) -> Q (.ref s.heap.objs.size) { s with heap := h' }) :
  wpAny (model prog w) A (Builtin.«zip.__next__» ⟨[.ref z], []⟩) (λ fin s' => ∃ v, fin = .done (.ret v) /\ Q v s') E s := by
 show wpAny _ _ (field (.ref z) 2 >>= _) _ _ _
 refine wpAny_bind (wpAny_field hz rfl (x := .bool false) rfl ?_)
 show wpAny _ _ (field (.ref z) 3 >>= _) _ _ _
 refine wpAny_bind (wpAny_field hz rfl (x := .ref TI) rfl ?_)
 refine wpAny_bind (wpAny_seqItems hTI rfl ?_)
 show wpAny _ _ (Builtin.SmallTypes.ownedTupleIsFree (.ref z) >>= _) _ _ _
 refine wpAny_bind ?_
 unfold Builtin.SmallTypes.ownedTupleIsFree
 refine wpAny_bind (wpAny_field hz rfl (x := .none) rfl (wpAny_pure ?_))
 simp only [if_true]
 refine wpAny_bind (wpAny_rule ?_)
 refine wpAny_bind (wpAny_field hz rfl (x := .ref TO) rfl ?_)
 refine wpAny_bind (wpAny_setField_rec hz (by simp) λ g1 hz1 s1 => ?_)
 replace hz1 : IsZip g1 z TI TO .ellipsis := hz1
 refine wpAny_bind ?_
 simp only [List.zipIdx_cons, List.zipIdx_nil, Zca, List.forIn_nil]
 refine wpAny_bind (wpAny_bind (wpAny_onRaise ?_))
 show wpAny _ _ (Builtin.SmallTypes.nextOf (.ref i1) >>= _) _ _ _
 have k1 : ∀ e o, e ≠ z -> s.heap.get? e = some o -> g1.get? e = some o := λ e o a1 q => s1.extBut _ _ a1 q
 refine wpAny_bind (wpAny_nextOf_list_item (h1.at λ o e => k1 _ o D.i1z e) (hl1.at λ o e => k1 _ o O1.1 e) hx λ g2 m1 s2 => wpAny_pure ?_)
 have k2 : ∀ e o, e ≠ z -> e ≠ i1 -> s.heap.get? e = some o -> g2.get? e = some o := λ e o a1 a3 q => s2.extBut _ _ a3 (k1 e o a1 q)
 have t2 : Qaa g2 TO a b c := k2 _ _ D.TOz D.TOi1 hTO
 refine wpAny_bind (wpAny_seqItems t2 rfl ?_)
 refine wpAny_bind (QdK t2 λ g3 t3 s3 => ?_)
 replace t3 : Qaa g3 TO x b c := t3
 have k3 : ∀ e o, e ≠ z -> e ≠ TO -> e ≠ i1 -> s.heap.get? e = some o -> g3.get? e = some o := λ e o a1 a2 a3 q => s3.extBut _ _ a2 (k2 e o a1 a3 q)
 refine wpAny_bind (wpAny_letGo (wpAny_pure ?_))
 refine wpAny_bind (wpAny_bind (wpAny_onRaise ?_))
 show wpAny _ _ (Builtin.SmallTypes.nextOf (.ref i2) >>= _) _ _ _
 refine wpAny_bind (wpAny_nextOf_list_item (h2.at λ o e => k3 _ o D.i2z D.TOi2.symm D.i12.symm e) (hl2.at λ o e => k3 _ o O2.1 O2.2.1 O2.2.2.1 e) hy λ g4 m2 s4 => wpAny_pure ?_)
 have k4 : ∀ e o, e ≠ z -> e ≠ TO -> e ≠ i1 -> e ≠ i2 -> s.heap.get? e = some o -> g4.get? e = some o := λ e o a1 a2 a3 a4 q => s4.extBut _ _ a4 (k3 e o a1 a2 a3 q)
 have t4 : Qaa g4 TO x b c := s4.extBut _ _ D.TOi2 t3
 refine wpAny_bind (wpAny_seqItems t4 rfl ?_)
 refine wpAny_bind (QdK t4 λ g5 t5 s5 => ?_)
 replace t5 : Qaa g5 TO x y c := t5
 have k5 : ∀ e o, e ≠ z -> e ≠ TO -> e ≠ i1 -> e ≠ i2 -> s.heap.get? e = some o -> g5.get? e = some o := λ e o a1 a2 a3 a4 q => s5.extBut _ _ a2 (k4 e o a1 a2 a3 a4 q)
 refine wpAny_bind (wpAny_letGo (wpAny_pure ?_))
 refine wpAny_bind (wpAny_bind (wpAny_onRaise ?_))
 show wpAny _ _ (Builtin.SmallTypes.nextOf (.ref i3) >>= _) _ _ _
 refine wpAny_bind (wpAny_nextOf_list_item (h3.at λ o e => k5 _ o D.i3z D.TOi3.symm D.i13.symm D.i23.symm e) (hl3.at λ o e => k5 _ o O3.1 O3.2.1 O3.2.2.1 O3.2.2.2.1 e) hu λ g6 m3 s6 => wpAny_pure ?_)
 have k6 : ∀ e o, e ≠ z -> e ≠ TO -> e ≠ i1 -> e ≠ i2 -> e ≠ i3 -> s.heap.get? e = some o -> g6.get? e = some o := λ e o a1 a2 a3 a4 a5 q => s6.extBut _ _ a5 (k5 e o a1 a2 a3 a4 q)
 have t6 : Qaa g6 TO x y c := s6.extBut _ _ D.TOi3 t5
 refine wpAny_bind (wpAny_seqItems t6 rfl ?_)
 refine wpAny_bind (QdK t6 λ g7 t7 s7 => ?_)
 replace t7 : Qaa g7 TO x y u := t7
 have k7 : ∀ e o, e ≠ z -> e ≠ TO -> e ≠ i1 -> e ≠ i2 -> e ≠ i3 -> s.heap.get? e = some o -> g7.get? e = some o := λ e o a1 a2 a3 a4 a5 q => s7.extBut _ _ a2 (k6 e o a1 a2 a3 a4 a5 q)
 refine wpAny_bind (wpAny_letGo (wpAny_pure (wpAny_pure ?_)))
 refine wpAny_bind (wpAny_seqItems t7 rfl ?_)
 refine wpAny_bind (wpAny_newTuple ?_)
 have hsz : g7.objs.size = s.heap.objs.size := by rw [s7.1, s6.1, s5.1, s4.1, s3.1, s2.1, s1.1]
 have hz7 : IsZip g7 z TI TO .ellipsis := s7.extBut _ _ D.TOz.symm (s6.extBut _ _ D.i3z.symm (s5.extBut _ _ D.TOz.symm (s4.extBut _ _ D.i2z.symm (s3.extBut _ _ D.TOz.symm (s2.extBut _ _ D.i1z.symm hz1)))))
 have n1 : g7.IsListIter i1 l1 (k + 1) := ((((m1.extBut s3.extBut D.TOi1.symm).extBut s4.extBut D.i12).extBut s5.extBut D.TOi1.symm).extBut s6.extBut D.i13).extBut s7.extBut D.TOi1.symm
 have n2 : g7.IsListIter i2 l2 (k + 1) := ((m2.extBut s5.extBut D.TOi2.symm).extBut s6.extBut D.i23).extBut s7.extBut D.TOi2.symm
 have n3 : g7.IsListIter i3 l3 (k + 1) := m3.extBut s7.extBut D.TOi3.symm
 have hzlt : z < g7.objs.size := Zu hz7
 show wpAny _ _ (Builtin.SmallTypes.ownedTupleHandOut (.ref z) (.ref g7.objs.size) >>= _) _ _ _
 refine wpAny_bind ?_
 unfold Builtin.SmallTypes.ownedTupleHandOut
 have hz8 : IsZip (g7.push { cls := .type "tuple", data := .seq #[x, y, u] }) z TI TO .ellipsis := Zb _ hz7
 refine wpAny_bind (wpAny_setField_rec hz8 (by simp) λ g9 hz9 s9 => ?_)
 replace hz9 : IsZip g9 z TI TO (rawInt g7.objs.size) := hz9
 refine wpAny_setField_rec hz9 (by simp) λ g10 hz10 s10 => ?_
 replace hz10 : IsZip g10 z TI TO (rawInt g7.objs.size) := hz10
 have up : ∀ c o, c ≠ z -> g7.get? c = some o -> g10.get? c = some o := λ c o c1 e => s10.extBut _ _ c1 (s9.extBut _ _ c1 (Zb _ e))
 have hT : Qaa g10 g7.objs.size x y u := s10.extBut _ _ (Zbl hzlt) (s9.extBut _ _ (Zbl hzlt) (ZA _ rfl))
 have hz' : g10.objs.size = g7.objs.size + 1 := by rw [s10.1, s9.1, Zam]
 rw [hsz] at hz10 hT hz'
 refine wpAny_pure ⟨_, rfl, ?_⟩
 show Q (.ref g7.objs.size) _
 rw [hsz]
 exact hQ g10 hz10 (up _ _ D.TOz t7) (n1.at λ o e => up _ o D.i1z e) (n2.at λ o e => up _ o D.i2z e) (n3.at λ o e => up _ o D.i3z e) hT hz' λ c o c1 c2 c3 c4 c5 e => up c o c1 (k7 c o c1 c2 c3 c4 c5 e)
theorem Qq8 {z TI TO i1 i2 i3 l1 : Addr} {k : Nat} {xs : Array Value} {Q : Fin -> Shared -> Prop} (hh : A.handled = none) (D : Six z TI TO i1 i2 i3) (O1 : l1 ≠ z)
  (hz : IsZip s.heap z TI TO .none) (hTI : Qaa s.heap TI (.ref i1) (.ref i2) (.ref i3)) (h1 : s.heap.IsListIter i1 l1 k) (hl1 : s.heap.IsList l1 xs) (hx : xs[k]? = none)
  (hE : ∀ h' e, (∀ c o, c ≠ z -> c ≠ i1 -> s.heap.get? c = some o -> h'.get? c = some o) -> (∃ o, h'.get? e = some o /\ o.cls = .type "StopIteration") -> E (.ref e) { s with heap := h' }) :
  wpAny (model prog w) A (Builtin.«zip.__next__» ⟨[.ref z], []⟩) Q E s := by
 show wpAny _ _ (field (.ref z) 2 >>= _) _ _ _
 refine wpAny_bind (wpAny_field hz rfl (x := .bool false) rfl ?_)
 show wpAny _ _ (field (.ref z) 3 >>= _) _ _ _
 refine wpAny_bind (wpAny_field hz rfl (x := .ref TI) rfl ?_)
 refine wpAny_bind (wpAny_seqItems hTI rfl ?_)
 show wpAny _ _ (Builtin.SmallTypes.ownedTupleIsFree (.ref z) >>= _) _ _ _
 refine wpAny_bind ?_
 unfold Builtin.SmallTypes.ownedTupleIsFree
 refine wpAny_bind (wpAny_field hz rfl (x := .none) rfl (wpAny_pure ?_))
 simp only [if_true]
 refine wpAny_bind (wpAny_rule ?_)
 refine wpAny_bind (wpAny_field hz rfl (x := .ref TO) rfl ?_)
 refine wpAny_bind (wpAny_setField_rec hz (by simp) λ g1 hz1 s1 => ?_)
 replace hz1 : IsZip g1 z TI TO .ellipsis := hz1
 refine wpAny_bind ?_
 simp only [List.zipIdx_cons, List.zipIdx_nil, Zca, List.forIn_nil]
 refine wpAny_bind (wpAny_bind (wpAny_onRaise ?_))
 show wpAny _ _ (Builtin.SmallTypes.nextOf (.ref i1) >>= _) _ _ _
 refine wpAny_bind (wpAny_nextOf_list_end hh (h1.extBut s1.extBut D.i1z) (hl1.extBut s1.extBut O1) hx λ g2 e s2 he => ?_)
 obtain ⟨oe, hoe, hce⟩ := he
 have hz2 : IsZip g2 z TI TO .ellipsis := s2 _ _ D.i1z.symm hz1
 have hez : e ≠ z := λ x => by subst x; rw [hz2] at hoe; cases hoe; simp at hce
 refine wpAny_setField_rec hz2 (by simp) λ g3 _ s3 => hE g3 e (λ c o c1 c3 x => s3.extBut _ _ c1 (s2 _ _ c3 (s1.extBut _ _ c1 x))) ⟨oe, s3.extBut _ _ hez hoe, hce⟩
theorem QmG {z TI TO i1 i2 i3 l1 l2 l3 : Addr} {k : Nat} {xs ys zs : Array Value} {x y u a b c : Value} {Q : Option Value -> Shared -> Prop} (D : Six z TI TO i1 i2 i3) (O1 : Off z TO i1 i2 i3 l1) (O2 : Off z TO i1 i2 i3 l2) (O3 : Off z TO i1 i2 i3 l3)
  (hz : IsZip s.heap z TI TO .none) (hTI : Qaa s.heap TI (.ref i1) (.ref i2) (.ref i3)) (hTO : Qaa s.heap TO a b c)
  (h1 : s.heap.IsListIter i1 l1 k) (h2 : s.heap.IsListIter i2 l2 k) (h3 : s.heap.IsListIter i3 l3 k) (hl1 : s.heap.IsList l1 xs) (hl2 : s.heap.IsList l2 ys) (hl3 : s.heap.IsList l3 zs) (hx : xs[k]? = some x) (hy : ys[k]? = some y) (hu : zs[k]? = some u)
  (hQ : ∀ h', IsZip h' z TI TO (rawInt s.heap.objs.size) -> Qaa h' TO x y u -> h'.IsListIter i1 l1 (k + 1) -> h'.IsListIter i2 l2 (k + 1) -> h'.IsListIter i3 l3 (k + 1) -> Qaa h' s.heap.objs.size x y u -> h'.objs.size = s.heap.objs.size + 1 →
   (∀ c o, c ≠ z -> c ≠ TO -> c ≠ i1 -> c ≠ i2 -> c ≠ i3 -> s.heap.get? c = some o -> h'.get? c = some o) -> Q (some (.ref s.heap.objs.size)) { s with heap := h' }) :
  wpAny (model prog w) A (pyNext (.ref z)) Q E s := by
 have hT : s.TypeIs (.ref z) "zip" := ⟨_, hz, rfl⟩
 unfold pyNext
 exact wpAny_bind (wpAny_attempt (wpAny_callSpecial?_slot (name := Str.ofString "__next__") hT Zbv
  (wpAny_call_entry Zbv hT F.entry_zip_next
   (Qpe D O1 O2 O3 hz hTI hTO h1 h2 h3 hl1 hl2 hl3 hx hy hu λ h' a1 a2 a3 a4 a5 a6 a7 a8 => wpAny_pure (hQ h' a1 a2 a3 a4 a5 a6 a7 a8)) (F.args_zip_next_1 _))))
theorem Qi0 {z TI TO i1 i2 i3 l1 : Addr} {k : Nat} {xs : Array Value} {Q : Option Value -> Shared -> Prop} (hh : A.handled = none) (D : Six z TI TO i1 i2 i3) (O1 : l1 ≠ z)
  (hz : IsZip s.heap z TI TO .none) (hTI : Qaa s.heap TI (.ref i1) (.ref i2) (.ref i3)) (h1 : s.heap.IsListIter i1 l1 k) (hl1 : s.heap.IsList l1 xs) (hx : xs[k]? = none)
  (hQ : ∀ h', (∀ c o, c ≠ z -> c ≠ i1 -> s.heap.get? c = some o -> h'.get? c = some o) -> Q none { s with heap := h' }) : wpAny (model prog w) A (pyNext (.ref z)) Q E s := by
 have hT : s.TypeIs (.ref z) "zip" := ⟨_, hz, rfl⟩
 unfold pyNext
 refine wpAny_bind (wpAny_attempt (wpAny_callSpecial?_slot (name := Str.ofString "__next__") hT Zbv
  (wpAny_call_entry Zbv hT F.entry_zip_next (Qq8 hh D O1 hz hTI h1 hl1 hx λ h' e hk he => ?_) (F.args_zip_next_1 _))))
 obtain ⟨o, ho, hc⟩ := he
 refine wpAny_bind (wpAny_isInstance (T := "StopIteration") (b := true) ⟨o, ho, hc⟩ isSubtype_stop ?_)
 exact wpAny_pure (hQ _ hk)
end
noncomputable abbrev zA (h : Heap) (l1 : Addr) : Heap := h.push { cls := .type "list_iterator", data := .fields #[.ref l1, .int 0 0] }
noncomputable abbrev zB (h : Heap) (l1 l2 : Addr) : Heap := (zA h l1).push { cls := .type "list_iterator", data := .fields #[.ref l2, .int 0 0] }
noncomputable abbrev zC (h : Heap) (l1 l2 l3 : Addr) : Heap := (zB h l1 l2).push { cls := .type "list_iterator", data := .fields #[.ref l3, .int 0 0] }
noncomputable abbrev zD (h : Heap) (l1 l2 l3 : Addr) : Heap := (zC h l1 l2 l3).push { cls := .type "tuple", data := .seq #[.ref h.objs.size, .ref (zA h l1).objs.size, .ref (zB h l1 l2).objs.size] }
noncomputable abbrev zE (h : Heap) (l1 l2 l3 : Addr) : Heap := (zD h l1 l2 l3).push { cls := .type "tuple", data := .seq #[.none, .none, .none] }
noncomputable abbrev zF (h : Heap) (l1 l2 l3 : Addr) : Heap := (zE h l1 l2 l3).push { cls := .type "zip", data := .fields #[.none, .bool false, .bool false, .ref (zC h l1 l2 l3).objs.size, .ref (zD h l1 l2 l3).objs.size] }
theorem QjA (l1 l2 l3 : Addr) (xs ys zs : Array Value) :
  Meets (Builtin.«zip.__new__» ⟨[.type "zip", .ref l1, .ref l2, .ref l3], []⟩) (λ _ R s => s.heap.IsList l1 xs /\ s.heap.IsList l2 ys /\ s.heap.IsList l3 zs ∧
   R (.ok (.ret (.ref (zE s.heap l1 l2 l3).objs.size))) { s with heap := zF s.heap l1 l2 l3 }) :=
 .of_wp λ prog w A R s h => by
  obtain ⟨hp, g, d, tk, os⟩ := s; obtain ⟨hl1, hl2, hl3, h⟩ := h
  have hsub := sub_zip
  have hL1 : Heap.IsList (Shared.heap ⟨hp, g, d, tk, os⟩) l1 xs := hl1
  have hL2 : Heap.IsList (Shared.heap ⟨hp.push { cls := .type "list_iterator", data := .fields #[.ref l1, .int 0 0] }, g, d, tk, os⟩) l2 ys := ZbN hl2 _
  have hL3 : Heap.IsList (Shared.heap ⟨(hp.push { cls := .type "list_iterator", data := .fields #[.ref l1, .int 0 0] }).push { cls := .type "list_iterator", data := .fields #[.ref l2, .int 0 0] }, g, d, tk, os⟩) l3 zs := ZbN (ZbN hl3 _) _
  wp_walk using wpAny_pyIter_list hL1, wpAny_pyIter_list hL2, wpAny_pyIter_list hL3
  exact ⟨_, rfl, h⟩
section
variable {prog : Program} {w : World} {A : Around} {E : Value -> Shared -> Prop} {s : Shared}
theorem QoL {l1 l2 l3 : Addr} {xs ys zs : Array Value} {Q : Value -> Shared -> Prop} (hl1 : s.heap.IsList l1 xs) (hl2 : s.heap.IsList l2 ys) (hl3 : s.heap.IsList l3 zs)
  (h : ∀ h', IsZip h' (s.heap.objs.size + 5) (s.heap.objs.size + 3) (s.heap.objs.size + 4) .none -> Qaa h' (s.heap.objs.size + 3) (.ref s.heap.objs.size) (.ref (s.heap.objs.size + 1)) (.ref (s.heap.objs.size + 2)) →
   Qaa h' (s.heap.objs.size + 4) .none .none .none -> h'.IsListIter s.heap.objs.size l1 0 -> h'.IsListIter (s.heap.objs.size + 1) l2 0 -> h'.IsListIter (s.heap.objs.size + 2) l3 0 →
   (∀ c o, s.heap.get? c = some o -> h'.get? c = some o) -> Q (.ref (s.heap.objs.size + 5)) { s with heap := h' }) :
  wpAny (model prog w) A (call (.type "zip") [.ref l1, .ref l2, .ref l3]) Q E s := by
 refine callType_new F.called_zip (by decide) (Qi5 _ _ _) (Qks _ _ _) (λ obj => QgG obj _ _ _) F.entry_zip_new
  (QjA l1 l2 l3 xs ys zs) ⟨hl1, hl2, hl3, ?_⟩
 have z1 : (zA s.heap l1).objs.size = s.heap.objs.size + 1 := Zam ..
 have z2 : (zB s.heap l1 l2).objs.size = s.heap.objs.size + 2 := by rw [Zam, z1]
 have z3 : (zC s.heap l1 l2 l3).objs.size = s.heap.objs.size + 3 := by rw [Zam, z2]
 have z4 : (zD s.heap l1 l2 l3).objs.size = s.heap.objs.size + 4 := by rw [Zam, z3]
 have z5 : (zE s.heap l1 l2 l3).objs.size = s.heap.objs.size + 5 := by rw [Zam, z4]
 have g6 : (zF s.heap l1 l2 l3).get? (zE s.heap l1 l2 l3).objs.size = some _ := ZA _ rfl
 have g5 : (zF s.heap l1 l2 l3).get? (zD s.heap l1 l2 l3).objs.size = some _ := Zb _ (ZA _ rfl)
 have g4 : (zF s.heap l1 l2 l3).get? (zC s.heap l1 l2 l3).objs.size = some _ := Zb _ (Zb _ (ZA _ rfl))
 have g3 : (zF s.heap l1 l2 l3).get? (zB s.heap l1 l2).objs.size = some _ := Zb _ (Zb _ (Zb _ (ZA _ rfl)))
 have g2 : (zF s.heap l1 l2 l3).get? (zA s.heap l1).objs.size = some _ := Zb _ (Zb _ (Zb _ (Zb _ (ZA _ rfl))))
 have g1 : (zF s.heap l1 l2 l3).get? s.heap.objs.size = some _ := Zb _ (Zb _ (Zb _ (Zb _ (Zb _ (ZA _ rfl)))))
 show _ /\ _
 rw [z3, z4, z5] at g6
 rw [z1, z2, z3] at g4
 rw [z4] at g5
 rw [z2] at g3
 rw [z1] at g2
 rw [z5]
 exact ⟨⟨_, g6, rfl⟩, h _ g6 g4 g5 ⟨_, g1, rfl, rfl⟩ ⟨_, g2, rfl, rfl⟩ ⟨_, g3, rfl, rfl⟩ λ c o x =>
  Zb _ (Zb _ (Zb _ (Zb _ (Zb _ (Zb _ x)))))⟩
end
open PyProof.Rows
noncomputable def Qrl (K : PySem.W.Frag) (a b c : Addr) : It :=
 ⟨λ i H => ∃ xs ys zs x y z, SqL K H a xs /\ SqL K H b ys /\ SqL K H c zs /\ xs[i]? = some x /\ ys[i]? = some y /\ zs[i]? = some z, λ i H v H' => ∃ p x y z, v = .ref p /\ H p = none /\ H' = upd H p (.tup [x, y, z]) /\ (∀ xs, SqL K H a xs -> xs[i]? = some x) /\ (∀ ys, SqL K H b ys -> ys[i]? = some y) /\ ∀ zs, SqL K H c zs -> zs[i]? = some z,
  λ i H => ∃ xs, SqL K H a xs /\ xs.length <= i⟩
theorem QpO {P : Program} {w : World} {K : PySem.W.Frag} {es : List Expr} {tk : Nat} {tpos : Pos} (l1 l2 l3 z TI TO i1 i2 i3 : Addr) (D : Six z TI TO i1 i2 i3) :
  Turn P w K (.Tuple es tk tpos) (Qrl K l1 l2 l3) [z, TI, TO, i1, i2, i3] z (λ i h => IsZip h z TI TO .none /\ Qaa h TI (.ref i1) (.ref i2) (.ref i3) /\ (∃ a b c, Qaa h TO a b c) /\ h.IsListIter i1 l1 i /\ h.IsListIter i2 l2 i /\ h.IsListIter i3 l3 i) := by
 have six : ∀ {b : Addr}, b ∈ [z, TI, TO, i1, i2, i3] -> b = z ∨ b = TI ∨ b = TO ∨ b = i1 ∨ b = i2 ∨ b = i3 := λ hb => by simpa using hb
 have free : ∀ {X : Cx} {pins σ H s} (I : Inv X pins σ H s) (hK : X.K = K) (hf : ∀ b ∈ [z, TI, TO, i1, i2, i3], H b = none) {i : Nat} (hz : IsZip s.heap z TI TO .none) (hTI : Qaa s.heap TI (.ref i1) (.ref i2) (.ref i3)) (hTO : ∃ a b c, Qaa s.heap TO a b c) (h1 : s.heap.IsListIter i1 l1 i) (h2 : s.heap.IsListIter i2 l2 i) (h3 : s.heap.IsListIter i3 l3 i) (l : Addr) (ys : List V), SqL K H l ys -> ∀ b, b ∈ [z, TI, TO, i1, i2, i3] -> l ≠ b := by
  intro X pins σ H s I hK hf i hz hTI hTO h1 h2 h3 l ys hq b hb e
  subst e
  subst hK
  rcases hq with (hq | ⟨o, hq⟩) | ⟨o, its, n, hk, hc', _, hd', _⟩
  ·rw [hf l hb] at hq; cases hq
  ·rw [hf l hb] at hq; cases hq
  ·have e1 := I.kIn l o hk
   obtain ⟨_, _, _, hTO⟩ := hTO
   obtain ⟨o1, ho1, hcc1, hd1⟩ := h1
   obtain ⟨o2, ho2, hcc2, hd2⟩ := h2
   obtain ⟨o3, ho3, hcc3, hd3⟩ := h3
   rcases six hb with rfl | rfl | rfl | rfl | rfl | rfl
   ·rw [hz] at e1; cases e1; simp at hc'
   ·rw [hTI] at e1; cases e1; simp at hc'
   ·rw [hTO] at e1; cases e1; simp at hc'
   ·rw [ho1] at e1; cases e1; rw [hc'] at hcc1; simp at hcc1
   ·rw [ho2] at e1; cases e1; rw [hc'] at hcc2; simp at hcc2
   ·rw [ho3] at e1; cases e1; rw [hc'] at hcc3; simp at hcc3
 exact {
  mem := by simp
  obj := λ i h st b hb => by
   obtain ⟨hz, hTI, ⟨p, q, r, hTO⟩, ⟨o1, ho1, hc1, hd1⟩, ⟨o2, ho2, hc2, hd2⟩, ⟨o3, ho3, hc3, hd3⟩⟩ := st
   rcases six hb with rfl | rfl | rfl | rfl | rfl | rfl
   ·exact ⟨_, hz, λ v z => by cases z⟩
   ·exact ⟨_, hTI, λ v z => by cases z⟩
   ·exact ⟨_, hTO, λ v z => by cases z⟩
   ·exact ⟨o1, ho1, λ v z => by rw [hd1] at z; cases z⟩
   ·exact ⟨o2, ho2, λ v z => by rw [hd2] at z; cases z⟩
   ·exact ⟨o3, ho3, λ v z => by rw [hd3] at z; cases z⟩
  keep := λ i h h' st k => by
   obtain ⟨hz, hTI, ⟨p, q, r, hTO⟩, h1, h2, h3⟩ := st
   exact ⟨k z (by simp) _ hz, k TI (by simp) _ hTI, ⟨p, q, r, k TO (by simp) _ hTO⟩, h1.at λ o e => k i1 (by simp) o e, h2.at λ o e => k i2 (by simp) o e, h3.at λ o e => k i3 (by simp) o e⟩
  item := by
   intro X hP hw hK hc i pins s σ H E I hf st hg
   have fr := free I hK (λ b hb => (hf b hb).1) st.1 st.2.1 st.2.2.1 st.2.2.2.1 st.2.2.2.2.1 st.2.2.2.2.2
   subst hP hw hK
   obtain ⟨hz, hTI, ⟨a0, b0, c0, hTO⟩, h1, h2, h3⟩ := st
   obtain ⟨xs, ys, zs, x, y, u, hq1, hq2, hq3, hx, hy, hu⟩ := hg
   obtain ⟨its, rv, p, hzz⟩ := I.list hq1
   obtain ⟨its2, rv2, p2, hzz2⟩ := I.list hq2
   obtain ⟨its3, rv3, p3, hzz3⟩ := I.list hq3
   obtain ⟨v1, hv1, r1⟩ := rv.get hx
   obtain ⟨v2, hv2, r2⟩ := rv2.get hy
   obtain ⟨v3, hv3, r3⟩ := rv3.get hu
   have off : ∀ l ys, SqL X.K H l ys -> Off z TO i1 i2 i3 l := λ l ys hq => ⟨fr l ys hq z (by simp), fr l ys hq TO (by simp), fr l ys hq i1 (by simp), fr l ys hq i2 (by simp), fr l ys hq i3 (by simp)⟩
   refine QmG D (off l1 xs hq1) (off l2 ys hq2) (off l3 zs hq3) hz hTI hTO h1 h2 h3 p.isList p2.isList p3.isList (x := v1) (y := v2) (u := v3) (by simpa using hv1) (by simpa using hv2) (by simpa using hv3) λ g3 z3 TO3 a3 b3 c3 T3 sz3 k3 => ?_
   refine ⟨.ref s.heap.objs.size, rfl, wpAny_letOwnedTupleGo_zip z3 λ g4 z4 hs4 => ?_⟩
   replace hs4 : Heap.SameBut z g3 g4 := hs4
   have lt : ∀ {c o}, s.heap.get? c = some o -> c < s.heap.objs.size := λ e => Zu e
   have hzlt := lt hz
   have all : ∀ b ∈ [z, TI, TO, i1, i2, i3], b < s.heap.objs.size := λ b hb => by
    obtain ⟨o1, ho1, _⟩ := h1
    obtain ⟨o2, ho2, _⟩ := h2
    obtain ⟨o3, ho3, _⟩ := h3
    rcases six hb with rfl | rfl | rfl | rfl | rfl | rfl
    ·exact lt hz
    ·exact lt hTI
    ·exact lt hTO
    ·exact lt ho1
    ·exact lt ho2
    ·exact lt ho3
   have kk : ∀ b o, b ∉ [z, TI, TO, i1, i2, i3] -> s.heap.get? b = some o -> g4.get? b = some o := λ b o hb q => by
    have n1 : b ≠ z := λ e => hb (by simp [e])
    exact hs4.extBut b o n1 (k3 b o n1 (λ e => hb (by simp [e])) (λ e => hb (by simp [e])) (λ e => hb (by simp [e])) (λ e => hb (by simp [e])) q)
   have TI4 : Qaa g4 TI (.ref i1) (.ref i2) (.ref i3) := hs4.extBut _ _ D.TIz (k3 _ _ D.TIz D.TITO D.TIi1 D.TIi2 D.TIi3 hTI)
   have TO4 : Qaa g4 TO v1 v2 v3 := hs4.extBut _ _ D.TOz TO3
   have a4 : g4.IsListIter i1 l1 (i + 1) := a3.extBut hs4.extBut D.i1z
   have b4 : g4.IsListIter i2 l2 (i + 1) := b3.extBut hs4.extBut D.i2z
   have c4 : g4.IsListIter i3 l3 (i + 1) := c3.extBut hs4.extBut D.i3z
   have T4 : IsTup g4 s.heap.objs.size [v1, v2, v3].toArray := ⟨_, (hs4.2 _ (Zbl hzlt)).trans T3, rfl, _, rfl⟩
   refine ⟨.ref s.heap.objs.size, upd H s.heap.objs.size (.tup [x, y, u]), I.Qn2 (t' := s.toks) hf kk (λ b hb => ?_) (Zm _) ⟨by show 3 <= sizeLine; decide, _, .cons r1 (.cons r2 (.cons r3 .nil)), T4⟩, rfl,
    ⟨_, x, y, u, rfl, I.hok.fresh (Zm _), rfl, λ ws hy' => by rw [I.Qc2 hy' hq1]; exact hx, λ ws hy' => by rw [I.Qc2 hy' hq2]; exact hy, λ ws hy' => by rw [I.Qc2 hy' hq3]; exact hu⟩, ⟨z4, TI4, ⟨_, _, _, TO4⟩, a4, b4, c4⟩, λ b hb => ?_⟩
   ·obtain ⟨o1, ho1, _⟩ := a4
    obtain ⟨o2, ho2, _⟩ := b4
    obtain ⟨o3, ho3, _⟩ := c4
    rcases six hb with rfl | rfl | rfl | rfl | rfl | rfl
    ·exact ⟨_, z4⟩
    ·exact ⟨_, TI4⟩
    ·exact ⟨_, TO4⟩
    ·exact ⟨_, ho1⟩
    ·exact ⟨_, ho2⟩
    ·exact ⟨_, ho3⟩
   ·rw [QR (ZW (all b hb))]; exact (hf b hb).1
  done := by
   intro X hP hw hK hc i pins s σ H E I hf st hg
   have fr := free I hK (λ b hb => (hf b hb).1) st.1 st.2.1 st.2.2.1 st.2.2.2.1 st.2.2.2.2.1 st.2.2.2.2.2
   subst hP hw hK
   obtain ⟨hz, hTI, ⟨a0, b0, c0, hTO⟩, h1, h2, h3⟩ := st
   obtain ⟨xs, hq1, hx⟩ := hg
   obtain ⟨its, rv, p, hzz⟩ := I.list hq1
   have hl := rv.length
   refine Qi0 (I.ok.hd hc) D (fr l1 xs hq1 z (by simp)) hz hTI h1 p.isList (by simp; omega) λ g3 k3 => ⟨rfl, ?_⟩
   exact I.turns (t' := s.toks) hf λ b o hb q => k3 b o (λ e => hb (by simp [e])) (λ e => hb (by simp [e])) q
  self := λ _ _ _ _ _ st h => wpAny_pyIter_zip st.1 h }
theorem vals3 {x y z : V} {us : List Value} (r : Qy [x, y, z] us) : ∃ u v w', us = [u, v, w'] /\ RelV x u /\ RelV y v /\ RelV z w' := by
 cases r with
 | cons r1 r2 =>
  obtain ⟨v, w', rfl, h1, h2⟩ := vals2 r2
  exact ⟨_, _, _, rfl, r1, h1, h2⟩
section
variable {X : Cx}
noncomputable def Qw7 (K : PySem.W.Frag) (ta : TA) : TI := λ σ H R => ta σ H λ vs H1 => ∃ a b c, vs = [.ref a, .ref b, .ref c] /\ (∃ xs, SqL K H1 a xs) /\ (∃ ys, SqL K H1 b ys) /\ (∃ zs, SqL K H1 c zs) /\ R (Qrl K a b c) H1
theorem Qtr {a b c : Expr} {ta : TA} {p pos : Pos} {es : List Expr} {tk : Nat} {tpos : Pos} (hg : Gl X "zip") (hm : X.mg "zip" = none) (ha : PA X [a, b, c] ta) (hs : starEach [a, b, c] X.env = (false, eval a X.env) :: starEach [b, c] X.env) (hs2 : (backTo pos (starEach [b, c] X.env)).any (·.1) = false) :
  PI X (.Tuple es tk tpos) (.Call (.Name "zip" p) [a, b, c] [] pos) (Qw7 X.K ta) := by
 intro pins s σ H R I h
 refine Call_ (Qcu I hg hm PyProof.Rows.boot_zip (ZP (thn (ha pos pins s σ H _ I h) λ us s1 ⟨vs, H1, I1, r1, q1⟩ => ?_) hs hs2))
 obtain ⟨l, l2, l3, e, ⟨xs, hq⟩, ⟨ys, hq2⟩, ⟨zs, hq3⟩, q⟩ := q1
 subst e
 obtain ⟨u, u2, u3, rfl, ru, ru2, ru3⟩ := vals3 r1
 cases ru
 cases ru2
 cases ru3
 obtain ⟨its, rv, pl, hz⟩ := I1.list hq
 obtain ⟨its2, rv2, pl2, hz2⟩ := I1.list hq2
 obtain ⟨its3, rv3, pl3, hz3⟩ := I1.list hq3
 refine QoL pl.isList pl2.isList pl3.isList λ h2 hz hTI hTO h1 h2' h3' hk2 => ?_
 have I2 : Inv X pins σ H1 { s1 with heap := h2 } := I1.kept (t' := s1.toks) hk2
 refine wpAny_pyIter_zip hz ⟨_, [s1.heap.objs.size + 5, s1.heap.objs.size + 3, s1.heap.objs.size + 4, s1.heap.objs.size, s1.heap.objs.size + 1, s1.heap.objs.size + 2], _, _, H1, rfl, I2, QpO l l2 l3 _ _ _ _ _ _ ⟨?_, ?_, ?_, ?_, ?_, ?_, ?_, ?_, ?_, ?_, ?_, ?_, ?_, ?_, ?_⟩, ⟨hz, hTI, ⟨_, _, _, hTO⟩, h1, h2', h3'⟩, λ b hb => ?_, q⟩
 iterate 15 (exact (by intro e; first | (have e' : (s1.heap.objs.size : Nat) + _ = _ := e; omega) | (have e' : (s1.heap.objs.size : Nat) = _ := e; omega)))
 have hle : s1.heap.objs.size <= b := by
  simp only [Zr, List.not_mem_nil, or_false] at hb
  rcases hb with rfl | rfl | rfl | rfl | rfl | rfl <;> first | exact Zm _ | exact Nat.le_add_right _ _
 exact I1.Qie hle (I1.hok.fresh hle)
end
end L2
namespace HS
open PySem PySem.Spec PyProof.Rows L2
inductive D where
 | non | bl (b : Bool) | int (i : Int) | str (x : Str) | tup (xs : List D) | lst (xs : List D)
mutual
noncomputable def D.flat : D -> Bool
 | .lst _ => false
 | .tup xs => QK xs
 | .non => true
 | .bl _ => true
 | .int _ => true
 | .str _ => true
noncomputable def QK : List D -> Bool
 | [] => true
 | d :: ds => d.flat && QK ds
end
mutual
noncomputable def D.nl : D -> Nat
 | .lst xs => nls xs + 1
 | .tup xs => nls xs
 | .non => 0
 | .bl _ => 0
 | .int _ => 0
 | .str _ => 0
noncomputable def nls : List D -> Nat
 | [] => 0
 | d :: ds => d.nl + nls ds
end
mutual
theorem Qb4 : ∀ (d : D), d.flat = true -> d.nl = 0
 | .non, _ => rfl
 | .bl _, _ => rfl
 | .int _, _ => rfl
 | .str _, _ => rfl
 | .tup xs, h => by simp only [D.nl]; simp only [D.flat] at h; exact QeC xs h
 | .lst xs, h => by simp [D.flat] at h
theorem QeC : ∀ (ds : List D), QK ds = true -> nls ds = 0
 | [], _ => rfl
 | d :: ds, h => by simp only [QK, Zg] at h; simp only [nls, Qb4 d h.1, QeC ds h.2]
end
def Fix (K : PySem.W.Frag) (H : Hp) (a : Addr) (vs : List V) : Prop :=
 (∃ o, H a = some (.frz o (.lst vs))) ∨
  ∃ (its : List Value) (n : Nat), K.lookup a = some { cls := .type "list", data := .seq its.toArray n } /\ vs.length <= sizeLine /\ Qy vs its
mutual
noncomputable def Rp (K : PySem.W.Frag) (H : Hp) : D -> V -> List Addr -> Prop
 | .non, v, F => v = .non /\ F = []
 | .bl b, v, F => v = .bl b /\ F = []
 | .int i, v, F => v = .int i /\ F = []
 | .str x, v, F => v = .str x /\ F = []
 | .tup ds, v, F => ∃ a vs, v = .ref a /\ SqT K H a vs /\ Rps K H ds vs F
 | .lst ds, v, F => ds.length <= sizeLine /\ ∃ a vs, v = .ref a /\ ((∃ G, F = a :: G /\ H a = some (.lst vs) /\ Rps K H ds vs G) ∨ (Fix K H a vs /\ Rps K H ds vs F))
noncomputable def Rps (K : PySem.W.Frag) (H : Hp) : List D -> List V -> List Addr -> Prop
 | [], vs, F => vs = [] /\ F = []
 | d :: ds, vs, F => ∃ v ws F1 F2, vs = v :: ws /\ F = F1 ++ F2 /\ Rp K H d v F1 /\ Rps K H ds ws F2
end
theorem Qlg {K : PySem.W.Frag} {H H' : Hp} {a : Addr} {vs : List V} (s : QL H H') (h : SqT K H a vs) : SqT K H' a vs := by
 rcases h with (h | ⟨o, h⟩) | h
 ·exact .inl (.inl (s _ _ h))
 ·exact .inl (.inr ⟨o, s _ _ h⟩)
 ·exact .inr h
theorem Qmp {K : PySem.W.Frag} {H H' : Hp} {a : Addr} {vs : List V} (s : QL H H') (h : Fix K H a vs) : Fix K H' a vs := by
 rcases h with ⟨o, h⟩ | h
 ·exact .inl ⟨o, s _ _ h⟩
 ·exact .inr h
theorem QnH {K : PySem.W.Frag} {H : Hp} {a p : Addr} {vs zs ys : List V} (hp : H p = some (.lst zs)) (h : SqT K H a vs) : SqT K (upd H p (.lst ys)) a vs := by
 rcases h with (h | ⟨o, h⟩) | h
 ·exact .inl (.inl (by rw [QR (Qoa h hp (by intro z; cases z))]; exact h))
 ·exact .inl (.inr ⟨o, by rw [QR (Qoa h hp (by intro z; cases z))]; exact h⟩)
 ·exact .inr h
theorem QuA {K : PySem.W.Frag} {H : Hp} {a p : Addr} {vs zs ys : List V} (hp : H p = some (.lst zs)) (h : Fix K H a vs) : Fix K (upd H p (.lst ys)) a vs := by
 rcases h with ⟨o, h⟩ | h
 ·exact .inl ⟨o, by rw [QR (Qoa h hp (by intro z; cases z))]; exact h⟩
 ·exact .inr h
section
variable {K : PySem.W.Frag} {H H' : Hp}
mutual
theorem Rp.same (s : QL H H') : ∀ {d : D} {v : V} {F : List Addr}, Rp K H d v F -> Rp K H' d v F
 | .non, _, _, h => h
 | .bl _, _, _, h => h
 | .int _, _, _, h => h
 | .str _, _, _, h => h
 | .tup ds, _, _, h => by
  simp only [Rp] at h ⊢
  obtain ⟨a, vs, e, q, r⟩ := h
  exact ⟨a, vs, e, Qlg s q, Rps.same s r⟩
 | .lst ds, _, _, h => by
  simp only [Rp] at h ⊢
  obtain ⟨hz, a, vs, e, ⟨G, eF, q, r⟩ | ⟨q, r⟩⟩ := h
  ·exact ⟨hz, a, vs, e, .inl ⟨G, eF, s _ _ q, Rps.same s r⟩⟩
  ·exact ⟨hz, a, vs, e, .inr ⟨Qmp s q, Rps.same s r⟩⟩
theorem Rps.same (s : QL H H') : ∀ {ds : List D} {vs : List V} {F : List Addr}, Rps K H ds vs F -> Rps K H' ds vs F
 | [], _, _, h => h
 | d :: ds, _, _, h => by
  simp only [Rps] at h ⊢
  obtain ⟨v, ws, F1, F2, e, eF, r, q⟩ := h
  exact ⟨v, ws, F1, F2, e, eF, Rp.same s r, Rps.same s q⟩
end
mutual
theorem Rp.upd {p : Addr} {zs ys : List V} (hp : H p = some (.lst zs)) : ∀ {d : D} {v : V} {F : List Addr}, Rp K H d v F -> p ∉ F -> Rp K (upd H p (.lst ys)) d v F
 | .non, _, _, h, _ => h
 | .bl _, _, _, h, _ => h
 | .int _, _, _, h, _ => h
 | .str _, _, _, h, _ => h
 | .tup ds, _, _, h, hn => by
  simp only [Rp] at h ⊢
  obtain ⟨a, vs, e, q, r⟩ := h
  exact ⟨a, vs, e, QnH hp q, Rps.upd hp r hn⟩
 | .lst ds, _, _, h, hn => by
  simp only [Rp] at h ⊢
  obtain ⟨hz, a, vs, e, ⟨G, eF, q, r⟩ | ⟨q, r⟩⟩ := h
  ·subst eF
   have h1 : a ≠ p := λ z => hn (by rw [z]; exact Zk)
   exact ⟨hz, a, vs, e, .inl ⟨G, rfl, by rw [QR h1]; exact q, Rps.upd hp r λ z => hn (Zd _ z)⟩⟩
  ·exact ⟨hz, a, vs, e, .inr ⟨QuA hp q, Rps.upd hp r hn⟩⟩
theorem Rps.upd {p : Addr} {zs ys : List V} (hp : H p = some (.lst zs)) : ∀ {ds : List D} {vs : List V} {F : List Addr}, Rps K H ds vs F -> p ∉ F -> Rps K (upd H p (.lst ys)) ds vs F
 | [], _, _, h, _ => h
 | d :: ds, _, _, h, hn => by
  simp only [Rps] at h ⊢
  obtain ⟨v, ws, F1, F2, e, eF, r, q⟩ := h
  subst eF
  exact ⟨v, ws, F1, F2, e, rfl, Rp.upd hp r λ z => hn (Zl _ z), Rps.upd hp q λ z => hn (Ze _ z)⟩
end
mutual
theorem Rp.mem : ∀ {d : D} {v : V} {F : List Addr}, Rp K H d v F -> ∀ a ∈ F, ∃ vs, H a = some (.lst vs)
 | .non, _, _, h, a, ha => by simp only [Rp] at h; rw [h.2] at ha; simp at ha
 | .bl _, _, _, h, a, ha => by simp only [Rp] at h; rw [h.2] at ha; simp at ha
 | .int _, _, _, h, a, ha => by simp only [Rp] at h; rw [h.2] at ha; simp at ha
 | .str _, _, _, h, a, ha => by simp only [Rp] at h; rw [h.2] at ha; simp at ha
 | .tup ds, _, _, h, a, ha => by
  simp only [Rp] at h
  obtain ⟨_, vs, e, q, r⟩ := h
  exact Rps.mem r a ha
 | .lst ds, _, _, h, a, ha => by
  simp only [Rp] at h
  obtain ⟨_, b, vs, e, ⟨G, eF, q, r⟩ | ⟨q, r⟩⟩ := h
  ·subst eF
   rcases Zr.mp ha with z | z
   ·exact ⟨vs, by rw [z]; exact q⟩
   ·exact Rps.mem r a z
  ·exact Rps.mem r a ha
theorem Rps.mem : ∀ {ds : List D} {vs : List V} {F : List Addr}, Rps K H ds vs F -> ∀ a ∈ F, ∃ vs, H a = some (.lst vs)
 | [], _, _, h, a, ha => by simp only [Rps] at h; rw [h.2] at ha; simp at ha
 | d :: ds, _, _, h, a, ha => by
  simp only [Rps] at h
  obtain ⟨v, ws, F1, F2, e, eF, r, q⟩ := h
  subst eF
  rcases ZE.mp ha with z | z
  ·exact Rp.mem r a z
  ·exact Rps.mem q a z
end
mutual
theorem Rp.QaY : ∀ {d : D} {v : V} {F : List Addr}, Rp K H d v F -> d.flat = true -> F = []
 | .non, _, _, h, _ => by simp only [Rp] at h; exact h.2
 | .bl _, _, _, h, _ => by simp only [Rp] at h; exact h.2
 | .int _, _, _, h, _ => by simp only [Rp] at h; exact h.2
 | .str _, _, _, h, _ => by simp only [Rp] at h; exact h.2
 | .tup ds, _, _, h, hf => by
  simp only [Rp] at h
  simp only [D.flat] at hf
  obtain ⟨_, vs, e, q, r⟩ := h
  exact Rps.QaY r hf
 | .lst ds, _, _, h, hf => by simp [D.flat] at hf
theorem Rps.QaY : ∀ {ds : List D} {vs : List V} {F : List Addr}, Rps K H ds vs F -> QK ds = true -> F = []
 | [], _, _, h, _ => by simp only [Rps] at h; exact h.2
 | d :: ds, _, _, h, hf => by
  simp only [Rps] at h
  simp only [QK, Zg] at hf
  obtain ⟨v, ws, F1, F2, e, eF, r, q⟩ := h
  rw [eF, Rp.QaY r hf.1, Rps.QaY q hf.2]; rfl
end
mutual
theorem Rp.QaM : ∀ {d : D} {v : V} {F : List Addr}, Rp K H d v F -> F.length <= d.nl
 | .non, _, _, h => by simp only [Rp] at h; rw [h.2]; exact Zag _
 | .bl _, _, _, h => by simp only [Rp] at h; rw [h.2]; exact Zag _
 | .int _, _, _, h => by simp only [Rp] at h; rw [h.2]; exact Zag _
 | .str _, _, _, h => by simp only [Rp] at h; rw [h.2]; exact Zag _
 | .tup ds, _, _, h => by
  simp only [Rp] at h
  obtain ⟨_, vs, e, q, r⟩ := h
  simp only [D.nl]
  exact Rps.QaM r
 | .lst ds, _, _, h => by
  simp only [Rp] at h
  simp only [D.nl]
  obtain ⟨_, b, vs, e, ⟨G, eF, q, r⟩ | ⟨q, r⟩⟩ := h
  ·rw [eF, ZI]; have := Rps.QaM r; omega
  ·have := Rps.QaM r; omega
theorem Rps.QaM : ∀ {ds : List D} {vs : List V} {F : List Addr}, Rps K H ds vs F -> F.length <= nls ds
 | [], _, _, h => by simp only [Rps] at h; rw [h.2]; exact Zag _
 | d :: ds, _, _, h => by
  simp only [Rps] at h
  obtain ⟨v, ws, F1, F2, e, eF, r, q⟩ := h
  simp only [nls]
  rw [eF, Zw]
  have := Rp.QaM r
  have := Rps.QaM q
  omega
end
theorem Rps.length : ∀ {ds : List D} {vs : List V} {F : List Addr}, Rps K H ds vs F -> ds.length = vs.length
 | [], _, _, h => by simp only [Rps] at h; rw [h.1]; rfl
 | d :: ds, _, _, h => by
  simp only [Rps] at h
  obtain ⟨v, ws, F1, F2, e, eF, r, q⟩ := h
  rw [e, ZI, ZI, Rps.length q]
theorem Rps.append : ∀ {ds es : List D} {vs ws : List V} {F G : List Addr}, Rps K H ds vs F -> Rps K H es ws G -> Rps K H (ds ++ es) (vs ++ ws) (F ++ G)
 | [], _, _, _, _, _, h, g => by simp only [Rps] at h; rw [h.1, h.2]; exact g
 | d :: ds, _, _, _, _, _, h, g => by
  simp only [Rps, Zbq] at h ⊢
  obtain ⟨v, ws, F1, F2, e, eF, r, q⟩ := h
  subst e eF
  exact ⟨v, _, F1, _, rfl, by rw [ZaU], r, Rps.append q g⟩
theorem Rps.get : ∀ {ds : List D} {vs : List V} {F : List Addr} {i : Nat} {d : D}, Rps K H ds vs F -> ds[i]? = some d -> ∃ v F1 G F2, vs[i]? = some v /\ F = F1 ++ (G ++ F2) /\ Rp K H d v G /\ (F.length = nls ds -> G.length = d.nl)
 | [], _, _, _, _, _, e => by simp at e
 | d :: ds, _, _, 0, _, h, e => by
  simp only [Rps] at h
  obtain ⟨v, ws, F1, F2, e1, eF, r, q⟩ := h
  simp at e; subst e e1 eF
  refine ⟨v, [], F1, F2, by simp, rfl, r, λ hl => ?_⟩
  simp only [nls, Zw] at hl
  have := Rp.QaM r
  have := Rps.QaM q
  omega
 | d :: ds, _, _, i + 1, _, h, e => by
  simp only [Rps] at h
  obtain ⟨v, ws, F1, F2, e1, eF, r, q⟩ := h
  obtain ⟨v', G1, G, G2, h1, h2, h3, h4⟩ := Rps.get q (i := i) (by simpa using e)
  have l1 := Rp.QaM r
  have l2 := Rps.QaM q
  subst e1 eF
  refine ⟨v', F1 ++ G1, G, G2, by simpa using h1, by rw [h2, ZaU], h3, λ hl => h4 ?_⟩
  simp only [nls, Zw] at hl
  omega
theorem Fix.sq {K : PySem.W.Frag} {H : Hp} {a : Addr} {vs : List V} (h : Fix K H a vs) : SqL K H a vs := by
 rcases h with ⟨o, h⟩ | ⟨its, n, h, hz, r⟩
 ·exact .inl (.inr ⟨o, h⟩)
 ·exact .inr ⟨_, its.toArray, n, h, rfl, rfl, rfl, by rw [Zp, ← r.length]; exact hz, by simpa using r⟩
theorem _root_.L2.Inv.Qk6 {X : Cx} {pins : List (Addr × Obj)} {σ : L2.St} {H : Hp} {s : Shared} {a : Addr} {vs : List V} (I : Inv X pins σ H s) (h : H a = some (.lst vs) ∨ Fix X.K H a vs) :
  vs.length <= sizeLine /\ ∃ (its : List Value) (n : Nat), Qy vs its /\ vs.length = its.length /\ s.heap.get? a = some { cls := .type "list", data := .seq its.toArray n } := by
 rcases h with h | ⟨o, h⟩ | ⟨its, n, h, hz, r⟩
 ·exact I.Qje h
 ·obtain ⟨e, hz, its, n, r, e2⟩ := I.hok a _ h
  exact ⟨hz, its, n, r, r.length, e2⟩
 ·exact ⟨hz, its, n, r, r.length, I.kIn _ _ h⟩
theorem Rp.lst_inv {K : PySem.W.Frag} {H : Hp} {ds : List D} {v : V} {F : List Addr} (h : Rp K H (.lst ds) v F) :
  ∃ a vs G, v = .ref a /\ (H a = some (.lst vs) ∨ Fix K H a vs) /\ Rps K H ds vs G /\ ds.length <= sizeLine /\ (F = a :: G ∨ F = G) := by
 simp only [Rp] at h
 obtain ⟨hz, a, vs, e, ⟨G, eF, q, r⟩ | ⟨q, r⟩⟩ := h
 ·exact ⟨a, vs, G, e, .inl q, r, hz, .inl eF⟩
 ·exact ⟨a, vs, F, e, .inr q, r, hz, .inr rfl⟩
theorem Q3 {K : PySem.W.Frag} {H : Hp} {a : Addr} {vs : List V} (h : H a = some (.lst vs) ∨ Fix K H a vs) : SqL K H a vs := h.elim (λ h => SqL.of h) Fix.sq
theorem Rp.QaP {K : PySem.W.Frag} {H : Hp} {ds : List D} {v : V} {F : List Addr} (h : Rp K H (.tup ds) v F) : ∃ a vs, v = .ref a /\ SqT K H a vs /\ Rps K H ds vs F := by
 simp only [Rp] at h
 exact h
theorem Rp.QeH {K : PySem.W.Frag} {H : Hp} {ds : List D} {a : Addr} {vs : List V} {G : List Addr} (h : H a = some (.lst vs)) (r : Rps K H ds vs G) (hz : ds.length <= sizeLine) : Rp K H (.lst ds) (.ref a) (a :: G) := by
 simp only [Rp]
 exact ⟨hz, a, vs, rfl, .inl ⟨G, rfl, h, r⟩⟩
theorem Rp.Qfl {K : PySem.W.Frag} {H : Hp} {ds : List D} {a : Addr} {vs : List V} {G : List Addr} (h : H a = some (.tup vs)) (r : Rps K H ds vs G) : Rp K H (.tup ds) (.ref a) G := by
 simp only [Rp]
 exact ⟨a, vs, rfl, SqT.of h, r⟩
theorem Rp.int_inv {K : PySem.W.Frag} {H : Hp} {i : Int} {v : V} {F : List Addr} (h : Rp K H (.int i) v F) : v = .int i := by simp only [Rp] at h; exact h.1
theorem Rp.Qgu {K : PySem.W.Frag} {H : Hp} {i : Bool} {v : V} {F : List Addr} (h : Rp K H (.bl i) v F) : v = .bl i := by simp only [Rp] at h; exact h.1
theorem Rp.Qjh {K : PySem.W.Frag} {H : Hp} {v : V} {F : List Addr} (h : Rp K H .non v F) : v = .non := by simp only [Rp] at h; exact h.1
theorem Rp.str_inv {K : PySem.W.Frag} {H : Hp} {i : Str} {v : V} {F : List Addr} (h : Rp K H (.str i) v F) : v = .str i := by simp only [Rp] at h; exact h.1
theorem Rp.int_mk {K : PySem.W.Frag} {H : Hp} {i : Int} : Rp K H (.int i) (.int i) [] := by simp [Rp]
theorem Rp.Qdd {K : PySem.W.Frag} {H : Hp} {i : Bool} : Rp K H (.bl i) (.bl i) [] := by simp [Rp]
theorem Rp.QiF {K : PySem.W.Frag} {H : Hp} : Rp K H .non .non [] := by simp [Rp]
theorem Rp.str_mk {K : PySem.W.Frag} {H : Hp} {i : Str} : Rp K H (.str i) (.str i) [] := by simp [Rp]
theorem Qa4 {H : Hp} {p : Addr} {o : HO} (h : H p = none) : QL H (L2.upd H p o) := λ b u e => by rw [QR (Qbt e h)]; exact e
end
end HS
namespace HS
open PySem PySem.Spec L2
noncomputable abbrev En := List (Option (D × Bool))
structure R where
 d : D
 fr : Bool
 M : List Nat
structure RA where
 ds : List D
 fr : Bool
 M : List Nat
noncomputable abbrev DE := En -> Option R
noncomputable abbrev DA := En -> Option RA
noncomputable abbrev DT := En -> Option Bool
structure Rel (K : PySem.W.Frag) (H0 : Hp) (A0 : List Addr) (hs : List (V × D × List Addr)) (ρ : En) (F : Nat -> List Addr) (σ : St) (H : Hp) : Prop where
 len : ρ.length = σ.length
 val : ∀ (i : Nat) d b, ρ[i]? = some (some (d, b)) -> ∃ v, σ[i]? = some (some v) /\ Rp K H d v (F i)
 own : ∀ (i : Nat) d, ρ[i]? = some (some (d, true)) -> (F i).length = d.nl /\ (F i).Nodup /\ (∀ a ∈ F i, H0 a = none) /\ (∀ (j : Nat) d' b', j ≠ i -> ρ[j]? = some (some (d', b')) -> ∀ a ∈ F i, a ∉ F j) /\ ∀ t ∈ hs, ∀ a ∈ F i, a ∉ t.2.2
 src : ∀ (i : Nat) d b, ρ[i]? = some (some (d, b)) -> ∀ a ∈ F i, H0 a = none ∨ a ∈ A0
 held : ∀ t ∈ hs, Rp K H t.2.1 t.1 t.2.2 /\ ∀ a ∈ t.2.2, H0 a = none ∨ a ∈ A0
 same : QL H0 H
def Src (ρ : En) (F : Nat -> List Addr) (H : Hp) (M : List Nat) (G : List Addr) : Prop :=
 ∀ a ∈ G, H a = none ∨ ∃ (i : Nat) (d : D) (b : Bool), ρ[i]? = some (some (d, b)) /\ a ∈ F i /\ (b = true -> i ∈ M)
noncomputable def nw (H : Hp) (a : Addr) : Nat := match H a with | none => 1 | some _ => 0
def Cnt (F : Nat -> List Addr) (H : Hp) (M : List Nat) (G : List Addr) : Prop :=
 ∀ a, G.count a <= nw H a + ((M.map F).flatten).count a
def Qa5 (ρ : En) (M : List Nat) : Prop := ∀ i ∈ M, ∃ d, ρ[i]? = some (some (d, true))
structure Q6 (K : PySem.W.Frag) (ρ : En) (F : Nat -> List Addr) (H H' : Hp) (r : R) (v : V) (G : List Addr) : Prop where
 same : QL H H'
 rp : Rp K H' r.d v G
 src : Src ρ F H r.M G
 cnt : r.fr = true -> Cnt F H r.M G /\ G.length = r.d.nl
 own : Qa5 ρ r.M
structure Qxu (K : PySem.W.Frag) (ρ : En) (F : Nat -> List Addr) (H H' : Hp) (r : RA) (vs : List V) (G : List Addr) : Prop where
 same : QL H H'
 rp : Rps K H' r.ds vs G
 src : Src ρ F H r.M G
 cnt : r.fr = true -> Cnt F H r.M G /\ G.length = nls r.ds
 own : Qa5 ρ r.M
noncomputable def tV (K : PySem.W.Frag) (H0 : Hp) (A0 : List Addr) (f : DE) : TE := λ σ H Q => ∃ ρ hs F r, Rel K H0 A0 hs ρ F σ H /\ f ρ = some r /\ ∀ v H' G, Q6 K ρ F H H' r v G -> Q v H'
noncomputable def tVA (K : PySem.W.Frag) (H0 : Hp) (A0 : List Addr) (f : DA) : TA := λ σ H Q => ∃ ρ hs F r, Rel K H0 A0 hs ρ F σ H /\ f ρ = some r /\ ∀ v H' G, Qxu K ρ F H H' r v G -> Q v H'
noncomputable def tVT (K : PySem.W.Frag) (H0 : Hp) (A0 : List Addr) (f : DT) : TT := λ σ H Q => ∃ ρ hs F b, Rel K H0 A0 hs ρ F σ H /\ f ρ = some b /\ ∀ H', QL H H' -> Q b H'
def SE (X : Cx) (e : Expr) (f : DE) : Prop := ∀ H0 A0, PE X e (tV X.K H0 A0 f)
def SA (X : Cx) (es : List Expr) (f : DA) : Prop := ∀ H0 A0, PA X es (tVA X.K H0 A0 f)
def ST (X : Cx) (e : Expr) (f : DT) : Prop := ∀ H0 A0, PT X e (tVT X.K H0 A0 f)
theorem _root_.L2.PE.mono {X : Cx} {e : Expr} {t t' : TE} (h : PE X e t) (m : ∀ σ H Q, t' σ H Q -> t σ H Q) : PE X e t' := λ pins s σ H Q I q => h pins s σ H Q I (m σ H Q q)
theorem _root_.L2.PT.mono {X : Cx} {e : Expr} {t t' : TT} (h : PT X e t) (m : ∀ σ H Q, t' σ H Q -> t σ H Q) : PT X e t' := λ pins s σ H Q I q => h pins s σ H Q I (m σ H Q q)
theorem _root_.L2.PA.mono {X : Cx} {e : List Expr} {t t' : TA} (h : PA X e t) (m : ∀ σ H Q, t' σ H Q -> t σ H Q) : PA X e t' := λ pos pins s σ H Q I q => h pos pins s σ H Q I (m σ H Q q)
section
variable {K : PySem.W.Frag} {H0 H H' : Hp} {A0 : List Addr} {hs : List (V × D × List Addr)} {ρ : En} {F : Nat -> List Addr} {σ : St}
theorem Rel.ext (r : Rel K H0 A0 hs ρ F σ H) (s : QL H H') : Rel K H0 A0 hs ρ F σ H' where
 len := r.len
 val := λ i d b e => let ⟨v, h1, h2⟩ := r.val i d b e; ⟨v, h1, h2.same s⟩
 own := r.own
 src := r.src
 held := λ t ht => ⟨(r.held t ht).1.same s, (r.held t ht).2⟩
 same := r.same.trans s
theorem Rel.mem (r : Rel K H0 A0 hs ρ F σ H) {i : Nat} {d : D} {b : Bool} (e : ρ[i]? = some (some (d, b))) {a : Addr} (h : a ∈ F i) : ∃ vs, H a = some (.lst vs) :=
 let ⟨_, _, h2⟩ := r.val i d b e; h2.mem a h
theorem QdA {a : Addr} {o : HO} (h : H a = some o) : nw H a = 0 := by simp [nw, h]
theorem QaO {a : Addr} (h : H a = none) : nw H a = 1 := by simp [nw, h]
theorem Rel.fl0 (r : Rel K H0 A0 hs ρ F σ H) {M : List Nat} (ow : Qa5 ρ M) {a : Addr} (h : H a = none) : ((M.map F).flatten).count a = 0 := by
 rw [ZV]
 intro hm
 obtain ⟨l, hl, ha⟩ := Zbr.mp hm
 obtain ⟨i, hi, rfl⟩ := ZN.mp hl
 obtain ⟨d, e⟩ := ow i hi
 obtain ⟨vs, q⟩ := r.mem e ha
 rw [h] at q; cases q
theorem Cnt.append (r : Rel K H0 A0 hs ρ F σ H) {H1 : Hp} {M1 M2 : List Nat} {G1 G2 : List Addr} (c1 : Cnt F H M1 G1) (c2 : Cnt F H1 M2 G2) (s : QL H H1) (m1 : ∀ a ∈ G1, ∃ vs, H1 a = some (.lst vs)) : Cnt F H (M1 ++ M2) (G1 ++ G2) := λ a => by
 rw [Zal, ZT, List.flatten_append, Zal]
 have h1 := c1 a
 have h2 := c2 a
 cases q : H1 a with
 | some o => rw [QdA q] at h2; omega
 | none =>
  rw [QaO q] at h2
  have h3 : H a = none := s.free q
  rw [QaO h3] at h1 ⊢
  have h4 : G1.count a = 0 := ZV.mpr λ hm => by obtain ⟨vs, z⟩ := m1 a hm; rw [q] at z; cases z
  omega
theorem Src.append {H1 : Hp} {M1 M2 : List Nat} {G1 G2 : List Addr} (c1 : Src ρ F H M1 G1) (c2 : Src ρ F H1 M2 G2) (s : QL H H1) : Src ρ F H (M1 ++ M2) (G1 ++ G2) := λ a ha => by
 rcases ZE.mp ha with h | h
 ·rcases c1 a h with z | ⟨i, d, b, e, m, w⟩
  ·exact .inl z
  ·exact .inr ⟨i, d, b, e, m, λ hb => Zl _ (w hb)⟩
 ·rcases c2 a h with z | ⟨i, d, b, e, m, w⟩
  ·exact .inl (s.free z)
  ·exact .inr ⟨i, d, b, e, m, λ hb => Ze _ (w hb)⟩
theorem Qa5.append {M1 M2 : List Nat} (h1 : Qa5 ρ M1) (h2 : Qa5 ρ M2) : Qa5 ρ (M1 ++ M2) := λ i hi => (ZE.mp hi).elim (h1 i) (h2 i)
theorem Qa5.nil : Qa5 ρ [] := λ i hi => by simp at hi
theorem Src.nil {M : List Nat} : Src ρ F H M [] := λ a ha => by simp at ha
theorem Cnt.nil {M : List Nat} : Cnt F H M [] := λ a => by simp
theorem Q6.flat {d : D} {v : V} (s : QL H H') (r : Rp K H' d v []) (hf : d.flat = true := by rfl) : Q6 K ρ F H H' ⟨d, true, []⟩ v [] := ⟨s, r, Src.nil, λ _ => ⟨Cnt.nil, (Qb4 d hf).symm⟩, Qa5.nil⟩
theorem Q6.sub {r : R} {v u : V} {d : D} {G G' : List Addr} {H1 : Hp} (p : Q6 K ρ F H H1 r v G) (rp : Rp K H1 d u G') (hs : ∀ a, G'.count a <= G.count a) (hn : G.length = r.d.nl -> G'.length = d.nl) : Q6 K ρ F H H1 ⟨d, r.fr, r.M⟩ u G' where
 same := p.same
 rp := rp
 src := λ a ha => p.src a (by
  have := hs a
  have h1 : 0 < G'.count a := ZaA.mpr ha
  exact ZaA.mp (by omega))
 cnt := λ h => ⟨λ a => ZF (hs a) ((p.cnt h).1 a), hn (p.cnt h).2⟩
 own := p.own
noncomputable def R.norm (r : R) : R := if r.d.flat then ⟨r.d, true, []⟩ else r
theorem R.QcU (r : R) : r.norm.d = r.d := by unfold R.norm; split <;> rfl
theorem Q6.norm {r : R} {v : V} {G : List Addr} (p : Q6 K ρ F H H' r v G) : Q6 K ρ F H H' r.norm v G := by
 unfold R.norm
 split
 ·rename_i h
  have := p.rp.QaY h
  subst this
  exact .flat p.same p.rp h
 ·exact p
end
noncomputable def Qa (i : Nat) : DE := λ ρ => match ρ[i]? with
 | some (some (d, b)) => if d.flat then some ⟨d, true, []⟩ else if b then some ⟨d, true, [i]⟩ else some ⟨d, false, []⟩
 | _ => none
noncomputable def dC (d : D) : DE := λ _ => some ⟨d, true, []⟩
section
variable {X : Cx}
theorem QvM {i : Nat} {x : Str} {pos : Pos} (h : PE X (.Name x pos) (QjD i)) : SE X (.Name x pos) (Qa i) := λ H0 A0 => h.mono λ σ H Q ⟨ρ, hs, F, r, rel, e, q⟩ => by
 unfold Qa at e
 split at e
 ·rename_i d b q1
  obtain ⟨v, h1, h2⟩ := rel.val i d b q1
  refine ⟨v, h1, q v H (F i) ?_⟩
  split at e
  ·rename_i hf
   cases e
   have := h2.QaY hf
   rw [this] at h2 ⊢
   exact .flat (QL.refl _) h2 hf
  ·split at e
   ·rename_i hb
    cases e
    subst hb
    exact ⟨QL.refl _, h2, λ a ha => .inr ⟨i, d, true, q1, ha, λ _ => by simp⟩, λ _ => ⟨λ a => (by simp), (rel.own i d q1).1⟩, λ j hj => by simp at hj; subst hj; exact ⟨d, q1⟩⟩
   ·rename_i hb
    cases e
    simp at hb
    subst hb
    exact ⟨QL.refl _, h2, λ a ha => .inr ⟨i, d, false, q1, ha, λ z => by cases z⟩, λ z => (by cases z), Qa5.nil⟩
 ·cases e
theorem Qld {e : Expr} {d : D} {v : V} (h : PE X e (tC v)) (r : ∀ K H, Rp K H d v []) (hf : d.flat = true) : SE X e (dC d) := λ H0 A0 => h.mono λ σ H Q ⟨ρ, hs, F, r', rel, e, q⟩ => by
 cases e
 exact q v H [] (.flat (QL.refl _) (r _ _) hf)
theorem two {K : PySem.W.Frag} {H0 : Hp} {A0 : List Addr} {fa fb : DE} {σ : St} {H : Hp} {hs : List (V × D × List Addr)} {ρ : En} {F : Nat -> List Addr} {ra rb : R} {Rr : V -> V -> Hp -> Prop} (rel : Rel K H0 A0 hs ρ F σ H) (ea : fa ρ = some ra) (eb : fb ρ = some rb)
  (k : ∀ x y H1 H2 G1 G2, Q6 K ρ F H H1 ra x G1 -> Q6 K ρ F H1 H2 rb y G2 -> Rr x y H2) : tV K H0 A0 fa σ H λ x H1 => tV K H0 A0 fb σ H1 λ y H2 => Rr x y H2 :=
 ⟨ρ, hs, F, ra, rel, ea, λ x H1 G1 p1 => ⟨ρ, hs, F, rb, rel.ext p1.same, eb, λ y H2 G2 p2 => k x y H1 H2 G1 G2 p1 p2⟩⟩
noncomputable def dOp (g : D -> D -> Option D) (fa fb : DE) : DE := λ ρ => (fa ρ).bind λ ra => (fb ρ).bind λ rb => (g ra.d rb.d).map λ d => ⟨d, true, []⟩
theorem QjS {g : D -> D -> Option D} {fa fb : DE} {ρ : En} {r : R} (e : dOp g fa fb ρ = some r) : ∃ ra rb d, fa ρ = some ra /\ fb ρ = some rb /\ g ra.d rb.d = some d /\ r = ⟨d, true, []⟩ := by
 unfold dOp at e
 cases h1 : fa ρ with
 | none => rw [h1] at e; cases e
 | some ra =>
  cases h2 : fb ρ with
  | none => rw [h1, h2] at e; cases e
  | some rb =>
   rw [h1, h2] at e
   cases h3 : g ra.d rb.d with
   | none => simp [h3] at e
   | some d => simp [h3] at e; exact ⟨ra, rb, d, rfl, rfl, h3, e.symm⟩
def QbW (K : PySem.W.Frag) (g : D -> D -> Option D) (r : R2) : Prop := ∀ a b d, g a b = some d -> d.flat = true /\ ∀ H x y F G (Q : VK), Rp K H a x F -> Rp K H b y G -> (∀ v, (∀ H', Rp K H' d v []) -> Q v H) -> r x y H Q
theorem QiR {a b : Expr} {op : Operator} {pos : Pos} {fa fb : DE} {g : D -> D -> Option D} {r : R2} (ho : OpR X (binaryOp op) r) (hg : QbW X.K g r) (ha : SE X a fa) (hb : SE X b fb) : SE X (.BinOp a op b pos) (dOp g fa fb) := λ H0 A0 =>
 (Qoj ho (ha H0 A0) (hb H0 A0)).mono λ σ H Q ⟨ρ, hs, F, r', rel, e, q⟩ => by
  obtain ⟨ra, rb, d, ea, eb, eg, rfl⟩ := QjS e
  refine two rel ea eb λ x y H1 H2 G1 G2 p1 p2 => (hg _ _ _ eg).2 H2 x y G1 G2 Q (p1.rp.same p2.same) p2.rp λ v hv => ?_
  exact q v H2 [] (.flat (p1.same.trans p2.same) (hv H2) (hg _ _ _ eg).1)
theorem Qwp {a b : Expr} {op : CmpOp} {pos : Pos} {fa fb : DE} {g : D -> D -> Option D} {r : R2} (ho : OpR X (compareOp op) r) (hg : QbW X.K g r) (ha : SE X a fa) (hb : SE X b fb) (hm : behindInMarks op b = false) : SE X (.Compare a [op] [b] pos) (dOp g fa fb) := λ H0 A0 =>
 (QtQ ho (ha H0 A0) (hb H0 A0) hm).mono λ σ H Q ⟨ρ, hs, F, r', rel, e, q⟩ => by
  obtain ⟨ra, rb, d, ea, eb, eg, rfl⟩ := QjS e
  refine two rel ea eb λ x y H1 H2 G1 G2 p1 p2 => (hg _ _ _ eg).2 H2 x y G1 G2 Q (p1.rp.same p2.same) p2.rp λ v hv => ?_
  exact q v H2 [] (.flat (p1.same.trans p2.same) (hv H2) (hg _ _ _ eg).1)
end
end HS
namespace HS
open PySem PySem.Spec L2
noncomputable def Qcp (i j : Int) : Int := if 0 <= j then i / j else i.fdiv j
noncomputable def QbC (i j : Int) : Int := if 0 <= j then i % j else i.fmod j
theorem Qhp (i j : Int) : Qcp i j = i.fdiv j := by
 unfold Qcp; split
 ·rw [ZbC _ (by assumption)]
 ·rfl
theorem Qg6 (i j : Int) : QbC i j = i.fmod j := by
 unfold QbC; split
 ·rw [Int.fmod_eq_emod_of_nonneg _ (by assumption)]
 ·rfl
noncomputable def Qdl (i j : Int) : Bool := decide (i.natAbs < 2 ^ 64) || decide (j.natAbs < 2 ^ 64) || (decide (Builtin.Int.intBits i <= 2 ^ 20) && decide (Builtin.Int.intBits j <= 2 ^ 20))
noncomputable def Qa7 (j : Int) : Bool := decide (j ≠ 0) && decide (j.natAbs < 2 ^ 8000)
noncomputable def gI (f : Int -> Int -> Option D) (a b : D) : Option D := match a, b with
 | .int i, .int j => f i j
 | _, _ => none
noncomputable def Qat := gI λ i j => some (.int (i - j))
noncomputable def Qdh := gI λ i j => if Qa7 j then some (.int (Qcp i j)) else none
noncomputable def Qau := gI λ i j => if j ≠ 0 then some (.int (QbC i j)) else none
noncomputable def Qdu := gI λ i j => if 0 <= j /\ j <= 1000 /\ i.natAbs < 2 ^ 200 then some (.int (i ^ j.toNat)) else none
noncomputable def Qmq := gI λ i j => if 0 <= j then some (.int (i / 2 ^ j.toNat)) else none
noncomputable def gLt := gI λ i j => some (.bl (decide (i < j)))
noncomputable def gLe := gI λ i j => some (.bl (decide (i <= j)))
noncomputable def gGt := gI λ i j => some (.bl (decide (j < i)))
noncomputable def gGe := gI λ i j => some (.bl (decide (j <= i)))
theorem Qo2 {f : Int -> Int -> Option D} {a b d : D} (h : gI f a b = some d) : ∃ i j, a = .int i /\ b = .int j /\ f i j = some d := by
 unfold gI at h
 split at h
 ·exact ⟨_, _, rfl, rfl, h⟩
 ·cases h
section
variable {K : PySem.W.Frag} {X : Cx}
theorem Qe8 {f : Int -> Int -> Option D} {r : R2} (hf : ∀ i j d, f i j = some d -> d.flat = true) (h : ∀ i j d, f i j = some d -> ∀ H (Q : VK), (∀ v, (∀ H', Rp K H' d v []) -> Q v H) -> r (.int i) (.int j) H Q) : QbW K (gI f) r := λ a b d e => by
 obtain ⟨i, j, rfl, rfl, ef⟩ := Qo2 e
 refine ⟨hf i j d ef, λ H x y F G Q ha hb q => ?_⟩
 rw [ha.int_inv, hb.int_inv]
 exact h i j d ef H Q q
theorem Qqg : QbW K Qat (rI0 λ i j => .int (i - j)) := Qe8 (λ i j d e => by cases e; rfl) λ i j d e H Q q => by cases e; exact ⟨i, j, rfl, rfl, q _ λ _ => .int_mk⟩
theorem Qri {i j : Int} (h : Qdl i j = true) : IntMulOk i j := by
 have small : ∀ k : Int, k.natAbs < 2 ^ 64 -> Builtin.Int.intBits k <= 64 := λ k hk => by
  unfold Builtin.Int.intBits
  split
  ·omega
  ·rename_i h0; have h0' : k.natAbs ≠ 0 := λ z => by simp_all
   have := (Zce h0').mpr hk; omega
 unfold Qdl at h
 simp only [Zcb, Zg, decide_eq_true_eq] at h
 rcases h with (h | h) | ⟨h1, h2⟩
 ·exact .of_left (small i h)
 ·exact .of_right (small j h)
 ·exact .of_bits h1 h2
theorem Qud : OpR X (binaryOp .Mult) (rI (λ i j => Qdl i j = true) λ i j => .int (i * j)) := opI λ _ _ _ _ _ _ _ hc q => PyProof.Rows.mul_int q (Qri hc)
theorem Quw : OpR X (binaryOp .FloorDiv) (rI (λ i j => Qa7 j = true) λ i j => .int (Qcp i j)) := opI λ i j _ _ _ _ _ hc q => by
 unfold Qa7 at hc
 simp only [Zg, decide_eq_true_eq] at hc
 rw [Qhp] at q
 refine PyProof.Rows.floordiv_int hc.1 q (.inl (Zbe ?_))
 have h0 : j.natAbs ≠ 0 := by omega
 exact Nat.lt_trans ((Zce h0).mpr hc.2) (by decide)
theorem Qty : OpR X (binaryOp .Mod) (rI (λ i j => j ≠ 0) λ i j => .int (QbC i j)) := opI λ i j _ _ _ _ _ hc q => by
 rw [Qg6] at q
 exact PyProof.Rows.mod_int' hc q
theorem Qvy : QbW K Qdh (rI (λ i j => Qa7 j = true) λ i j => .int (Qcp i j)) := Qe8 (λ i j d e => by split at e <;> cases e; rfl) λ i j d e H Q q => by
 split at e
 ·cases e; exact ⟨i, j, rfl, rfl, by assumption, q _ λ _ => .int_mk⟩
 ·cases e
theorem QvQ : QbW K Qau (rI (λ i j => j ≠ 0) λ i j => .int (QbC i j)) := Qe8 (λ i j d e => by split at e <;> cases e; rfl) λ i j d e H Q q => by
 split at e
 ·cases e; exact ⟨i, j, rfl, rfl, by assumption, q _ λ _ => .int_mk⟩
 ·cases e
theorem QtJ : OpR X (binaryOp .Pow) (rI (λ i j => 0 <= j /\ j <= 1000 /\ i.natAbs < 2 ^ 200) λ i j => .int (i ^ j.toNat)) := opI λ i j _ _ _ _ _ hc q => by
 refine PyProof.Rows.pow_int hc.1 ?_ q
 have hb : Builtin.Int.intBits i <= 200 := by
  unfold Builtin.Int.intBits
  split
  ·omega
  ·rename_i h0; have h0' : i.natAbs ≠ 0 := λ z => by simp_all
   have := (Zce h0').mpr hc.2.2; omega
 have h1 : ((Builtin.Int.intBits i : Nat) : Int) * j <= 200 * 1000 := Zcf (by omega) hc.2.1 hc.1 (by decide)
 omega
theorem Qwt : QbW K Qdu (rI (λ i j => 0 <= j /\ j <= 1000 /\ i.natAbs < 2 ^ 200) λ i j => .int (i ^ j.toNat)) := Qe8 (λ i j d e => by split at e <;> cases e; rfl) λ i j d e H Q q => by
 split at e
 ·rename_i h; cases e; exact ⟨i, j, rfl, rfl, h, q _ λ _ => .int_mk⟩
 ·cases e
theorem Qvv : QbW K Qmq (rI (λ _ j => 0 <= j) λ i j => .int (i / 2 ^ j.toNat)) := Qe8 (λ i j d e => by split at e <;> cases e; rfl) λ i j d e H Q q => by
 split at e
 ·cases e; exact ⟨i, j, rfl, rfl, by assumption, q _ λ _ => .int_mk⟩
 ·cases e
theorem Qxf : QbW K gLt (rI0 λ i j => .bl (decide (i < j))) := Qe8 (λ i j d e => by cases e; rfl) λ i j d e H Q q => by cases e; exact ⟨i, j, rfl, rfl, q _ λ _ => .Qdd⟩
theorem Qxn : QbW K gLe (rI0 λ i j => .bl (decide (i <= j))) := Qe8 (λ i j d e => by cases e; rfl) λ i j d e H Q q => by cases e; exact ⟨i, j, rfl, rfl, q _ λ _ => .Qdd⟩
theorem Qxv : QbW K gGt (rI0 λ i j => .bl (decide (j < i))) := Qe8 (λ i j d e => by cases e; rfl) λ i j d e H Q q => by cases e; exact ⟨i, j, rfl, rfl, q _ λ _ => .Qdd⟩
theorem Qw3 : QbW K gGe (rI0 λ i j => .bl (decide (j <= i))) := Qe8 (λ i j d e => by cases e; rfl) λ i j d e H Q q => by cases e; exact ⟨i, j, rfl, rfl, q _ λ _ => .Qdd⟩
end
theorem Qcn : ∀ (xs ys : List D), QK (xs ++ ys) = (QK xs && QK ys)
 | [], ys => by simp [QK]
 | x :: xs, ys => by simp [QK, Qcn xs ys, Bool.and_assoc]
noncomputable def Qa2 (ds : List D) (M : List Nat) : R := if QK ds then ⟨.lst ds, true, []⟩ else ⟨.lst ds, false, M⟩
section
variable {K : PySem.W.Frag} {H0 H H' : Hp} {A0 : List Addr} {hs : List (V × D × List Addr)} {ρ : En} {F : Nat -> List Addr} {σ : L2.St}
theorem Q6.Qa2 {ds : List D} {M : List Nat} {vs : List V} {G : List Addr} {H1 : Hp} {p : Addr} (s : QL H H1) (hp : H1 p = none) (r : Rps K H1 ds vs G) (hz : ds.length <= sizeLine) (src : Src ρ F H M G) (ow : Qa5 ρ M) :
  Q6 K ρ F H (upd H1 p (.lst vs)) (Qa2 ds M) (.ref p) (p :: G) := by
 have s2 : QL H1 (upd H1 p (.lst vs)) := Qa4 hp
 have rp : Rp K (upd H1 p (.lst vs)) (.lst ds) (.ref p) (p :: G) := Rp.QeH Qar (r.same s2) hz
 have hH : H p = none := s.free hp
 unfold HS.Qa2
 split
 ·rename_i hf
  have := r.QaY hf
  subst this
  refine ⟨s.trans s2, rp, λ a ha => ?_, λ _ => ⟨λ a => ?_, by simp only [D.nl, QeC ds hf]; rfl⟩, Qa5.nil⟩
  ·have : a = p := by simpa using ha
   subst this; exact .inl hH
  ·rw [List.count_singleton]
   split
   ·rename_i e; have e' : p = a := by simpa using e
    subst e'; rw [QaO hH]; omega
   ·omega
 ·refine ⟨s.trans s2, rp, λ a ha => ?_, λ z => (by cases z), ow⟩
  rcases Zr.mp ha with rfl | h
  ·exact .inl hH
  ·exact src a h
end
noncomputable def QH (fa fb : DE) : DE := λ ρ => (fa ρ).bind λ ra => (fb ρ).bind λ rb => match ra.d, rb.d with
 | .int i, .int j => some ⟨.int (i + j), true, []⟩
 | .lst xs, .lst ys => if xs.length + ys.length <= sizeLine then some (Qa2 (xs ++ ys) (ra.M ++ rb.M)) else none
 | _, _ => none
noncomputable def Qao (fa fb : DE) : DE := λ ρ => (fa ρ).bind λ ra => (fb ρ).bind λ rb => match ra.d, rb.d with
 | .int i, .int j => if Qdl i j then some ⟨.int (i * j), true, []⟩ else none
 | .lst xs, .int j => if xs.length * j.toNat <= sizeLine /\ -(2 ^ 63) <= j /\ j < 2 ^ 63 /\ QK xs = true then some ⟨.lst (List.replicate j.toNat xs).flatten, true, []⟩ else none
 | _, _ => none
theorem Qn6 {fa fb : DE} {ρ : En} {k : R -> R -> Option R} {r : R} (e : ((fa ρ).bind λ ra => (fb ρ).bind λ rb => k ra rb) = some r) : ∃ ra rb, fa ρ = some ra /\ fb ρ = some rb /\ k ra rb = some r := by
 cases h1 : fa ρ with
 | none => rw [h1] at e; cases e
 | some ra =>
  cases h2 : fb ρ with
  | none => rw [h1, h2] at e; cases e
  | some rb => rw [h1, h2] at e; exact ⟨ra, rb, rfl, rfl, e⟩
theorem bind1 {α β : Type} {x : Option α} {k : α -> Option β} {r : β} (e : x.bind k = some r) : ∃ a, x = some a /\ k a = some r := by
 cases x with
 | none => cases e
 | some a => exact ⟨a, rfl, e⟩
section
variable {X : Cx} {a b : Expr} {fa fb : DE} {pos : Pos}
noncomputable def QwW (K : PySem.W.Frag) : R2 := λ x y H Q => ∃ l c xs zs, x = .ref l /\ y = .ref c /\ (H l = some (.lst xs) ∨ Fix K H l xs) /\ (H c = some (.lst zs) ∨ Fix K H c zs) /\ xs.length + zs.length <= sizeLine /\ ∀ p, H p = none -> Q (.ref p) (upd H p (.lst (xs ++ zs)))
theorem Qun : OpR X (binaryOp .Add) (QwW X.K) := by
 intro pins s σ H x y v u Q I rx ry h
 obtain ⟨l, c, xs, zs, rfl, rfl, hH, hB, hz, q⟩ := h
 cases rx
 cases ry
 obtain ⟨z, its, n, r, hl, e⟩ := I.Qk6 hH
 obtain ⟨z2, its2, n2, r2, hl2, e2⟩ := I.Qk6 hB
 refine PySem.P.add_list e e2 ?_ (by rw [Zp, Zp]; omega)
 have ea : its.toArray ++ its2.toArray = (its ++ its2).toArray := by simp
 rw [ea]
 exact ⟨.ref _, _, I.QuK (t' := s.toks) (r.append r2) (by rw [Zw]; omega), rfl, q _ I.fresh⟩
theorem QvT (ha : SE X a fa) (hb : SE X b fb) : SE X (.BinOp a .Add b pos) (QH fa fb) := λ H0 A0 =>
 (Qoj (QvB.or Qun) (ha H0 A0) (hb H0 A0)).mono λ σ H Q ⟨ρ, hs, F, r', rel, e, q⟩ => by
  obtain ⟨ra, rb, ea, eb, ek⟩ := Qn6 e
  refine two rel ea eb λ x y H1 H2 G1 G2 p1 p2 => ?_
  have p1' := p1.rp.same p2.same
  have p2' := p2.rp
  have c1 := p1.src.append p2.src p1.same
  have o1 := p1.own.append p2.own
  revert ek
  revert p1' p2'
  cases ra.d <;> cases rb.d <;> intro p1' p2' ek <;> first | (cases ek; done) | skip
  ·cases ek
   rw [p1'.int_inv, p2'.int_inv]
   exact .inl ⟨_, _, rfl, rfl, q _ H2 [] (.flat (p1.same.trans p2.same) .int_mk)⟩
  ·rename_i xs ys
   dsimp only at ek
   split at ek
   ·rename_i hz
    cases ek
    obtain ⟨l, vs, L1, rfl, hl, rl, zl, el⟩ := p1'.lst_inv
    obtain ⟨c, ws, L2', rfl, hc, rc, zc, ec⟩ := p2'.lst_inv
    have n1 := rl.length
    have n2 := rc.length
    refine .inr ⟨l, c, vs, ws, rfl, rfl, hl, hc, by omega, λ p hp => ?_⟩
    refine q _ _ (p :: (L1 ++ L2')) (Q6.Qa2 (p1.same.trans p2.same) hp (rl.append rc) (by rw [Zw]; exact hz) (λ a ha => c1 a ?_) o1)
    rcases ZE.mp ha with h | h
    ·refine Zl _ ?_
     rcases el with rfl | rfl
     ·exact Zd _ h
     ·exact h
    ·refine Ze _ ?_
     rcases ec with rfl | rfl
     ·exact Zd _ h
     ·exact h
   ·cases ek
noncomputable def QwK (K : PySem.W.Frag) : R2 := λ x y H Q => ∃ l k xs, x = .ref l /\ y = .int k /\ (H l = some (.lst xs) ∨ Fix K H l xs) /\ -(2 ^ 63) <= k /\ k < 2 ^ 63 /\ xs.length * k.toNat <= sizeLine ∧
 ∀ p, H p = none -> Q (.ref p) (upd H p (.lst (List.replicate k.toNat xs).flatten))
theorem Qs8 : OpR X (binaryOp .Mult) (QwK X.K) := by
 intro pins s σ H x y v u Q I rx ry h
 obtain ⟨l, k, xs, rfl, rfl, hH, h1, h2, hz, q⟩ := h
 cases rx
 obtain ⟨t, rfl⟩ := ry
 obtain ⟨z, its, n, r, hl, e⟩ := I.Qk6 hH
 have hlen : its.toArray.size * k.toNat <= sizeLine := by rw [Zp, ← hl]; exact hz
 have hcap : ¬ its.toArray.size * k.toNat > (2 ^ 63 - 1) / 8 := by
  have : (sizeLine : Nat) <= (2 ^ 63 - 1) / 8 := by decide
  omega
 have hfit : ¬ (!Builtin.List.listFitsIndex k) = true := by
  rw [fitsIndex_both h1 h2]
  exact Zay
 have hlong : ¬ Builtin.List.listTooLong (its.toArray.size * k.toNat) = true := by
  rw [Qr1 hlen]
  exact Zay
 have hnew : List.foldl (λ x1 x2 => x1 ++ x2) #[] (List.replicate (if its.toArray.isEmpty = true then 0 else k.toNat) its.toArray) = (List.replicate k.toNat its).flatten.toArray := by
  have f0 : ∀ m : Nat, List.foldl (λ x1 x2 => x1 ++ x2) #[] (List.replicate m its.toArray) = (List.replicate m its).flatten.toArray := λ m => by
   have := foldl_rep its m []
   rw [Zbw] at this
   exact this
  rw [f0]
  cases its with
  | nil => simp
  | cons a r' => rw [if_neg (by simp)]
 open PyProof.Rows in
 refine wpAny_binaryOp_repeat_ref (T := "list") (U := "int") (by decide) ⟨_, e, rfl⟩ (λ s' => typeIs_int s' k t) noFill_list_mul F.fills_int_mul F.slot_int_rmul repeat_list F.slot_int_index.lookup
  (call_meets F.slot_int_rmul (typeIs_int s k t) F.entry_int_rmul (F.args_int_rmul_2 _ _) (int___rmul___int_list k t l its.toArray n)
   ⟨e, rfl, ⟨_, e, rfl⟩, call_meets F.slot_list_mul ⟨_, e, rfl⟩ F.entry_list_mul (F.args_list_mul_2 _ _) (AutoListH.list___mul___list_int_3 l its.toArray n k t hfit hcap hlong) ⟨e, ?_⟩⟩)
 rw [hnew]
 exact ⟨.ref _, _, I.QuK (t' := s.toks) (r.rep k.toNat) (by rw [len_rep, Nat.mul_comm]; exact hz), rfl, q _ I.fresh⟩
theorem Qka {xs : List D} (h : QK xs = true) : ∀ n : Nat, QK (List.replicate n xs).flatten = true
 | 0 => by simp [QK]
 | n + 1 => by rw [Zaf, Zak, Qcn, h, Qka h n]; rfl
theorem Rps.rep {K : PySem.W.Frag} {H : Hp} {ds : List D} {vs : List V} (h : Rps K H ds vs []) : ∀ n : Nat, Rps K H (List.replicate n ds).flatten (List.replicate n vs).flatten []
 | 0 => by simp [Rps]
 | n + 1 => by rw [Zaf, Zak, Zaf, Zak]; exact h.append (Rps.rep h n)
theorem QvE (ha : SE X a fa) (hb : SE X b fb) : SE X (.BinOp a .Mult b pos) (Qao fa fb) := λ H0 A0 =>
 (Qoj (Qud.or Qs8) (ha H0 A0) (hb H0 A0)).mono λ σ H Q ⟨ρ, hs, F, r', rel, e, q⟩ => by
  obtain ⟨ra, rb, ea, eb, ek⟩ := Qn6 e
  refine two rel ea eb λ x y H1 H2 G1 G2 p1 p2 => ?_
  have p1' := p1.rp.same p2.same
  have p2' := p2.rp
  revert ek
  revert p1' p2'
  cases ra.d <;> cases rb.d <;> intro p1' p2' ek <;> first | (cases ek; done) | skip
  ·dsimp only at ek
   split at ek
   ·rename_i hm
    cases ek
    rw [p1'.int_inv, p2'.int_inv]
    exact .inl ⟨_, _, rfl, rfl, hm, q _ H2 [] (.flat (p1.same.trans p2.same) .int_mk)⟩
   ·cases ek
  ·rename_i xs j
   dsimp only at ek
   split at ek
   ·rename_i hz
    cases ek
    obtain ⟨hz1, hz2, hz3, hf⟩ := hz
    obtain ⟨l, vs, L1, rfl, hl, rl, zl, el⟩ := p1'.lst_inv
    have n1 := rl.length
    have e0 := rl.QaY hf
    subst e0
    rw [p2'.int_inv]
    refine .inr ⟨l, j, vs, rfl, rfl, hl, hz2, hz3, by rw [← n1]; exact hz1, λ p hp => ?_⟩
    have w : HS.Qa2 (List.replicate j.toNat xs).flatten [] = ⟨.lst (List.replicate j.toNat xs).flatten, true, []⟩ := by
     unfold HS.Qa2; rw [if_pos (Qka hf _)]
    rw [← w] at q
    exact q _ _ (p :: []) (Q6.Qa2 (p1.same.trans p2.same) hp (rl.rep _) (by rw [len_rep, Nat.mul_comm]; exact hz1) Src.nil Qa5.nil)
   ·cases ek
end
end HS
namespace HS
open PySem PySem.Spec L2
noncomputable def Qg : DA := λ _ => some ⟨[], true, []⟩
noncomputable def Qc (fa : DE) (fr : DA) : DA := λ ρ => (fa ρ).bind λ r => (fr ρ).bind λ rs => some ⟨r.d :: rs.ds, r.fr && rs.fr, r.M ++ rs.M⟩
noncomputable def Qaz (fa : DA) : DE := λ ρ => (fa ρ).bind λ r => if r.ds.length <= 64 then some ⟨.tup r.ds, r.fr, r.M⟩ else none
noncomputable def QW (fa : DA) : DE := λ ρ => (fa ρ).bind λ r => if r.ds.length <= 64 then some ⟨.lst r.ds, r.fr, r.M⟩ else none
section
variable {X : Cx} {a b e : Expr} {es : List Expr} {fa fb : DE} {fs : DA} {pos : Pos}
theorem Qlc : SA X [] Qg := λ H0 A0 => Qbh.mono λ σ H Q ⟨ρ, hs, F, r', rel, e, q⟩ => by
 cases e
 exact q [] H [] ⟨QL.refl _, by simp [Rps], Src.nil, λ _ => ⟨Cnt.nil, rfl⟩, Qa5.nil⟩
theorem Qhd (ha : SE X e fa) (hr : SA X es fs) (hs : starEach (e :: es) X.env = (false, eval e X.env) :: starEach es X.env) : SA X (e :: es) (Qc fa fs) := λ H0 A0 =>
 (Q2 (ha H0 A0) (hr H0 A0) hs).mono λ σ H Q ⟨ρ, hs, F, r', rel, e, q⟩ => by
  obtain ⟨r, e1, e⟩ := bind1 e
  obtain ⟨rs, e2, e⟩ := bind1 e
  cases e
  refine ⟨ρ, hs, F, r, rel, e1, λ x H1 G1 p1 => ⟨ρ, hs, F, rs, rel.ext p1.same, e2, λ xs H2 G2 p2 => ?_⟩⟩
  refine q _ H2 (G1 ++ G2) ⟨p1.same.trans p2.same, ?_, p1.src.append p2.src p1.same, λ h => ?_, p1.own.append p2.own⟩
  ·simp only [Rps]
   exact ⟨x, xs, G1, G2, rfl, rfl, p1.rp.same p2.same, p2.rp⟩
  ·simp only [Zg] at h
   exact ⟨(p1.cnt h.1).1.append rel (p2.cnt h.2).1 p1.same p1.rp.mem, by simp only [nls, Zw, (p1.cnt h.1).2, (p2.cnt h.2).2]⟩
theorem Qd4 {n : Nat} (h : n <= 64) : n <= sizeLine := ZF h (by decide)
theorem QuJ {k : Nat} (ha : SA X es fs) : SE X (.Tuple es k pos) (Qaz fs) := λ H0 A0 =>
 (QpT (ha H0 A0)).mono λ σ H Q ⟨ρ, hs, F, r', rel, e, q⟩ => by
  obtain ⟨r, e1, e⟩ := bind1 e
  split at e
  ·rename_i hz
   cases e
   refine ⟨ρ, hs, F, r, rel, e1, λ xs H1 G p => ⟨by rw [← p.rp.length]; exact Qd4 hz, λ c hc => q _ _ G ⟨p.same.trans (Qa4 hc), Rp.Qfl Qar (p.rp.same (Qa4 hc)), p.src, λ h => ⟨(p.cnt h).1, by simp only [D.nl]; exact (p.cnt h).2⟩, p.own⟩⟩⟩
  ·cases e
theorem Qwb (ha : SA X es fs) : SE X (.List es pos) (QW fs) := λ H0 A0 =>
 (Qvz (ha H0 A0)).mono λ σ H Q ⟨ρ, hs, F, r', rel, e, q⟩ => by
  obtain ⟨r, e1, e⟩ := bind1 e
  split at e
  ·rename_i hz
   cases e
   refine ⟨ρ, hs, F, r, rel, e1, λ xs H1 G p => ⟨by rw [← p.rp.length]; exact Qd4 hz, λ c hc => ?_⟩⟩
   have hH : H c = none := p.same.free hc
   refine q _ _ (c :: G) ⟨p.same.trans (Qa4 hc), Rp.QeH Qar (p.rp.same (Qa4 hc)) (Qd4 hz), λ z hz' => ?_, λ h => ⟨λ z => ?_, by simp only [D.nl, ZI, (p.cnt h).2]⟩, p.own⟩
   ·rcases Zr.mp hz' with rfl | h
    ·exact .inl hH
    ·exact p.src z h
   ·rw [ZaM]
    have := (p.cnt h).1 z
    split
    ·rename_i e'
     have e' : c = z := by simpa using e'
     subst e'
     have h0 : G.count c = 0 := ZV.mpr λ hm => by obtain ⟨vs, w⟩ := p.rp.mem c hm; rw [hc] at w; cases w
     rw [QaO hH]; omega
    ·exact this
  ·cases e
noncomputable def D.items : D -> Option (List D)
 | .lst xs => some xs
 | .tup xs => some xs
 | _ => none
noncomputable def Qk (fa fb : DE) : DE := λ ρ => (fa ρ).bind λ ra => (fb ρ).bind λ rb => match rb.d with
 | .int i => (ra.d.items).bind λ xs => (atI xs i).map λ d => (R.norm ⟨d, ra.fr, ra.M⟩)
 | _ => none
theorem Qtb {α β : Type} {xs : List α} {i : Int} {d : α} (h : atI xs i = some d) : ∃ j : Nat, xs[j]? = some d /\ ∀ (ys : List β), ys.length = xs.length -> ∀ y, ys[j]? = some y -> atI ys i = some y := by
 unfold atI at h
 cases e : ixN xs.length i with
 | none => rw [e] at h; cases h
 | some j =>
  rw [e] at h
  refine ⟨j, h, λ ys hl y hy => ?_⟩
  unfold atI
  rw [hl, e]
  exact hy
theorem QuL (ha : SE X a fa) (hb : SE X b fb) (hs : Qhn b) : SE X (.Subscript a b pos) (Qk fa fb) := λ H0 A0 =>
 (QkL (QnD.or QiM) (ha H0 A0) (hb H0 A0) hs).mono λ σ H Q ⟨ρ, hs, F, r', rel, e, q⟩ => by
  obtain ⟨ra, rb, ea, eb, ek⟩ := Qn6 e
  refine two rel ea eb λ x y H1 H2 G1 G2 p1 p2 => ?_
  have p1' := p1.rp.same p2.same
  have p2' := p2.rp
  have pp : Q6 X.K ρ F H H2 ra x G1 := ⟨p1.same.trans p2.same, p1', p1.src, p1.cnt, p1.own⟩
  cases hb' : rb.d with
  | int i =>
   rw [hb'] at ek p2'
   rw [p2'.int_inv]
   obtain ⟨xs, ex, ek⟩ := bind1 ek
   obtain ⟨d, ed, ek⟩ := Zc.mp ek
   subst ek
   obtain ⟨j, hj, hm⟩ := Qtb (β := V) ed
   have fin : ∀ (L : List Addr) (vs : List V), Rps X.K H2 xs vs L -> (∀ z, L.count z <= G1.count z) -> (G1.length = ra.d.nl -> L.length = nls xs) -> ∃ v, atI vs i = some v /\ Q v H2 := λ L vs rl hc hn => by
    obtain ⟨v, F1, G, F2, hv, eF, rv, hx⟩ := rl.get hj
    refine ⟨v, hm vs rl.length.symm v hv, q v H2 G (Q6.norm (Q6.sub pp rv (λ z => ZF ?_ (hc z)) λ z => hx (hn z)))⟩
    rw [eF, Zal, Zal]; omega
   cases hra : ra.d with
   | lst ys =>
    rw [hra] at ex p1'
    cases ex
    obtain ⟨l, vs, L, rfl, hl, rl, zl, el⟩ := p1'.lst_inv
    have hn : G1.length = ra.d.nl -> L.length = nls xs := λ hz => by
     have := rl.QaM
     simp only [hra, D.nl] at hz
     rcases el with rfl | rfl
     ·rw [ZI] at hz; omega
     ·omega
    have hc : ∀ z, L.count z <= G1.count z := λ z => by
     rcases el with rfl | rfl
     ·rw [ZaM]; omega
     ·exact Zm _
    obtain ⟨v, h1, h2⟩ := fin L vs rl hc hn
    exact .inl ⟨l, vs, i, v, rfl, rfl, Q3 hl, h1, h2⟩
   | tup ys =>
    rw [hra] at ex p1'
    cases ex
    obtain ⟨l, vs, rfl, hl, rl⟩ := p1'.QaP
    obtain ⟨v, h1, h2⟩ := fin G1 vs rl (λ z => Zm _) λ z => (by simpa only [hra, D.nl] using z)
    exact .inr ⟨l, vs, i, v, rfl, rfl, hl, h1, h2⟩
   | _ => rw [hra] at ex; cases ex
  | _ => rw [hb'] at ek; cases ek
noncomputable abbrev DO := En -> Option (Option Int)
noncomputable def Qdq : DO := λ _ => some none
noncomputable def QaK (f : DE) : DO := λ ρ => (f ρ).bind λ r => match r.d with
 | .int i => some (some i)
 | _ => none
noncomputable def tVO (K : PySem.W.Frag) (H0 : Hp) (A0 : List Addr) (f : DO) : TO := λ σ H Q => ∃ ρ hs F o, Rel K H0 A0 hs ρ F σ H /\ f ρ = some o /\ ∀ H', QL H H' -> Q o H'
def SO (X : Cx) (e : Option Expr) (f : DO) : Prop := ∀ H0 A0, PO X e (tVO X.K H0 A0 f)
theorem _root_.L2.PO.mono {X : Cx} {e : Option Expr} {t t' : TO} (h : PO X e t) (m : ∀ σ H Q, t' σ H Q -> t σ H Q) : PO X e t' := by
 intro pins s σ H Q I q
 exact h pins s σ H Q I (m σ H Q q)
theorem Qui : SO X none Qdq := λ H0 A0 => Qtf.mono λ σ H Q ⟨ρ, hs, F, o, rel, e, q⟩ => by
 cases e
 exact q H (QL.refl _)
theorem Qs9 (h : SE X a fa) : SO X (some a) (QaK fa) := λ H0 A0 => (Qt8 (h H0 A0)).mono λ σ H Q ⟨ρ, hs, F, o, rel, e, q⟩ => by
 obtain ⟨r, e1, e⟩ := bind1 e
 refine ⟨ρ, hs, F, r, rel, e1, λ v H1 G p => ?_⟩
 have rp := p.rp
 cases hr : r.d with
 | int i =>
  rw [hr] at e rp
  cases e
  exact ⟨i, rp.int_inv, q H1 p.same⟩
 | _ => rw [hr] at e; cases e
noncomputable def cutD (xs : List D) (lo hi : Option Int) : List D := (xs.drop (HT.sIx xs.length 0 lo)).take (HT.sIx xs.length xs.length hi - HT.sIx xs.length 0 lo)
noncomputable def Qcs (fa : DE) (lo hi : DO) : DE := λ ρ => (fa ρ).bind λ ra => (lo ρ).bind λ l => (hi ρ).bind λ h => match ra.d with
 | .lst xs => some (Qa2 (cutD xs l h) ra.M)
 | _ => none
theorem Rps.drop : ∀ {ds : List D} {vs : List V} {F : List Addr} {K : PySem.W.Frag} {H : Hp} (n : Nat), Rps K H ds vs F -> ∃ G, Rps K H (ds.drop n) (vs.drop n) G /\ ∀ a ∈ G, a ∈ F
 | [], vs, F, K, H, n, h => by simp only [Rps] at h; rw [h.1, h.2]; exact ⟨[], by simp [Rps], λ _ h => h⟩
 | d :: ds, vs, F, K, H, 0, h => ⟨F, by simpa using h, λ _ h => h⟩
 | d :: ds, vs, F, K, H, n + 1, h => by
  simp only [Rps] at h
  obtain ⟨v, ws, F1, F2, e, eF, r, q⟩ := h
  subst e eF
  obtain ⟨G, h1, h2⟩ := Rps.drop n q
  exact ⟨G, by simpa using h1, λ a ha => Ze _ (h2 a ha)⟩
theorem Rps.take : ∀ {ds : List D} {vs : List V} {F : List Addr} {K : PySem.W.Frag} {H : Hp} (n : Nat), Rps K H ds vs F -> ∃ G, Rps K H (ds.take n) (vs.take n) G /\ ∀ a ∈ G, a ∈ F
 | [], vs, F, K, H, n, h => by simp only [Rps] at h; rw [h.1, h.2]; exact ⟨[], by simp [Rps], λ _ h => h⟩
 | d :: ds, vs, F, K, H, 0, h => ⟨[], by simp [Rps], λ _ h => by simp at h⟩
 | d :: ds, vs, F, K, H, n + 1, h => by
  simp only [Rps] at h
  obtain ⟨v, ws, F1, F2, e, eF, r, q⟩ := h
  subst e eF
  obtain ⟨G, h1, h2⟩ := Rps.take n q
  refine ⟨F1 ++ G, ?_, λ a ha => ?_⟩
  ·simp only [Zbz, Rps]
   exact ⟨v, _, F1, G, rfl, rfl, r, h1⟩
  ·rcases ZE.mp ha with h | h
   ·exact Zl _ h
   ·exact Ze _ (h2 a h)
theorem Qu7 {lo hi : Option Expr} {fl fh : DO} {p2 : Pos} (ha : SE X a fa) (hl : SO X lo fl) (hh : SO X hi fh) : SE X (.Subscript a (.Slice lo hi none p2) pos) (Qcs fa fl fh) := λ H0 A0 =>
 (QrO Quq (ha H0 A0) (hl H0 A0) (hh H0 A0)).mono λ σ H Q ⟨ρ, hs, F, r', rel, e, q⟩ => by
  obtain ⟨ra, e1, e⟩ := bind1 e
  obtain ⟨l, e2, e⟩ := bind1 e
  obtain ⟨h, e3, e⟩ := bind1 e
  refine ⟨ρ, hs, F, ra, rel, e1, λ x H1 G1 p1 => ⟨ρ, hs, F, l, rel.ext p1.same, e2, λ H2 s2 => ⟨ρ, hs, F, h, (rel.ext p1.same).ext s2, e3, λ H3 s3 => ?_⟩⟩⟩
  have rp := p1.rp.same (s2.trans s3)
  cases hra : ra.d with
  | lst xs =>
   rw [hra] at e rp
   cases e
   obtain ⟨c, vs, L, rfl, hc, rl, zl, el⟩ := rp.lst_inv
   refine ⟨c, vs, rfl, Q3 hc, λ p hp => ?_⟩
   obtain ⟨G2, h2, m2⟩ := rl.drop (HT.sIx xs.length 0 l)
   obtain ⟨G3, h3, m3⟩ := h2.take (HT.sIx xs.length xs.length h - HT.sIx xs.length 0 l)
   have n1 := rl.length
   rw [show Qi8 vs l h = (vs.drop (HT.sIx xs.length 0 l)).take (HT.sIx xs.length xs.length h - HT.sIx xs.length 0 l) by unfold Qi8; rw [n1]]
   refine q _ _ (p :: G3) (Q6.Qa2 (p1.same.trans (s2.trans s3)) hp h3 ?_ (λ z hz => p1.src z ?_) p1.own)
   ·unfold cutD; rw [Zao, Zaz]; omega
   ·have := m2 z (m3 z hz)
    rcases el with rfl | rfl
    ·exact Zd _ this
    ·exact this
  | _ => rw [hra] at e; cases e
noncomputable def dBf (g : List D -> Option D) (fs : DA) : DE := λ ρ => (fs ρ).bind λ r => (g r.ds).map λ d => ⟨d, true, []⟩
def Qey (K : PySem.W.Frag) (g : List D -> Option D) (r : List V -> Hp -> VK -> Prop) : Prop := ∀ ds d, g ds = some d -> d.flat = true /\ ∀ H vs F (Q : VK), Rps K H ds vs F -> (∀ v, (∀ H', Rp K H' d v []) -> Q v H) -> r vs H Q
theorem Qhb {x : Str} {id : String} {g : List D -> Option D} {r : List V -> Hp -> VK -> Prop} {p : Pos} (hc : QcV X (.builtin id) r) (hk : Qey X.K g r) (hg : Gl X x) (hm : X.mg x = none) (hv : bootBuiltins x = some (.builtin id)) (ha : SA X (e :: es) fs) (hn : x ≠ "__name__") (hdb : (x == ("__debug__" : Str)) = false)
  (he : starEach (e :: es) X.env = (false, eval e X.env) :: starEach es X.env) (hpl : (backTo pos (starEach es X.env)).any (·.1) = false) : SE X (.Call (.Name x p) (e :: es) [] pos) (dBf g fs) := λ H0 A0 =>
 (Qh0 hc hg hm hv (ha H0 A0) hn hdb he hpl).mono λ σ H Q ⟨ρ, hs, F, r', rel, e, q⟩ => by
  obtain ⟨ra, e1, e⟩ := bind1 e
  obtain ⟨d, ed, e⟩ := Zc.mp e
  subst e
  exact ⟨ρ, hs, F, ra, rel, e1, λ vs H1 G p1 => (hk _ _ ed).2 H1 vs G Q p1.rp λ v hv => q v H1 [] (.flat p1.same (hv _) (hk _ _ ed).1)⟩
theorem Rps.one {K : PySem.W.Frag} {H : Hp} {d : D} {vs : List V} {F : List Addr} (h : Rps K H [d] vs F) : ∃ v, vs = [v] /\ Rp K H d v F := by
 simp only [Rps] at h
 obtain ⟨v, ws, F1, F2, rfl, rfl, r, rfl, rfl⟩ := h
 exact ⟨v, rfl, by simpa using r⟩
theorem Rps.two {K : PySem.W.Frag} {H : Hp} {d e : D} {vs : List V} {F : List Addr} (h : Rps K H [d, e] vs F) : ∃ v w F1 F2, vs = [v, w] /\ Rp K H d v F1 /\ Rp K H e w F2 := by
 simp only [Rps] at h
 obtain ⟨v, ws, F1, F2, rfl, rfl, r, w, ws', F3, F4, rfl, rfl, r2, rfl, rfl⟩ := h
 exact ⟨v, w, F1, F3, rfl, r, r2⟩
noncomputable def Qa3 : List D -> Option D
 | [.lst xs] => some (.int xs.length)
 | [.tup xs] => some (.int xs.length)
 | _ => none
theorem Qv9 {K : PySem.W.Frag} : Qey K Qa3 (λ xs H Q => ∃ p ys, xs = [.ref p] /\ (SqL K H p ys ∨ SqT K H p ys) /\ Q (.int ys.length) H) := λ ds d e => by
 unfold Qa3 at e
 split at e
 ·cases e
  refine ⟨rfl, λ H vs F Q r q => ?_⟩
  obtain ⟨v, rfl, rp⟩ := r.one
  obtain ⟨l, ws, L, rfl, hl, rl, zl, el⟩ := rp.lst_inv
  exact ⟨l, ws, rfl, .inl (Q3 hl), by rw [← rl.length]; exact q _ λ _ => .int_mk⟩
 ·cases e
  refine ⟨rfl, λ H vs F Q r q => ?_⟩
  obtain ⟨v, rfl, rp⟩ := r.one
  obtain ⟨l, ws, rfl, hl, rl⟩ := rp.QaP
  exact ⟨l, ws, rfl, .inr hl, by rw [← rl.length]; exact q _ λ _ => .int_mk⟩
 ·cases e
noncomputable def Qfz : List D -> Option D
 | [.int i, .int j] => some (.int (if j < i then j else i))
 | _ => none
noncomputable def QfR : List D -> Option D
 | [.int i, .int j] => some (.int (if j > i then j else i))
 | _ => none
noncomputable def QoD : List D -> Option D
 | [.int i] => some (.int (if i < 0 then -i else i))
 | _ => none
theorem Qt5 {K : PySem.W.Frag} : Qey K Qfz (λ xs H Q => ∃ i j, xs = [.int i, .int j] /\ Q (.int (if j < i then j else i)) H) := λ ds d e => by
 unfold Qfz at e
 split at e
 ·cases e
  refine ⟨rfl, λ H vs F Q r q => ?_⟩
  obtain ⟨v, w, F1, F2, rfl, r1, r2⟩ := r.two
  exact ⟨_, _, by rw [r1.int_inv, r2.int_inv], q _ λ _ => .int_mk⟩
 ·cases e
theorem Qtu {K : PySem.W.Frag} : Qey K QfR (λ xs H Q => ∃ i j, xs = [.int i, .int j] /\ Q (.int (if j > i then j else i)) H) := λ ds d e => by
 unfold QfR at e
 split at e
 ·cases e
  refine ⟨rfl, λ H vs F Q r q => ?_⟩
  obtain ⟨v, w, F1, F2, rfl, r1, r2⟩ := r.two
  exact ⟨_, _, by rw [r1.int_inv, r2.int_inv], q _ λ _ => .int_mk⟩
 ·cases e
theorem Qvm {K : PySem.W.Frag} : Qey K QoD (λ xs H Q => ∃ i, xs = [.int i] /\ Q (.int (if i < 0 then -i else i)) H) := λ ds d e => by
 unfold QoD at e
 split at e
 ·cases e
  refine ⟨rfl, λ H vs F Q r q => ?_⟩
  obtain ⟨v, rfl, r1⟩ := r.one
  exact ⟨_, by rw [r1.int_inv], q _ λ _ => .int_mk⟩
 ·cases e
noncomputable def dList (fs : DA) : DE := λ ρ => (fs ρ).bind λ r => match r.ds with
 | [.lst xs] => some (Qa2 xs r.M)
 | [.tup xs] => if xs.length <= sizeLine then some (Qa2 xs r.M) else none
 | _ => none
theorem QtN {p : Pos} (hg : Gl X "list") (hm : X.mg "list" = none) (ha : SA X (e :: es) fs) (he : starEach (e :: es) X.env = (false, eval e X.env) :: starEach es X.env) (hpl : (backTo pos (starEach es X.env)).any (·.1) = false) :
  SE X (.Call (.Name "list" p) (e :: es) [] pos) (dList fs) := λ H0 A0 =>
 (QpA Qmn hg hm ZbT (ha H0 A0) (by decide) (by decide) he hpl).mono λ σ H Q ⟨ρ, hs, F, r', rel, e, q⟩ => by
  obtain ⟨ra, e1, e⟩ := bind1 e
  refine ⟨ρ, hs, F, ra, rel, e1, λ vs H1 G p1 => ?_⟩
  have rp := p1.rp
  have src := p1.src
  split at e
  ·rename_i xs hds
   cases e
   rw [hds] at rp
   obtain ⟨v, rfl, rq⟩ := rp.one
   obtain ⟨l, ws, L, rfl, hl, rl, zl, el⟩ := rq.lst_inv
   refine ⟨l, ws, rfl, .inl (Q3 hl), λ c hc => q _ _ (c :: L) (Q6.Qa2 p1.same hc rl zl (λ z hz => src z ?_) p1.own)⟩
   rcases el with rfl | rfl
   ·exact Zd _ hz
   ·exact hz
  ·rename_i xs hds
   split at e
   ·rename_i hz
    cases e
    rw [hds] at rp
    obtain ⟨v, rfl, rq⟩ := rp.one
    obtain ⟨l, ws, rfl, hl, rl⟩ := rq.QaP
    exact ⟨l, ws, rfl, .inr hl, λ c hc => q _ _ (c :: G) (Q6.Qa2 p1.same hc rl hz src p1.own)⟩
   ·cases e
  ·cases e
end
end HS
namespace HS
open PySem PySem.Spec L2
mutual
noncomputable def D.py : D -> PyData
 | .non => .none
 | .bl b => .bool b
 | .int i => .int i
 | .str x => .str x
 | .tup xs => .tuple (pys xs)
 | .lst xs => .list (pys xs)
noncomputable def pys : List D -> List PyData
 | [] => []
 | d :: ds => d.py :: pys ds
end
theorem QnV : ∀ ds : List D, pys ds = ds.map D.py
 | [] => rfl
 | d :: ds => by simp [pys, QnV ds]
noncomputable def D.sim : Nat -> D -> Bool
 | _, .non => true
 | _, .bl _ => true
 | _, .int _ => true
 | _, .str x => PyData.canLay0 (.str x)
 | 0, .tup xs => xs.isEmpty
 | 0, .lst xs => xs.isEmpty
 | n + 1, .tup xs => xs.all (D.sim n)
 | n + 1, .lst xs => xs.all (D.sim n)
theorem Qez : ∀ {ds : List D}, (∀ d ∈ ds, d.py.canLay0 = true) -> PyData.canLayAll0 (pys ds) = true
 | [], _ => rfl
 | d :: ds, h => by
  simp only [pys, PyData.canLayAll0, Zg]
  exact ⟨h d Zk, Qez λ e he => h e (Zd _ he)⟩
theorem Qfb {n : Nat} : ∀ {ds : List D}, (∀ d ∈ ds, d.py.depth <= n) -> PyData.depthAll (pys ds) <= n
 | [], _ => Zag _
 | d :: ds, h => by
  simp only [pys, PyData.depthAll]
  exact Nat.max_le.mpr ⟨h d Zk, Qfb λ e he => h e (Zd _ he)⟩
theorem QbA : ∀ (n : Nat) (d : D), d.sim n = true -> d.py.canLay0 = true /\ d.py.depth <= n + 1
 | n, .non, _ => by simp [D.py, PyData.canLay0, PyData.depth]
 | n, .bl _, _ => by simp [D.py, PyData.canLay0, PyData.depth]
 | n, .int _, _ => by simp [D.py, PyData.canLay0, PyData.depth]
 | n, .str x, h => by
  simp only [D.py, PyData.depth]
  refine ⟨?_, Zag _⟩
  cases n <;> exact h
 | 0, .tup xs, h => by
  have : xs = [] := by simpa [D.sim] using h
  subst this
  simp [D.py, pys, PyData.canLay0, PyData.canLayAll0, PyData.depth, PyData.depthAll]
 | 0, .lst xs, h => by
  have : xs = [] := by simpa [D.sim] using h
  subst this
  simp [D.py, pys, PyData.canLay0, PyData.canLayAll0, PyData.depth, PyData.depthAll]
 | n + 1, .tup xs, h => by
  simp only [D.sim, ZaB] at h
  simp only [D.py, PyData.canLay0, PyData.depth]
  exact ⟨Qez λ d hd => (QbA n d (h d hd)).1, ZaY (Qfb λ d hd => (QbA n d (h d hd)).2) 1⟩
 | n + 1, .lst xs, h => by
  simp only [D.sim, ZaB] at h
  simp only [D.py, PyData.canLay0, PyData.depth]
  exact ⟨Qez λ d hd => (QbA n d (h d hd)).1, ZaY (Qfb λ d hd => (QbA n d (h d hd)).2) 1⟩
noncomputable def deq (a b : D) : Bool := PyData.eqv a.py b.py
theorem QlO {n : Nat} {d : D} (h : d.sim n = true) : deq d d = true := SeqAt.eqv_refl _ (QbA n d h).1
section
variable {X : Cx} {pins : List (Addr × Obj)} {σ : L2.St} {H : Hp} {s : Shared}
mutual
theorem Rp.reads (I : Inv X pins σ H s) : ∀ {d : D} {v : V} {F : List Addr} {u : Value}, Rp X.K H d v F -> RelV v u -> ∃ as, Reads s.heap u d.py as
 | .non, v, _, u, h, r => by
  rw [h.Qjh] at r
  cases (show u = Value.none from r)
  exact ⟨_, .none⟩
 | .bl b, v, _, u, h, r => by
  rw [h.Qgu] at r
  cases (show u = Value.bool b from r)
  exact ⟨_, .bool b⟩
 | .int i, v, _, u, h, r => by
  rw [h.int_inv] at r
  obtain ⟨t, rfl⟩ := (show ∃ t, u = Value.int i t from r)
  exact ⟨_, .int i t⟩
 | .str i, v, _, u, h, r => by
  rw [h.str_inv] at r
  obtain ⟨t, rfl⟩ := (show ∃ t, u = Value.str i t from r)
  exact ⟨_, .str i t⟩
 | .tup ds, v, _, u, h, r => by
  obtain ⟨a, vs, rfl, hq, rs⟩ := h.QaP
  cases (show u = Value.ref a from r)
  obtain ⟨its, rv, ⟨o, h1, h2, n, h3⟩, _⟩ := I.tuple hq
  obtain ⟨as, ra⟩ := Rps.reads I rs rv
  exact ⟨_, .tuple h1 h2 h3 (by simpa using ra)⟩
 | .lst ds, v, _, u, h, r => by
  simp only [Rp] at h
  obtain ⟨hz, a, vs, rfl, h⟩ := h
  have key : ∃ G, (H a = some (.lst vs) ∨ Fix X.K H a vs) /\ Rps X.K H ds vs G := by
   rcases h with ⟨G, _, q, rs⟩ | ⟨q, rs⟩
   ·exact ⟨G, .inl q, rs⟩
   ·exact ⟨_, .inr q, rs⟩
  obtain ⟨G, hq, rs⟩ := key
  cases (show u = Value.ref a from r)
  obtain ⟨_, its, n, rv, _, e⟩ := I.Qk6 hq
  obtain ⟨as, ra⟩ := Rps.reads I rs rv
  exact ⟨_, .list e rfl rfl (by simpa using ra)⟩
theorem Rps.reads (I : Inv X pins σ H s) : ∀ {ds : List D} {vs : List V} {F : List Addr} {us : List Value}, Rps X.K H ds vs F -> Qy vs us -> ∃ as, ReadsAll s.heap us (pys ds) as
 | [], vs, _, us, h, r => by
  simp only [Rps] at h
  rw [h.1] at r
  cases r
  exact ⟨_, .nil⟩
 | d :: ds, vs, _, us, h, r => by
  simp only [Rps] at h
  obtain ⟨v, ws, F1, F2, rfl, rfl, h1, h2⟩ := h
  cases r with
  | cons r rr =>
   obtain ⟨as, ra⟩ := Rp.reads I h1 r
   obtain ⟨bs, rb⟩ := Rps.reads I h2 rr
   exact ⟨_, .cons ra rb⟩
end
end
noncomputable def gEq (a b : D) : Option D := if a.sim 8 && b.sim 8 then some (.bl (deq a b)) else none
noncomputable def gNe (a b : D) : Option D := if a.sim 8 && b.sim 8 then some (.bl (!deq a b)) else none
noncomputable def gIn (neg : Bool) (a b : D) : Option D := match b with
 | .lst xs => if a.sim 8 && b.sim 8 then some (.bl (if neg then !(xs.any λ y => deq y a) else xs.any λ y => deq y a)) else none
 | .tup xs => if a.sim 8 && b.sim 8 then some (.bl (if neg then !(xs.any λ y => deq y a) else xs.any λ y => deq y a)) else none
 | _ => none
noncomputable def Qvl (K : PySem.W.Frag) : R2 := λ x y H Q => ∃ a b F G, Rp K H a x F /\ Rp K H b y G /\ a.sim 8 = true /\ b.sim 8 = true /\ Q (.bl (deq a b)) H
noncomputable def QvJ (K : PySem.W.Frag) : R2 := λ x y H Q => ∃ a b F G, Rp K H a x F /\ Rp K H b y G /\ a.sim 8 = true /\ b.sim 8 = true /\ Q (.bl (!deq a b)) H
section
variable {X : Cx}
theorem Qva (hu : X.A.units + 64 < cLine) : OpR X (compareOp .Eq) (Qvl X.K) := by
 intro pins s σ H x y v u Q I rx ry h
 obtain ⟨a, b, F, G, ha, hb, sa, sb, q⟩ := h
 obtain ⟨as, ra⟩ := ha.reads I rx
 obtain ⟨bs, rb⟩ := hb.reads I ry
 have h1 := QbA 8 a sa
 have h2 := QbA 8 b sb
 exact SeqAt.compareEq_reads ra rb h1.1 h2.1 (by have := Nat.min_le_left a.py.depth b.py.depth; omega) ⟨.bl _, H, I, rfl, q⟩
theorem Qwj (hu : X.A.units + 64 < cLine) : OpR X (compareOp .NotEq) (QvJ X.K) := by
 intro pins s σ H x y v u Q I rx ry h
 obtain ⟨a, b, F, G, ha, hb, sa, sb, q⟩ := h
 obtain ⟨as, ra⟩ := ha.reads I rx
 obtain ⟨bs, rb⟩ := hb.reads I ry
 have h1 := QbA 8 a sa
 have h2 := QbA 8 b sb
 exact SeqAt.compareNe_reads ra rb h1.1 h2.1 (by have := Nat.min_le_left a.py.depth b.py.depth; omega) ⟨.bl _, H, I, rfl, q⟩
theorem Qxl {K : PySem.W.Frag} : QbW K gEq (Qvl K) := λ a b d e => by
 unfold gEq at e
 split at e
 ·rename_i h
  simp only [Zg] at h
  cases e
  exact ⟨rfl, λ H x y F G Q ha hb q => ⟨a, b, F, G, ha, hb, h.1, h.2, q _ λ _ => .Qdd⟩⟩
 ·cases e
theorem QwF {K : PySem.W.Frag} : QbW K gNe (QvJ K) := λ a b d e => by
 unfold gNe at e
 split at e
 ·rename_i h
  simp only [Zg] at h
  cases e
  exact ⟨rfl, λ H x y F G Q ha hb q => ⟨a, b, F, G, ha, hb, h.1, h.2, q _ λ _ => .Qdd⟩⟩
 ·cases e
noncomputable def Qra (K : PySem.W.Frag) (neg : Bool) : R2 := λ x y H Q => ∃ a b F G xs, Rp K H a x F /\ Rp K H b y G /\ a.sim 8 = true /\ b.sim 8 = true /\ (b = .lst xs ∨ b = .tup xs) /\ Q (.bl (if neg then !(xs.any λ y => deq y a) else xs.any λ y => deq y a)) H
theorem Qps (xs : List D) (a : D) : ((pys xs).any λ y => PyData.eqv y a.py) = xs.any λ y => deq y a := by
 rw [QnV, List.any_map]; rfl
theorem Qvr (hu : X.A.units + 64 < cLine) : OpR X (compareOp .In) (Qra X.K false) := by
 intro pins s σ H x y v u Q I rx ry h
 obtain ⟨a, b, F, G, xs, ha, hb, sa, sb, hk, q⟩ := h
 obtain ⟨as, ra⟩ := ha.reads I rx
 obtain ⟨bs, rb⟩ := hb.reads I ry
 have h1 := QbA 8 a sa
 have h2 := QbA 8 b sb
 have q' : Q (.bl ((pys xs).any λ y => PyData.eqv y a.py)) H := by rw [Qps]; exact q
 rcases hk with rfl | rfl
 ·exact SeqAt.in_list_reads rb ra h2.1 h1.1 (by have := Zbs (PyData.depthAll (pys xs)) a.py.depth; omega) ⟨.bl _, H, I, rfl, q'⟩
 ·exact SeqAt.in_tuple_reads rb ra h2.1 h1.1 (by have := Zbs (PyData.depthAll (pys xs)) a.py.depth; omega) ⟨.bl _, H, I, rfl, q'⟩
theorem Qqk (hu : X.A.units + 64 < cLine) : OpR X (compareOp .NotIn) (Qra X.K true) := by
 intro pins s σ H x y v u Q I rx ry h
 obtain ⟨a, b, F, G, xs, ha, hb, sa, sb, hk, q⟩ := h
 obtain ⟨as, ra⟩ := ha.reads I rx
 obtain ⟨bs, rb⟩ := hb.reads I ry
 have h1 := QbA 8 a sa
 have h2 := QbA 8 b sb
 have q' : Q (.bl (!(pys xs).any λ y => PyData.eqv y a.py)) H := by rw [Qps]; exact q
 rcases hk with rfl | rfl
 ·exact SeqAt.notIn_list_reads rb ra h2.1 h1.1 (by have := Zbs (PyData.depthAll (pys xs)) a.py.depth; omega) ⟨.bl _, H, I, rfl, q'⟩
 ·exact SeqAt.notIn_tuple_reads rb ra h2.1 h1.1 (by have := Zbs (PyData.depthAll (pys xs)) a.py.depth; omega) ⟨.bl _, H, I, rfl, q'⟩
theorem QsY {K : PySem.W.Frag} {neg : Bool} : QbW K (gIn neg) (Qra K neg) := λ a b d e => by
 unfold gIn at e
 split at e
 ·split at e
  ·rename_i h
   simp only [Zg] at h
   cases e
   exact ⟨rfl, λ H x y F G Q ha hb q => ⟨a, _, F, G, _, ha, hb, h.1, h.2, .inl rfl, q _ λ _ => .Qdd⟩⟩
  ·cases e
 ·split at e
  ·rename_i h
   simp only [Zg] at h
   cases e
   exact ⟨rfl, λ H x y F G Q ha hb q => ⟨a, _, F, G, _, ha, hb, h.1, h.2, .inr rfl, q _ λ _ => .Qdd⟩⟩
  ·cases e
 ·cases e
noncomputable def D.tyN : D -> String
 | .non => "NoneType" | .bl _ => "bool" | .int _ => "int" | .str _ => "str" | .tup _ => "tuple" | .lst _ => "list"
noncomputable def D.isa (T : String) (d : D) : Option Bool := if T == "int" || T == "bool" || T == "list" || T == "tuple" || T == "str" then some (d.tyN == T || (d.tyN == "bool" && T == "int")) else none
theorem Qvt {pins : List (Addr × Obj)} {σ : L2.St} {H : Hp} {s : Shared} {A : Around} {E Q : Value -> Shared -> Prop} {d : D} {v : V} {F : List Addr} {u : Value} {T : String} {b : Bool} (I : Inv X pins σ H s) (rp : Rp X.K H d v F) (rx : RelV v u) (e : d.isa T = some b) (h : ∀ tk, Q (.bool b) { s with toks := tk }) :
  wpAny (model X.prog X.w) A (call (.builtin "isinstance") [u, .type T]) Q E s := by
 have kit : PySem.W.kitOne X.K (.type d.tyN) (.type T) = some b := by
  unfold D.isa at e
  split at e
  ·rename_i hT
   cases e
   simp only [Zcb, beq_iff_eq] at hT
   rcases hT with (((rfl | rfl) | rfl) | rfl) | rfl <;> cases d <;> rfl
  ·cases e
 cases d with
 | non => rw [rp.Qjh] at rx; cases (show u = Value.none from rx); exact ZaR PySem.W.kitx_none I.kIn True.intro kit (λ z => nomatch z) h
 | bl y => rw [rp.Qgu] at rx; cases (show u = Value.bool y from rx); exact ZaR PySem.W.kitx_bool I.kIn True.intro kit (λ z => nomatch z) h
 | int i => rw [rp.int_inv] at rx; obtain ⟨t, q⟩ := (show ∃ t, u = Value.int i t from rx); cases q; exact ZaR PySem.W.kitx_int I.kIn True.intro kit (λ z => nomatch z) h
 | str y => rw [rp.str_inv] at rx; obtain ⟨t, q⟩ := (show ∃ t, u = Value.str y t from rx); cases q; exact ZaR PySem.W.kitx_str I.kIn True.intro kit (λ z => nomatch z) h
 | tup ds =>
  obtain ⟨a, vs, rfl, hq, _⟩ := rp.QaP
  cases (show u = Value.ref a from rx)
  obtain ⟨its, rv, ⟨o, h1, h2, n, h3⟩, _⟩ := I.tuple hq
  exact ZaR PySem.W.kitx_tuple I.kIn ⟨o, h1, h2⟩ kit (λ z => nomatch z) h
 | lst ds =>
  obtain ⟨a, vs, G, rfl, hq, _⟩ := rp.lst_inv
  cases (show u = Value.ref a from rx)
  obtain ⟨_, its, n, rv, _, e1⟩ := I.Qk6 hq
  exact ZaR PySem.W.kitx_list I.kIn ⟨_, e1, rfl⟩ kit (λ z => nomatch z) h
noncomputable def QxG (K : PySem.W.Frag) : List V -> Hp -> VK -> Prop := λ xs H Q => ∃ x T d F b, xs = [x, .ty T] /\ Rp K H d x F /\ d.isa T = some b /\ Q (.bl b) H
theorem Qq0 : QcV X (.builtin "isinstance") (QxG X.K) := by
 intro pins s σ H xs us Q I r h
 obtain ⟨x, T, d, F, b, rfl, rp, e, q⟩ := h
 obtain ⟨u, w, rfl, ru, rw'⟩ := vals2 r
 cases (show w = Value.type T from rw')
 exact Qvt I rp ru e λ tk => ⟨.bl b, H, I.tok _, rfl, q⟩
noncomputable def Qe6 (T : String) (fa : DE) : DE := λ ρ => (fa ρ).bind λ r => (r.d.isa T).map λ b => ⟨.bl b, true, []⟩
theorem Qve {a : Expr} {fa : DE} {T : String} {x : Str} {p p2 pos : Pos} (hg : Gl X "isinstance") (hm : X.mg "isinstance" = none) (ha : SE X a fa) (hT : PE X (.Name x p2) (tC (.ty T)))
  (he : starEach [a, .Name x p2] X.env = (false, eval a X.env) :: starEach [.Name x p2] X.env) : SE X (.Call (.Name "isinstance" p) [a, .Name x p2] [] pos) (Qe6 T fa) := λ H0 A0 =>
 (Qh0 Qq0 hg hm PyProof.Rows.boot_isinstance (Q2 (ha H0 A0) (Q2 hT Qbh) he) (by decide) (by decide) he (by rfl)).mono λ σ H Q ⟨ρ, hs, F, r', rel, e, q⟩ => by
  obtain ⟨r, e1, e⟩ := bind1 e
  obtain ⟨b, eb, e⟩ := Zc.mp e
  subst e
  exact ⟨ρ, hs, F, r, rel, e1, λ v H1 G p => ⟨v, T, r.d, G, b, rfl, p.rp, eb, q _ H1 [] (.flat p.same .Qdd)⟩⟩
noncomputable def D.tru : D -> Option Bool
 | .non => some false
 | .bl b => some b
 | .int i => some (i != 0)
 | .lst xs => some (!xs.isEmpty)
 | .tup xs => some (!xs.isEmpty)
 | .str _ => none
theorem QkQ {K : PySem.W.Frag} {H : Hp} {d : D} {v : V} {F : List Addr} {b : Bool} (h : Rp K H d v F) (e : d.tru = some b) : QsD K v H b := by
 have emp : ∀ {ds : List D} {vs : List V} {G : List Addr}, Rps K H ds vs G -> (!ds.isEmpty) = !vs.isEmpty := λ {ds vs G} r => by
  have := r.length
  cases ds <;> cases vs <;> simp_all
 cases d with
 | non => rw [h.Qjh]; cases e; exact rfl
 | bl c => rw [h.Qgu]; cases e; exact rfl
 | int i => rw [h.int_inv]; cases e; exact rfl
 | str i => cases e
 | tup ds => cases e; obtain ⟨a, vs, rfl, hq, r⟩ := h.QaP; exact .inr (.inl ⟨vs, hq, emp r⟩)
 | lst ds => cases e; obtain ⟨a, vs, G, rfl, hq, r, _⟩ := h.lst_inv; exact .inl ⟨vs, Q3 hq, emp r⟩
noncomputable def QG (fa : DE) : DT := λ ρ => (fa ρ).bind λ r => r.d.tru
noncomputable def QdX (f g : DT) : DT := λ ρ => (f ρ).bind λ b => if b = true then g ρ else some false
noncomputable def bOr (f g : DT) : DT := λ ρ => (f ρ).bind λ b => if b = true then some true else g ρ
noncomputable def QbK (f : DT) : DT := λ ρ => (f ρ).bind λ b => some (!b)
def SW (X : Cx) (e : Expr) (f : DT) : Prop := ∀ H0 A0, PW X e (tVT X.K H0 A0 f)
theorem _root_.L2.PW.mono {X : Cx} {e : Expr} {t t' : TT} (h : PW X e t) (m : ∀ σ H Q, t' σ H Q -> t σ H Q) : PW X e t' := λ wh pins s σ H Q I q => h wh pins s σ H Q I (m σ H Q q)
variable {a b e : Expr} {fa fb : DE} {ga gb gc : DT} {pos : Pos} {rest : List Expr}
theorem Qwo (ha : SE X a fa) (he : ∀ whole, isTrue a X.env whole = (do let v ← whole; standAt a.pos; holding [v] (truthy v))) : ST X a (QG fa) := λ H0 A0 =>
 (Qrf (ha H0 A0) he).mono λ σ H Q ⟨ρ, hs, F, b, rel, e, q⟩ => by
  obtain ⟨r, e1, e⟩ := bind1 e
  exact ⟨ρ, hs, F, r, rel, e1, λ v H1 G p => ⟨b, QkQ p.rp e, q H1 p.same⟩⟩
theorem QvF {op : CmpOp} {g : D -> D -> Option D} {r : R2} (ho : OpR X (compareOp op) r) (hg : QbW X.K g r) (hbl : ∀ a b d, g a b = some d -> ∃ k, d = .bl k) (ha : SE X a fa) (hb : SE X b fb) (hm : behindInMarks op b = false) : ST X (.Compare a [op] [b] pos) (QG (dOp g fa fb)) := λ H0 A0 =>
 (Quk ho (ha H0 A0) (hb H0 A0) hm).mono λ σ H Q ⟨ρ, hs, F, k, rel, e, q⟩ => by
  obtain ⟨r', e0, e⟩ := bind1 e
  obtain ⟨ra, rb, d, ea, eb, eg, rfl⟩ := QjS e0
  obtain ⟨k', rfl⟩ := hbl _ _ _ eg
  cases e
  refine two rel ea eb λ x y H1 H2 G1 G2 p1 p2 => (hg _ _ _ eg).2 H2 x y G1 G2 _ (p1.rp.same p2.same) p2.rp λ v hv => ?_
  exact ⟨_, (hv H2).Qgu, q H2 (p1.same.trans p2.same)⟩
theorem QvS (ha : ST X a ga) : ST X (.UnaryOp .Not a pos) (QbK ga) := λ H0 A0 =>
 (Qv4 (ha H0 A0)).mono λ σ H Q ⟨ρ, hs, F, b, rel, e, q⟩ => by
  obtain ⟨c, e1, e⟩ := bind1 e
  cases e
  exact ⟨ρ, hs, F, c, rel, e1, λ H1 s1 => q H1 s1⟩
theorem Qtq (ha : ST X a ga) : SW X (.BoolOp .And [a] pos) ga := λ H0 A0 => Qur (ha H0 A0)
theorem Qvn (ha : ST X a ga) : SW X (.BoolOp .Or [a] pos) ga := λ H0 A0 => QuO (ha H0 A0)
theorem Qvg (ha : ST X a ga) (hb : SW X (.BoolOp .And (b :: rest) pos) gb) : SW X (.BoolOp .And (a :: b :: rest) pos) (QdX ga gb) := λ H0 A0 =>
 (Qwe (ha H0 A0) (hb H0 A0)).mono λ σ H Q ⟨ρ, hs, F, c, rel, e, q⟩ => by
  obtain ⟨d, e1, e⟩ := bind1 e
  refine ⟨ρ, hs, F, d, rel, e1, λ H1 s1 => ?_⟩
  cases d with
  | true => exact ⟨ρ, hs, F, c, rel.ext s1, e, λ H2 s2 => q H2 (s1.trans s2)⟩
  | false => cases e; exact q H1 s1
theorem QwE (ha : ST X a ga) (hb : SW X (.BoolOp .Or (b :: rest) pos) gb) : SW X (.BoolOp .Or (a :: b :: rest) pos) (bOr ga gb) := λ H0 A0 =>
 (Qxq (ha H0 A0) (hb H0 A0)).mono λ σ H Q ⟨ρ, hs, F, c, rel, e, q⟩ => by
  obtain ⟨d, e1, e⟩ := bind1 e
  refine ⟨ρ, hs, F, d, rel, e1, λ H1 s1 => ?_⟩
  cases d with
  | true => cases e; exact q H1 s1
  | false => exact ⟨ρ, hs, F, c, rel.ext s1, e, λ H2 s2 => q H2 (s1.trans s2)⟩
theorem SW.st (h : SW X e ga) : ST X e ga := λ H0 A0 => (h H0 A0).pt
noncomputable def QlP (fa fb : DE) : DE := λ ρ => (fa ρ).bind λ ra => (ra.d.tru).bind λ b => if b = true then fb ρ else some ra
noncomputable def dOr (fa fb : DE) : DE := λ ρ => (fa ρ).bind λ ra => (ra.d.tru).bind λ b => if b = true then some ra else fb ρ
noncomputable def QvH (fa : DE) : DE := λ ρ => (fa ρ).bind λ ra => (ra.d.tru).bind λ b => some ⟨.bl (!b), true, []⟩
theorem Qpo {op} (h : SE X a fa) : SE X (.BoolOp op [a] pos) fa := λ H0 A0 => Qwm (h H0 A0)
theorem Q6.ext {K : PySem.W.Frag} {ρ : En} {F : Nat -> List Addr} {H H1 H2 : Hp} {r : R} {v : V} {G : List Addr} (s : QL H H1) (p : Q6 K ρ F H1 H2 r v G) {H0 : Hp} {A0 : List Addr} {hs : List (V × D × List Addr)} {σ : L2.St} (rel : Rel K H0 A0 hs ρ F σ H) : Q6 K ρ F H H2 r v G where
 same := s.trans p.same
 rp := p.rp
 src := λ a ha => (p.src a ha).elim (λ z => .inl (s.free z)) .inr
 cnt := λ h => ⟨λ a => ZF ((p.cnt h).1 a) (ZaY (by
  cases q : H1 a with
  | none => rw [QaO q, QaO (s.free q)]; exact Zm _
  | some o => rw [QdA q]; exact Zag _) _), (p.cnt h).2⟩
 own := p.own
theorem QuZ (ha : SE X a fa) (hb : SE X (.BoolOp .And (b :: rest) pos) fb) : SE X (.BoolOp .And (a :: b :: rest) pos) (QlP fa fb) := λ H0 A0 => by
 intro pins s σ H Q I ⟨ρ, hs, F, r, rel, e, q⟩
 obtain ⟨ra, e1, e⟩ := bind1 e
 obtain ⟨c, e2, e⟩ := bind1 e
 refine PyProof.Rows.BoolOp_and (thn (ha H0 A0 pins s σ H _ I ⟨ρ, hs, F, ra, rel, e1, λ v H' G p => (⟨G, p⟩ : ∃ G, Q6 X.K ρ F H H' ra v G)⟩) λ v s1 ⟨x, H1, I1, r1, G, p⟩ => ?_)
 refine thn (QiS pins s1 σ H1 x v (λ k H2 => k = c /\ H2 = H1) I1 r1 ⟨c, QkQ p.rp e2, rfl, rfl⟩) λ k s2 ⟨H2, I2, e3, e4⟩ => ?_
 subst e3 e4
 cases k with
 | true => exact hb H0 A0 pins s2 σ _ Q I2 ⟨ρ, hs, F, r, rel.ext p.same, e, λ w H3 G3 p3 => q w H3 G3 (p3.ext p.same rel)⟩
 | false => cases e; exact ⟨x, _, I2, r1, q x _ G p⟩
theorem Qxt (ha : SE X a fa) (hb : SE X (.BoolOp .Or (b :: rest) pos) fb) : SE X (.BoolOp .Or (a :: b :: rest) pos) (dOr fa fb) := λ H0 A0 => by
 intro pins s σ H Q I ⟨ρ, hs, F, r, rel, e, q⟩
 obtain ⟨ra, e1, e⟩ := bind1 e
 obtain ⟨c, e2, e⟩ := bind1 e
 refine PyProof.Rows.BoolOp_or (thn (ha H0 A0 pins s σ H _ I ⟨ρ, hs, F, ra, rel, e1, λ v H' G p => (⟨G, p⟩ : ∃ G, Q6 X.K ρ F H H' ra v G)⟩) λ v s1 ⟨x, H1, I1, r1, G, p⟩ => ?_)
 refine thn (QiS pins s1 σ H1 x v (λ k H2 => k = c /\ H2 = H1) I1 r1 ⟨c, QkQ p.rp e2, rfl, rfl⟩) λ k s2 ⟨H2, I2, e3, e4⟩ => ?_
 subst e3 e4
 cases k with
 | false => exact hb H0 A0 pins s2 σ _ Q I2 ⟨ρ, hs, F, r, rel.ext p.same, e, λ w H3 G3 p3 => q w H3 G3 (p3.ext p.same rel)⟩
 | true => cases e; exact ⟨x, _, I2, r1, q x _ G p⟩
theorem Qws (ha : SE X a fa) : SE X (.UnaryOp .Not a pos) (QvH fa) := λ H0 A0 => by
 intro pins s σ H Q I ⟨ρ, hs, F, r, rel, e, q⟩
 obtain ⟨ra, e1, e⟩ := bind1 e
 obtain ⟨c, e2, e⟩ := bind1 e
 cases e
 refine PyProof.Rows.UnaryOp_ (thn (ha H0 A0 pins s σ H _ I ⟨ρ, hs, F, ra, rel, e1, λ v H' G p => (⟨G, p⟩ : ∃ G, Q6 X.K ρ F H H' ra v G)⟩) λ v s1 ⟨x, H1, I1, r1, G, p⟩ => ?_)
 refine PyProof.Rows.not_of (thn (QiS pins s1 σ H1 x v (λ k H2 => k = c /\ H2 = H1) I1 r1 ⟨c, QkQ p.rp e2, rfl, rfl⟩) λ k s2 ⟨H2, I2, e3, e4⟩ => ?_)
 subst e3 e4
 exact ⟨.bl (!k), _, I2, rfl, q _ _ [] (.flat p.same .Qdd)⟩
noncomputable def QgN (fa : DE) : DE := λ ρ => (fa ρ).bind λ ra => match ra.d with
 | .int i => some ⟨.int (-i), true, []⟩
 | _ => none
theorem QvG (ha : SE X a fa) : SE X (.UnaryOp .USub a pos) (QgN fa) := λ H0 A0 =>
 (Qw9 Qu0 (ha H0 A0)).mono λ σ H Q ⟨ρ, hs, F, r, rel, e, q⟩ => by
  obtain ⟨ra, e1, e⟩ := bind1 e
  refine ⟨ρ, hs, F, ra, rel, e1, λ v H1 G p => ?_⟩
  have rp := p.rp
  cases hr : ra.d with
  | int i =>
   rw [hr] at e rp
   cases e
   exact ⟨i, rp.int_inv, q _ H1 [] (.flat p.same .int_mk)⟩
  | _ => rw [hr] at e; cases e
end
end HS
namespace HS
open PySem PySem.Spec L2
section
variable {K : PySem.W.Frag} {H0 H H' : Hp} {A0 : List Addr} {hs : List (V × D × List Addr)} {ρ ρ' : En} {F : Nat -> List Addr} {σ : L2.St}
def Qcl (ρ ρ' : En) : Prop := ρ'.length = ρ.length /\ ∀ (i : Nat) d b, ρ'[i]? = some (some (d, b)) -> ∃ b', ρ[i]? = some (some (d, b')) /\ (b = true -> b' = true)
theorem Qcl.refl : Qcl ρ ρ := ⟨rfl, λ i d b h => ⟨b, h, id⟩⟩
theorem Qcl.trans {ρ'' : En} (a : Qcl ρ ρ') (b : Qcl ρ' ρ'') : Qcl ρ ρ'' := ⟨b.1.trans a.1, λ i d c h => by
 obtain ⟨c', h1, h2⟩ := b.2 i d c h
 obtain ⟨c'', h3, h4⟩ := a.2 i d c' h1
 exact ⟨c'', h3, λ z => h4 (h2 z)⟩⟩
theorem Rel.weak (r : Rel K H0 A0 hs ρ F σ H) (w : Qcl ρ ρ') : Rel K H0 A0 hs ρ' F σ H where
 len := w.1.trans r.len
 val := λ i d b e => let ⟨b', h, _⟩ := w.2 i d b e; r.val i d b' h
 own := λ i d e => by
  obtain ⟨b', h, hb⟩ := w.2 i d true e
  have : b' = true := hb rfl
  subst this
  obtain ⟨h1, h2, h3, h4, h5⟩ := r.own i d h
  exact ⟨h1, h2, h3, λ j d' b' hj e' => let ⟨b'', h', _⟩ := w.2 j d' b' e'; h4 j d' b'' hj h', h5⟩
 src := λ i d b e => let ⟨b', h, _⟩ := w.2 i d b e; r.src i d b' h
 held := r.held
 same := r.same
noncomputable def kill : List Nat -> En -> En
 | [], ρ => ρ
 | i :: M, ρ => kill M (ρ.set i none)
noncomputable def QaU : List Nat -> En -> En
 | [], ρ => ρ
 | i :: M, ρ => QaU M (match ρ[i]? with
  | some (some (d, _)) => ρ.set i (some (d, false))
  | _ => ρ)
theorem QoY (i : Nat) : Qcl ρ (ρ.set i none) := ⟨by simp, λ j d b h => by
 by_cases hj : i = j
 ·subst hj
  by_cases hl : i < ρ.length
  ·rw [Zz hl] at h; cases h
  ·rw [Zx (by simp; omega)] at h; cases h
 ·rw [Zj hj] at h
  exact ⟨b, h, id⟩⟩
theorem QcB : ∀ (M : List Nat) (ρ : En), Qcl ρ (kill M ρ)
 | [], ρ => .refl
 | i :: M, ρ => (QoY i).trans (QcB M _)
theorem QgJ : ∀ (M : List Nat) (ρ : En) (i : Nat) (d : D) (b : Bool), i ∈ M -> (kill M ρ)[i]? = some (some (d, b)) -> False
 | [], ρ, i, d, b, h, _ => by simp at h
 | j :: M, ρ, i, d, b, h, e => by
  rcases Zr.mp h with rfl | h
  ·obtain ⟨b', e', _⟩ := (QcB M (ρ.set i none)).2 i d b e
   by_cases hl : i < ρ.length
   ·rw [Zz hl] at e'; cases e'
   ·rw [Zx (by simp; omega)] at e'; cases e'
  ·exact QgJ M _ i d b h e
theorem Qse (i : Nat) : Qcl ρ (match ρ[i]? with
  | some (some (d, _)) => ρ.set i (some (d, false))
  | _ => ρ) := by
 split
 ·rename_i d b e
  refine ⟨by simp, λ j d' b' h => ?_⟩
  by_cases hj : i = j
  ·subst hj
   have hl : i < ρ.length := (Zf.mp e).1
   rw [Zz hl] at h
   cases h
   exact ⟨b, e, λ z => by cases z⟩
  ·rw [Zj hj] at h
   exact ⟨b', h, id⟩
 ·exact .refl
theorem Qbv : ∀ (M : List Nat) (ρ : En), Qcl ρ (QaU M ρ)
 | [], ρ => .refl
 | i :: M, ρ => (Qse i).trans (Qbv M _)
theorem Qiz : ∀ (M : List Nat) (ρ : En) (i : Nat) (d : D), i ∈ M -> (QaU M ρ)[i]? = some (some (d, true)) -> False
 | [], ρ, i, d, h, _ => by simp at h
 | j :: M, ρ, i, d, h, e => by
  rcases Zr.mp h with rfl | h
  ·obtain ⟨b', e', hb⟩ := (Qbv M _).2 i d true e
   have : b' = true := hb rfl
   subst this
   split at e'
   ·rename_i d' b e1
    have hl : i < ρ.length := (Zf.mp e1).1
    rw [Zz hl] at e'
    cases e'
   ·rename_i h1
    exact h1 d true e'
  ·exact Qiz M _ i d h e
def Shr (H0 : Hp) (A0 : List Addr) (ρ : En) (F : Nat -> List Addr) (G : List Addr) : Prop :=
 ∀ a ∈ G, (H0 a = none ∨ a ∈ A0) /\ ∀ (i : Nat) d, ρ[i]? = some (some (d, true)) -> a ∉ F i
theorem Shr.of (r : Rel K H0 A0 hs ρ F σ H) {M : List Nat} {G : List Addr} (s : Src ρ F H M G) : Shr H0 A0 (QaU M ρ) F G := λ a ha => by
 have w := Qbv M ρ
 rcases s a ha with h | ⟨i, d, b, e, m, hm⟩
 ·refine ⟨.inl (r.same.free h), λ j d' e' hj => ?_⟩
  obtain ⟨b', e2, _⟩ := w.2 j d' true e'
  obtain ⟨vs, q⟩ := r.mem e2 hj
  rw [h] at q; cases q
 ·refine ⟨r.src i d b e a m, λ j d' e' hj => ?_⟩
  obtain ⟨b', e2, hb⟩ := w.2 j d' true e'
  have : b' = true := hb rfl
  subst this
  by_cases hij : i = j
  ·subst hij
   rw [e] at e2
   cases e2
   exact Qiz M ρ i _ (hm rfl) e'
  ·exact (r.own j d' e2).2.2.2.1 i d b hij e a hj m
theorem Rel.Qre (r : Rel K H0 A0 hs ρ F σ H) {i : Nat} {d : D} {v : V} {G : List Addr} (rp : Rp K H d v G) (sh : Shr H0 A0 ρ F G) :
  Rel K H0 A0 hs (ρ.set i (some (d, d.flat))) (λ j => if j = i then G else F j) (σ.set i (some v)) H where
 len := by simp [r.len]
 val := λ j d' b e => by
  by_cases hj : j = i
  ·subst hj
   have hl : j < ρ.length := by
    by_cases hl : j < ρ.length
    ·exact hl
    ·rw [Zx (by simp; omega)] at e; cases e
   rw [Zz hl] at e
   cases e
   exact ⟨v, by rw [Zz (by rw [← r.len]; exact hl)], by rw [if_pos rfl]; exact rp⟩
  ·rw [Zj (Ne.symm hj)] at e
   obtain ⟨w, h1, h2⟩ := r.val j d' b e
   exact ⟨w, by rw [Zj (Ne.symm hj)]; exact h1, by rw [if_neg hj]; exact h2⟩
 own := λ j d' e => by
  by_cases hj : j = i
  ·subst hj
   have hl : j < ρ.length := by
    by_cases hl : j < ρ.length
    ·exact hl
    ·rw [Zx (by simp; omega)] at e; cases e
   rw [Zz hl] at e
   have e1 := Option.some.inj (Option.some.inj e)
   have ed : d = d' := congrArg Prod.fst e1
   have ef : d.flat = true := congrArg Prod.snd e1
   subst ed
   have := rp.QaY ef
   subst this
   rw [if_pos rfl]
   exact ⟨(Qb4 d ef).symm, Zan, λ a ha => by simp at ha, λ _ _ _ _ _ a ha => by simp at ha, λ _ _ a ha => by simp at ha⟩
  ·rw [Zj (Ne.symm hj)] at e
   obtain ⟨h1, h2, h3, h4, h5⟩ := r.own j d' e
   rw [if_neg hj]
   refine ⟨h1, h2, h3, λ k d'' b hk ek a ha => ?_, h5⟩
   by_cases hki : k = i
   ·subst hki
    rw [if_pos rfl]
    exact λ hG => (sh a hG).2 j d' e ha
   ·rw [Zj (Ne.symm hki)] at ek
    rw [if_neg hki]
    exact h4 k d'' b hk ek a ha
 src := λ j d' b e a ha => by
  by_cases hj : j = i
  ·subst hj
   rw [if_pos rfl] at ha
   exact (sh a ha).1
  ·rw [Zj (Ne.symm hj)] at e
   rw [if_neg hj] at ha
   exact r.src j d' b e a ha
 held := r.held
 same := r.same
theorem QwA (r : Rel K H0 A0 hs ρ F σ H) {M : List Nat} (ow : Qa5 ρ M) (nd : M.Nodup) (a : Addr) : ((M.map F).flatten).count a <= 1 := by
 induction M with
 | nil => simp
 | cons i M ih =>
  rw [Zn, Zak, Zal]
  obtain ⟨h1, h2⟩ := Zad.mp nd
  have ih' := ih (λ j hj => ow j (Zd _ hj)) h2
  obtain ⟨d, e⟩ := ow i Zk
  obtain ⟨_, nd1, _, apart, _⟩ := r.own i d e
  by_cases ha : a ∈ F i
  ·have c1 : (F i).count a <= 1 := ZaC.mp nd1 a
   have c2 : ((M.map F).flatten).count a = 0 := ZV.mpr λ hm => by
    obtain ⟨l, hl, hal⟩ := Zbr.mp hm
    obtain ⟨j, hj, rfl⟩ := ZN.mp hl
    obtain ⟨d', e'⟩ := ow j (Zd _ hj)
    exact apart j d' true (λ z => h1 (z ▸ hj)) e' a ha hal
   omega
  ·have : (F i).count a = 0 := ZV.mpr ha
   omega
theorem Q6.fresh (r : Rel K H0 A0 hs ρ F σ H) {rr : R} {v : V} {G : List Addr} (p : Q6 K ρ F H H' rr v G) (hf : rr.fr = true) (nd : rr.M.Nodup) :
  G.Nodup /\ ∀ a ∈ G, H0 a = none /\ (H a = none ∨ ∃ i d, i ∈ rr.M /\ ρ[i]? = some (some (d, true)) /\ a ∈ F i) := by
 obtain ⟨c, _⟩ := p.cnt hf
 refine ⟨ZaC.mpr λ a => ?_, λ a ha => ?_⟩
 ·have h1 := c a
  have h2 := QwA r p.own nd a
  cases q : H a with
  | none => rw [QaO q, r.fl0 p.own q] at h1; omega
  | some o => rw [QdA q] at h1; omega
 ·cases q : H a with
  | none => exact ⟨r.same.free q, .inl rfl⟩
  | some o =>
   have h1 := c a
   rw [QdA q] at h1
   have h2 : 0 < G.count a := ZaA.mpr ha
   obtain ⟨l, hl, hal⟩ := Zbr.mp (ZaA.mp (by omega : 0 < ((rr.M.map F).flatten).count a))
   obtain ⟨i, hi, rfl⟩ := ZN.mp hl
   obtain ⟨d, e⟩ := p.own i hi
   exact ⟨(r.own i d e).2.2.1 a hal, .inr ⟨i, d, hi, e, hal⟩⟩
theorem Rel.Qyb (r : Rel K H0 A0 hs ρ F σ H) {i : Nat} {rr : R} {v : V} {G : List Addr} (p : Q6 K ρ F H H' rr v G) (hf : rr.fr = true) (nd : rr.M.Nodup) :
  Rel K H0 A0 hs ((kill rr.M ρ).set i (some (rr.d, true))) (λ j => if j = i then G else F j) (σ.set i (some v)) H' := by
 have r1 := (r.ext p.same).weak (QcB rr.M ρ)
 obtain ⟨gn, gs⟩ := p.fresh r hf nd
 have gl := (p.cnt hf).2
 have apart : ∀ (j : Nat) d b, (kill rr.M ρ)[j]? = some (some (d, b)) -> ∀ a ∈ G, a ∉ F j := λ j d b e a ha hj => by
  obtain ⟨b', e', _⟩ := (QcB rr.M ρ).2 j d b e
  rcases (gs a ha).2 with q | ⟨k, d', hk, ek, hak⟩
  ·obtain ⟨vs, w⟩ := r.mem e' hj
   rw [q] at w; cases w
  ·have hjk : j ≠ k := λ z => by subst z; exact QgJ rr.M ρ j d b hk e
   exact (r.own k d' ek).2.2.2.1 j d b' hjk e' a hak hj
 have apartH : ∀ t ∈ hs, ∀ a ∈ G, a ∉ t.2.2 := λ t ht a ha hj => by
  rcases (gs a ha).2 with q | ⟨k, d', hk, ek, hak⟩
  ·obtain ⟨vs, w⟩ := (r.held t ht).1.mem a hj
   rw [q] at w; cases w
  ·exact (r.own k d' ek).2.2.2.2 t ht a hak hj
 have lt : ∀ {j : Nat} {x : Option (D × Bool)} {y : D × Bool}, ((kill rr.M ρ).set j x)[j]? = some (some y) -> j < (kill rr.M ρ).length := λ {j x y} e => by
  by_cases hl : j < (kill rr.M ρ).length
  ·exact hl
  ·rw [Zx (by simp; omega)] at e; cases e
 refine ⟨by simp [r1.len], λ j d b e => ?_, λ j d e => ?_, λ j d b e a ha => ?_, r1.held, r1.same⟩
 ·by_cases hj : j = i
  ·subst hj
   have hl := lt e
   rw [Zz hl] at e
   cases e
   exact ⟨v, by rw [Zz (by rw [← r1.len]; exact hl)], by rw [if_pos rfl]; exact p.rp⟩
  ·rw [Zj (Ne.symm hj)] at e
   obtain ⟨w, h1, h2⟩ := r1.val j d b e
   exact ⟨w, by rw [Zj (Ne.symm hj)]; exact h1, by rw [if_neg hj]; exact h2⟩
 ·by_cases hj : j = i
  ·subst hj
   have hl := lt e
   rw [Zz hl] at e
   cases e
   rw [if_pos rfl]
   refine ⟨gl, gn, λ a ha => (gs a ha).1, λ k d' b hk ek a ha => ?_, apartH⟩
   rw [Zj (Ne.symm hk)] at ek
   rw [if_neg hk]
   exact apart k d' b ek a ha
  ·rw [Zj (Ne.symm hj)] at e
   obtain ⟨h1, h2, h3, h4, h5⟩ := r1.own j d e
   rw [if_neg hj]
   refine ⟨h1, h2, h3, λ k d' b hk ek a ha => ?_, h5⟩
   by_cases hki : k = i
   ·subst hki
    rw [if_pos rfl]
    exact λ hG => apart j d true e a hG ha
   ·rw [Zj (Ne.symm hki)] at ek
    rw [if_neg hki]
    exact h4 k d' b hk ek a ha
 ·by_cases hj : j = i
  ·subst hj
   rw [if_pos rfl] at ha
   exact .inl (gs a ha).1
  ·rw [Zj (Ne.symm hj)] at e
   rw [if_neg hj] at ha
   exact r1.src j d b e a ha
noncomputable def asg (i : Nat) (r : R) (ρ : En) : En :=
 if r.norm.fr && decide r.norm.M.Nodup then (kill r.norm.M ρ).set i (some (r.d, true)) else (QaU r.norm.M ρ).set i (some (r.d, r.d.flat))
theorem Rel.asg (r : Rel K H0 A0 hs ρ F σ H) {i : Nat} {rr : R} {v : V} {G : List Addr} (p : Q6 K ρ F H H' rr v G) : ∃ F', Rel K H0 A0 hs (asg i rr ρ) F' (σ.set i (some v)) H' := by
 have p' := p.norm
 unfold HS.asg
 split
 ·rename_i h
  simp only [Zg, decide_eq_true_eq] at h
  have := r.Qyb (i := i) p' h.1 h.2
  rw [rr.QcU] at this
  exact ⟨_, this⟩
 ·have r1 := (r.ext p'.same).weak (Qbv rr.norm.M ρ)
  have rp := p'.rp
  rw [rr.QcU] at rp
  have sh := Shr.of r p'.src
  exact ⟨_, r1.Qre rp sh⟩
theorem Rel.hold (r : Rel K H0 A0 hs ρ F σ H) {ts : List (V × D × List Addr)} (h : ∀ t ∈ ts, Rp K H t.2.1 t.1 t.2.2 /\ Shr H0 A0 ρ F t.2.2) : Rel K H0 A0 (ts ++ hs) ρ F σ H where
 len := r.len
 val := r.val
 own := λ i d e => by
  obtain ⟨h1, h2, h3, h4, h5⟩ := r.own i d e
  refine ⟨h1, h2, h3, h4, λ t ht a ha hm => ?_⟩
  rcases ZE.mp ht with z | z
  ·exact ((h t z).2 a hm).2 i d e ha
  ·exact h5 t z a ha hm
 src := r.src
 held := λ t ht => by
  rcases ZE.mp ht with z | z
  ·exact ⟨(h t z).1, λ a ha => ((h t z).2 a ha).1⟩
  ·exact r.held t z
 same := r.same
theorem Rel.Qqx {ts : List (V × D × List Addr)} (r : Rel K H0 A0 (ts ++ hs) ρ F σ H) : Rel K H0 A0 hs ρ F σ H where
 len := r.len
 val := r.val
 own := λ i d e => let ⟨h1, h2, h3, h4, h5⟩ := r.own i d e; ⟨h1, h2, h3, h4, λ t ht => h5 t (Ze _ ht)⟩
 src := r.src
 held := λ t ht => r.held t (Ze _ ht)
 same := r.same
end
end HS
namespace HS
open PySem PySem.Spec L2
structure Ret (K : PySem.W.Frag) (H0 : Hp) (A0 : List Addr) (d : D) (fr : Bool) (v : V) (H' : Hp) (G : List Addr) : Prop where
 same : QL H0 H'
 rp : Rp K H' d v G
 src : ∀ a ∈ G, H0 a = none ∨ a ∈ A0
 cnt : fr = true -> G.Nodup /\ G.length = d.nl /\ ∀ a ∈ G, H0 a = none
noncomputable abbrev Den := List D -> Option (D × Bool)
noncomputable def spV (K : PySem.W.Frag) (n : Nat) (den : Den) : Sp := λ vs H Q _ => ∃ ds F d fr, Rps K H ds vs F /\ ds.length = n /\ den ds = some (d, fr) /\ ∀ v H' G, Ret K H F d fr v H' G -> Q v H'
theorem Qt9 {K : PySem.W.Frag} {n : Nat} {den : Den} {ps : List Str} (hn : ps.length = n) : ∀ vs H Q E, spV K n den vs H Q E -> vs.length = ps.length := λ vs H Q E ⟨ds, F, d, fr, r, hl, _⟩ => by rw [hn, ← hl, r.length]
noncomputable def Qw (n : Nat) (den : Den) (dfl : List D) (fs : DA) : DE := λ ρ => (fs ρ).bind λ r => if r.ds.length + dfl.length = n then (den (r.ds ++ dfl)).map λ q => if q.2 = true then ⟨q.1, true, []⟩ else R.norm ⟨q.1, false, r.M⟩ else none
section
variable {X : Cx} {e : Expr} {es : List Expr} {fs : DA} {pos p : Pos} {x : Str} {n k : Nat} {f : Addr} {fd : FuncData} {ps : List Str} {den : Den} {dfl : List D} {dvs : List V} {ds : List Value}
theorem Qkc {σ : L2.St} {H H0 : Hp} {A0 : List Addr} {Q : VK} (hdf : ∀ H, Rps X.K H dfl dvs []) : tV X.K H0 A0 (Qw n den dfl fs) σ H Q -> Qof (spV X.K n den) dvs E0 (tVA X.K H0 A0 fs) σ H Q := λ ⟨ρ, hs, F, r, rel, e, q⟩ => by
 obtain ⟨ra, e1, e⟩ := bind1 e
 split at e
 ·rename_i hl
  obtain ⟨⟨d, fr⟩, e2, e⟩ := Zc.mp e
  refine ⟨ρ, hs, F, ra, rel, e1, λ vs H1 G p1 => ⟨ra.ds ++ dfl, G ++ [], d, fr, p1.rp.append (hdf H1), by rw [Zw]; exact hl, e2, λ v H2 G2 rt => ?_⟩⟩
  subst e
  have src : Src ρ F H ra.M G2 := λ a ha => by
   rcases rt.src a ha with z | z
   ·exact .inl (p1.same.free z)
   ·rw [ZaF] at z
    exact p1.src a z
  split at q
  ·rename_i hf
   have hf : fr = true := hf
   obtain ⟨nd, hn, fresh⟩ := rt.cnt hf
   have hH : ∀ a ∈ G2, H a = none := λ a ha => p1.same.free (fresh a ha)
   refine q v H2 G2 ⟨p1.same.trans rt.same, rt.rp, λ a ha => .inl (hH a ha), λ _ => ⟨λ a => ?_, hn⟩, Qa5.nil⟩
   by_cases ha : a ∈ G2
   ·rw [QaO (hH a ha)]; have := ZaC.mp nd a; omega
   ·rw [ZV.mpr ha]; exact Zag _
  ·refine q v H2 G2 (Q6.norm ⟨p1.same.trans rt.same, rt.rp, src, λ z => (by cases z), p1.own⟩)
 ·cases e
theorem QuE (Fk : QcR X.prog X.w X.K X.mg X.base CX0 k f fd ps (spV X.K n den)) (hr : Qbl k X.A) (hg : Gl X x) (hm : X.mg x = some (.ref f)) (hk : PySem.W.keepIn X.K (.ref f) = true) (hb : Binds X.K fd ps ds) (hd : Qy dvs ds) (hdf : ∀ H, Rps X.K H dfl dvs [])
  (ha : SA X (e :: es) fs) (hdb : (x == ("__debug__" : Str)) = false) (he : starEach (e :: es) X.env = (false, eval e X.env) :: starEach es X.env) (hpl : (backTo pos (starEach es X.env)).any (·.1) = false) :
  SE X (.Call (.Name x p) (e :: es) [] pos) (Qw n den dfl fs) := λ H0 A0 =>
 (QuF Fk hr hg hm hk hb hd QsV (ha H0 A0) hdb he hpl).mono λ σ H Q h => Qkc hdf h
theorem QrI (Fk : QcR X.prog X.w X.K X.mg X.base CX0 k f fd ps (spV X.K n den)) (hr : Qbl k X.A) (hg : Gl X x) (hm : X.mg x = some (.ref f)) (hk : PySem.W.keepIn X.K (.ref f) = true) (hb : Binds X.K fd ps ds) (hd : Qy dvs ds) (hdf : ∀ H, Rps X.K H dfl dvs [])
  (hdb : (x == ("__debug__" : Str)) = false) : SE X (.Call (.Name x p) [] [] pos) (Qw n den dfl Qg) := λ H0 A0 =>
 (QsM Fk hr hg hm hk hb hd QsV hdb).mono λ σ H Q h => by
  have h' := Qkc (X := X) (H0 := H0) (A0 := A0) hdf h
  obtain ⟨ρ, hs, F, r, rel, e, q⟩ := h'
  cases e
  exact q [] H [] ⟨QL.refl _, by simp [Rps], Src.nil, λ _ => ⟨Cnt.nil, rfl⟩, Qa5.nil⟩
end
structure IR where
 items : List D
 M : List Nat
noncomputable abbrev DI := En -> Option IR
def Qjz (K : PySem.W.Frag) (H : Hp) (ts : List (V × D × List Addr)) : Prop := ∀ t ∈ ts, Rp K H t.2.1 t.1 t.2.2
structure Walk (K : PySem.W.Frag) (J : It) (ts : List (V × D × List Addr)) (ds : List D) : Prop where
 stop : ∀ H, Qjz K H ts -> J.stop ds.length H
 go : ∀ i H, i < ds.length -> Qjz K H ts -> J.go i H
 yld : ∀ (i : Nat) d H x H', ds[i]? = some d -> Qjz K H ts -> J.yld i H x H' -> QL H H' /\ ∃ G, Rp K H' d x G /\ ∀ a ∈ G, ∃ t ∈ ts, a ∈ t.2.2
noncomputable def tI (K : PySem.W.Frag) (H0 : Hp) (A0 : List Addr) (f : DI) : TI := λ σ H Rr => ∃ ρ hs F ir, Rel K H0 A0 hs ρ F σ H /\ f ρ = some ir ∧
 ∀ J H1 ts, QL H H1 -> Walk K J ts ir.items -> (∀ t ∈ ts, Rp K H1 t.2.1 t.1 t.2.2 /\ Src ρ F H ir.M t.2.2) -> Qa5 ρ ir.M -> ir.items.length <= sizeLine -> Rr J H1
def SI (X : Cx) (tg e : Expr) (f : DI) : Prop := ∀ H0 A0, PI X tg e (tI X.K H0 A0 f)
theorem _root_.L2.PI.mono {X : Cx} {tg e : Expr} {t t' : TI} (h : PI X tg e t) (m : ∀ σ H Q, t' σ H Q -> t σ H Q) : PI X tg e t' := λ pins s σ H Q I q => h pins s σ H Q I (m σ H Q q)
section
variable {X : Cx} {tg a b : Expr} {fa fb : DE} {fs : DA} {pos p : Pos}
theorem Rps.nth {K : PySem.W.Frag} {H : Hp} {ds : List D} {vs : List V} {F : List Addr} {i : Nat} {d : D} (h : Rps K H ds vs F) (e : ds[i]? = some d) : ∃ v G, vs[i]? = some v /\ Rp K H d v G /\ ∀ a ∈ G, a ∈ F := by
 obtain ⟨v, F1, G, F2, h1, h2, h3, _⟩ := h.get e
 exact ⟨v, G, h1, h3, λ a ha => by rw [h2]; exact Ze _ (Zl _ ha)⟩
noncomputable def Qx5 (K : PySem.W.Frag) (tl : TE) : TI := λ σ H Rr => tl σ H λ x H1 => (∃ a, x = .ref a /\ (∃ xs, SqL K H1 a xs) /\ Rr (Itl K a) H1) ∨ (∃ a, x = .ref a /\ (∃ xs, SqT K H1 a xs) /\ Rr (Itt K a) H1)
theorem Qvs {l : Expr} {tl : TE} (hl : PE X l tl) : PI X tg l (Qx5 X.K tl) := by
 intro pins s σ H Rr I h
 refine thn (hl pins s σ H _ I h) λ v s1 ⟨x, H1, I1, r1, q1⟩ => ?_
 rcases q1 with ⟨a, e, ⟨xs, hq⟩, q⟩ | ⟨a, e, ⟨xs, hq⟩, q⟩
 ·subst e
  cases r1
  obtain ⟨its, rv, pl, hz⟩ := I1.list hq
  refine wpAny_pyIter_list pl.isList ⟨s1.heap.objs.size, [s1.heap.objs.size], _, _, H1, rfl, I1.kept (t' := s1.toks) λ b o e => Zb _ e, Qpk a _, ⟨_, ZA _ rfl, rfl, rfl⟩, λ b hb => ?_, q⟩
  have e : b = s1.heap.objs.size := by simpa using hb
  subst e
  exact I1.Qie (Zm _) (I1.hok.fresh (Zm _))
 ·subst e
  cases r1
  obtain ⟨its, rv, pl, hz⟩ := I1.tuple hq
  refine wpAny_pyIter_tuple (show s1.heap.IsTuple a its.toArray from pl) ⟨s1.heap.objs.size, [s1.heap.objs.size], _, _, H1, rfl, I1.kept (t' := s1.toks) λ b o e => Zb _ e, Qon a _, ⟨_, ZA _ rfl, rfl, rfl⟩, λ b hb => ?_, q⟩
  have e : b = s1.heap.objs.size := by simpa using hb
  subst e
  exact I1.Qie (Zm _) (I1.hok.fresh (Zm _))
noncomputable def Qak (fa : DE) : DI := λ ρ => (fa ρ).bind λ r => match r.d with
 | .lst xs => some ⟨xs, r.M⟩
 | .tup xs => if xs.length <= sizeLine then some ⟨xs, r.M⟩ else none
 | _ => none
theorem QpG {K : PySem.W.Frag} {c : Addr} {ds : List D} {G : List Addr} : Walk K (Itl K c) [(.ref c, .lst ds, G)] ds where
 stop := λ H h => by
  obtain ⟨l, vs, L, e, hl, rl, zl, el⟩ := (h _ (ZD.mpr rfl)).lst_inv
  cases e
  exact ⟨vs, Q3 hl, by rw [rl.length]; exact Zm _⟩
 go := λ i H hi h => by
  obtain ⟨l, vs, L, e, hl, rl, zl, el⟩ := (h _ (ZD.mpr rfl)).lst_inv
  cases e
  have : i < vs.length := by rw [← rl.length]; exact hi
  exact ⟨vs, vs[i], Q3 hl, by simp [this]⟩
 yld := λ i d H x H' e h y => by
  obtain ⟨l, vs, L, e1, hl, rl, zl, el⟩ := (h _ (ZD.mpr rfl)).lst_inv
  cases e1
  obtain ⟨rfl, y⟩ := y
  obtain ⟨v, G', h1, h2, h3⟩ := rl.nth e
  have := y vs (Q3 hl)
  rw [h1] at this
  cases this
  refine ⟨QL.refl _, G', h2, λ z hz => ⟨_, ZD.mpr rfl, ?_⟩⟩
  have := h3 z hz
  rcases el with rfl | rfl
  ·exact Zd _ this
  ·exact this
theorem Qsr {K : PySem.W.Frag} {c : Addr} {ds : List D} {G : List Addr} : Walk K (Itt K c) [(.ref c, .tup ds, G)] ds where
 stop := λ H h => by
  obtain ⟨l, vs, e, hl, rl⟩ := (h _ (ZD.mpr rfl)).QaP
  cases e
  exact ⟨vs, hl, by rw [rl.length]; exact Zm _⟩
 go := λ i H hi h => by
  obtain ⟨l, vs, e, hl, rl⟩ := (h _ (ZD.mpr rfl)).QaP
  cases e
  have : i < vs.length := by rw [← rl.length]; exact hi
  exact ⟨vs, vs[i], hl, by simp [this]⟩
 yld := λ i d H x H' e h y => by
  obtain ⟨l, vs, e1, hl, rl⟩ := (h _ (ZD.mpr rfl)).QaP
  cases e1
  obtain ⟨rfl, y⟩ := y
  obtain ⟨v, G', h1, h2, h3⟩ := rl.nth e
  have := y vs hl
  rw [h1] at this
  cases this
  exact ⟨QL.refl _, G', h2, λ z hz => ⟨_, ZD.mpr rfl, h3 z hz⟩⟩
theorem Qu6 (ha : SE X a fa) : SI X tg a (Qak fa) := λ H0 A0 => (Qvs (ha H0 A0)).mono λ σ H Rr ⟨ρ, hs, F, ir, rel, e, q⟩ => by
 obtain ⟨r, e1, e⟩ := bind1 e
 refine ⟨ρ, hs, F, r, rel, e1, λ v H1 G p => ?_⟩
 have rp := p.rp
 cases hr : r.d with
 | lst xs =>
  rw [hr] at e rp
  cases e
  obtain ⟨c, vs, L, rfl, hl, rl, zl, el⟩ := rp.lst_inv
  refine .inl ⟨c, rfl, ⟨vs, Q3 hl⟩, q _ H1 [(.ref c, .lst xs, G)] p.same QpG (λ t ht => ?_) p.own zl⟩
  rw [ZD.mp ht]
  exact ⟨rp, p.src⟩
 | tup xs =>
  rw [hr] at e rp
  dsimp only at e
  split at e
  ·rename_i hz
   cases e
   obtain ⟨c, vs, rfl, hl, rl⟩ := rp.QaP
   refine .inr ⟨c, rfl, ⟨vs, hl⟩, q _ H1 [(.ref c, .tup xs, G)] p.same Qsr (λ t ht => ?_) p.own hz⟩
   rw [ZD.mp ht]
   exact ⟨rp, p.src⟩
  ·cases e
 | _ => rw [hr] at e; cases e
noncomputable def QgB (lo : Int) (n : Nat) : List D := (List.range n).map λ (k : Nat) => .int (lo + (k : Int))
theorem QfO {lo : Int} {n : Nat} : (QgB lo n).length = n := by simp [QgB]
theorem Qrh {lo : Int} {n i : Nat} {d : D} (h : (QgB lo n)[i]? = some d) : i < n /\ d = .int (lo + i) := by
 unfold QgB at h
 rw [Zo] at h
 cases q : (List.range n)[i]? with
 | none => rw [q] at h; cases h
 | some k =>
  rw [q] at h
  obtain ⟨h1, h2⟩ := Zf.mp q
  simp at h1 h2
  subst h2
  exact ⟨h1, (Option.some.inj h).symm⟩
theorem QiW {K : PySem.W.Frag} {lo : Int} {n : Nat} : Walk K (Itr lo n) [] (QgB lo n) where
 stop := λ H _ => by rw [QfO]; exact Zm _
 go := λ i H hi _ => by rw [QfO] at hi; exact hi
 yld := λ i d H x H' e _ y => by
  obtain ⟨h1, rfl⟩ := Qrh e
  obtain ⟨rfl, rfl⟩ := y
  exact ⟨QL.refl _, [], .int_mk, λ z hz => by simp at hz⟩
noncomputable def Qbc (fa : DE) : DI := λ ρ => (fa ρ).bind λ r => match r.d with
 | .int j => if j <= 16777216 /\ -(2 ^ 62) <= j then some ⟨QgB 0 j.toNat, []⟩ else none
 | _ => none
noncomputable def Qeh (fa fb : DE) : DI := λ ρ => (fa ρ).bind λ r => (fb ρ).bind λ r' => match r.d, r'.d with
 | .int i, .int j => if j - i <= 16777216 /\ -(2 ^ 62) <= i /\ i < 2 ^ 62 /\ -(2 ^ 62) <= j /\ j < 2 ^ 62 then some ⟨QgB i (j - i).toNat, []⟩ else none
 | _, _ => none
theorem Qfs : (sizeLine : Nat) = 16777216 := sizeLine_eq
theorem QqL (hg : Gl X "range") (hm : X.mg "range" = none) (ha : SE X a fa) (hs : starEach [a] X.env = [(false, eval a X.env)]) : SI X tg (.Call (.Name "range" p) [a] [] pos) (Qbc fa) := λ H0 A0 =>
 (QpF hg hm (Q2 (ha H0 A0) Qbh hs) hs).mono λ σ H Rr ⟨ρ, hs, F, ir, rel, e, q⟩ => by
  obtain ⟨r, e1, e⟩ := bind1 e
  refine ⟨ρ, hs, F, r, rel, e1, λ v H1 G pp => ?_⟩
  have rp := pp.rp
  cases hr : r.d with
  | int j =>
   rw [hr] at e rp
   dsimp only at e
   split at e
   ·rename_i hz
    cases e
    rw [rp.int_inv]
    refine ⟨j, rfl, hz.2, by omega, q _ H1 [] pp.same QiW (λ t ht => by simp at ht) Qa5.nil ?_⟩
    rw [QfO, Qfs]; omega
   ·cases e
  | _ => rw [hr] at e; cases e
theorem QpC (hg : Gl X "range") (hm : X.mg "range" = none) (ha : SE X a fa) (hb : SE X b fb) (hs : starEach [a, b] X.env = [(false, eval a X.env), (false, eval b X.env)]) (hs2 : starEach [b] X.env = [(false, eval b X.env)]) :
  SI X tg (.Call (.Name "range" p) [a, b] [] pos) (Qeh fa fb) := λ H0 A0 =>
 (Qqc hg hm (Q2 (ha H0 A0) (Q2 (hb H0 A0) Qbh hs2) (by rw [hs, hs2])) hs hs2).mono λ σ H Rr ⟨ρ, hs, F, ir, rel, e, q⟩ => by
  obtain ⟨r, e1, e⟩ := bind1 e
  obtain ⟨r', e2, e⟩ := bind1 e
  refine ⟨ρ, hs, F, r, rel, e1, λ v H1 G pp => ⟨ρ, hs, F, r', rel.ext pp.same, e2, λ v' H2 G' pp' => ?_⟩⟩
  have rp := pp.rp.same pp'.same
  have rp' := pp'.rp
  cases hr : r.d with
  | int i =>
   cases hr' : r'.d with
   | int j =>
    rw [hr, hr'] at e
    rw [hr] at rp
    rw [hr'] at rp'
    dsimp only at e
    split at e
    ·rename_i hz
     cases e
     rw [rp.int_inv, rp'.int_inv]
     refine ⟨i, j, rfl, hz.2, q _ H2 [] (pp.same.trans pp'.same) QiW (λ t ht => by simp at ht) Qa5.nil ?_⟩
     rw [QfO, Qfs]; omega
    ·cases e
   | _ => rw [hr, hr'] at e; cases e
  | _ => rw [hr] at e; cases e
noncomputable def Qdp (ds : List D) : List D := ds.zipIdx.map λ q => .tup [.int q.2, q.1]
theorem Qgc {ds : List D} : (Qdp ds).length = ds.length := by simp [Qdp]
theorem Qpf {ds : List D} {i : Nat} {d : D} (h : (Qdp ds)[i]? = some d) : ∃ e, ds[i]? = some e /\ d = .tup [.int i, e] := by
 unfold Qdp at h
 rw [Zo, List.getElem?_zipIdx] at h
 cases q : ds[i]? with
 | none => rw [q] at h; cases h
 | some e => rw [q] at h; simp at h; exact ⟨e, rfl, h.symm⟩
theorem Qqr {K : PySem.W.Frag} {c : Addr} {ds : List D} {G : List Addr} : Walk K (Ite K c) [(.ref c, .lst ds, G)] (Qdp ds) where
 stop := λ H h => by
  obtain ⟨l, vs, L, e, hl, rl, zl, el⟩ := (h _ (ZD.mpr rfl)).lst_inv
  cases e
  exact ⟨vs, Q3 hl, by rw [Qgc, rl.length]; exact Zm _⟩
 go := λ i H hi h => by
  obtain ⟨l, vs, L, e, hl, rl, zl, el⟩ := (h _ (ZD.mpr rfl)).lst_inv
  cases e
  rw [Qgc] at hi
  have : i < vs.length := by rw [← rl.length]; exact hi
  exact ⟨vs, vs[i], Q3 hl, by simp [this]⟩
 yld := λ i d H x H' e h y => by
  obtain ⟨l, vs, L, e1, hl, rl, zl, el⟩ := (h _ (ZD.mpr rfl)).lst_inv
  cases e1
  obtain ⟨d', e', rfl⟩ := Qpf e
  obtain ⟨pp, u, rfl, hp, rfl, y⟩ := y
  obtain ⟨v, G', h1, h2, h3⟩ := rl.nth e'
  have := y vs (Q3 hl)
  rw [h1] at this
  cases this
  have s := Qa4 (o := .tup [.int i, u]) hp
  refine ⟨s, G', Rp.Qfl Qar ?_, λ z hz => ⟨_, ZD.mpr rfl, ?_⟩⟩
  ·simp only [Rps]
   exact ⟨.int i, [u], [], G', rfl, rfl, .int_mk, u, [], G', [], rfl, by simp, h2.same s, rfl, rfl⟩
  ·have := h3 z hz
   rcases el with rfl | rfl
   ·exact Zd _ this
   ·exact this
noncomputable def Qem (fa : DE) : DI := λ ρ => (fa ρ).bind λ r => match r.d with
 | .lst xs => some ⟨Qdp xs, r.M⟩
 | _ => none
theorem Qtj {es : List Expr} {tk : Nat} {tpos : Pos} (hg : Gl X "enumerate") (hm : X.mg "enumerate" = none) (ha : SE X a fa) (hs : starEach [a] X.env = [(false, eval a X.env)]) : SI X (.Tuple es tk tpos) (.Call (.Name "enumerate" p) [a] [] pos) (Qem fa) := λ H0 A0 =>
 (Qub hg hm (Q2 (ha H0 A0) Qbh hs) hs).mono λ σ H Rr ⟨ρ, hs, F, ir, rel, e, q⟩ => by
  obtain ⟨r, e1, e⟩ := bind1 e
  refine ⟨ρ, hs, F, r, rel, e1, λ v H1 G pp => ?_⟩
  have rp := pp.rp
  cases hr : r.d with
  | lst xs =>
   rw [hr] at e rp
   cases e
   obtain ⟨c, vs, L, rfl, hl, rl, zl, el⟩ := rp.lst_inv
   refine ⟨c, rfl, ⟨vs, Q3 hl⟩, q _ H1 [(.ref c, .lst xs, G)] pp.same Qqr (λ t ht => ?_) pp.own (by rw [Qgc]; exact zl)⟩
   rw [ZD.mp ht]
   exact ⟨rp, pp.src⟩
  | _ => rw [hr] at e; cases e
noncomputable def Qdf (xs ys : List D) : List D := (xs.zip ys).map λ q => .tup [q.1, q.2]
theorem QhS {xs ys : List D} : (Qdf xs ys).length = min xs.length ys.length := by simp [Qdf]
theorem QrD {xs ys : List D} {i : Nat} {d : D} (h : (Qdf xs ys)[i]? = some d) : ∃ e f, xs[i]? = some e /\ ys[i]? = some f /\ d = .tup [e, f] := by
 unfold Qdf at h
 rw [Zo] at h
 cases q : (xs.zip ys)[i]? with
 | none => rw [q] at h; cases h
 | some e =>
  rw [q] at h
  obtain ⟨h1, h2⟩ := Zaw.mp q
  exact ⟨e.1, e.2, h1, h2, (Option.some.inj h).symm⟩
theorem QrS {K : PySem.W.Frag} {c c' : Addr} {xs ys : List D} {G G' : List Addr} : Walk K (Itz K c c') [(.ref c, .lst xs, G), (.ref c', .lst ys, G')] (Qdf xs ys) where
 stop := λ H h => by
  obtain ⟨l, vs, L, e, hl, rl, zl, el⟩ := (h _ (Zk)).lst_inv
  obtain ⟨l', vs', L', e', hl', rl', zl', el'⟩ := (h _ (Zd _ Zk)).lst_inv
  cases e
  cases e'
  refine ⟨vs, vs', Q3 hl, Q3 hl', ?_⟩
  rw [QhS, ← rl.length, ← rl'.length]; omega
 go := λ i H hi h => by
  obtain ⟨l, vs, L, e, hl, rl, zl, el⟩ := (h _ (Zk)).lst_inv
  obtain ⟨l', vs', L', e', hl', rl', zl', el'⟩ := (h _ (Zd _ Zk)).lst_inv
  cases e
  cases e'
  rw [QhS] at hi
  have h1 : i < vs.length := by rw [← rl.length]; omega
  have h2 : i < vs'.length := by rw [← rl'.length]; omega
  exact ⟨vs, vs', vs[i], vs'[i], Q3 hl, Q3 hl', by simp [h1], by simp [h2]⟩
 yld := λ i d H x H' e h y => by
  obtain ⟨l, vs, L, e1, hl, rl, zl, el⟩ := (h _ (Zk)).lst_inv
  obtain ⟨l', vs', L', e1', hl', rl', zl', el'⟩ := (h _ (Zd _ Zk)).lst_inv
  cases e1
  cases e1'
  obtain ⟨d1, d2, ea, eb, rfl⟩ := QrD e
  obtain ⟨pp, u, u', rfl, hp, rfl, y, y'⟩ := y
  obtain ⟨v, G1, h1, h2, h3⟩ := rl.nth ea
  obtain ⟨v', G2, h1', h2', h3'⟩ := rl'.nth eb
  have := y vs (Q3 hl)
  rw [h1] at this
  cases this
  have := y' vs' (Q3 hl')
  rw [h1'] at this
  cases this
  have s := Qa4 (o := .tup [u, u']) hp
  refine ⟨s, G1 ++ G2, Rp.Qfl Qar ?_, λ z hz => ?_⟩
  ·simp only [Rps]
   exact ⟨u, [u'], G1, G2, rfl, rfl, h2.same s, u', [], G2, [], rfl, by simp, h2'.same s, rfl, rfl⟩
  ·rcases ZE.mp hz with hz | hz
   ·refine ⟨_, Zk, ?_⟩
    have := h3 z hz
    rcases el with rfl | rfl
    ·exact Zd _ this
    ·exact this
   ·refine ⟨_, Zd _ Zk, ?_⟩
    have := h3' z hz
    rcases el' with rfl | rfl
    ·exact Zd _ this
    ·exact this
noncomputable def QaJ (fa fb : DE) : DI := λ ρ => (fa ρ).bind λ r => (fb ρ).bind λ r' => match r.d, r'.d with
 | .lst xs, .lst ys => some ⟨Qdf xs ys, r.M ++ r'.M⟩
 | _, _ => none
theorem Qu4 {es : List Expr} {tk : Nat} {tpos : Pos} (hg : Gl X "zip") (hm : X.mg "zip" = none) (ha : SE X a fa) (hb : SE X b fb) (hs : starEach [a, b] X.env = [(false, eval a X.env), (false, eval b X.env)]) (hs2 : starEach [b] X.env = [(false, eval b X.env)]) :
  SI X (.Tuple es tk tpos) (.Call (.Name "zip" p) [a, b] [] pos) (QaJ fa fb) := λ H0 A0 =>
 (Qvu hg hm (Q2 (ha H0 A0) (Q2 (hb H0 A0) Qbh hs2) (by rw [hs, hs2])) hs hs2).mono λ σ H Rr ⟨ρ, hs, F, ir, rel, e, q⟩ => by
  obtain ⟨r, e1, e⟩ := bind1 e
  obtain ⟨r', e2, e⟩ := bind1 e
  refine ⟨ρ, hs, F, r, rel, e1, λ v H1 G pp => ⟨ρ, hs, F, r', rel.ext pp.same, e2, λ v' H2 G' pp' => ?_⟩⟩
  have rp := pp.rp.same pp'.same
  have rp' := pp'.rp
  cases hr : r.d with
  | lst xs =>
   cases hr' : r'.d with
   | lst ys =>
    rw [hr, hr'] at e
    rw [hr] at rp
    rw [hr'] at rp'
    cases e
    obtain ⟨c, vs, L, rfl, hl, rl, zl, el⟩ := rp.lst_inv
    obtain ⟨c', vs', L', rfl, hl', rl', zl', el'⟩ := rp'.lst_inv
    refine ⟨c, c', rfl, ⟨vs, Q3 hl⟩, ⟨vs', Q3 hl'⟩, q _ H2 [(.ref c, .lst xs, G), (.ref c', .lst ys, G')] (pp.same.trans pp'.same) QrS (λ t ht => ?_) (pp.own.append pp'.own) (by rw [QhS]; omega)⟩
    have sa := pp.src.append pp'.src pp.same
    rcases Zr.mp ht with rfl | ht
    ·exact ⟨rp, λ z hz => sa z (Zl _ hz)⟩
    ·rw [ZD.mp ht]
     exact ⟨rp', λ z hz => sa z (Ze _ hz)⟩
   | _ => rw [hr, hr'] at e; cases e
  | _ => rw [hr] at e; cases e
end
end HS
namespace HS
open PySem L2
noncomputable def QeW (xs ys zs : List D) : List D := (xs.zip (ys.zip zs)).map λ q => .tup [q.1, q.2.1, q.2.2]
theorem Qqu {xs ys zs : List D} {i : Nat} {d : D} (h : (QeW xs ys zs)[i]? = some d) : ∃ e f g, xs[i]? = some e /\ ys[i]? = some f /\ zs[i]? = some g /\ d = .tup [e, f, g] := by
 unfold QeW at h
 rw [Zo] at h
 cases q : (xs.zip (ys.zip zs))[i]? with
 | none => rw [q] at h; cases h
 | some e =>
  rw [q] at h
  obtain ⟨h1, h2⟩ := Zaw.mp q
  obtain ⟨h3, h4⟩ := Zaw.mp h2
  exact ⟨e.1, e.2.1, e.2.2, h1, h3, h4, (Option.some.inj h).symm⟩
theorem Qgx {xs ys zs : List D} (h1 : xs.length = ys.length) (h2 : ys.length = zs.length) : (QeW xs ys zs).length = xs.length := by
 simp [QeW]; omega
theorem QqD {K : PySem.W.Frag} {c c' c'' : Addr} {xs ys zs : List D} {G G' G'' : List Addr} (n1 : xs.length = ys.length) (n2 : ys.length = zs.length) : Walk K (Qrl K c c' c'') [(.ref c, .lst xs, G), (.ref c', .lst ys, G'), (.ref c'', .lst zs, G'')] (QeW xs ys zs) := by
 have inv : ∀ H, Qjz K H [(.ref c, .lst xs, G), (.ref c', .lst ys, G'), (.ref c'', .lst zs, G'')] -> (∃ vs L, SqL K H c vs /\ Rps K H xs vs L /\ ∀ a ∈ L, a ∈ G) /\ (∃ vs L, SqL K H c' vs /\ Rps K H ys vs L /\ ∀ a ∈ L, a ∈ G') /\ ∃ vs L, SqL K H c'' vs /\ Rps K H zs vs L /\ ∀ a ∈ L, a ∈ G'' := λ H h => by
  have one : ∀ {p : Addr} {ds : List D} {G : List Addr}, Rp K H (.lst ds) (.ref p) G -> ∃ vs L, SqL K H p vs /\ Rps K H ds vs L /\ ∀ a ∈ L, a ∈ G := λ {p ds G} r => by
   obtain ⟨l, vs, L, e, hl, rl, zl, el⟩ := r.lst_inv
   cases e
   refine ⟨vs, L, Q3 hl, rl, λ a ha => ?_⟩
   rcases el with rfl | rfl
   ·exact Zd _ ha
   ·exact ha
  exact ⟨one (h _ Zk), one (h _ (Zd _ Zk)), one (h _ (Zd _ (Zd _ Zk)))⟩
 refine ⟨λ H h => ?_, λ i H hi h => ?_, λ i d H x H' e h y => ?_⟩
 ·obtain ⟨⟨vs, L, hl, rl, el⟩, _⟩ := inv H h
  exact ⟨vs, hl, by rw [Qgx n1 n2, ← rl.length]; omega⟩
 ·obtain ⟨⟨vs, L, hl, rl, el⟩, ⟨vs', L', hl', rl', el'⟩, ⟨vs'', L'', hl'', rl'', el''⟩⟩ := inv H h
  rw [Qgx n1 n2] at hi
  have h1 : i < vs.length := by rw [← rl.length]; omega
  have h2 : i < vs'.length := by rw [← rl'.length]; omega
  have h3 : i < vs''.length := by rw [← rl''.length]; omega
  exact ⟨vs, vs', vs'', vs[i], vs'[i], vs''[i], hl, hl', hl'', by simp [h1], by simp [h2], by simp [h3]⟩
 ·obtain ⟨⟨vs, L, hl, rl, el⟩, ⟨vs', L', hl', rl', el'⟩, ⟨vs'', L'', hl'', rl'', el''⟩⟩ := inv H h
  obtain ⟨d1, d2, d3, ea, eb, ec, rfl⟩ := Qqu e
  obtain ⟨pp, u, u', u'', rfl, hp, rfl, y, y', y''⟩ := y
  obtain ⟨v, G1, h1, h2, h3⟩ := rl.nth ea
  obtain ⟨v', G2, h1', h2', h3'⟩ := rl'.nth eb
  obtain ⟨v'', G3, h1'', h2'', h3''⟩ := rl''.nth ec
  have q := y vs hl
  rw [h1] at q
  cases q
  have q := y' vs' hl'
  rw [h1'] at q
  cases q
  have q := y'' vs'' hl''
  rw [h1''] at q
  cases q
  have s := Qa4 (o := .tup [u, u', u'']) hp
  refine ⟨s, G1 ++ (G2 ++ G3), Rp.Qfl Qar ?_, λ z hz => ?_⟩
  ·simp only [Rps]
   exact ⟨u, [u', u''], G1, G2 ++ G3, rfl, rfl, h2.same s, u', [u''], G2, G3, rfl, rfl, h2'.same s, u'', [], G3, [], rfl, by simp, h2''.same s, rfl, rfl⟩
  ·rcases ZE.mp hz with hz | hz
   ·exact ⟨_, Zk, el _ (h3 z hz)⟩
   ·rcases ZE.mp hz with hz | hz
    ·exact ⟨_, Zd _ Zk, el' _ (h3' z hz)⟩
    ·exact ⟨_, Zd _ (Zd _ Zk), el'' _ (h3'' z hz)⟩
noncomputable def Qgb (fa fb fc : DE) : DI := λ ρ => (fa ρ).bind λ r => (fb ρ).bind λ r' => (fc ρ).bind λ r'' => match r.d, r'.d, r''.d with
 | .lst xs, .lst ys, .lst zs => if xs.length = ys.length /\ ys.length = zs.length then some ⟨QeW xs ys zs, r.M ++ (r'.M ++ r''.M)⟩ else none
 | _, _, _ => none
section
variable {X : Cx} {a b c : Expr} {fa fb fc : DE} {pos p : Pos}
theorem QtX {es : List Expr} {tk : Nat} {tpos : Pos} (hg : Gl X "zip") (hm : X.mg "zip" = none) (ha : SE X a fa) (hb : SE X b fb) (hc : SE X c fc) (hs : starEach [a, b, c] X.env = (false, eval a X.env) :: starEach [b, c] X.env) (hs2 : starEach [b, c] X.env = (false, eval b X.env) :: starEach [c] X.env) (hs3 : starEach [c] X.env = [(false, eval c X.env)]) :
  SI X (.Tuple es tk tpos) (.Call (.Name "zip" p) [a, b, c] [] pos) (Qgb fa fb fc) := λ H0 A0 =>
 (Qtr hg hm (Q2 (ha H0 A0) (Q2 (hb H0 A0) (Q2 (hc H0 A0) Qbh hs3) hs2) hs) hs (by rw [hs2, hs3]; rfl)).mono λ σ H Rr ⟨ρ, hs, F, ir, rel, e, q⟩ => by
  obtain ⟨r, e1, e⟩ := bind1 e
  obtain ⟨r', e2, e⟩ := bind1 e
  obtain ⟨r'', e3, e⟩ := bind1 e
  refine ⟨ρ, hs, F, r, rel, e1, λ v H1 G pp => ⟨ρ, hs, F, r', rel.ext pp.same, e2, λ v' H2 G' pp' => ⟨ρ, hs, F, r'', (rel.ext pp.same).ext pp'.same, e3, λ v'' H3 G'' pp'' => ?_⟩⟩⟩
  have rp := (pp.rp.same pp'.same).same pp''.same
  have rp' := pp'.rp.same pp''.same
  have rp'' := pp''.rp
  cases hr : r.d with
  | lst xs =>
   cases hr' : r'.d with
   | lst ys =>
    cases hr'' : r''.d with
    | lst zs =>
     rw [hr, hr', hr''] at e
     rw [hr] at rp
     rw [hr'] at rp'
     rw [hr''] at rp''
     dsimp only at e
     split at e
     ·rename_i hn
      cases e
      obtain ⟨c1, vs, L, rfl, hl, rl, zl, el⟩ := rp.lst_inv
      obtain ⟨c2, vs', L', rfl, hl', rl', zl', el'⟩ := rp'.lst_inv
      obtain ⟨c3, vs'', L'', rfl, hl'', rl'', zl'', el''⟩ := rp''.lst_inv
      refine ⟨c1, c2, c3, rfl, ⟨vs, Q3 hl⟩, ⟨vs', Q3 hl'⟩, ⟨vs'', Q3 hl''⟩, q _ H3 [(.ref c1, .lst xs, G), (.ref c2, .lst ys, G'), (.ref c3, .lst zs, G'')] ((pp.same.trans pp'.same).trans pp''.same) (QqD hn.1 hn.2) (λ t ht => ?_) (pp.own.append (pp'.own.append pp''.own)) (by rw [Qgx hn.1 hn.2]; exact zl)⟩
      have sb := pp'.src.append pp''.src pp'.same
      have sa := pp.src.append sb pp.same
      rcases Zr.mp ht with rfl | ht
      ·exact ⟨rp, λ z hz => sa z (Zl _ hz)⟩
      ·rcases Zr.mp ht with rfl | ht
       ·exact ⟨rp', λ z hz => sa z (Ze _ (Zl _ hz))⟩
       ·rw [ZD.mp ht]
        exact ⟨rp'', λ z hz => sa z (Ze _ (Ze _ hz))⟩
     ·cases e
    | _ => rw [hr, hr', hr''] at e; cases e
   | _ => rw [hr, hr'] at e; cases e
  | _ => rw [hr] at e; cases e
end
end HS
namespace HS
open PySem PySem.Spec L2
inductive Tg where
 | nm (i : Nat)
 | tp (is : List Nat)
noncomputable def Tg.slots : Tg -> List Nat
 | .nm i => [i]
 | .tp is => is
noncomputable def QeM : List Nat -> List D -> En -> En
 | i :: is, d :: ds, ρ => QeM is ds (ρ.set i (some (d, d.flat)))
 | _, _, ρ => ρ
noncomputable def Qcj : Tg -> D -> En -> Option En
 | .nm i, d, ρ => some (ρ.set i (some (d, d.flat)))
 | .tp is, .tup xs, ρ => if xs.length = is.length then some (QeM is xs ρ) else none
 | .tp _, _, _ => none
noncomputable def tG (K : PySem.W.Frag) (H0 : Hp) (A0 : List Addr) (t : Tg) : TG := λ v σ H Q => ∃ ρ hs F d G ρ', Rel K H0 A0 hs ρ F σ H /\ Rp K H d v G /\ Shr H0 A0 ρ F G /\ Qcj t d ρ = some ρ' ∧
 ∀ σ' F', Rel K H0 A0 hs ρ' F' σ' H -> (∀ j, j ∉ t.slots -> σ'[j]? = σ[j]?) -> (∀ j a, a ∈ F' j -> a ∈ F j ∨ a ∈ G) -> Q σ' H
def SG (X : Cx) (tg : Expr) (t : Tg) : Prop := ∀ H0 A0, PG X tg (tG X.K H0 A0 t)
theorem _root_.L2.PG.mono {X : Cx} {tg : Expr} {t t' : TG} (h : PG X tg t) (m : ∀ v σ H Q, t' v σ H Q -> t v σ H Q) : PG X tg t' := λ pins s σ H v u Q I r q => h pins s σ H v u Q I r (m v σ H Q q)
noncomputable def Qij : List Nat -> TGs
 | [] => Qvw
 | i :: is => QsW (Qg7 i) (Qij is)
theorem Shr.set {H0 : Hp} {A0 : List Addr} {ρ : En} {F : Nat -> List Addr} {G G1 : List Addr} {i : Nat} {d : D} (h : Shr H0 A0 ρ F G) (hf : d.flat = true -> G1 = []) : Shr H0 A0 (ρ.set i (some (d, d.flat))) (λ j => if j = i then G1 else F j) G := λ a ha => by
 refine ⟨(h a ha).1, λ j d' e => ?_⟩
 by_cases hj : j = i
 ·subst hj
  show ¬ a ∈ (if j = j then G1 else F j)
  rw [if_pos rfl]
  have hl : j < ρ.length := by
   by_cases hl : j < ρ.length
   ·exact hl
   ·rw [Zx (by simp; omega)] at e; cases e
  rw [Zz hl] at e
  have e1 := Option.some.inj (Option.some.inj e)
  rw [hf (congrArg Prod.snd e1)]
  simp
 ·rw [Zj (Ne.symm hj)] at e
  show ¬ a ∈ (if j = i then G1 else F j)
  rw [if_neg hj]
  exact (h a ha).2 j d' e
theorem Qlz {K : PySem.W.Frag} {H0 : Hp} {A0 : List Addr} {hs : List (V × D × List Addr)} : ∀ (is : List Nat) (ds : List D) (vs : List V) (ρ : En) (F : Nat -> List Addr) (σ : L2.St) (H : Hp) (G : List Addr) (Q : L2.St -> Hp -> Prop),
  Rel K H0 A0 hs ρ F σ H -> Rps K H ds vs G -> Shr H0 A0 ρ F G -> ds.length = is.length →
  (∀ σ' F', Rel K H0 A0 hs (QeM is ds ρ) F' σ' H -> (∀ j, j ∉ is -> σ'[j]? = σ[j]?) -> (∀ j a, a ∈ F' j -> a ∈ F j ∨ a ∈ G) -> Q σ' H) -> Qij is vs σ H Q
 | [], ds, vs, ρ, F, σ, H, G, Q, rel, rp, sh, hl, q => by
  have : ds = [] := by simpa using hl
  subst this
  simp only [Rps] at rp
  exact ⟨rp.1, q σ F rel (λ _ _ => rfl) λ _ _ h => .inl h⟩
 | i :: is, [], vs, ρ, F, σ, H, G, Q, rel, rp, sh, hl, q => by simp at hl
 | i :: is, d :: ds, vs, ρ, F, σ, H, G, Q, rel, rp, sh, hl, q => by
  simp only [Rps] at rp
  obtain ⟨v, ws, G1, G2, rfl, rfl, r1, r2⟩ := rp
  refine ⟨v, ws, rfl, ?_⟩
  have sh1 : Shr H0 A0 ρ F G1 := λ a ha => sh a (Zl _ ha)
  have sh2 : Shr H0 A0 ρ F G2 := λ a ha => sh a (Ze _ ha)
  refine Qlz is ds ws _ _ _ H G2 Q (rel.Qre (i := i) r1 sh1) r2 (sh2.set r1.QaY) (by simpa using hl) λ σ' F' rel' k m => q σ' F' rel' (λ j hj => ?_) λ j a ha => ?_
  ·have h1 : j ≠ i := λ z => hj (by rw [z]; exact Zk)
   rw [k j λ z => hj (Zd _ z), Zj (Ne.symm h1)]
  ·rcases m j a ha with z | z
   ·by_cases hj : j = i
    ·rw [if_pos hj] at z; exact .inr (Zl _ z)
    ·rw [if_neg hj] at z; exact .inl z
   ·exact .inr (Ze _ z)
section
variable {X : Cx} {tg : Expr} {pos : Pos}
theorem Qs4 {i : Nat} {x : Str} (h : PG X (.Name x pos) (Qg7 i)) : SG X (.Name x pos) (.nm i) := λ H0 A0 => h.mono λ v σ H Q ⟨ρ, hs, F, d, G, ρ', rel, rp, sh, e, q⟩ => by
 cases e
 refine q _ _ (rel.Qre (i := i) rp sh) (λ j hj => ?_) λ j a ha => ?_
 ·have : j ≠ i := λ z => hj (by simp [Tg.slots, z])
  rw [Zj (Ne.symm this)]
 ·by_cases hj : j = i
  ·rw [if_pos hj] at ha; exact .inr ha
  ·rw [if_neg hj] at ha; exact .inl ha
theorem QvY {es : List Expr} {k : Nat} {is : List Nat} (hc : X.calm = true) (h : PGs X es (Qij is)) (hn : (assignEach es X.env).length = is.length) (hst : (assignEach es X.env).findIdx? (·.1) = none) : SG X (.Tuple es k pos) (.tp is) := λ H0 A0 =>
 (Qu9 hc h hn hst).mono λ v σ H Q ⟨ρ, hs, F, d, G, ρ', rel, rp, sh, e, q⟩ => by
  cases d with
  | tup xs =>
   simp only [Qcj] at e
   split at e
   ·rename_i hl
    cases e
    obtain ⟨a, vs, rfl, hq, rs⟩ := rp.QaP
    exact ⟨a, vs, rfl, hq, by rw [← rs.length]; exact hl, Qlz is xs vs ρ F σ H G Q rel rs sh hl q⟩
   ·cases e
  | _ => simp only [Qcj] at e; cases e
end
noncomputable def Qd7 (cap : List (Option Nat)) (ρ : En) : En := cap.map λ o => o.bind λ i => match ρ[i]? with
 | some (some (d, _)) => some (d, d.flat)
 | _ => none
noncomputable def QoF (cap : List (Option Nat)) (ρ : En) : List Nat := cap.filterMap λ o => o.bind λ i => match ρ[i]? with
 | some (some (d, b)) => if b && !d.flat then some i else none
 | _ => none
noncomputable def QeP (t : Tg) (ft : DT) (fe : DE) (ρc : En) (acc : List D × Bool) (d : D) : Option (List D × Bool) :=
 (Qcj t d ρc).bind λ ρ1 => (ft ρ1).bind λ c => if c = true then (fe ρ1).map λ r => (acc.1 ++ [r.d], acc.2 && r.norm.fr) else some acc
noncomputable def QX (fi : DI) (t : Tg) (cap : List (Option Nat)) (ft : DT) (fe : DE) : DE := λ ρ => (fi ρ).bind λ ir =>
 (ir.items.foldlM (QeP t ft fe (Qd7 cap ρ)) ([], true)).map λ q => if q.2 = true then ⟨.lst q.1, true, []⟩ else ⟨.lst q.1, false, ir.M ++ QoF cap ρ⟩
def QcE (ρ : En) : Prop := ∀ (j : Nat) d, ρ[j]? = some (some (d, true)) -> d.flat = true
theorem QcE.set {ρ : En} (h : QcE ρ) (i : Nat) (d : D) : QcE (ρ.set i (some (d, d.flat))) := λ j d' e => by
 by_cases hj : j = i
 ·subst hj
  have hl : j < ρ.length := by
   by_cases hl : j < ρ.length
   ·exact hl
   ·rw [Zx (by simp; omega)] at e; cases e
  rw [Zz hl] at e
  have e1 := Option.some.inj (Option.some.inj e)
  have h1 : d = d' := congrArg Prod.fst e1
  have h2 : d.flat = true := congrArg Prod.snd e1
  rw [← h1]; exact h2
 ·rw [Zj (Ne.symm hj)] at e
  exact h j d' e
theorem QcE.QeM : ∀ (is : List Nat) (ds : List D) {ρ : En}, QcE ρ -> QcE (QeM is ds ρ)
 | [], _, _, h => h
 | _ :: _, [], _, h => h
 | i :: is, d :: ds, _, h => QcE.QeM is ds (h.set i d)
theorem QcE.bind {t : Tg} {d : D} {ρ ρ' : En} (h : QcE ρ) (e : Qcj t d ρ = some ρ') : QcE ρ' := by
 cases t with
 | nm i => cases e; exact h.set i d
 | tp is =>
  cases d with
  | tup xs =>
   simp only [Qcj] at e
   split at e
   ·cases e; exact h.QeM is xs
   ·cases e
  | _ => simp only [Qcj] at e; cases e
theorem QhP (cap : List (Option Nat)) (ρ : En) : QcE (Qd7 cap ρ) := λ j d e => by
 unfold Qd7 at e
 rw [Zo] at e
 cases q : cap[j]? with
 | none => rw [q] at e; cases e
 | some o =>
  rw [q] at e
  cases o with
  | none => cases e
  | some i =>
   simp only [ZL, Za, Option.some.injEq] at e
   split at e
   ·have e1 := Option.some.inj e
    have h1 := congrArg Prod.fst e1
    have h2 := congrArg Prod.snd e1
    dsimp only at h1 h2
    rw [← h1]; exact h2
   ·cases e
theorem Qko {cap : List (Option Nat)} {ρ : En} {j : Nat} {d : D} {b : Bool} (e : (Qd7 cap ρ)[j]? = some (some (d, b))) : ∃ i b', cap[j]? = some (some i) /\ ρ[i]? = some (some (d, b')) := by
 unfold Qd7 at e
 rw [Zo] at e
 cases q : cap[j]? with
 | none => rw [q] at e; cases e
 | some o =>
  rw [q] at e
  cases o with
  | none => cases e
  | some i =>
   simp only [ZL, Za, Option.some.injEq] at e
   split at e
   ·rename_i d' b' hi
    have e1 := Option.some.inj e
    have h1 : d' = d := congrArg Prod.fst e1
    subst h1
    exact ⟨i, b', rfl, hi⟩
   ·cases e
def QmA (X : Cx) (ifs : List Expr) (f : DT) : Prop := ∀ H0 A0, PTs X ifs (tVT X.K H0 A0 f)
noncomputable def Q8 : DT := λ _ => some true
theorem QqQ {X : Cx} : QmA X [] Q8 := λ H0 A0 pins s σ H Q I ⟨ρ, hs, F, b, rel, e, q⟩ => by
 cases e
 exact Qtc pins s σ H Q I (q H (QL.refl _))
theorem Qsv {X : Cx} {c : Expr} {f : DT} (h : ST X c f) : QmA X [c] f := λ H0 A0 => Qtd (h H0 A0)
structure QkV (X : Cx) (N' : List Str) (scope : Scope) (cap : List (Option Nat)) (tgs : List Nat) : Prop where
 len : cap.length = N'.length
 get : ∀ (j i : Nat), cap[j]? = some (some i) -> ∃ x, N'[j]? = some x /\ scope.names.lookup x = some .free /\ X.N[i]? = some x /\ (X.env.kindOf x = some .cell ∨ X.env.kindOf x = some .free)
 apart : ∀ (j i : Nat), cap[j]? = some (some i) -> j ∉ tgs
theorem join_some {α : Type} {o : Option (Option α)} {v : α} (h : o.join = some v) : o = some (some v) := by
 cases o with
 | none => cases h
 | some p => cases p with
  | none => cases h
  | some x => exact h ▸ rfl
theorem Qke {X : Cx} {N' : List Str} {scope : Scope} {fi : DI} {t : Tg} {cap : List (Option Nat)} {ft : DT} {fe : DE} {H0 : Hp} {A0 : List Addr} {σ : L2.St} {H : Hp} {Q : VK} (hc : QkV X N' scope cap t.slots) :
  tV X.K H0 A0 (QX fi t cap ft fe) σ H Q -> QkU (tI X.K H0 A0 fi) (Qiq X N' scope) (tG X.K (λ _ => none) [] t) (tVT X.K (λ _ => none) [] ft) (tV X.K (λ _ => none) [] fe) σ H Q := λ ⟨ρ, hs, F, r, rel, e, q⟩ => by
 obtain ⟨ir, e1, e⟩ := bind1 e
 obtain ⟨⟨xs, f⟩, ef, e⟩ := Zc.mp e
 subst e
 refine ⟨ρ, hs, F, ir, rel, e1, λ J H1 ts s1 wk hts ow hz => ?_⟩
 refine ⟨cap.map λ o => o.bind λ i => σ[i]?.join, ⟨by simp [hc.len], λ j x v hN hv => ?_⟩, λ Dl hD => ?_⟩
 ·rw [Zo] at hv
  cases qc : cap[j]? with
  | none => rw [qc] at hv; cases hv
  | some o =>
   rw [qc] at hv
   cases o with
   | none => cases hv
   | some i =>
    simp only [ZL, Za, Option.some.injEq] at hv
    obtain ⟨y, h1, h2, h3, h4⟩ := hc.get j i qc
    rw [hN] at h1; cases h1
    exact ⟨h2, i, h3, join_some hv, h4⟩
 generalize hσc : (cap.map λ o => o.bind λ i => σ[i]?.join) = σc
 generalize hρc : Qd7 cap ρ = ρc at ef
 have hF0 : ∃ Fc : Nat -> List Addr, Fc = λ j => match cap[j]? with
  | some (some i) => (match ρ[i]? with
   | some (some _) => F i
   | _ => [])
  | _ => [] := ⟨_, rfl⟩
 obtain ⟨Fc, hFc⟩ := hF0
 have rel1 := rel.ext s1
 have relC : ∀ H2, QL H1 H2 -> Rel X.K (λ _ => none) [] [] ρc Fc σc H2 := λ H2 s2 => by
  refine ⟨by rw [← hρc, ← hσc]; simp [Qd7], λ j d b e => ?_, λ j d e => ?_, λ j d b e a ha => .inl rfl, λ t ht => (by simp at ht), λ b o z => (by cases z)⟩
  ·rw [← hρc] at e
   obtain ⟨i, b', h1, h2⟩ := Qko e
   obtain ⟨v, h3, h4⟩ := (rel1.ext s2).val i d b' h2
   refine ⟨v, ?_, ?_⟩
   ·rw [← hσc, Zo, h1]
    simp only [ZL, Za, h3, Option.join_some]
   ·rw [hFc]; simp only [h1, h2]; exact h4
  ·have hf : d.flat = true := QhP cap ρ j d (by rw [hρc]; exact e)
   have : Fc j = [] := by
    rw [← hρc] at e
    obtain ⟨i, b', h1, h2⟩ := Qko e
    obtain ⟨v, h3, h4⟩ := rel1.val i d b' h2
    rw [hFc]; simp only [h1, h2]; exact h4.QaY hf
   rw [this]
   exact ⟨(Qb4 d hf).symm, Zan, λ a ha => (by simp at ha), λ _ _ _ _ _ a ha => (by simp at ha), λ t ht => (by simp at ht)⟩
 have shC : ∀ G, Shr (λ _ => none) [] ρc Fc G := λ G a ha => ⟨.inl rfl, λ j d e hj => by
  have h0 := (relC H1 (QL.refl _)).own j d e
  have hf : d.flat = true := QhP cap ρ j d (by rw [hρc]; exact e)
  have : (Fc j).length = 0 := by rw [h0.1, Qb4 d hf]
  rw [Zac this] at hj
  simp at hj⟩
 have hSh : QcE ρc := by rw [← hρc]; exact QhP cap ρ
 have heldOf : ∀ H2, QL H1 H2 -> Qjz X.K H2 ts := λ H2 s2 t ht => (hts t ht).1.same s2
 have oldOf : ∀ a, ((∃ t ∈ ts, a ∈ t.2.2) ∨ ∃ j, a ∈ Fc j) -> (∃ vs, H1 a = some (.lst vs)) /\ (H a = none ∨ ∃ (i : Nat) (d : D) (b : Bool), ρ[i]? = some (some (d, b)) /\ a ∈ F i /\ (b = true -> i ∈ ir.M ++ QoF cap ρ)) := λ a ha => by
  rcases ha with ⟨t, ht, ha⟩ | ⟨j, ha⟩
  ·refine ⟨(hts t ht).1.mem a ha, ?_⟩
   rcases (hts t ht).2 a ha with z | ⟨i, d, b, e, m, w⟩
   ·exact .inl z
   ·exact .inr ⟨i, d, b, e, m, λ hb => Zl _ (w hb)⟩
  ·have ha0 := ha
   rw [hFc] at ha
   dsimp only at ha
   split at ha
   ·rename_i i hi
    split at ha
    ·rename_i db hdb
     obtain ⟨d, b⟩ := db
     obtain ⟨v, h3, h4⟩ := rel1.val i d b hdb
     refine ⟨h4.mem a ha, .inr ⟨i, d, b, hdb, ha, λ hb => Ze _ ?_⟩⟩
     unfold QoF
     refine Zbh.mpr ⟨some i, ZJ hi, ?_⟩
     simp only [Za, hdb]
     have hnf : d.flat = false := by
      cases hf : d.flat with
      | false => rfl
      | true => rw [h4.QaY hf] at ha; simp at ha
     rw [hb, hnf]; rfl
    ·simp at ha
   ·simp at ha
 have fresh5 : ∀ H2, QL H1 H2 -> ∀ a, H2 a = none -> H1 a = none := λ H2 s2 a h => s2.free h
 refine ⟨λ i m acc H2 => m = ir.items.length - i /\ i <= ir.items.length /\ QL H1 H2 /\ H2 Dl = some (.lst acc) /\ ∃ (ys : List D) (g : Bool) (G : List Addr), (ir.items.drop i).foldlM (QeP t ft fe ρc) (ys, g) = some (xs, f) /\ Rps X.K H2 ys acc G /\ ys.length <= i ∧
  (∀ a ∈ G, a ≠ Dl /\ (H1 a = none ∨ (∃ t ∈ ts, a ∈ t.2.2) ∨ ∃ j, a ∈ Fc j)) /\ (g = true -> G.length = nls ys /\ ∀ a, G.count a <= nw H1 a), ⟨ir.items.length, rfl, Zag _, Qa4 hD, Qar, [], true, [], by simpa using ef, by simp [Rps], Zm _, λ a ha => (by simp at ha), λ _ => ⟨rfl, λ a => by simp⟩⟩, ?_⟩
 rintro i m acc H2 ⟨rfl, hi, s2, eD, ys, g, G, hfold, rps, hlen, hG, hcnt⟩
 by_cases hlt : i < ir.items.length
 ·refine .inr ⟨wk.go i H2 hlt (heldOf H2 s2), λ x H3 hy => ?_⟩
  obtain ⟨s3, G0, rp0, hG0⟩ := wk.yld i ir.items[i] H2 x H3 (by simp [hlt]) (heldOf H2 s2) hy
  rw [Zaj hlt, ZbO] at hfold
  obtain ⟨acc1, hstep, hrest⟩ := bind1 hfold
  unfold QeP at hstep
  obtain ⟨ρ1, eb, hstep⟩ := bind1 hstep
  obtain ⟨c, ec, hstep⟩ := bind1 hstep
  have sh1 : QcE ρ1 := hSh.bind eb
  refine ⟨ρc, [], Fc, ir.items[i], G0, ρ1, relC H3 (s2.trans s3), rp0, shC G0, eb, λ σ2 F2 rel2 keep mem2 => ⟨λ j v hv => ?_, ρ1, [], F2, c, rel2, ec, λ H5 s5 => ?_⟩⟩
  ·have hj : j ∉ t.slots := λ hj => by
    rw [← hσc, Zo] at hv
    cases qc : cap[j]? with
    | none => rw [qc] at hv; cases hv
    | some o =>
     cases o with
     | none => rw [qc] at hv; cases hv
     | some k => exact hc.apart j k qc hj
   rw [keep j hj]; exact hv
  have s15 : QL H1 H5 := (s2.trans s3).trans s5
  have eD5 : H5 Dl = some (.lst acc) := s5 _ _ (s3 _ _ eD)
  cases c with
  | false =>
   rw [if_neg Zay] at hstep
   refine Qsb ?_
   cases hstep
   exact ⟨_, by omega, rfl, hlt, s15, eD5, ys, g, G, hrest, rps.same (s3.trans s5), by omega, hG, hcnt⟩
  | true =>
   rw [if_pos rfl] at hstep
   refine QrW ?_
   obtain ⟨rr, er, hstep⟩ := Zc.mp hstep
   subst hstep
   refine ⟨ρ1, [], F2, rr, rel2.ext s5, er, λ y H6 Ge pe => ?_⟩
   have eD6 : H6 Dl = some (.lst acc) := pe.same _ _ eD5
   have s16 := s15.trans pe.same
   refine ⟨eD6, ?_, _, by omega, rfl, hlt, ?_⟩
   ·rw [← rps.length]; exact ZaI hlen (Zv hlt hz)
   have hGe : ∀ a ∈ Ge, a ≠ Dl /\ (H1 a = none ∨ (∃ t ∈ ts, a ∈ t.2.2) ∨ ∃ j, a ∈ Fc j) := λ a ha => by
    rcases pe.src a ha with z | ⟨j, d, b, ej, hj, _⟩
    ·exact ⟨λ w => (by rw [w, eD5] at z; cases z), .inl (s15.free z)⟩
    ·have h1 : (∃ t ∈ ts, a ∈ t.2.2) ∨ ∃ j, a ∈ Fc j := by
      rcases mem2 j a hj with w | w
      ·exact .inr ⟨j, w⟩
      ·exact .inl (hG0 a w)
     obtain ⟨⟨vs, w⟩, _⟩ := oldOf a h1
     exact ⟨λ w' => (by rw [w', hD] at w; cases w), .inr h1⟩
   have nD : Dl ∉ G := λ h => (hG _ h).1 rfl
   have nDe : Dl ∉ Ge := λ h => (hGe _ h).1 rfl
   have sU : QL H1 (L2.upd H6 Dl (.lst (acc ++ [y]))) := λ b o hb => by rw [QR (Qbt hb hD)]; exact s16 b o hb
   refine ⟨sU, Qar, ys ++ [rr.d], g && rr.norm.fr, G ++ Ge, hrest, ?_, by rw [Zw, ZaS]; omega, λ a ha => ?_, λ hg => ?_⟩
   ·refine Rps.append ((rps.same ((s3.trans s5).trans pe.same)).upd eD6 nD) ?_
    simp only [Rps]
    exact ⟨y, [], Ge, [], rfl, by simp, pe.rp.upd eD6 nDe, rfl, rfl⟩
   ·rcases ZE.mp ha with h | h
    ·exact hG a h
    ·exact hGe a h
   ·simp only [Zg] at hg
    obtain ⟨l1, c1⟩ := hcnt hg.1
    have pn := pe.norm
    obtain ⟨c2, l2⟩ := pn.cnt hg.2
    rw [rr.QcU] at l2
    have nlapp : ∀ (as bs : List D), nls (as ++ bs) = nls as + nls bs := λ as bs => by
     induction as with
     | nil => simp [nls]
     | cons a as ih => simp only [Zbq, nls, ih]; omega
    refine ⟨by rw [Zw, l1, l2, nlapp]; simp [nls], λ a => ?_⟩
    have fl : ((rr.norm.M.map F2).flatten).count a = 0 := by
     rw [ZV]
     intro hm
     obtain ⟨l, hl, hal⟩ := Zbr.mp hm
     obtain ⟨j, hj, rfl⟩ := ZN.mp hl
     obtain ⟨d, ej⟩ := pn.own j hj
     have hf := sh1 j d ej
     obtain ⟨v, _, rv⟩ := rel2.val j d true ej
     rw [rv.QaY hf] at hal
     simp at hal
    have h1 := c1 a
    have h2 := c2 a
    rw [fl] at h2
    rw [Zal]
    cases q5 : H5 a with
    | some o => rw [QdA q5] at h2; omega
    | none =>
     rw [QaO q5] at h2
     have h0 : G.count a = 0 := ZV.mpr λ hm => by
      obtain ⟨vs, w⟩ := rps.mem a hm
      rw [s5 _ _ (s3 _ _ w)] at q5; cases q5
     rw [QaO (s15.free q5)]
     omega
 ·have hn : i = ir.items.length := by omega
  subst hn
  refine .inl ⟨wk.stop H2 (heldOf H2 s2), ?_⟩
  rw [List.drop_length] at hfold
  have : (ys, g) = (xs, f) := Option.some.inj hfold
  cases this
  have rp : Rp X.K H2 (.lst xs) (.ref Dl) (Dl :: G) := Rp.QeH eD rps (ZF hlen hz)
  have hHD : H Dl = none := s1.free hD
  split at q
  ·rename_i hg
   have hg : f = true := hg
   obtain ⟨l1, c1⟩ := hcnt hg
   have hn : ∀ a ∈ G, H1 a = none := λ a ha => by
    have := c1 a
    have h2 : 0 < G.count a := ZaA.mpr ha
    cases w : H1 a with
    | none => rfl
    | some o => rw [QdA w] at this; omega
   refine q _ H2 (Dl :: G) ⟨s1.trans s2, rp, λ a ha => ?_, λ _ => ⟨λ a => ?_, by simp only [D.nl, ZI, l1]⟩, Qa5.nil⟩
   ·rcases Zr.mp ha with rfl | h
    ·exact .inl hHD
    ·exact .inl (s1.free (hn a h))
   ·rw [ZaM]
    have h1 := c1 a
    split
    ·rename_i w
     have w : Dl = a := by simpa using w
     subst w
     have h0 : G.count Dl = 0 := ZV.mpr λ h => (hG _ h).1 rfl
     rw [QaO hHD]; omega
    ·cases w : H1 a with
     | none => rw [QaO w] at h1; rw [QaO (s1.free w)]; omega
     | some o => rw [QdA w] at h1; omega
  ·refine q _ H2 (Dl :: G) ⟨s1.trans s2, rp, λ a ha => ?_, λ z => (by cases z), ?_⟩
   ·rcases Zr.mp ha with rfl | h
    ·exact .inl hHD
    ·rcases (hG a h).2 with z | z
     ·exact .inl (s1.free z)
     ·exact (oldOf a z).2
   ·refine ow.append λ i hi => ?_
    unfold QoF at hi
    obtain ⟨o, _, ho⟩ := Zbh.mp hi
    cases o with
    | none => cases ho
    | some k =>
     simp only [Za] at ho
     split at ho
     ·rename_i d b hk
      split at ho
      ·rename_i hb
       cases ho
       simp only [Zg] at hb
       rw [hb.1] at hk
       exact ⟨d, hk⟩
      ·cases ho
     ·cases ho
section
variable {X : Cx} {tg iter elt : Expr} {ifs : List Expr} {scope : Scope} {N' : List Str} {pos : Pos} {fi : DI} {t : Tg} {cap : List (Option Nat)} {ft : DT} {fe : DE}
theorem Qtl (hcalm : X.calm = true) (S : QdU X N' scope) (hi : SI X tg iter fi) (hcap : QkV X N' scope cap t.slots)
  (hin : ∀ cl C fp s3 H3, SG (cxc X N' scope cl C fp s3 H3) tg t /\ QmA (cxc X N' scope cl C fp s3 H3) ifs ft /\ SE (cxc X N' scope cl C fp s3 H3) elt fe) (hs : ∀ x, foldedSetIterable iter X.env x = pure x) :
  SE X (.ListComp elt [⟨tg, iter, ifs, 0⟩] scope pos) (QX fi t cap ft fe) := λ H0 A0 =>
 (Qnv hcalm S (hi H0 A0) (λ cl C fp s3 H3 => ⟨(hin cl C fp s3 H3).1 _ _, (hin cl C fp s3 H3).2.1 _ _, (hin cl C fp s3 H3).2.2 _ _⟩) hs).mono λ σ H Q h => Qke hcap h
end
end HS
namespace HS
open PySem PySem.Spec L2
inductive Out where
 | nx (ρ : En)
 | bk (ρ : En)
 | ct (ρ : En)
 | rt (d : D) (fr : Bool)
noncomputable abbrev DS := En -> Option Out
noncomputable def Fits (K : PySem.W.Frag) (H0 : Hp) (A0 : List Addr) (hs : List (V × D × List Addr)) (E : Ends) : Out -> Prop
 | .nx ρ => ∀ σ H F, Rel K H0 A0 hs ρ F σ H -> E.nx σ H
 | .bk ρ => ∀ σ H F, Rel K H0 A0 hs ρ F σ H -> E.bk σ H
 | .ct ρ => ∀ σ H F, Rel K H0 A0 hs ρ F σ H -> E.ct σ H
 | .rt d fr => ∀ v H G, Ret K H0 A0 d fr v H G -> E.rt v H
noncomputable def tS (K : PySem.W.Frag) (H0 : Hp) (A0 : List Addr) (f : DS) : TS := λ E σ H => ∃ ρ hs F o, Rel K H0 A0 hs ρ F σ H /\ f ρ = some o /\ Fits K H0 A0 hs E o
def S1 (X : Cx) (st : Stmt) (f : DS) : Prop := ∀ H0 A0, PS X st (tS X.K H0 A0 f)
def SS (X : Cx) (sts : List Stmt) (f : DS) : Prop := ∀ H0 A0, PSs X sts (tS X.K H0 A0 f)
theorem _root_.L2.PS.mono {X : Cx} {st : Stmt} {t t' : TS} (h : PS X st t) (m : ∀ D σ H, t' D σ H -> t D σ H) : PS X st t' := λ pins s σ H D I q => h pins s σ H D I (m D σ H q)
theorem _root_.L2.PSs.mono {X : Cx} {st : List Stmt} {t t' : TS} (h : PSs X st t) (m : ∀ D σ H, t' D σ H -> t D σ H) : PSs X st t' := λ pins s σ H D I q => h pins s σ H D I (m D σ H q)
noncomputable def Qn : DS := λ ρ => some (.nx ρ)
noncomputable def Qf (f g : DS) : DS := λ ρ => (f ρ).bind λ o => match o with
 | .nx ρ' => g ρ'
 | .bk ρ' => some (.bk ρ')
 | .ct ρ' => some (.ct ρ')
 | .rt d fr => some (.rt d fr)
noncomputable def Qsp : DS := λ ρ => some (.bk ρ)
noncomputable def QqN : DS := λ ρ => some (.ct ρ)
noncomputable def Qs (i : Nat) (fa : DE) : DS := λ ρ => (fa ρ).bind λ r => some (.nx (asg i r ρ))
noncomputable def QaF (fa : DE) : DE := λ ρ => (fa ρ).map λ r => ⟨r.d, false, r.M⟩
noncomputable def QM (fa : DE) : DS := λ ρ => (fa ρ).bind λ r => some (.rt r.d (r.norm.fr && decide r.norm.M.Nodup))
noncomputable def QoW : DS := λ _ => some (.rt .non true)
noncomputable def Qdk (fa : DE) : DS := λ ρ => (fa ρ).bind λ _ => some (.nx ρ)
noncomputable def sIf (g : DT) (f1 f2 : DS) : DS := λ ρ => (g ρ).bind λ b => if b = true then f1 ρ else f2 ρ
noncomputable def QcW (t : Tg) (fb : DS) : List D -> DS
 | [], ρ => some (.nx ρ)
 | d :: ds, ρ => (Qcj t d ρ).bind λ ρ1 => (fb ρ1).bind λ o => match o with
  | .nx ρ2 => QcW t fb ds ρ2
  | .ct ρ2 => QcW t fb ds ρ2
  | .bk ρ2 => some (.nx ρ2)
  | .rt d fr => some (.rt d fr)
noncomputable def Qa1 (fi : DI) (t : Tg) (fb : DS) : DS := λ ρ => (fi ρ).bind λ ir => QcW t fb ir.items (QaU ir.M ρ)
noncomputable def QaT (g : DT) (fb : DS) : Nat -> DS
 | 0, _ => none
 | n + 1, ρ => (g ρ).bind λ b => if b = true then (fb ρ).bind λ o => match o with
  | .nx ρ2 => QaT g fb n ρ2
  | .ct ρ2 => QaT g fb n ρ2
  | .bk ρ2 => some (.nx ρ2)
  | .rt d fr => some (.rt d fr)
  else some (.nx ρ)
section
variable {X : Cx} {st : Stmt} {sts : List Stmt} {e : Expr} {fa : DE} {f g : DS} {gc : DT} {pos : Pos}
theorem Qv8 : SS X [] Qn := λ H0 A0 => Qth.mono λ E σ H ⟨ρ, hs, F, o, rel, e, q⟩ => by
 cases e
 exact q σ H F rel
theorem Qux (h1 : S1 X st f) (h2 : SS X sts g) : SS X (st :: sts) (Qf f g) := λ H0 A0 => (Qrp (h1 H0 A0) (h2 H0 A0)).mono λ E σ H ⟨ρ, hs, F, o, rel, e, q⟩ => by
 obtain ⟨o1, e1, e⟩ := bind1 e
 refine ⟨ρ, hs, F, o1, rel, e1, ?_⟩
 cases o1 with
 | nx ρ' => exact λ σ' H' F' rel' => ⟨ρ', hs, F', o, rel', e, q⟩
 | bk ρ' => cases e; exact q
 | ct ρ' => cases e; exact q
 | rt d fr => cases e; exact q
theorem Qt7 : S1 X (.Pass pos) Qn := λ H0 A0 => Qte.mono λ E σ H ⟨ρ, hs, F, o, rel, e, q⟩ => by
 cases e
 exact q σ H F rel
theorem QqO : S1 X (.Break pos) Qsp := λ H0 A0 => Qrc.mono λ E σ H ⟨ρ, hs, F, o, rel, e, q⟩ => by
 cases e
 exact q σ H F rel
theorem Quz : S1 X (.Continue pos) QqN := λ H0 A0 => Qm9.mono λ E σ H ⟨ρ, hs, F, o, rel, e, q⟩ => by
 cases e
 exact q σ H F rel
theorem QqR (h : SE X e fa) : SE X e (QaF fa) := λ H0 A0 => (h H0 A0).mono λ σ H Q ⟨ρ, hs, F, r, rel, e, q⟩ => by
 obtain ⟨r', e1, rfl⟩ := Zc.mp e
 exact ⟨ρ, hs, F, r', rel, e1, λ v H' G p => q v H' G ⟨p.same, p.rp, p.src, λ z => (by cases z), p.own⟩⟩
theorem QlQ {i : Nat} (h : ∀ H0 A0, PS X st (Qla (tV X.K H0 A0 fa) (Qg7 i))) : S1 X st (Qs i fa) := λ H0 A0 => (h H0 A0).mono λ E σ H ⟨ρ, hs, F, o, rel, e, q⟩ => by
 obtain ⟨r, e1, e⟩ := bind1 e
 cases e
 refine ⟨ρ, hs, F, r, rel, e1, λ v H' G p => ?_⟩
 obtain ⟨F', rel'⟩ := rel.asg (i := i) p
 exact q _ _ F' rel'
theorem QuD (h : PS X st (QfB (tV X.K H0 A0 fa))) : PS X st (tS X.K H0 A0 (Qdk fa)) := h.mono λ E σ H ⟨ρ, hs, F, o, rel, e, q⟩ => by
 obtain ⟨r, e1, e⟩ := bind1 e
 cases e
 exact ⟨ρ, hs, F, r, rel, e1, λ v H' G p => q σ H' F (rel.ext p.same)⟩
theorem Rel.ret {K : PySem.W.Frag} {H0 H H' : Hp} {A0 : List Addr} {hs : List (V × D × List Addr)} {ρ : En} {F : Nat -> List Addr} {σ : L2.St} (rel : Rel K H0 A0 hs ρ F σ H) {r : R} {v : V} {G : List Addr} (p : Q6 K ρ F H H' r v G) : Ret K H0 A0 r.d (r.norm.fr && decide r.norm.M.Nodup) v H' G where
 same := rel.same.trans p.same
 rp := p.rp
 src := λ a ha => by
  rcases p.src a ha with z | ⟨i, d, b, e, m, _⟩
  ·exact .inl (rel.same.free z)
  ·exact rel.src i d b e a m
 cnt := λ h => by
  simp only [Zg, decide_eq_true_eq] at h
  have p' := p.norm
  obtain ⟨h1, h2⟩ := p'.fresh rel h.1 h.2
  have h3 := (p'.cnt h.1).2
  rw [r.QcU] at h3
  exact ⟨h1, h3, λ a ha => (h2 a ha).1⟩
theorem QvI (he : SE X e fa) : S1 X (.Return (some e) pos) (QM fa) := λ H0 A0 => (Qwf (he H0 A0)).mono λ E σ H ⟨ρ, hs, F, o, rel, e, q⟩ => by
 obtain ⟨r, e1, e⟩ := bind1 e
 cases e
 exact ⟨ρ, hs, F, r, rel, e1, λ v H' G p => q v H' G (rel.ret p)⟩
theorem Qts : S1 X (.Return none pos) QoW := λ H0 A0 => Qtx.mono λ E σ H ⟨ρ, hs, F, o, rel, e, q⟩ => by
 cases e
 exact q .non H [] ⟨rel.same, .QiF, λ a ha => (by simp at ha), λ _ => ⟨Zan, rfl, λ a ha => (by simp at ha)⟩⟩
theorem Qxm {c : Expr} {a b : List Stmt} (hc : ST X c gc) (ha : SS X a f) (hb : SS X b g) : S1 X (.If c a b pos) (sIf gc f g) := λ H0 A0 => (QwP (hc H0 A0) (ha H0 A0) (hb H0 A0)).mono λ E σ H ⟨ρ, hs, F, o, rel, e, q⟩ => by
 obtain ⟨c, e1, e⟩ := bind1 e
 refine ⟨ρ, hs, F, c, rel, e1, λ H1 s1 => ?_⟩
 cases c with
 | true => exact QrW ⟨ρ, hs, F, o, rel.ext s1, e, q⟩
 | false => exact Qsb ⟨ρ, hs, F, o, rel.ext s1, e, q⟩
theorem Qwl {tg iter : Expr} {body : List Stmt} {fi : DI} {t : Tg} (hp : PassesOwn (model X.prog X.w) X.A X.env X.xe) (hc : X.calm = true) (hi : SI X tg iter fi) (hg : SG X tg t) (hb : SS X body f) (hs : ∀ x, foldedSetIterable iter X.env x = pure x) :
  S1 X (.For tg iter body [] pos) (Qa1 fi t f) := λ H0 A0 => (Qwr hp hc (hi H0 A0) (hg H0 A0) (hb H0 A0) hs).mono λ E σ H ⟨ρ, hs, F, o, rel, e, q⟩ => by
 obtain ⟨ir, e1, e⟩ := bind1 e
 refine ⟨ρ, hs, F, ir, rel, e1, λ J H1 ts s1 wk hts ow hz => ?_⟩
 have rel1 : Rel X.K H0 A0 (ts ++ hs) (QaU ir.M ρ) F σ H1 := ((rel.ext s1).weak (Qbv ir.M ρ)).hold λ t ht => ⟨(hts t ht).1, Shr.of rel (hts t ht).2⟩
 refine ⟨λ i m σ' H' => m = ir.items.length - i /\ i <= ir.items.length /\ ∃ ρi Fi, Rel X.K H0 A0 (ts ++ hs) ρi Fi σ' H' /\ QcW t f (ir.items.drop i) ρi = some o, ⟨_, rfl, Zag _, _, F, rel1, by simpa using e⟩, ?_⟩
 rintro i m σ' H' ⟨rfl, hi', ρi, Fi, reli, ei⟩
 have held : Qjz X.K H' ts := λ t ht => (reli.held t (Zl _ ht)).1
 by_cases hlt : i < ir.items.length
 ·rw [Zaj hlt] at ei
  unfold QcW at ei
  obtain ⟨ρ1, eb, ei⟩ := bind1 ei
  obtain ⟨o1, eo, ei⟩ := bind1 ei
  refine .inr ⟨wk.go i H' hlt held, λ σ2 H2 => ∃ ρ2 F2, Rel X.K H0 A0 (ts ++ hs) ρ2 F2 σ2 H2 /\ QcW t f (ir.items.drop (i + 1)) ρ2 = some o, λ σ2 H2 ⟨ρ2, F2, rel2, e2⟩ => ⟨_, by omega, rfl, hlt, ρ2, F2, rel2, e2⟩, λ x H2 hy => ?_⟩
  obtain ⟨s2, G0, rp0, hG0⟩ := wk.yld i ir.items[i] H' x H2 (by simp [hlt]) held hy
  have shr : Shr H0 A0 ρi Fi G0 := λ a ha => by
   obtain ⟨t, ht, hat⟩ := hG0 a ha
   exact ⟨(reli.held t (Zl _ ht)).2 a hat, λ j d ej hj => (reli.own j d ej).2.2.2.2 t (Zl _ ht) a hj hat⟩
  refine ⟨ρi, ts ++ hs, Fi, ir.items[i], G0, ρ1, reli.ext s2, rp0, shr, eb, λ σ3 F3 rel3 _ _ => ⟨ρ1, ts ++ hs, F3, o1, rel3, eo, ?_⟩⟩
  cases o1 with
  | nx ρ2 => exact λ σ4 H4 F4 rel4 => ⟨ρ2, F4, rel4, ei⟩
  | ct ρ2 => exact λ σ4 H4 F4 rel4 => ⟨ρ2, F4, rel4, ei⟩
  | bk ρ2 => cases ei; exact λ σ4 H4 F4 rel4 => q σ4 H4 F4 rel4.Qqx
  | rt d fr => cases ei; exact q
 ·have hn : i = ir.items.length := by omega
  subst hn
  rw [List.drop_length] at ei
  cases ei
  exact .inl ⟨wk.stop H' held, q σ' H' Fi reli.Qqx⟩
theorem QrR {c : Expr} {body : List Stmt} {n : Nat} (hp : PassesOwn (model X.prog X.w) X.A X.env X.xe) (hc : ST X c gc) (hb : SS X body f) : S1 X (.While c body [] pos) (QaT gc f n) := λ H0 A0 => (Qr2 hp (hc H0 A0) (hb H0 A0)).mono λ E σ H ⟨ρ, hs, F, o, rel, e, q⟩ => by
 refine ⟨λ m σ' H' => ∃ ρi Fi, Rel X.K H0 A0 hs ρi Fi σ' H' /\ QaT gc f m ρi = some o, ⟨n, ρ, F, rel, e⟩, ?_⟩
 rintro m σ' H' ⟨ρi, Fi, reli, ei⟩
 cases m with
 | zero => cases ei
 | succ m =>
  unfold QaT at ei
  obtain ⟨b, eb, ei⟩ := bind1 ei
  refine ⟨ρi, hs, Fi, b, reli, eb, λ H1 s1 => ?_⟩
  cases b with
  | false =>
   rw [if_neg Zay] at ei
   cases ei
   exact Qsb (q σ' H1 Fi (reli.ext s1))
  | true =>
   rw [if_pos rfl] at ei
   obtain ⟨o1, eo, ei⟩ := bind1 ei
   refine QrW ⟨λ σ2 H2 => ∃ ρ2 F2, Rel X.K H0 A0 hs ρ2 F2 σ2 H2 /\ QaT gc f m ρ2 = some o, λ σ2 H2 h => ⟨m, ZaO _, h⟩, ρi, hs, Fi, o1, reli.ext s1, eo, ?_⟩
   cases o1 with
   | nx ρ2 => exact λ σ4 H4 F4 rel4 => ⟨ρ2, F4, rel4, ei⟩
   | ct ρ2 => exact λ σ4 H4 F4 rel4 => ⟨ρ2, F4, rel4, ei⟩
   | bk ρ2 => cases ei; exact λ σ4 H4 F4 rel4 => q σ4 H4 F4 rel4
   | rt d fr => cases ei; exact q
end
end HS
namespace HS
open PySem PySem.Spec L2
section
variable {K : PySem.W.Frag} {H H' : Hp}
theorem Rps.split : ∀ {ds : List D} {vs : List V} {F : List Addr} {j : Nat} {d : D}, Rps K H ds vs F -> ds[j]? = some d →
  ∃ F1 G F2 v, F = F1 ++ (G ++ F2) /\ vs[j]? = some v /\ Rps K H (ds.take j) (vs.take j) F1 /\ Rp K H d v G /\ Rps K H (ds.drop (j + 1)) (vs.drop (j + 1)) F2
 | [], _, _, _, _, _, e => by simp at e
 | d :: ds, _, _, 0, _, h, e => by
  simp only [Rps] at h
  obtain ⟨v, ws, F1, F2, rfl, rfl, r, q⟩ := h
  simp at e; subst e
  exact ⟨[], F1, F2, v, rfl, by simp, by simp [Rps], r, by simpa using q⟩
 | d :: ds, _, _, j + 1, _, h, e => by
  simp only [Rps] at h
  obtain ⟨v, ws, F1, F2, rfl, rfl, r, q⟩ := h
  obtain ⟨G1, G, G2, v', h1, h2, h3, h4, h5⟩ := Rps.split q (j := j) (by simpa using e)
  refine ⟨F1 ++ G1, G, G2, v', by rw [h1, ZaU], by simpa using h2, ?_, h4, by simpa using h5⟩
  simp only [Zbz, Rps]
  exact ⟨v, _, F1, G1, rfl, rfl, r, h3⟩
theorem Rps.join {ds : List D} {vs : List V} {F1 G F2 : List Addr} {j : Nat} {d : D} {v : V} (h1 : Rps K H (ds.take j) (vs.take j) F1) (hd : Rp K H d v G) (h2 : Rps K H (ds.drop (j + 1)) (vs.drop (j + 1)) F2) (hj : j < ds.length) (hv : vs[j]? = some v) :
  Rps K H (ds.set j d) vs (F1 ++ (G ++ F2)) := by
 have e1 : ds.set j d = ds.take j ++ d :: ds.drop (j + 1) := ZaL .. |>.trans (by rw [if_pos hj])
 have hjv : j < vs.length := (Zf.mp hv).1
 have hve : vs[j] = v := (Zf.mp hv).2
 have e2 : vs = vs.take j ++ v :: vs.drop (j + 1) := by
  rw [← hve, ← Zaj hjv, ZaK]
 rw [e1, e2]
 refine h1.append ?_
 simp only [Rps]
 refine ⟨v, _, G, F2, rfl, rfl, hd, h2⟩
theorem Rps.QsS {ds : List D} {vs : List V} {F1 G F2 : List Addr} {j : Nat} {d : D} {v : V} (h1 : Rps K H (ds.take j) (vs.take j) F1) (hd : Rp K H d v G) (h2 : Rps K H (ds.drop (j + 1)) (vs.drop (j + 1)) F2) (hj : j < ds.length) (hv : j < vs.length) :
  Rps K H (ds.set j d) (vs.set j v) (F1 ++ (G ++ F2)) := by
 have e1 : ds.set j d = ds.take j ++ d :: ds.drop (j + 1) := ZaL .. |>.trans (by rw [if_pos hj])
 have e2 : vs.set j v = vs.take j ++ v :: vs.drop (j + 1) := ZaL .. |>.trans (by rw [if_pos hv])
 rw [e1, e2]
 refine h1.append ?_
 simp only [Rps]
 exact ⟨v, _, G, F2, rfl, rfl, hd, h2⟩
noncomputable def Focus (K : PySem.W.Frag) (H : Hp) : List Int -> D -> V -> List Addr -> D -> V -> List Addr -> Prop
 | [], d, v, F, dm, w, Gm => dm = d /\ w = v /\ Gm = F /\ Rp K H d v F
 | i :: is, d, v, F, dm, w, Gm => ∃ (ds : List D) (a : Addr) (vs : List V) (j : Nat) (F1 G F2 : List Addr) (d' : D) (v' : V), v = .ref a /\ ixN ds.length i = some j ∧
   ((d = .lst ds /\ ds.length <= sizeLine /\ ((F = a :: (F1 ++ (G ++ F2)) /\ H a = some (.lst vs)) ∨ (F = F1 ++ (G ++ F2) /\ Fix K H a vs))) ∨ (d = .tup ds /\ F = F1 ++ (G ++ F2) /\ SqT K H a vs)) ∧
   Rps K H (ds.take j) (vs.take j) F1 /\ Rps K H (ds.drop (j + 1)) (vs.drop (j + 1)) F2 /\ ds[j]? = some d' /\ vs[j]? = some v' /\ ds.length = vs.length /\ Focus K H is d' v' G dm w Gm
theorem Focus.same (s : QL H H') : ∀ {is : List Int} {d : D} {v : V} {F : List Addr} {dm : D} {w : V} {Gm : List Addr}, Focus K H is d v F dm w Gm -> Focus K H' is d v F dm w Gm
 | [], _, _, _, _, _, _, h => ⟨h.1, h.2.1, h.2.2.1, h.2.2.2.same s⟩
 | i :: is, _, _, _, _, _, _, h => by
  obtain ⟨ds, a, vs, j, F1, G, F2, d', v', h1, h2, h3, h4, h5, h6, h7, h8, h9⟩ := h
  refine ⟨ds, a, vs, j, F1, G, F2, d', v', h1, h2, ?_, h4.same s, h5.same s, h6, h7, h8, h9.same s⟩
  rcases h3 with ⟨e, z, q⟩ | ⟨e, eF, q⟩
  ·refine .inl ⟨e, z, ?_⟩
   rcases q with ⟨eF, q⟩ | ⟨eF, q⟩
   ·exact .inl ⟨eF, s _ _ q⟩
   ·exact .inr ⟨eF, Qmp s q⟩
  ·exact .inr ⟨e, eF, Qlg s q⟩
theorem Focus.rp : ∀ {is : List Int} {d : D} {v : V} {F : List Addr} {dm : D} {w : V} {Gm : List Addr}, Focus K H is d v F dm w Gm -> Rp K H dm w Gm
 | [], _, _, _, _, _, _, h => by
  obtain ⟨rfl, rfl, rfl, r⟩ := h
  exact r
 | i :: is, _, _, _, _, _, _, h => by
  obtain ⟨ds, a, vs, j, F1, G, F2, d', v', h1, h2, h3, h4, h5, h6, h7, h8, h9⟩ := h
  exact h9.rp
theorem Focus.Qo6 : ∀ {is : List Int} {d : D} {v : V} {F : List Addr} {dm : D} {w : V} {Gm : List Addr}, Focus K H is d v F dm w Gm -> Rp K H d v F
 | [], _, _, _, _, _, _, h => h.2.2.2
 | i :: is, _, _, _, _, _, _, h => by
  obtain ⟨ds, a, vs, j, F1, G, F2, d', v', rfl, h2, h3, h4, h5, h6, h7, h8, h9⟩ := h
  have hjl : j < ds.length := (Zf.mp h6).1
  have hdj : ds[j] = d' := (Zf.mp h6).2
  have j1 := Rps.join h4 h9.Qo6 h5 hjl h7
  rw [show ds.set j d' = ds by rw [← hdj]; exact List.set_getElem_self hjl] at j1
  rcases h3 with ⟨rfl, hz, ⟨rfl, q⟩ | ⟨rfl, q⟩⟩ | ⟨rfl, rfl, q⟩
  ·exact Rp.QeH q j1 hz
  ·simp only [Rp]
   exact ⟨hz, a, vs, rfl, .inr ⟨q, j1⟩⟩
  ·simp only [Rp]
   exact ⟨a, vs, rfl, q, j1⟩
theorem Focus.one {d : D} {v : V} {F : List Addr} {ds : List D} {i : Int} {d' : D} (r : Rp K H d v F) (hd : d.items = some ds) (hi : atI ds i = some d') :
  ∃ a vs v' G, v = .ref a /\ ((d = .lst ds /\ SqL K H a vs) ∨ (d = .tup ds /\ SqT K H a vs)) /\ atI vs i = some v' /\ Focus K H [i] d v F d' v' G := by
 unfold atI at hi
 cases hj : ixN ds.length i with
 | none => rw [hj] at hi; cases hi
 | some j =>
  rw [hj] at hi
  have hdj : ds[j]? = some d' := hi
  have fin : ∀ (vs : List V) (L : List Addr), Rps K H ds vs L -> ∃ v' G F1 F2, L = F1 ++ (G ++ F2) /\ vs[j]? = some v' /\ atI vs i = some v' /\ Rps K H (ds.take j) (vs.take j) F1 /\ Rp K H d' v' G /\ Rps K H (ds.drop (j + 1)) (vs.drop (j + 1)) F2 /\ ds.length = vs.length := λ vs L rl => by
   obtain ⟨F1, G, F2, v', h1, h2, h3, h4, h5⟩ := rl.split hdj
   refine ⟨v', G, F1, F2, h1, h2, ?_, h3, h4, h5, rl.length⟩
   unfold atI
   rw [← rl.length, hj]
   exact h2
  cases d with
  | lst xs =>
   cases hd
   simp only [Rp] at r
   obtain ⟨hz, a, vs, rfl, ⟨L, rfl, q, rl⟩ | ⟨q, rl⟩⟩ := r
   ·obtain ⟨v', G, F1, F2, h1, h2, h3, h4, h5, h6, h7⟩ := fin vs L rl
    exact ⟨a, vs, v', G, rfl, .inl ⟨rfl, SqL.of q⟩, h3, ds, a, vs, j, F1, G, F2, d', v', rfl, hj, .inl ⟨rfl, hz, .inl ⟨by rw [h1], q⟩⟩, h4, h6, hdj, h2, h7, rfl, rfl, rfl, h5⟩
   ·obtain ⟨v', G, F1, F2, h1, h2, h3, h4, h5, h6, h7⟩ := fin vs _ rl
    exact ⟨a, vs, v', G, rfl, .inl ⟨rfl, q.sq⟩, h3, ds, a, vs, j, F1, G, F2, d', v', rfl, hj, .inl ⟨rfl, hz, .inr ⟨h1, q⟩⟩, h4, h6, hdj, h2, h7, rfl, rfl, rfl, h5⟩
  | tup xs =>
   cases hd
   obtain ⟨a, vs, rfl, q, rl⟩ := r.QaP
   obtain ⟨v', G, F1, F2, h1, h2, h3, h4, h5, h6, h7⟩ := fin vs _ rl
   exact ⟨a, vs, v', G, rfl, .inr ⟨rfl, q⟩, h3, ds, a, vs, j, F1, G, F2, d', v', rfl, hj, .inr ⟨rfl, h1, q⟩, h4, h6, hdj, h2, h7, rfl, rfl, rfl, h5⟩
  | _ => cases hd
theorem Focus.snoc : ∀ {is : List Int} {d : D} {v : V} {F : List Addr} {dm : D} {w : V} {Gm : List Addr} {i : Int} {d' : D} {v' : V} {G : List Addr}, Focus K H is d v F dm w Gm -> Focus K H [i] dm w Gm d' v' G -> Focus K H (is ++ [i]) d v F d' v' G
 | [], _, _, _, _, _, _, _, _, _, _, h, g => by
  obtain ⟨rfl, rfl, rfl, r⟩ := h
  exact g
 | k :: is, _, _, _, _, _, _, _, _, _, _, h, g => by
  obtain ⟨ds, a, vs, j, F1, G, F2, d', v', h1, h2, h3, h4, h5, h6, h7, h8, h9⟩ := h
  exact ⟨ds, a, vs, j, F1, G, F2, d', v', h1, h2, h3, h4, h5, h6, h7, h8, h9.snoc g⟩
noncomputable def Qa8 : D -> List Int -> Option D
 | d, [] => some d
 | d, i :: is => (d.items).bind λ ds => (atI ds i).bind λ d' => Qa8 d' is
theorem QiD : ∀ {is : List Int} {d : D} {i : Int} {d' : D}, Qa8 d (is ++ [i]) = some d' -> ∃ dm ds, Qa8 d is = some dm /\ dm.items = some ds /\ atI ds i = some d'
 | [], d, i, d', h => by
  obtain ⟨ds, h1, h⟩ := bind1 h
  obtain ⟨d'', h2, h⟩ := bind1 h
  cases h
  exact ⟨d, ds, rfl, h1, h2⟩
 | k :: is, d, i, d', h => by
  obtain ⟨ds, h1, h⟩ := bind1 h
  obtain ⟨d'', h2, h⟩ := bind1 h
  obtain ⟨dm, es, h3, h4, h5⟩ := QiD h
  refine ⟨dm, es, ?_, h4, h5⟩
  simp only [Qa8, h1, h2, Za, h3]
noncomputable def QaI : List Int -> D -> D -> D
 | [], _, new => new
 | i :: is, .lst ds, new => match ixN ds.length i with
  | some j => .lst (ds.set j (QaI is (ds.getD j .non) new))
  | none => .lst ds
 | i :: is, .tup ds, new => match ixN ds.length i with
  | some j => .tup (ds.set j (QaI is (ds.getD j .non) new))
  | none => .tup ds
 | _ :: _, d, _ => d
theorem Qhg : ∀ {ds : List D} {j : Nat} {d e : D}, ds[j]? = some d -> nls (ds.set j e) + d.nl = nls ds + e.nl
 | [], _, _, _, h => by simp at h
 | x :: ds, 0, d, e, h => by simp at h; subst h; simp only [List.set_cons_zero, nls]; omega
 | x :: ds, j + 1, d, e, h => by
  have := Qhg (ds := ds) (j := j) (e := e) (by simpa using h)
  simp only [List.set_cons_succ, nls]; omega
theorem QbX : ∀ (as bs : List D), nls (as ++ bs) = nls as + nls bs
 | [], bs => by simp [nls]
 | a :: as, bs => by simp only [Zbq, nls, QbX as bs]; omega
theorem Focus.mut {p : Addr} {dsm ds' : List D} {vs' : List V} {G' : List Addr} : ∀ {is : List Int} {d : D} {v : V} {F : List Addr} {Gm : List Addr}, Focus K H is d v F (.lst dsm) (.ref p) Gm -> F.Nodup -> F.length = d.nl →
  ∃ vsm Gp, H p = some (.lst vsm) /\ Gm = p :: Gp /\ Rps K H dsm vsm Gp /\ Gp.length = nls dsm /\ p ∈ F /\ (∀ a ∈ Gp, a ∈ F) /\ p ∉ Gp ∧
   (Rps K (upd H p (.lst vs')) ds' vs' G' -> ds'.length <= sizeLine -> G'.length = nls ds' →
    ∃ F', Rp K (upd H p (.lst vs')) (QaI is d (.lst ds')) v F' /\ F'.length = (QaI is d (.lst ds')).nl /\ ∀ a, F'.count a + Gp.count a = F.count a + G'.count a)
 | [], d, v, F, Gm, h, nd, hl => by
  obtain ⟨rfl, rfl, rfl, r⟩ := h
  simp only [Rp] at r
  obtain ⟨hz, a, vs, e, h⟩ := r
  cases e
  rcases h with ⟨L, rfl, q, rl⟩ | ⟨q, rl⟩
  ·obtain ⟨n1, n2⟩ := Zad.mp nd
   have hl' : L.length = nls dsm := by simp only [D.nl, ZI] at hl; omega
   refine ⟨vs, L, q, rfl, rl, hl', Zk, λ a ha => Zd _ ha, n1, λ r' hz' hl2 => ⟨p :: G', Rp.QeH Qar r' hz', ?_, λ a => ?_⟩⟩
   ·simp only [QaI, D.nl, ZI, hl2]
   ·rw [ZaM, ZaM]; omega
  ·have := rl.QaM
   simp only [D.nl] at hl
   omega
 | i :: is, d, v, F, Gm, h, nd, hl => by
  obtain ⟨ds, a, vs, j, F1, G, F2, d', v', rfl, hj, h3, h4, h5, h6, h7, h8, h9⟩ := h
  have hjl : j < ds.length := (Zf.mp h6).1
  have gd : ds.getD j .non = d' := by rw [ZaJ, h6]; rfl
  have l1 := h4.QaM
  have l2 := h5.QaM
  have l3 := h9.Qo6.QaM
  have nlsplit : nls (ds.take j) + (d'.nl + nls (ds.drop (j + 1))) = nls ds := by
   have e1 : ds = ds.take j ++ d' :: ds.drop (j + 1) := by
    have : ds[j] = d' := (Zf.mp h6).2
    rw [← this, ← Zaj hjl, ZaK]
   have e2 := congrArg nls e1
   rw [QbX] at e2
   simp only [nls] at e2
   exact e2.symm
  have core : (F1 ++ (G ++ F2)).Nodup -> (F1 ++ (G ++ F2)).length = nls ds -> _ := λ nd' hl' => by
   simp only [Zw] at hl'
   have hG : G.length = d'.nl := by omega
   have ndG : G.Nodup := (Zbm.mp (Zbm.mp nd').2.1).1
   exact (h9.mut (vs' := vs') (ds' := ds') (G' := G') ndG hG)
  have apart : (F1 ++ (G ++ F2)).Nodup -> p ∈ G -> p ∉ F1 /\ p ∉ F2 := λ nd' hp => by
   have n1 := Zbm.mp nd'
   have n2 := Zbm.mp n1.2.1
   exact ⟨λ h => n1.2.2 p h p (Zl _ hp) rfl, λ h => n2.2.2 p hp p h rfl⟩
  have cnt : ∀ (G'' Gp : List Addr), (∀ a, G''.count a + Gp.count a = G.count a + G'.count a) -> ∀ a, (F1 ++ (G'' ++ F2)).count a + Gp.count a = (F1 ++ (G ++ F2)).count a + G'.count a := λ G'' Gp hc a => by
   have := hc a
   simp only [Zal]; omega
  rcases h3 with ⟨rfl, hz, ⟨rfl, q⟩ | ⟨rfl, q⟩⟩ | ⟨rfl, rfl, q⟩
  ·
   obtain ⟨n1, n2⟩ := Zad.mp nd
   have hl' : (F1 ++ (G ++ F2)).length = nls ds := by simp only [D.nl, ZI] at hl; omega
   obtain ⟨vsm, Gp, e1, e2, e3, e4, e5, e6, e7, e8⟩ := core n2 hl'
   have ap := apart n2 e5
   have hap : a ≠ p := λ z => n1 (by rw [z]; exact Ze _ (Zl _ e5))
   refine ⟨vsm, Gp, e1, e2, e3, e4, Zd _ (Ze _ (Zl _ e5)), λ b hb => Zd _ (Ze _ (Zl _ (e6 b hb))), e7, λ r' hz' hl2 => ?_⟩
   obtain ⟨G'', f1, f2, f3⟩ := e8 r' hz' hl2
   have j1 := Rps.join (h4.upd (ys := vs') e1 ap.1) f1 (h5.upd (ys := vs') e1 ap.2) hjl h7
   refine ⟨a :: (F1 ++ (G'' ++ F2)), ?_, ?_, λ b => ?_⟩
   ·simp only [QaI, hj, gd]
    exact Rp.QeH (by rw [QR hap]; exact q) j1 (by rw [Zbf]; exact hz)
   ·have := Qhg (ds := ds) (j := j) (e := QaI is d' (.lst ds')) h6
    simp only [QaI, hj, gd, D.nl, ZI, Zw, f2] at hl' ⊢
    omega
   ·have := cnt G'' Gp f3 b
    rw [ZaM, ZaM]; omega
  ·have : (F1 ++ (G ++ F2)).length <= nls ds := by simp only [Zw]; omega
   simp only [D.nl] at hl
   omega
  ·
   have hl' : (F1 ++ (G ++ F2)).length = nls ds := by simpa only [D.nl] using hl
   obtain ⟨vsm, Gp, e1, e2, e3, e4, e5, e6, e7, e8⟩ := core nd hl'
   have ap := apart nd e5
   refine ⟨vsm, Gp, e1, e2, e3, e4, Ze _ (Zl _ e5), λ b hb => Ze _ (Zl _ (e6 b hb)), e7, λ r' hz' hl2 => ?_⟩
   obtain ⟨G'', f1, f2, f3⟩ := e8 r' hz' hl2
   have j1 := Rps.join (h4.upd (ys := vs') e1 ap.1) f1 (h5.upd (ys := vs') e1 ap.2) hjl h7
   refine ⟨F1 ++ (G'' ++ F2), ?_, ?_, cnt G'' Gp f3⟩
   ·simp only [QaI, hj, gd, Rp]
    exact ⟨a, vs, rfl, QnH e1 q, j1⟩
   ·have := Qhg (ds := ds) (j := j) (e := QaI is d' (.lst ds')) h6
    simp only [QaI, hj, gd, D.nl, Zw, f2] at hl' ⊢
    omega
end
end HS
namespace HS
open PySem PySem.Spec L2
section
variable {K : PySem.W.Frag} {H0 H H1 H2 : Hp} {A0 : List Addr} {hs : List (V × D × List Addr)} {ρ : En} {F : Nat -> List Addr} {σ : L2.St}
theorem Rel.mut (rel : Rel K H0 A0 hs ρ F σ H) {r : R} {vn : V} {Gn : List Addr} (p : Q6 K ρ F H H1 r vn Gn) (hf : r.fr = true) (nd : r.M.Nodup) (s12 : QL H1 H2) {x : Nat} {d : D} (hx : ρ[x]? = some (some (d, true))) (hxM : x ∉ r.M) {v0 : V} (hv0 : σ[x]? = some (some v0))
  {dnew : D} {q : Addr} {F' : List Addr} {vsm vs' : List V} (e1 : H2 q = some (.lst vsm)) (e5 : q ∈ F x) (f1 : Rp K (upd H2 q (.lst vs')) dnew v0 F') (f2 : F'.length = dnew.nl) (cF : ∀ a, F'.count a <= (F x).count a + Gn.count a) :
  ∃ F', Rel K H0 A0 hs ((kill r.M ρ).set x (some (dnew, true))) F' σ (upd H2 q (.lst vs')) := by
 obtain ⟨ol, on, o0, oap, oh⟩ := rel.own x d hx
 obtain ⟨gn, gs⟩ := p.fresh rel hf nd
 have rel2 := (rel.ext p.same).ext s12
 have relk := rel2.weak (QcB r.M ρ)
 have apn : ∀ a ∈ Gn, a ∉ F x := λ a ha hax => by
  rcases (gs a ha).2 with z | ⟨k, d', hk, ek, hak⟩
  ·obtain ⟨vs, w⟩ := rel.mem hx hax
   rw [z] at w; cases w
  ·have : k ≠ x := λ z => hxM (z ▸ hk)
   exact oap k d' true this ek a hax hak
 have memF : ∀ a ∈ F', a ∈ F x ∨ a ∈ Gn := λ a ha => by
  have h1 := cF a
  have h2 : 0 < F'.count a := ZaA.mpr ha
  by_cases h : a ∈ F x
  ·exact .inl h
  ·rw [ZV.mpr h] at h1
   exact .inr (ZaA.mp (by omega))
 have apart : ∀ (j : Nat) d' b, j ≠ x -> (kill r.M ρ)[j]? = some (some (d', b)) -> ∀ a ∈ F', a ∉ F j := λ j d' b hj e a ha haj => by
  obtain ⟨b', e', _⟩ := (QcB r.M ρ).2 j d' b e
  rcases memF a ha with h | h
  ·exact oap j d' b' hj e' a h haj
  ·rcases (gs a h).2 with z | ⟨k, d'', hk, ek, hak⟩
   ·obtain ⟨vs, w⟩ := rel.mem e' haj
    rw [z] at w; cases w
   ·have hjk : j ≠ k := λ z => by subst z; exact QgJ r.M ρ j d' b hk e
    exact (rel.own k d'' ek).2.2.2.1 j d' b' hjk e' a hak haj
 have apartH : ∀ t ∈ hs, ∀ a ∈ F', a ∉ t.2.2 := λ t ht a ha hat => by
  rcases memF a ha with h | h
  ·exact oh t ht a h hat
  ·rcases (gs a h).2 with z | ⟨k, d'', hk, ek, hak⟩
   ·obtain ⟨vs, w⟩ := (rel.held t ht).1.mem a hat
    rw [z] at w; cases w
   ·exact (rel.own k d'' ek).2.2.2.2 t ht a hak hat
 have nqj : ∀ (j : Nat) d' b, j ≠ x -> ρ[j]? = some (some (d', b)) -> q ∉ F j := λ j d' b hj e h => oap j d' b hj e q e5 h
 have nF' : F'.Nodup := ZaC.mpr λ a => by
  have h1 := cF a
  have h2 := ZaC.mp on a
  have h3 := ZaC.mp gn a
  by_cases h : a ∈ Gn
  ·rw [ZV.mpr (apn a h)] at h1; omega
  ·rw [ZV.mpr h] at h1; omega
 have lt : ∀ {j : Nat} {z : Option (D × Bool)} {y : D × Bool}, ((kill r.M ρ).set j z)[j]? = some (some y) -> j < (kill r.M ρ).length := λ {j z y} e => by
  by_cases hl : j < (kill r.M ρ).length
  ·exact hl
  ·rw [Zx (by simp; omega)] at e; cases e
 refine ⟨λ j => if j = x then F' else F j, by simp [relk.len], λ j d' b e => ?_, λ j d' e => ?_, λ j d' b e a ha => ?_, λ t ht => ⟨(relk.held t ht).1.upd e1 λ h => oh t ht q e5 h, (relk.held t ht).2⟩, λ b o hb => ?_⟩
 ·by_cases hj : j = x
  ·subst hj
   have hl := lt e
   rw [Zz hl] at e
   cases e
   exact ⟨v0, hv0, by rw [if_pos rfl]; exact f1⟩
  ·rw [Zj (Ne.symm hj)] at e
   obtain ⟨w, h1, h2⟩ := relk.val j d' b e
   obtain ⟨b', e', _⟩ := (QcB r.M ρ).2 j d' b e
   exact ⟨w, h1, by rw [if_neg hj]; exact h2.upd e1 (nqj j d' b' hj e')⟩
 ·by_cases hj : j = x
  ·subst hj
   have hl := lt e
   rw [Zz hl] at e
   cases e
   rw [if_pos rfl]
   refine ⟨f2, nF', λ a ha => ?_, λ k d'' b hk ek a ha => ?_, apartH⟩
   ·rcases memF a ha with h | h
    ·exact o0 a h
    ·exact (gs a h).1
   ·rw [Zj (Ne.symm hk)] at ek
    rw [if_neg hk]
    exact apart k d'' b hk ek a ha
  ·rw [Zj (Ne.symm hj)] at e
   obtain ⟨h1, h2, h3, h4, h5⟩ := relk.own j d' e
   rw [if_neg hj]
   refine ⟨h1, h2, h3, λ k d'' b hk ek a ha => ?_, h5⟩
   by_cases hki : k = x
   ·subst hki
    rw [if_pos rfl]
    exact λ hG => apart j d' true hj e a hG ha
   ·rw [Zj (Ne.symm hki)] at ek
    rw [if_neg hki]
    exact h4 k d'' b hk ek a ha
 ·by_cases hj : j = x
  ·subst hj
   rw [if_pos rfl] at ha
   rcases memF a ha with h | h
   ·exact .inl (o0 a h)
   ·exact .inl (gs a h).1
  ·rw [Zj (Ne.symm hj)] at e
   rw [if_neg hj] at ha
   exact relk.src j d' b e a ha
 ·have hbq : b ≠ q := λ z => by rw [z, o0 q e5] at hb; cases hb
  rw [QR hbq]
  exact relk.same b o hb
end
noncomputable abbrev DP := En -> Option (List Int)
noncomputable def Q1 : DP := λ _ => some []
noncomputable def QcY (p : DP) (fb : DE) : DP := λ ρ => (p ρ).bind λ is => (fb ρ).bind λ r => match r.d with
 | .int i => some (is ++ [i])
 | _ => none
noncomputable def tP (K : PySem.W.Frag) (H0 : Hp) (A0 : List Addr) (x : Nat) (pf : DP) : TE := λ σ H Q => ∃ ρ hs F d b is dm, Rel K H0 A0 hs ρ F σ H /\ ρ[x]? = some (some (d, b)) /\ pf ρ = some is /\ Qa8 d is = some dm ∧
 ∀ v0 v H' Gm, QL H H' -> σ[x]? = some (some v0) -> Focus K H' is d v0 (F x) dm v Gm -> Q v H'
def SPa (X : Cx) (e : Expr) (x : Nat) (pf : DP) : Prop := ∀ H0 A0, PE X e (tP X.K H0 A0 x pf)
section
variable {X : Cx} {a b e : Expr} {fa fb : DE} {pf : DP} {x : Nat} {pos : Pos}
theorem Qib {y : Str} (h : PE X (.Name y pos) (QjD x)) : SPa X (.Name y pos) x Q1 := λ H0 A0 => h.mono λ σ H Q ⟨ρ, hs, F, d, b, is, dm, rel, hx, hp, hd, q⟩ => by
 cases hp
 cases hd
 obtain ⟨v, h1, h2⟩ := rel.val x d b hx
 exact ⟨v, h1, q v v H (F x) (QL.refl _) h1 ⟨rfl, rfl, rfl, h2⟩⟩
theorem Quc (ha : SPa X a x pf) (hb : SE X b fb) (hs : Qhn b) : SPa X (.Subscript a b pos) x (QcY pf fb) := λ H0 A0 =>
 (QkL (QnD.or QiM) (ha H0 A0) (hb H0 A0) hs).mono λ σ H Q ⟨ρ, hs, F, d, b', is, dm, rel, hx, hp, hd, q⟩ => by
  obtain ⟨is', e1, hp⟩ := bind1 hp
  obtain ⟨r, e2, hp⟩ := bind1 hp
  cases hr : r.d with
  | int i =>
   rw [hr] at hp
   cases hp
   obtain ⟨dn, ds, g1, g2, g3⟩ := QiD hd
   refine ⟨ρ, hs, F, d, b', is', dn, rel, hx, e1, g1, λ v0 w H1 Gm s1 hv fo => ⟨ρ, hs, F, r, rel.ext s1, e2, λ u H2 G p2 => ?_⟩⟩
   have rp := p2.rp
   rw [hr] at rp
   rw [rp.int_inv]
   have fo2 := fo.same p2.same
   obtain ⟨c, vs, v', G', rfl, hc, h3, h4⟩ := Focus.one fo2.rp g2 g3
   have fin := q v0 v' H2 G' (s1.trans p2.same) hv (fo2.snoc h4)
   rcases hc with ⟨_, hc⟩ | ⟨_, hc⟩
   ·exact .inl ⟨c, vs, i, v', rfl, rfl, hc, h3, fin⟩
   ·exact .inr ⟨c, vs, i, v', rfl, rfl, hc, h3, fin⟩
  | _ => rw [hr] at hp; cases hp
noncomputable def QcQ (x : Nat) (pf : DP) (fi fa : DE) : DS := λ ρ => (fa ρ).bind λ r0 => match ρ[x]? with
 | some (some (d, true)) => (pf ρ).bind λ is => (fi ρ).bind λ ri => match ri.d, Qa8 d is with
  | .int k, some (.lst ds) => (ixN ds.length k).bind λ j => if r0.norm.fr && decide r0.norm.M.Nodup && !r0.norm.M.contains x then some (.nx ((kill r0.norm.M ρ).set x (some (QaI is d (.lst (ds.set j r0.d)), true)))) else
   if is.isEmpty && !r0.norm.M.contains x then some (.nx ((QaU r0.norm.M ρ).set x (some (.lst (ds.set j r0.d), false)))) else
   none
  | _, _ => none
 | _ => none
theorem set_mk {K : PySem.W.Frag} {H2 : Hp} {q : Addr} {dsm : List D} {vsm : List V} {Gp Gn : List Addr} {j : Nat} {dn : D} {vn : V} (hq : H2 q = some (.lst vsm)) (rs : Rps K H2 dsm vsm Gp) (hl : Gp.length = nls dsm) (nq : q ∉ Gp) (nqn : q ∉ Gn) (hn : Rp K H2 dn vn Gn) (hnl : Gn.length = dn.nl) (hj : j < dsm.length) :
  ∃ G', Rps K (upd H2 q (.lst (vsm.set j vn))) (dsm.set j dn) (vsm.set j vn) G' /\ G'.length = nls (dsm.set j dn) /\ ∀ a, G'.count a <= Gp.count a + Gn.count a := by
 obtain ⟨F1, G, F2, v, e1, e2, h1, h2, h3⟩ := rs.split (j := j) (d := dsm[j]) (by simp [hj])
 subst e1
 have hjv : j < vsm.length := by rw [← rs.length]; exact hj
 have n1 : q ∉ F1 := λ h => nq (Zl _ h)
 have n2 : q ∉ F2 := λ h => nq (Ze _ (Ze _ h))
 refine ⟨F1 ++ (Gn ++ F2), Rps.QsS (h1.upd hq n1) (hn.upd hq nqn) (h3.upd hq n2) hj hjv, ?_, λ a => ?_⟩
 ·have := Qhg (ds := dsm) (j := j) (d := dsm[j]) (e := dn) (by simp [hj])
  have l1 := h1.QaM
  have l2 := h2.QaM
  have l3 := h3.QaM
  have e1 : nls (dsm.take j) + ((dsm[j]).nl + nls (dsm.drop (j + 1))) = nls dsm := by
   have e2 := congrArg nls (ZaK j dsm)
   rw [QbX, Zaj hj] at e2
   simpa only [nls] using e2
  simp only [Zw] at hl ⊢
  omega
 ·simp only [Zal]; omega
theorem Q6.QkM {K : PySem.W.Frag} {ρ : En} {F : Nat -> List Addr} {H H1 H2 : Hp} {r : R} {v : V} {G : List Addr} (p : Q6 K ρ F H H1 r v G) (s : QL H1 H2) : Q6 K ρ F H H2 r v G := ⟨p.same.trans s, p.rp.same s, p.src, p.cnt, p.own⟩
theorem Qs5 {K : PySem.W.Frag} {H2 : Hp} {q : Addr} {dsm : List D} {vsm : List V} {Gp Gn : List Addr} {j : Nat} {dn : D} {vn : V} (hq : H2 q = some (.lst vsm)) (rs : Rps K H2 dsm vsm Gp) (nq : q ∉ Gp) (nqn : q ∉ Gn) (hn : Rp K H2 dn vn Gn) (hj : j < dsm.length) :
  ∃ G', Rps K (upd H2 q (.lst (vsm.set j vn))) (dsm.set j dn) (vsm.set j vn) G' /\ ∀ a ∈ G', a ∈ Gp ∨ a ∈ Gn := by
 obtain ⟨F1, G, F2, v, e1, e2, h1, h2, h3⟩ := rs.split (j := j) (d := dsm[j]) (by simp [hj])
 subst e1
 have hjv : j < vsm.length := by rw [← rs.length]; exact hj
 have n1 : q ∉ F1 := λ h => nq (Zl _ h)
 have n2 : q ∉ F2 := λ h => nq (Ze _ (Ze _ h))
 refine ⟨F1 ++ (Gn ++ F2), Rps.QsS (h1.upd hq n1) (hn.upd hq nqn) (h3.upd hq n2) hj hjv, λ a ha => ?_⟩
 rcases ZE.mp ha with h | h
 ·exact .inl (Zl _ h)
 ·rcases ZE.mp h with h | h
  ·exact .inr h
  ·exact .inl (Ze _ (Ze _ h))
theorem QhK : ∀ (M : List Nat) (ρ : En) (x : Nat), x ∉ M -> (QaU M ρ)[x]? = ρ[x]?
 | [], ρ, x, _ => rfl
 | i :: M, ρ, x, h => by
  have hi : i ≠ x := λ e => h (e ▸ Zk)
  unfold QaU
  rw [QhK M _ x λ e => h (Zd _ e)]
  split
  ·rw [Zj hi]
  ·rfl
theorem Rel.QxX {K : PySem.W.Frag} {H0 H : Hp} {A0 : List Addr} {hs : List (V × D × List Addr)} {ρ : En} {F : Nat -> List Addr} {σ : L2.St} (rel : Rel K H0 A0 hs ρ F σ H) {x : Nat} {d : D} (hx : ρ[x]? = some (some (d, true))) {Gn : List Addr} (sh : Shr H0 A0 ρ F Gn) {v0 : V} (hv0 : σ[x]? = some (some v0))
  {dnew : D} {q : Addr} {G' : List Addr} {vsm vs' : List V} (e1 : H q = some (.lst vsm)) (e5 : q ∈ F x) (f1 : Rp K (upd H q (.lst vs')) dnew v0 G') (mem : ∀ a ∈ G', a ∈ F x ∨ a ∈ Gn) :
  ∃ F', Rel K H0 A0 hs (ρ.set x (some (dnew, false))) F' σ (upd H q (.lst vs')) := by
 obtain ⟨ol, on, o0, oap, oh⟩ := rel.own x d hx
 have lt : ∀ {j : Nat} {z : Option (D × Bool)} {y : D × Bool}, (ρ.set j z)[j]? = some (some y) -> j < ρ.length := λ {j z y} e => by
  by_cases hl : j < ρ.length
  ·exact hl
  ·rw [Zx (by simp; omega)] at e; cases e
 refine ⟨λ j => if j = x then G' else F j, by simp [rel.len], λ j d' b e => ?_, λ j d' e => ?_, λ j d' b e a ha => ?_, λ t ht => ⟨(rel.held t ht).1.upd e1 λ h => oh t ht q e5 h, (rel.held t ht).2⟩, λ b o hb => ?_⟩
 ·by_cases hj : j = x
  ·subst hj
   have hl := lt e
   rw [Zz hl] at e
   cases e
   exact ⟨v0, hv0, by rw [if_pos rfl]; exact f1⟩
  ·rw [Zj (Ne.symm hj)] at e
   obtain ⟨w, h1, h2⟩ := rel.val j d' b e
   exact ⟨w, h1, by rw [if_neg hj]; exact h2.upd e1 λ h => oap j d' b hj e q e5 h⟩
 ·by_cases hj : j = x
  ·subst hj
   have hl := lt e
   rw [Zz hl] at e
   cases e
  ·rw [Zj (Ne.symm hj)] at e
   obtain ⟨h1, h2, h3, h4, h5⟩ := rel.own j d' e
   rw [if_neg hj]
   refine ⟨h1, h2, h3, λ k d'' b hk ek a ha => ?_, h5⟩
   by_cases hki : k = x
   ·subst hki
    rw [if_pos rfl]
    intro hG
    rcases mem a hG with h | h
    ·exact h4 k d true (Ne.symm hj) hx a ha h
    ·exact (sh a h).2 j d' e ha
   ·rw [Zj (Ne.symm hki)] at ek
    rw [if_neg hki]
    exact h4 k d'' b hk ek a ha
 ·by_cases hj : j = x
  ·subst hj
   rw [if_pos rfl] at ha
   rcases mem a ha with h | h
   ·exact .inl (o0 a h)
   ·exact (sh a h).1
  ·rw [Zj (Ne.symm hj)] at e
   rw [if_neg hj] at ha
   exact rel.src j d' b e a ha
 ·have hbq : b ≠ q := λ z => by rw [z, o0 q e5] at hb; cases hb
  rw [QR hbq]
  exact rel.same b o hb
theorem Qv6 {i : Expr} {pos' : Pos} {fi : DE} (hv : SE X e fa) (ho : SPa X a x pf) (hi : SE X i fi)
  (h : ∀ te to ti, PE X e te -> PE X a to -> PE X i ti -> PS X (.Assign [.Subscript a i pos'] e pos) (Qla te (L2.Qat to ti QsP))) : S1 X (.Assign [.Subscript a i pos'] e pos) (QcQ x pf fi fa) := λ H0 A0 =>
 (h _ _ _ (hv H0 A0) (ho H0 A0) (hi H0 A0)).mono λ E σ H ⟨ρ, hs, F, o, rel, e, q⟩ => by
  obtain ⟨r0, e1, e⟩ := bind1 e
  split at e
  ·rename_i d hx
   obtain ⟨is, e2, e⟩ := bind1 e
   obtain ⟨ri, e3, e⟩ := bind1 e
   split at e
   ·rename_i k ds hk hp
    obtain ⟨j, e4, e⟩ := bind1 e
    split at e
    ·rename_i hc
     cases e
     simp only [Zg, decide_eq_true_eq, ZaE] at hc
     obtain ⟨⟨c1, c2⟩, c3⟩ := hc
     have c3 : x ∉ r0.norm.M := λ h => by rw [Zbo.mpr h] at c3; cases c3
     refine ⟨ρ, hs, F, r0, rel, e1, λ vn H1 Gn p => ⟨ρ, hs, F, d, true, is, .lst ds, rel.ext p.same, hx, e2, hp, λ v0 w H2 Gm s2 hv0 fo => ⟨ρ, hs, F, ri, (rel.ext p.same).ext s2, e3, λ u H3 Gi pi => ?_⟩⟩⟩
     have p' := (p.norm.QkM s2).QkM pi.same
     have fo3 := fo.same pi.same
     have rpi := pi.rp
     rw [hk] at rpi
     rw [rpi.int_inv]
     obtain ⟨l, ws, L, rfl, _⟩ := fo3.rp.lst_inv
     obtain ⟨ol, on, _, oap, _⟩ := rel.own x d hx
     have hjl := (Qft e4).2.1
     obtain ⟨gn, gs⟩ := p'.fresh rel c1 c2
     have rn := p'.rp
     rw [r0.QcU] at rn
     have hnl := (p'.cnt c1).2
     rw [r0.QcU] at hnl
     obtain ⟨vsm, _, f1, _⟩ := fo3.mut (vs' := []) (ds' := []) (G' := []) on ol
     obtain ⟨_, _, _, _, _, _, zl, _⟩ := fo3.rp.lst_inv
     have key : ∃ F', Rp X.K (upd H3 l (.lst (vsm.set j vn))) (QaI is d (.lst (ds.set j r0.d))) v0 F' /\ F'.length = (QaI is d (.lst (ds.set j r0.d))).nl /\ l ∈ F x /\ ds.length = vsm.length /\ ∀ a, F'.count a <= (F x).count a + Gn.count a := by
      have own5 : ∀ G', _ := λ G' => fo3.mut (vs' := vsm.set j vn) (ds' := ds.set j r0.d) (G' := G') on ol
      obtain ⟨vs1, Gp, g1, g2, g3, g4, g5, g6, g7, _⟩ := own5 []
      rw [f1] at g1; cases g1
      have hq : l ∉ Gn := λ h => by
       rcases (gs l h).2 with z | ⟨k', d', hk', ek, hak⟩
       ·obtain ⟨vs, w⟩ := rel.mem hx g5
        rw [z] at w; cases w
       ·exact oap k' d' true (λ z => c3 (z ▸ hk')) ek l g5 hak
      obtain ⟨G', m1, m2, m3⟩ := set_mk f1 g3 g4 g7 hq rn hnl hjl
      obtain ⟨vs2, Gp2, k1, k2, k3, k4, k5, k6, k7, k8⟩ := own5 G'
      have eG : Gp2 = Gp := by rw [g2] at k2; exact (List.cons.inj k2).2.symm
      subst eG
      obtain ⟨F', h1, h2, h3⟩ := k8 m1 (by rw [Zbf]; exact zl) m2
      exact ⟨F', h1, h2, g5, g3.length, λ a => by have := h3 a; have := m3 a; omega⟩
     obtain ⟨F', k1, k2, k3, k4, k5⟩ := key
     refine ⟨l, vsm, k, j, rfl, rfl, f1, by rw [← k4]; exact e4, ?_⟩
     obtain ⟨F'', rel'⟩ := rel.mut p' c1 c2 (QL.refl _) hx c3 hv0 f1 k3 k1 k2 k5
     exact q _ _ F'' rel'
    ·
     split at e
     ·rename_i hc
      cases e
      simp only [Zg, ZaE, List.isEmpty_iff] at hc
      obtain ⟨rfl, c3⟩ := hc
      have c3 : x ∉ r0.norm.M := λ h => by rw [Zbo.mpr h] at c3; cases c3
      refine ⟨ρ, hs, F, r0, rel, e1, λ vn H1 Gn p => ⟨ρ, hs, F, d, true, [], .lst ds, rel.ext p.same, hx, e2, hp, λ v0 w H2 Gm s2 hv0 fo => ⟨ρ, hs, F, ri, (rel.ext p.same).ext s2, e3, λ u H3 Gi pi => ?_⟩⟩⟩
      have p' := (p.norm.QkM s2).QkM pi.same
      have fo3 := fo.same pi.same
      have rpi := pi.rp
      rw [hk] at rpi
      rw [rpi.int_inv]
      obtain ⟨l, ws, L, rfl, _⟩ := fo3.rp.lst_inv
      obtain ⟨ol, on, _, oap, _⟩ := rel.own x d hx
      have hjl := (Qft e4).2.1
      have rn := p'.rp
      rw [r0.QcU] at rn
      obtain ⟨vsm, Gp, f1, g2, g3, g4, g5, g6, g7, _⟩ := fo3.mut (vs' := []) (ds' := []) (G' := []) on ol
      obtain ⟨_, _, _, _, _, _, zl, _⟩ := fo3.rp.lst_inv
      have sh := Shr.of rel p'.src
      have relD := (rel.ext p'.same).weak (Qbv r0.norm.M ρ)
      have hxD : (QaU r0.norm.M ρ)[x]? = some (some (d, true)) := by rw [QhK _ _ _ c3]; exact hx
      have hq : l ∉ Gn := λ h => (sh l h).2 x d hxD g5
      obtain ⟨G', m1, m3⟩ := Qs5 f1 g3 g7 hq rn hjl
      have e0 : v0 = .ref l := (fo3.2.1).symm
      subst e0
      refine ⟨l, vsm, k, j, rfl, rfl, f1, by rw [← g3.length]; exact e4, ?_⟩
      obtain ⟨F'', rel'⟩ := relD.QxX (dnew := .lst (ds.set j r0.d)) (G' := l :: G') (vs' := vsm.set j vn) hxD sh hv0 f1 g5 (Rp.QeH Qar m1 (by rw [Zbf]; exact zl)) λ a ha => by
       rcases Zr.mp ha with h | h
       ·exact .inl (h ▸ g5)
       ·rcases m3 a h with h | h
        ·exact .inl (g6 a h)
        ·exact .inr h
      exact q _ _ F'' rel'
     ·
      cases e
   ·cases e
  ·cases e
end
end HS
namespace HS
open PySem PySem.Spec L2
section
variable {K : PySem.W.Frag} {H0 H H1 H2 H3 : Hp} {A0 : List Addr} {hs : List (V × D × List Addr)} {ρ : En} {F : Nat -> List Addr} {σ : L2.St}
theorem Rel.write (rel : Rel K H0 A0 hs ρ F σ H) {r : R} {vn : V} {Gn : List Addr} (p : Q6 K ρ F H H3 r vn Gn) (hf : r.fr = true) (nd : r.M.Nodup) {x : Nat} {d : D} (hx : ρ[x]? = some (some (d, true))) (hxM : x ∉ r.M) {v0 w : V} (hv0 : σ[x]? = some (some v0))
  {is : List Int} {ds : List D} {Gm : List Addr} (fo : Focus K H3 is d v0 (F x) (.lst ds) w Gm) :
  ∃ l vsm Gp, w = .ref l /\ H3 l = some (.lst vsm) /\ Rps K H3 ds vsm Gp /\ Gp.length = nls ds /\ l ∉ Gp /\ l ∉ Gn /\ ds.length <= sizeLine ∧
   ∀ ds' vs' G', Rps K (upd H3 l (.lst vs')) ds' vs' G' -> ds'.length <= sizeLine -> G'.length = nls ds' -> (∀ a, G'.count a <= Gp.count a + Gn.count a) →
    ∃ F', Rel K H0 A0 hs ((kill r.M ρ).set x (some (QaI is d (.lst ds'), true))) F' σ (upd H3 l (.lst vs')) := by
 obtain ⟨l, ws, L, rfl, _, _, zl, _⟩ := fo.rp.lst_inv
 obtain ⟨ol, on, _, oap, _⟩ := rel.own x d hx
 obtain ⟨gn, gs⟩ := p.fresh rel hf nd
 obtain ⟨vsm, Gp, g1, g2, g3, g4, g5, g6, g7, _⟩ := fo.mut (vs' := []) (ds' := []) (G' := []) on ol
 have hq : l ∉ Gn := λ h => by
  rcases (gs l h).2 with z | ⟨k', d', hk', ek, hak⟩
  ·obtain ⟨vs, w⟩ := rel.mem hx g5
   rw [z] at w; cases w
  ·exact oap k' d' true (λ z => hxM (z ▸ hk')) ek l g5 hak
 refine ⟨l, vsm, Gp, rfl, g1, g3, g4, g7, hq, zl, λ ds' vs' G' m1 m2 m3 m4 => ?_⟩
 obtain ⟨vs2, Gp2, k1, k2, k3, k4, k5, k6, k7, k8⟩ := fo.mut (vs' := vs') (ds' := ds') (G' := G') on ol
 have eG : Gp2 = Gp := by rw [g2] at k2; exact (List.cons.inj k2).2.symm
 subst eG
 obtain ⟨F', h1, h2, h3⟩ := k8 m1 m2 m3
 exact rel.mut p hf nd (QL.refl _) hx hxM hv0 g1 g5 h1 h2 λ a => by have := h3 a; have := m4 a; omega
end
section
variable {X : Cx} {a b e : Expr} {fa fb : DE} {pf : DP} {x : Nat} {pos apos : Pos}
noncomputable def QiT (r : R) (x : Nat) : Bool := r.norm.fr && decide r.norm.M.Nodup && !r.norm.M.contains x
theorem Qo9 {r : R} {x : Nat} (h : QiT r x = true) : r.norm.fr = true /\ r.norm.M.Nodup /\ x ∉ r.norm.M := by
 unfold QiT at h
 simp only [Zg, decide_eq_true_eq, ZaE] at h
 exact ⟨h.1.1, h.1.2, λ z => by rw [Zbo.mpr z] at h; cases h.2⟩
noncomputable def Qdj (x : Nat) (pf : DP) (fa : DE) : DS := λ ρ => match ρ[x]? with
 | some (some (d, true)) => (pf ρ).bind λ is => (fa ρ).bind λ r0 => match Qa8 d is with
  | some (.lst ds) => if QiT r0 x && decide (ds.length < sizeLine) then some (.nx ((kill r0.norm.M ρ).set x (some (QaI is d (.lst (ds ++ [r0.d])), true)))) else none
  | _ => none
 | _ => none
theorem Qrg {H0 : Hp} {A0 : List Addr} {E : Ends} {σ : L2.St} {H : Hp} : tS X.K H0 A0 (Qdj x pf fa) E σ H -> QfB (tBM X.K "list" QjQ (tP X.K H0 A0 x pf) (QcF (tV X.K H0 A0 fa) QdZ)) E σ H := λ ⟨ρ, hs, F, o, rel, e, q⟩ => by
 unfold Qdj at e
 split at e
 ·rename_i d hx
  obtain ⟨is, e2, e⟩ := bind1 e
  obtain ⟨r0, e1, e⟩ := bind1 e
  split at e
  ·rename_i ds hp
   split at e
   ·rename_i hc
    simp only [Zg, decide_eq_true_eq] at hc
    obtain ⟨c1, c2, c3⟩ := Qo9 hc.1
    cases e
    refine ⟨ρ, hs, F, d, true, is, .lst ds, rel, hx, e2, hp, λ v0 w H2 Gm s2 hv0 fo => ?_⟩
    have ty : tyV X.K "list" w H2 := by
     obtain ⟨l, ws, L, rfl, hl, _⟩ := fo.rp.lst_inv
     exact .inl ⟨rfl, ws, Q3 hl⟩
    refine ⟨ty, ρ, hs, F, r0, rel.ext s2, e1, λ vn H3 Gn p => ?_⟩
    have p' := p.norm
    obtain ⟨l, vsm, Gp, rfl, g1, g2, g3, g4, g5, g6, g7⟩ := (rel.ext s2).write p' c1 c2 hx c3 hv0 (fo.same p.same)
    refine ⟨l, vsm, vn, rfl, rfl, g1, by rw [← g2.length]; exact hc.2, ?_⟩
    have rn := p'.rp
    rw [r0.QcU] at rn
    have hnl := (p'.cnt c1).2
    rw [r0.QcU] at hnl
    have rw1 : Rps X.K (upd H3 l (.lst (vsm ++ [vn]))) [r0.d] [vn] Gn := by
     simp only [Rps]
     exact ⟨vn, [], Gn, [], rfl, by simp, rn.upd g1 g5, rfl, rfl⟩
    obtain ⟨F', rel'⟩ := g7 (ds ++ [r0.d]) (vsm ++ [vn]) (Gp ++ Gn) ((g2.upd g1 g4).append rw1) (by rw [Zw, ZaS]; omega) (by rw [Zw, QbX, g3, hnl]; simp [nls]) (λ a => by rw [Zal]; omega)
    exact q _ _ F' rel'
   ·cases e
  ·cases e
 ·cases e
open PyProof.Rows in
theorem Qqb : Qvb X (Qwx X.K) := by
 intro pins s σ H o i ov iv Q I ro ri h
 obtain ⟨p, xs, k, v, rfl, rfl, hq, ha, q⟩ := h
 cases ro
 obtain ⟨t, rfl⟩ := ri
 obtain ⟨its, r, pl, hz⟩ := I.list hq
 obtain ⟨j, h1, h2, h3, h4, h5⟩ := QjL ha
 obtain ⟨w, ew, rw'⟩ := r.get h2
 have hl := r.length
 have hn := Qfn
 by_cases h0 : 0 <= k
 ·refine wpAny_getItem_list pl.isList h0 (by omega) (x := w) ?_ ⟨v, H, I, rw', q⟩
  have : k.toNat = j := by
   rw [seqIndex_of h0 h5] at h1
   exact Option.some.inj h1
  rw [this]; simpa using ew
 ·refine wpAny_getItem_list_neg pl.isList (by omega) (by rw [Zp] <;> omega) (by omega) (x := w) ?_ ⟨v, H, I, rw', q⟩
  have hj : (k + (its.toArray.size : Int)).toNat = j := by
   rw [seqIndex_neg (by omega) h4] at h1
   rw [Zp, ← hl]
   exact Option.some.inj h1
  rw [hj]; simpa using ew
noncomputable def Qdg (g : D -> D -> Option D) (x : Nat) (pf : DP) (fi fa : DE) : DS := λ ρ => match ρ[x]? with
 | some (some (d, true)) => (pf ρ).bind λ is => (fi ρ).bind λ ri => match ri.d, Qa8 d is with
  | .int k, some (.lst ds) => (ixN ds.length k).bind λ j => (ds[j]?).bind λ old => (fa ρ).bind λ r => (g old r.d).map λ new => .nx (ρ.set x (some (QaI is d (.lst (ds.set j new)), true)))
  | _, _ => none
 | _ => none
theorem Qt0 {op : Operator} {i : Expr} {pos' : Pos} {fi : DE} {g : D -> D -> Option D} {r : R2} (ho : OpR X (inplaceOp op) r) (hg : QbW X.K g r) (hv : SE X e fa) (hp : SPa X a x pf) (hi : SE X i fi)
  (ha : ∀ ov iv new, augStore i ov iv new = (do holding [new, ov, iv] (setItem ov iv new); release [new, ov, iv] []; pure .next)) : S1 X (.AugAssign (.Subscript a i pos') op e pos) (Qdg g x pf fi fa) := λ H0 A0 =>
 (QtE (hp H0 A0) (hi H0 A0) Qqb (hv H0 A0) (λ pins s σ H x y v u Q I rx ry q => Qx4 ho I rx ry q) set_list ha).mono λ E σ H ⟨ρ, hs, F, o, rel, e, q⟩ => by
  unfold Qdg at e
  split at e
  ·rename_i d hx
   obtain ⟨is, e2, e⟩ := bind1 e
   obtain ⟨ri, e3, e⟩ := bind1 e
   split at e
   ·rename_i k ds hk hp'
    obtain ⟨j, e4, e⟩ := bind1 e
    obtain ⟨old, e5, e⟩ := bind1 e
    obtain ⟨rv, e6, e⟩ := bind1 e
    obtain ⟨new, e7, e⟩ := Zc.mp e
    subst e
    have hjl := (Qft e4).2.1
    refine ⟨ρ, hs, F, d, true, is, .lst ds, rel, hx, e2, hp', λ v0 w H2 Gm s2 hv0 fo => ⟨ρ, hs, F, ri, rel.ext s2, e3, λ u H3 Gi pi => ?_⟩⟩
    have fo3 := fo.same pi.same
    have rpi := pi.rp
    rw [hk] at rpi
    rw [rpi.int_inv]
    have at3 : atI ds k = some old := by unfold atI; rw [e4]; exact e5
    obtain ⟨l, vs, v', Go, rfl, hc, h3, h4⟩ := Focus.one fo3.rp rfl at3
    have hc : SqL X.K H3 l vs := by
     rcases hc with ⟨_, hc⟩ | ⟨hc, _⟩
     ·exact hc
     ·cases hc
    refine ⟨l, vs, k, v', rfl, rfl, hc, h3, ρ, hs, F, rv, (rel.ext s2).ext pi.same, e6, λ y H4 G4 p4 => ?_⟩
    have fo4 := fo3.same p4.same
    have ro := h4.rp.same p4.same
    refine (hg _ _ _ e7).2 H4 v' y Go G4 _ ro p4.rp λ z hz => ?_
    have rel4 := ((rel.ext s2).ext pi.same).ext p4.same
    have pz : Q6 X.K ρ F H4 H4 ⟨new, true, []⟩ z [] := .flat (QL.refl _) (hz H4) (hg _ _ _ e7).1
    obtain ⟨l', vsm, Gp, el, g1, g2, g3, g4, g5, g6, g7⟩ := rel4.write pz rfl Zan hx (by simp) hv0 fo4
    cases el
    refine ⟨l, vsm, k, j, rfl, rfl, g1, by rw [← g2.length]; exact e4, ?_⟩
    obtain ⟨G', m1, m2, m3⟩ := set_mk g1 g2 g3 g4 g5 (hz H4) (Qb4 new (hg _ _ _ e7).1).symm hjl
    obtain ⟨F', rel'⟩ := g7 _ _ G' m1 (by rw [Zbf]; exact g6) m2 m3
    exact q _ _ F' rel'
   ·cases e
  ·cases e
end
end HS
namespace HS
open PySem PySem.Spec L2 PyProof.Rows
noncomputable def D.QsR : D -> Option Int
 | .int i => some i
 | _ => none
noncomputable def Qdo : List D -> Option (List Int)
 | [] => some []
 | d :: ds => (d.QsR).bind λ i => (Qdo ds).map λ r => i :: r
theorem Qc9 : ∀ {ds : List D} {ns : List Int}, Qdo ds = some ns -> ds = ns.map .int
 | [], _, h => by cases h; rfl
 | d :: ds, ns, h => by
  unfold Qdo at h
  obtain ⟨i, h1, h⟩ := bind1 h
  obtain ⟨r, h2, rfl⟩ := Zc.mp h
  cases d with
  | int j => cases h1; rw [Qc9 h2]; rfl
  | _ => cases h1
theorem Qfx : ∀ (ns : List Int), Qdo (ns.map D.int) = some ns
 | [] => rfl
 | n :: ns => by simp [Qdo, Qfx ns, D.QsR]
theorem Rps.ints {K : PySem.W.Frag} {H : Hp} : ∀ {ns : List Int} {vs : List V} {F : List Addr}, Rps K H (ns.map .int) vs F -> vs = ns.map .int
 | [], _, _, h => by simp only [ZbB, Rps] at h; rw [h.1]; rfl
 | n :: ns, _, _, h => by
  simp only [Zn, Rps] at h
  obtain ⟨v, ws, F1, F2, rfl, rfl, r, q⟩ := h
  rw [r.int_inv, Rps.ints q]; rfl
theorem QbU {ns : List Int} {us : List Value} (h : Qy (ns.map V.int) us) : IntsAre us ns := intsAre_of h
section
variable {X : Cx} {a b e : Expr} {es : List Expr} {fa fb : DE} {fs : DA} {pos p2 : Pos}
noncomputable def Qou (K : PySem.W.Frag) (C : List Int -> Int -> Prop) : List V -> Hp -> VK -> Prop := λ xs H Q => ∃ (p : Addr) (ns : List Int), xs = [.ref p] /\ (SqL K H p (ns.map V.int) ∨ SqT K H p (ns.map V.int)) /\ ns ≠ [] /\ ∀ M, C ns M -> Q (.int M) H
def Qi4 (ns : List Int) (M : Int) : Prop := M ∈ ns /\ ∀ a ∈ ns, M <= a
def isMax (ns : List Int) (M : Int) : Prop := M ∈ ns /\ ∀ a ∈ ns, a <= M
theorem Qd1 {us : List Value} {ns : List Int} (hi : IntsAre us ns) : ∃ xs : Array (Int × Tok), us.toArray = intItems xs /\ ns = xs.toList.map (·.1) := by
 obtain ⟨xs, e⟩ := hi.allInts.items
 exact ⟨xs, e, by rw [← hi.numsOf, ← nums_intItems, ← e]⟩
theorem Qk2 {prog : Program} {w : World} {A : Around} {E : Value -> Shared -> Prop} {s : Shared} {l : Addr} {xs : Array (Int × Tok)} {Q : Value -> Shared -> Prop} (hh : A.handled = none) (hl : s.heap.IsTuple l (intItems xs)) (hne : 0 < xs.size)
  (h : ∀ v h' tk, (intItems xs)[argBest (λ i j => decide (numAt xs i < numAt xs j)) (xs.size - 1)]? = some v -> (∀ b o, s.heap.get? b = some o -> h'.get? b = some o) -> Q v { s with heap := h', toks := tk }) :
  wpAny (model prog w) A (call (.builtin "min") [.ref l]) Q E s := by
 have hlt : l < s.heap.objs.size := by obtain ⟨_, e, _⟩ := hl; exact Zu e
 refine call_min_walk (wpAny_pyIter_tuple hl ?_)
 refine ⟨_, [_, l], [_], _, _, _, _, rfl, Walks.tuple (A := A.in1) hh _ l (ZW hlt) (intItems xs), ⟨⟨_, ZA _ rfl, rfl, rfl⟩, hl.push _⟩, λ b hb => ?_, by simpa [intItems] using hne, CmpOf.ints_lt (numAt xs) (λ _ _ => intItems_at), λ v h' tk hP hk => ?_⟩
 ·show b < (s.heap.push _).objs.size
  rw [Zam]
  rcases Zr.mp hb with rfl | hb
  ·exact ZaO _
  ·rcases Zr.mp hb with rfl | hb
   ·exact ZaV hlt
   ·cases hb
 ·refine h v h' tk (by simpa [intItems] using hP) λ b o e => ?_
  refine hk b o (λ hm => ?_) (Zb _ e)
  rcases Zr.mp hm with e1 | hm
  ·exact absurd (e1 ▸ Zu e) (ZS _)
  ·cases hm
theorem Qqq (hc : X.calm = true) : QcV X (.builtin "min") (Qou X.K Qi4) := by
 intro pins s σ H xs us Q I r h
 obtain ⟨p, ns, rfl, hq, hne, q⟩ := h
 obtain ⟨u, rfl, rx⟩ := vals1 r
 cases rx
 rcases hq with hq | hq
 ·obtain ⟨its, r', pl, hz⟩ := I.list hq
  obtain ⟨ys, e, hns⟩ := Qd1 (QbU r')
  have hl := pl.isList
  rw [e] at hl
  have hsz : 0 < ys.size := by
   rcases Zbi ys.size with z | z
   ·exact absurd (by rw [hns, Zbc]; exact Zac (by simpa using z)) hne
   ·exact z
  refine min_intList (I.ok.hd hc) hl hsz λ v h' tk hv hk => ?_
  obtain ⟨t, rfl⟩ := intItems_at hv
  obtain ⟨h1, h2⟩ := argBest_lt (numAt ys) (ys.size - 1)
  refine ⟨.int _, H, I.kept hk, ⟨t, rfl⟩, q _ ⟨?_, λ a ha => ?_⟩⟩
  ·rw [hns, numAt_eq]; exact getD_mem (by rw [Zi, Zaa]; omega)
  ·rw [hns] at ha
   obtain ⟨j, hj, rfl⟩ := mem_getD ha
   rw [Zi, Zaa] at hj
   rw [← numAt_eq]; exact h2 j (by omega)
 ·obtain ⟨its, r', pl, hz⟩ := I.tuple hq
  obtain ⟨ys, e, hns⟩ := Qd1 (QbU r')
  have hl := pl
  rw [e] at hl
  have hsz : 0 < ys.size := by
   rcases Zbi ys.size with z | z
   ·exact absurd (by rw [hns, Zbc]; exact Zac (by simpa using z)) hne
   ·exact z
  refine Qk2 (I.ok.hd hc) hl hsz λ v h' tk hv hk => ?_
  obtain ⟨t, rfl⟩ := intItems_at hv
  obtain ⟨h1, h2⟩ := argBest_lt (numAt ys) (ys.size - 1)
  refine ⟨.int _, H, I.kept hk, ⟨t, rfl⟩, q _ ⟨?_, λ a ha => ?_⟩⟩
  ·rw [hns, numAt_eq]; exact getD_mem (by rw [Zi, Zaa]; omega)
  ·rw [hns] at ha
   obtain ⟨j, hj, rfl⟩ := mem_getD ha
   rw [Zi, Zaa] at hj
   rw [← numAt_eq]; exact h2 j (by omega)
theorem Qmc {prog : Program} {w : World} {A : Around} {E : Value -> Shared -> Prop} {s : Shared} {l : Addr} {xs : Array (Int × Tok)} {Q : Value -> Shared -> Prop} (hh : A.handled = none) (hl : s.heap.IsTuple l (intItems xs)) (hne : 0 < xs.size)
  (h : ∀ v h' tk, (intItems xs)[argBest (λ i j => decide (numAt xs i > numAt xs j)) (xs.size - 1)]? = some v -> (∀ b o, s.heap.get? b = some o -> h'.get? b = some o) -> Q v { s with heap := h', toks := tk }) :
  wpAny (model prog w) A (call (.builtin "max") [.ref l]) Q E s := by
 have hlt : l < s.heap.objs.size := by obtain ⟨_, e, _⟩ := hl; exact Zu e
 refine call_max_walk (wpAny_pyIter_tuple hl ?_)
 refine ⟨_, [_, l], [_], _, _, _, _, rfl, Walks.tuple (A := A.in1) hh _ l (ZW hlt) (intItems xs), ⟨⟨_, ZA _ rfl, rfl, rfl⟩, hl.push _⟩, λ b hb => ?_, by simpa [intItems] using hne, CmpOf.ints_gt (numAt xs) (λ _ _ => intItems_at), λ v h' tk hP hk => ?_⟩
 ·show b < (s.heap.push _).objs.size
  rw [Zam]
  rcases Zr.mp hb with rfl | hb
  ·exact ZaO _
  ·rcases Zr.mp hb with rfl | hb
   ·exact ZaV hlt
   ·cases hb
 ·refine h v h' tk (by simpa [intItems] using hP) λ b o e => ?_
  refine hk b o (λ hm => ?_) (Zb _ e)
  rcases Zr.mp hm with e1 | hm
  ·exact absurd (e1 ▸ Zu e) (ZS _)
  ·cases hm
theorem QpN (hc : X.calm = true) : QcV X (.builtin "max") (Qou X.K isMax) := by
 intro pins s σ H xs us Q I r h
 obtain ⟨p, ns, rfl, hq, hne, q⟩ := h
 obtain ⟨u, rfl, rx⟩ := vals1 r
 cases rx
 rcases hq with hq | hq
 ·obtain ⟨its, r', pl, hz⟩ := I.list hq
  obtain ⟨ys, e, hns⟩ := Qd1 (QbU r')
  have hl := pl.isList
  rw [e] at hl
  have hsz : 0 < ys.size := by
   rcases Zbi ys.size with z | z
   ·exact absurd (by rw [hns, Zbc]; exact Zac (by simpa using z)) hne
   ·exact z
  refine max_intList (I.ok.hd hc) hl hsz λ v h' tk hv hk => ?_
  obtain ⟨t, rfl⟩ := intItems_at hv
  obtain ⟨h1, h2⟩ := argBest_gt (numAt ys) (ys.size - 1)
  refine ⟨.int _, H, I.kept hk, ⟨t, rfl⟩, q _ ⟨?_, λ a ha => ?_⟩⟩
  ·rw [hns, numAt_eq]; exact getD_mem (by rw [Zi, Zaa]; omega)
  ·rw [hns] at ha
   obtain ⟨j, hj, rfl⟩ := mem_getD ha
   rw [Zi, Zaa] at hj
   rw [← numAt_eq]; exact h2 j (by omega)
 ·obtain ⟨its, r', pl, hz⟩ := I.tuple hq
  obtain ⟨ys, e, hns⟩ := Qd1 (QbU r')
  have hl := pl
  rw [e] at hl
  have hsz : 0 < ys.size := by
   rcases Zbi ys.size with z | z
   ·exact absurd (by rw [hns, Zbc]; exact Zac (by simpa using z)) hne
   ·exact z
  refine Qmc (I.ok.hd hc) hl hsz λ v h' tk hv hk => ?_
  obtain ⟨t, rfl⟩ := intItems_at hv
  obtain ⟨h1, h2⟩ := argBest_gt (numAt ys) (ys.size - 1)
  refine ⟨.int _, H, I.kept hk, ⟨t, rfl⟩, q _ ⟨?_, λ a ha => ?_⟩⟩
  ·rw [hns, numAt_eq]; exact getD_mem (by rw [Zi, Zaa]; omega)
  ·rw [hns] at ha
   obtain ⟨j, hj, rfl⟩ := mem_getD ha
   rw [Zi, Zaa] at hj
   rw [← numAt_eq]; exact h2 j (by omega)
noncomputable def Qh5 : List Int -> Option Int
 | [] => none
 | [n] => some n
 | n :: r => (Qh5 r).map λ m => if m < n then m else n
noncomputable def QhL : List Int -> Option Int
 | [] => none
 | [n] => some n
 | n :: r => (QhL r).map λ m => if n < m then m else n
theorem Qhe : ∀ {ns : List Int} {m : Int}, Qh5 ns = some m -> Qi4 ns m
 | [], _, h => by cases h
 | [n], _, h => by cases h; exact ⟨by simp, λ a ha => by simp at ha; omega⟩
 | n :: k :: r, m, h => by
  simp only [Qh5] at h
  obtain ⟨m', h1, rfl⟩ := Zc.mp h
  obtain ⟨h2, h3⟩ := Qhe h1
  constructor
  ·split
   ·exact Zd _ h2
   ·exact Zk
  ·intro a ha
   rcases Zr.mp ha with rfl | ha
   ·split <;> omega
   ·have := h3 a ha; split <;> omega
theorem Qhk : ∀ {ns : List Int} {m : Int}, QhL ns = some m -> isMax ns m
 | [], _, h => by cases h
 | [n], _, h => by cases h; exact ⟨by simp, λ a ha => by simp at ha; omega⟩
 | n :: k :: r, m, h => by
  simp only [QhL] at h
  obtain ⟨m', h1, rfl⟩ := Zc.mp h
  obtain ⟨h2, h3⟩ := Qhk h1
  constructor
  ·split
   ·exact Zd _ h2
   ·exact Zk
  ·intro a ha
   rcases Zr.mp ha with rfl | ha
   ·split <;> omega
   ·have := h3 a ha; split <;> omega
theorem Qj8 {ns : List Int} {a b : Int} (h : Qi4 ns a) (g : Qi4 ns b) : a = b := by have := h.2 b g.1; have := g.2 a h.1; omega
theorem Qkg {ns : List Int} {a b : Int} (h : isMax ns a) (g : isMax ns b) : a = b := by have := h.2 b g.1; have := g.2 a h.1; omega
noncomputable def QfX : List D -> Option D
 | [.lst xs] => (Qdo xs).bind λ ns => (Qh5 ns).map .int
 | [.tup xs] => (Qdo xs).bind λ ns => (Qh5 ns).map .int
 | _ => none
noncomputable def Qf2 : List D -> Option D
 | [.lst xs] => (Qdo xs).bind λ ns => (QhL ns).map .int
 | [.tup xs] => (Qdo xs).bind λ ns => (QhL ns).map .int
 | _ => none
theorem QtS {K : PySem.W.Frag} : Qey K QfX (Qou K Qi4) := λ ds d e => by
 unfold QfX at e
 split at e
 ·obtain ⟨ns, h1, e⟩ := bind1 e
  obtain ⟨m, h2, rfl⟩ := Zc.mp e
  refine ⟨rfl, λ H vs F Q r q => ?_⟩
  obtain ⟨v, rfl, rp⟩ := r.one
  obtain ⟨l, ws, L, rfl, hl, rl, zl, el⟩ := rp.lst_inv
  rw [Qc9 h1] at rl
  rw [rl.ints] at hl
  exact ⟨l, ns, rfl, .inl (Q3 hl), λ z => (by rw [z] at h2; cases h2), λ M hM => by rw [Qj8 hM (Qhe h2)]; exact q _ λ _ => .int_mk⟩
 ·obtain ⟨ns, h1, e⟩ := bind1 e
  obtain ⟨m, h2, rfl⟩ := Zc.mp e
  refine ⟨rfl, λ H vs F Q r q => ?_⟩
  obtain ⟨v, rfl, rp⟩ := r.one
  obtain ⟨l, ws, rfl, hl, rl⟩ := rp.QaP
  rw [Qc9 h1] at rl
  rw [rl.ints] at hl
  exact ⟨l, ns, rfl, .inr hl, λ z => (by rw [z] at h2; cases h2), λ M hM => by rw [Qj8 hM (Qhe h2)]; exact q _ λ _ => .int_mk⟩
 ·cases e
theorem QtI {K : PySem.W.Frag} : Qey K Qf2 (Qou K isMax) := λ ds d e => by
 unfold Qf2 at e
 split at e
 ·obtain ⟨ns, h1, e⟩ := bind1 e
  obtain ⟨m, h2, rfl⟩ := Zc.mp e
  refine ⟨rfl, λ H vs F Q r q => ?_⟩
  obtain ⟨v, rfl, rp⟩ := r.one
  obtain ⟨l, ws, L, rfl, hl, rl, zl, el⟩ := rp.lst_inv
  rw [Qc9 h1] at rl
  rw [rl.ints] at hl
  exact ⟨l, ns, rfl, .inl (Q3 hl), λ z => (by rw [z] at h2; cases h2), λ M hM => by rw [Qkg hM (Qhk h2)]; exact q _ λ _ => .int_mk⟩
 ·obtain ⟨ns, h1, e⟩ := bind1 e
  obtain ⟨m, h2, rfl⟩ := Zc.mp e
  refine ⟨rfl, λ H vs F Q r q => ?_⟩
  obtain ⟨v, rfl, rp⟩ := r.one
  obtain ⟨l, ws, rfl, hl, rl⟩ := rp.QaP
  rw [Qc9 h1] at rl
  rw [rl.ints] at hl
  exact ⟨l, ns, rfl, .inr hl, λ z => (by rw [z] at h2; cases h2), λ M hM => by rw [Qkg hM (Qhk h2)]; exact q _ λ _ => .int_mk⟩
 ·cases e
theorem Qmr : QcV X (.builtin "divmod") (λ xs H Q => ∃ i j, xs = [.int i, .int j] /\ Qa7 j = true /\ ∀ p, H p = none -> Q (.ref p) (upd H p (.tup [.int (Qcp i j), .int (QbC i j)]))) := by
 intro pins s σ H xs us Q I r h
 obtain ⟨i, j, rfl, hc, q⟩ := h
 obtain ⟨u, w', rfl, ⟨t, rfl⟩, ⟨t', rfl⟩⟩ := vals2 r
 unfold Qa7 at hc
 simp only [Zg, decide_eq_true_eq] at hc
 have h0 : j.natAbs ≠ 0 := by omega
 refine PyProof.Rows.divmod_int hc.1 ?_ (.inl (Zbe (Nat.lt_trans ((Zce h0).mpr hc.2) (by decide))))
 rw [← Qhp, ← Qg6]
 have hn : H s.heap.objs.size = none := I.hok.fresh (Zm _)
 refine ⟨.ref s.heap.objs.size, _, ?_, rfl, q _ hn⟩
 refine I.laid (λ b o e => Zb _ e) (Zm _) ⟨by simp only [ZI, List.length_nil]; rw [sizeLine_eq]; decide, [.int (Qcp i j) s.toks, .int (QbC i j) (s.toks + 1)], .cons ⟨_, rfl⟩ (.cons ⟨_, rfl⟩ .nil), ?_⟩
 exact ⟨_, ZA s.heap rfl, rfl, 0, rfl⟩
noncomputable def dDm (fs : DA) : DE := λ ρ => (fs ρ).bind λ r => match r.ds with
 | [.int i, .int j] => if Qa7 j = true then some ⟨.tup [.int (Qcp i j), .int (QbC i j)], true, []⟩ else none
 | _ => none
theorem Qxe {x : Str} {p : Pos} (hg : Gl X "divmod") (hm : X.mg "divmod" = none) (ha : SA X (e :: es) fs) (he : starEach (e :: es) X.env = (false, eval e X.env) :: starEach es X.env) (hpl : (backTo pos (starEach es X.env)).any (·.1) = false) :
  SE X (.Call (.Name "divmod" p) (e :: es) [] pos) (dDm fs) := λ H0 A0 =>
 (Qh0 Qmr hg hm PyProof.Rows.boot_divmod (ha H0 A0) (by decide) (by decide) he hpl).mono λ σ H Q ⟨ρ, hs, F, r', rel, e, q⟩ => by
  obtain ⟨ra, e1, e⟩ := bind1 e
  refine ⟨ρ, hs, F, ra, rel, e1, λ vs H1 G p1 => ?_⟩
  split at e
  ·rename_i i j hds
   split at e
   ·rename_i hc
    cases e
    have rp := p1.rp
    rw [hds] at rp
    obtain ⟨v, w, F1, F2, rfl, r1, r2⟩ := rp.two
    refine ⟨i, j, by rw [r1.int_inv, r2.int_inv], hc, λ p hp => q _ _ [] (.flat (p1.same.trans (Qa4 hp)) (Rp.Qfl Qar ?_) rfl)⟩
    simp only [Rps]
    exact ⟨_, _, [], [], rfl, rfl, .int_mk, _, _, [], [], rfl, rfl, .int_mk, rfl, rfl⟩
   ·cases e
  ·cases e
end
end HS
namespace HS
open PySem PySem.Spec L2 PyProof.Rows
theorem Qhs : ∀ {vs : List V} {us : List Value}, us.length = vs.length -> (∀ (k : Nat) (v : V), vs[k]? = some v -> ∃ u, us[k]? = some u /\ RelV v u) -> Qy vs us
 | [], [], _, _ => .nil
 | [], _ :: _, h, _ => by simp at h
 | _ :: _, [], h, _ => by simp at h
 | v :: vs, u :: us, h, g => by
  obtain ⟨u', e, r⟩ := g 0 v rfl
  cases e
  exact .cons r (Qhs (by simpa using h) λ k v hk => g (k + 1) v hk)
section
variable {X : Cx} {a b c e tg : Expr} {es : List Expr} {fa fb fc : DE} {fs : DA} {pos p2 : Pos}
theorem QpD {pins : List (Addr × Obj)} {σ : L2.St} {H : Hp} {s : Shared} {Q : VK} {E : Value -> Shared -> Prop} {j : Int} {t u v : Tok} {tk : Nat} (I : Inv X pins σ H s) (hc : X.calm = true) (h0 : 0 <= j) (h1 : j <= 1000000)
  (q : ∀ l, H l = none -> Q (.ref l) (upd H l (.lst ((List.range j.toNat).map λ (k : Nat) => V.int (k : Int))))) :
  wpAny (model X.prog X.w) X.A (call (.type "list") [.ref s.heap.objs.size]) (EP X pins σ Q) E { s with heap := s.heap.push { cls := .type "range", data := .fields #[.int 0 t, .int j u, .int 1 v] }, toks := tk } := by
 have I2 : Inv X pins σ H { s with heap := s.heap.push { cls := .type "range", data := .fields #[.int 0 t, .int j u, .int 1 v] }, toks := tk } := I.kept λ b o e => Zb _ e
 refine call_list_range (n := j.toNat) (I.ok.hd hc) (IsRange.new ..) (small_one (by omega) (by omega) (by omega) (by omega)) (by rw [rangeSize_one]; split <;> omega) (by omega) λ h' tk' acc' c' hk hS hacc => ?_
 have hv : Qy ((List.range j.toNat).map λ (k : Nat) => V.int (k : Int)) acc'.toList := by
  have hl := hacc.1
  refine Qhs (by simp [hl]) λ k v hk => ?_
  rw [Zo] at hk
  have hkl : k < j.toNat := by
   by_cases z : k < j.toNat
   ·exact z
   ·rw [Zx (by simp; omega)] at hk; cases hk
  rw [ZO hkl] at hk
  cases hk
  obtain ⟨w, hw⟩ : ∃ w, acc'[k]? = some w := ⟨acc'[k]'(by omega), by rw [Array.getElem?_eq_getElem (by omega)]⟩
  obtain ⟨t', rfl⟩ := hacc.2 k w hw
  exact ⟨_, by rw [Array.getElem?_toList]; exact hw, ⟨t', by simp⟩⟩
 refine ⟨.ref _, _, I2.laid hk (Zm _) (show Qck X.prog X.w _ h' _ (.lst _) from ⟨by simp [Qfs]; omega, acc'.toList, c', hv, by simpa using hS⟩), rfl, q _ (I2.hok.fresh (Zm _))⟩
theorem Qo5 {p p' pos' : Pos} {ta : TA} (hg : Gl X "list") (hm : X.mg "list" = none) (hg' : Gl X "range") (hm' : X.mg "range" = none) (hc : X.calm = true) (ha : PA X [a] ta) (hs : starEach [a] X.env = [(false, eval a X.env)]) :
  PE X (.Call (.Name "list" p) [.Call (.Name "range" p') [a] [] pos'] [] pos) (λ σ H Q => ta σ H λ vs H1 => ∃ j : Int, vs = [.int j] /\ 0 <= j /\ j <= 1000000 /\ ∀ l, H1 l = none -> Q (.ref l) (upd H1 l (.lst ((List.range j.toNat).map λ (k : Nat) => V.int (k : Int))))) := by
 intro pins s σ H Q I h
 refine wpAny_Call_Name_kw (Qcu I hg hm boot_list ?_ (by decide) (by decide))
 refine ZP (Calls.spliced_cons ?_) rfl rfl
 refine Call_ (Qcu I hg' hm' boot_range (ZP (thn (ha pos' pins s σ H _ I h) λ us s1 ⟨vs, H1, I1, r1, q1⟩ => ?_) hs rfl))
 obtain ⟨j, e, q1, q2, q⟩ := q1
 subst e
 cases r1 with
 | cons r rr =>
  cases rr
  obtain ⟨t, rfl⟩ := r
  exact call_range_1 (Calls.spliced_nil (QpD I1 hc q1 q2 q))
noncomputable def QkS (fa : DE) : DE := λ ρ => (fa ρ).bind λ r => match r.d with
 | .int j => if 0 <= j /\ j <= 1000000 then some ⟨.lst ((List.range j.toNat).map λ (k : Nat) => .int (k : Int)), true, []⟩ else none
 | _ => none
theorem Rps.ofInts {K : PySem.W.Frag} {H : Hp} : ∀ ns : List Int, Rps K H (ns.map .int) (ns.map .int) []
 | [] => by simp [Rps]
 | n :: ns => by simp only [Zn, Rps]; exact ⟨_, _, [], [], rfl, rfl, .int_mk, Rps.ofInts ns⟩
theorem QqK : ∀ ns : List Int, QK (ns.map .int) = true
 | [] => rfl
 | n :: ns => by simp [QK, D.flat, QqK ns]
theorem QtD {p p' pos' : Pos} (hg : Gl X "list") (hm : X.mg "list" = none) (hg' : Gl X "range") (hm' : X.mg "range" = none) (hc : X.calm = true) (ha : SE X a fa) (hs : starEach [a] X.env = [(false, eval a X.env)]) :
  SE X (.Call (.Name "list" p) [.Call (.Name "range" p') [a] [] pos'] [] pos) (QkS fa) := λ H0 A0 =>
 (Qo5 hg hm hg' hm' hc (Q2 (ha H0 A0) Qbh hs) hs).mono λ σ H Q ⟨ρ, hs, F, r', rel, e, q⟩ => by
  obtain ⟨ra, e1, e⟩ := bind1 e
  refine ⟨ρ, hs, F, ra, rel, e1, λ v H1 G p1 => ?_⟩
  cases hd : ra.d with
  | int j =>
   rw [hd] at e
   dsimp only at e
   split at e
   ·rename_i hj
    cases e
    have rp := p1.rp
    rw [hd] at rp
    refine ⟨j, by rw [rp.int_inv], hj.1, hj.2, λ l hl => ?_⟩
    have e2 : ((List.range j.toNat).map λ (k : Nat) => D.int (k : Int)) = ((List.range j.toNat).map λ (k : Nat) => (k : Int)).map D.int := by rw [ZR]; rfl
    have e3 : ((List.range j.toNat).map λ (k : Nat) => V.int (k : Int)) = ((List.range j.toNat).map λ (k : Nat) => (k : Int)).map V.int := by rw [ZR]; rfl
    have := Q6.Qa2 (M := []) (ρ := ρ) (F := F) p1.same hl (Rps.ofInts (K := X.K) (H := H1) ((List.range j.toNat).map λ (k : Nat) => (k : Int))) (by simp [Qfs]; omega) Src.nil Qa5.nil
    rw [← e2, ← e3] at this
    unfold Qa2 at this
    rw [if_pos (by rw [e2]; exact QqK _)] at this
    exact q _ _ _ this
   ·cases e
  | _ => rw [hd] at e; cases e
noncomputable def Itd (hi : Int) (n : Nat) : It := ⟨λ i _ => i < n, λ i H x H' => H' = H /\ x = .int (hi - i), λ i _ => n <= i⟩
theorem QmS {P : Program} {w : World} {K : PySem.W.Frag} {tg : Expr} (it : Addr) (lo : Int) (n : Nat) : Turn P w K tg (Itd lo n) [it] it (λ i h => IsRangeIter h it (lo + (i : Nat) * (-1)) ((n : Int) - (i : Nat)) (-1)) where
 mem := by simp
 obj := λ i h st b hb => by
  have e : b = it := by simpa using hb
  subst e
  exact ⟨_, st, λ v z => by
   have z' : Data.fields _ = Data.cell v := z
   cases z'⟩
 keep := λ i h h' st k => k it (by simp) _ st
 item := by
  intro X hP hw hK hc i pins s σ H E I hf st hg
  subst hP hw hK
  obtain ⟨f0, f1, f2, f3, f4, f5⟩ := hf it (by simp)
  have W := Walks.range (prog := X.prog) (w := X.w) (I.ok.hd hc) it lo (-1) n
  refine W.item i s _ _ hg st λ v h' tk hv st' kk => ?_
  obtain ⟨t, rfl⟩ := hv
  have I1 : Inv X pins σ H { s with heap := h', toks := tk } := I.turned (λ b o hb e => kk b o (by simpa using hb) e) f0 f1 f3 f4 f5
  refine ⟨_, rfl, QkT (s := { s with heap := h', toks := tk }) (n := "range_iterator") st' rfl rfl (by decide) ⟨.int (lo - i), H, I1, ⟨t, ?_⟩, ⟨rfl, rfl⟩, st', λ b hb => (hf b hb).1⟩⟩
  rw [show lo + (i : Int) * -1 = lo - i by omega]
 done := by
  intro X hP hw hK hc i pins s σ H E I hf st hg
  subst hP hw hK
  obtain ⟨f0, f1, f2, f3, f4, f5⟩ := hf it (by simp)
  exact wpAny_pyNext_range_end (I.ok.hd hc) st (by have : n <= i := hg; omega) λ h' eb => ⟨rfl, I.turned (t' := s.toks) (λ b o hb e => eb b o hb e) f0 f1 f3 f4 f5⟩
 self := λ _ _ _ _ _ st h => wpAny_pyIter_rangeiter st h
theorem Qj9 (lo hi : Int) : Builtin.Range.rangeSize lo hi (-1) = if lo > hi then lo - hi else 0 := by
 unfold Builtin.Range.rangeSize
 rw [if_neg (by decide)]
 split
 ·rw [show (- -1 : Int) = 1 by decide, Int.ediv_one]; omega
 ·rfl
theorem small_down {lo hi : Int} (h1 : -(2 ^ 62) <= lo) (h2 : lo < 2 ^ 62) (h3 : -(2 ^ 62) <= hi) (h4 : hi < 2 ^ 62) : Builtin.Range.small lo hi (-1) = true := by
 unfold Builtin.Range.small
 rw [Qj9]
 simp only [Builtin.Range.rangeFitsLong, Zg, Zcb, decide_eq_true_eq, beq_iff_eq, show ¬ ((-1 : Int) > 0) by decide, if_false]
 split <;> omega
theorem QqA {pins : List (Addr × Obj)} {σ : L2.St} {H : Hp} {s : Shared} {R : It -> Hp -> Prop} {E : Value -> Shared -> Prop} {lo hi : Int} {t u v : Tok} {tk : Nat} (I : Inv X pins σ H s) (h1 : -(2 ^ 62) <= lo) (h2 : lo < 2 ^ 62) (h3 : -(2 ^ 62) <= hi) (h4 : hi < 2 ^ 62)
  (q : R (Itd lo (lo - hi).toNat) H) : wpAny (model X.prog X.w) X.A (pyIter (.ref s.heap.objs.size)) (PIE X pins σ tg R) E { s with heap := s.heap.push { cls := .type "range", data := .fields #[.int lo t, .int hi u, .int (-1) v] }, toks := tk } := by
 refine wpAny_pyIter_range (IsRange.new ..) (small_down h1 h2 h3 h4) ?_
 have I1 : Inv X pins σ H { s with heap := s.heap.push { cls := .type "range", data := .fields #[.int lo t, .int hi u, .int (-1) v] }, toks := tk } := I.kept λ b o e => Zb _ e
 refine ⟨(s.heap.push { cls := .type "range", data := .fields #[.int lo t, .int hi u, .int (-1) v] }).objs.size, [(s.heap.push { cls := .type "range", data := .fields #[.int lo t, .int hi u, .int (-1) v] }).objs.size], _, _, H, rfl,
  I1.kept (t' := tk) λ b o e => Zb _ e, QmS _ lo (lo - hi).toNat, ?_, λ b hb => ?_, q⟩
 ·have e1 : lo + ((0 : Nat) : Int) * (-1) = lo := by simp
  have e2 : (((lo - hi).toNat : Nat) : Int) - ((0 : Nat) : Int) = Builtin.Range.rangeSize lo hi (-1) := by rw [Qj9]; split <;> omega
  show IsRangeIter _ _ (lo + ((0 : Nat) : Int) * (-1)) ((((lo - hi).toNat : Nat) : Int) - ((0 : Nat) : Int)) (-1)
  rw [e1, e2]
  exact ZA _ rfl
 ·have e : b = (s.heap.push { cls := .type "range", data := .fields #[.int lo t, .int hi u, .int (-1) v] }).objs.size := by simpa using hb
  subst e
  exact I1.Qie (Zm _) (I1.hok.fresh (Zm _))
noncomputable def QwG (ta : TA) : TI := λ σ H R => ta σ H λ vs H1 => ∃ i j : Int, vs = [.int i, .int j, .int (-1)] /\ (-(2 ^ 62) <= i /\ i < 2 ^ 62 /\ -(2 ^ 62) <= j /\ j < 2 ^ 62) /\ R (Itd i (i - j).toNat) H1
theorem QpP {ta : TA} {p pos : Pos} (hg : Gl X "range") (hm : X.mg "range" = none) (ha : PA X [a, b, c] ta) (hs : starEach [a, b, c] X.env = (false, eval a X.env) :: starEach [b, c] X.env) (hs2 : (backTo pos (starEach [b, c] X.env)).any (·.1) = false) :
  PI X tg (.Call (.Name "range" p) [a, b, c] [] pos) (QwG ta) := by
 intro pins s σ H R I h
 refine Call_ (Qcu I hg hm boot_range (ZP (thn (ha pos pins s σ H _ I h) λ us s1 ⟨vs, H1, I1, r1, q1⟩ => ?_) hs hs2))
 obtain ⟨i, j, e, ⟨q1, q2, q3, q4⟩, q⟩ := q1
 subst e
 cases r1 with
 | cons r rr =>
  cases rr with
  | cons r' rr =>
   cases rr with
   | cons r'' rr =>
    cases rr
    obtain ⟨t, rfl⟩ := r
    obtain ⟨t', rfl⟩ := r'
    obtain ⟨t'', rfl⟩ := r''
    exact call_range_3 (by decide) (QqA I1 q1 q2 q3 q4 q) (.inl (Zbe (by decide +kernel)))
noncomputable def QjK (hi : Int) (n : Nat) : List D := (List.range n).map λ (k : Nat) => .int (hi - (k : Int))
theorem Qru {lo : Int} {n i : Nat} {d : D} (h : (QjK lo n)[i]? = some d) : i < n /\ d = .int (lo - i) := by
 unfold QjK at h
 rw [Zo] at h
 by_cases hi : i < n
 ·rw [ZO hi] at h; cases h; exact ⟨hi, rfl⟩
 ·rw [Zx (by simp; omega)] at h; cases h
noncomputable def Qfi (fa fb fc : DE) : DI := λ ρ => (fa ρ).bind λ r => (fb ρ).bind λ r' => (fc ρ).bind λ r'' => match r.d, r'.d, r''.d with
 | .int i, .int j, .int (-1) => if i - j <= 16777216 /\ -(2 ^ 62) <= i /\ i < 2 ^ 62 /\ -(2 ^ 62) <= j /\ j < 2 ^ 62 then some ⟨QjK i (i - j).toNat, []⟩ else none
 | _, _, _ => none
theorem Qic {lo : Int} {n : Nat} : (QjK lo n).length = n := by simp [QjK]
theorem QmX {K : PySem.W.Frag} {lo : Int} {n : Nat} : Walk K (Itd lo n) [] (QjK lo n) where
 stop := λ H _ => by rw [Qic]; exact Zm _
 go := λ i H hi _ => by rw [Qic] at hi; exact hi
 yld := λ i d H x H' e _ y => by
  obtain ⟨h1, rfl⟩ := Qru e
  obtain ⟨rfl, rfl⟩ := y
  exact ⟨QL.refl _, [], .int_mk, λ z hz => by simp at hz⟩
theorem Qo4 {p : Pos} (hg : Gl X "range") (hm : X.mg "range" = none) (ha : SE X a fa) (hb : SE X b fb) (hc : SE X c fc) (h1 : starEach [a, b, c] X.env = (false, eval a X.env) :: starEach [b, c] X.env) (h2 : starEach [b, c] X.env = (false, eval b X.env) :: starEach [c] X.env) (h3 : starEach [c] X.env = (false, eval c X.env) :: starEach [] X.env) :
  SI X tg (.Call (.Name "range" p) [a, b, c] [] pos) (Qfi fa fb fc) := λ H0 A0 =>
 (QpP hg hm (Q2 (ha H0 A0) (Q2 (hb H0 A0) (Q2 (hc H0 A0) Qbh h3) h2) h1) h1 (by rw [h2, h3]; rfl)).mono λ σ H Rr ⟨ρ, hs, F, ir, rel, e, q⟩ => by
  obtain ⟨r, e1, e⟩ := bind1 e
  obtain ⟨r', e2, e⟩ := bind1 e
  obtain ⟨r'', e3, e⟩ := bind1 e
  refine ⟨ρ, hs, F, r, rel, e1, λ v H1 G pp => ⟨ρ, hs, F, r', rel.ext pp.same, e2, λ v' H2 G' pp' => ⟨ρ, hs, F, r'', (rel.ext pp.same).ext pp'.same, e3, λ v'' H3 G'' pp'' => ?_⟩⟩⟩
  split at e
  ·rename_i i j hr hr' hr''
   split at e
   ·rename_i hz
    cases e
    have rp := (pp.rp.same pp'.same).same pp''.same
    have rp' := pp'.rp.same pp''.same
    have rp'' := pp''.rp
    rw [hr] at rp
    rw [hr'] at rp'
    rw [hr''] at rp''
    rw [rp.int_inv, rp'.int_inv, rp''.int_inv]
    refine ⟨i, j, rfl, hz.2, q _ H3 [] ((pp.same.trans pp'.same).trans pp''.same) QmX (λ t ht => by simp at ht) Qa5.nil ?_⟩
    rw [Qic, Qfs]; omega
   ·cases e
  ·cases e
theorem QtM : MtR X "int.bit_length" (λ x vs H Q => ∃ i, x = .int i /\ vs = [] /\ Q (.int (Builtin.Int.intBits i)) H) := by
 intro pins s σ H x vs v us Q I rx rv h
 obtain ⟨i, rfl, rfl, q⟩ := h
 obtain ⟨t, rfl⟩ := rx
 have hus := rv.zero
 subst hus
 exact call_int_bit_length ⟨.int _, H, I.tok _, ⟨_, rfl⟩, q⟩
noncomputable def QkK (fa : DE) : DE := λ ρ => (fa ρ).bind λ r => match r.d with
 | .int i => some ⟨.int (Builtin.Int.intBits i), true, []⟩
 | _ => none
theorem Quo {apos cpos : Pos} (ha : SE X a fa) (hb : attributeBase a "bit_length" X.env (eval a X.env) = eval a X.env) (hl : (apos.endLine == cpos.line) = true) : SE X (.Call (.Attribute a "bit_length" apos) [] [] cpos) (QkK fa) := λ H0 A0 =>
 (QqF PySem.F.plainAttrs_int PySem.F.slot_int_bit_length PySem.F.type_int_bit_length QtM (ha H0 A0) hb hl).mono λ σ H Q ⟨ρ, hs, F, r', rel, e, q⟩ => by
  obtain ⟨ra, e1, e⟩ := bind1 e
  refine ⟨ρ, hs, F, ra, rel, e1, λ v H1 G p1 => ?_⟩
  cases hd : ra.d with
  | int i =>
   rw [hd] at e
   cases e
   have rp := p1.rp
   rw [hd] at rp
   rw [rp.int_inv]
   exact ⟨rfl, i, rfl, rfl, q _ _ [] (.flat p1.same .int_mk)⟩
  | _ => rw [hd] at e; cases e
end
end HS
namespace HS
open PySem PySem.Spec PyProof.Rows L2
section
variable {X : Cx} {a b c : Expr} {fa fb fc : DE} {pos : Pos}
noncomputable def Qi2 (fa : DE) (i : Nat) : DE := λ ρ => (fa ρ).bind λ ra => (Qa i ρ).bind λ r => match r.d with
 | .tup [a, b] => if ra.d.flat = true then some ⟨.tup [ra.d, a, b], r.fr, r.M⟩ else none
 | _ => none
theorem Qrm {K : PySem.W.Frag} {H0 : Hp} {A0 : List Addr} {hs : List (V × D × List Addr)} {ρ : En} {F : Nat -> List Addr} {σ : L2.St} {H : Hp} {i : Nat} {r : HS.R} (rel : Rel K H0 A0 hs ρ F σ H) (e : Qa i ρ = some r) : ∃ v G, σ[i]? = some (some v) /\ Q6 K ρ F H H r v G := by
 unfold Qa at e
 split at e
 ·rename_i d b q1
  obtain ⟨v, h1, h2⟩ := rel.val i d b q1
  refine ⟨v, F i, h1, ?_⟩
  split at e
  ·rename_i hf
   cases e
   have := h2.QaY hf
   rw [this] at h2 ⊢
   exact .flat (QL.refl _) h2 hf
  ·split at e
   ·rename_i hb
    cases e
    subst hb
    exact ⟨QL.refl _, h2, λ a ha => .inr ⟨i, d, true, q1, ha, λ _ => by simp⟩, λ _ => ⟨λ a => (by simp), (rel.own i d q1).1⟩, λ j hj => by simp at hj; subst hj; exact ⟨d, q1⟩⟩
   ·rename_i hb
    cases e
    simp at hb
    subst hb
    exact ⟨QL.refl _, h2, λ a ha => .inr ⟨i, d, false, q1, ha, λ z => by cases z⟩, λ z => (by cases z), Qa5.nil⟩
 ·cases e
theorem Qs6 {i : Nat} {x y : Str} {p1 p2 q1 q2 s1 s2 : Pos} {k1 k2 k : Nat} (hc : SE X c fa) (hx : PE X (.Name x p1) (QjD i)) (hy : PE X (.Name y p2) (QjD i)) (hs : ∀ es, starEach (c :: es) X.env = (false, eval c X.env) :: starEach es X.env) :
  SE X (.Tuple [c, .Subscript (.Name x p1) (.Constant (.int 0) k1 q1) s1, .Subscript (.Name y p2) (.Constant (.int 1) k2 q2) s2] k pos) (Qi2 fa i) := λ H0 A0 =>
 (QpT (Q2 (hc H0 A0) (Q2 (QkL QiM hx Qmk (λ _ _ => rfl)) (Q2 (QkL QiM hy Qmk (λ _ _ => rfl)) Qbh rfl) rfl) (hs _))).mono λ σ H Q ⟨ρ, hs, F, r', rel, e, q⟩ => by
  obtain ⟨ra, e1, e⟩ := bind1 e
  obtain ⟨r, e2, e⟩ := bind1 e
  split at e
  ·rename_i da db er
   split at e
   ·rename_i hf
    cases e
    refine ⟨ρ, hs, F, ra, rel, e1, λ z H1 G p => ?_⟩
    obtain ⟨v, G', hv, pv⟩ := Qrm (rel.ext p.same) e2
    have rp := pv.rp
    rw [er] at rp
    obtain ⟨l, vs, rfl, hq, rps⟩ := rp.QaP
    have rps0 := rps
    simp only [Rps] at rps
    obtain ⟨va, ws, F1, F2, rfl, rfl, ra1, vb, ws2, F3, F4, rfl, rfl, rb1, rfl, rfl⟩ := rps
    have pz := p.rp
    refine ⟨_, hv, l, [va, vb], 0, va, rfl, rfl, hq, rfl, _, hv, l, [va, vb], 1, vb, rfl, rfl, hq, rfl, ?_⟩
    refine ⟨Qd4 (show 3 <= 64 by decide), λ c hc => q _ _ (F1 ++ (F3 ++ [])) ⟨p.same.trans (Qa4 hc), Rp.Qfl Qar ?_, ?_, λ h => ⟨?_, ?_⟩, pv.own⟩⟩
    ·have g0 := pz.QaY hf
     subst g0
     have r3 : Rps X.K H1 [ra.d, da, db] [z, va, vb] (F1 ++ (F3 ++ [])) := by
      have := rps0
      simp only [Rps] at this ⊢
      exact ⟨z, _, [], _, rfl, rfl, pz, this⟩
     exact r3.same (Qa4 hc)
    ·exact λ a ha => by
      rcases pv.src a ha with h | h
      ·exact .inl (p.same.free h)
      ·exact .inr h
    ·have := (pv.cnt h).1
     intro a
     have h1 := this a
     have h2 : nw H1 a <= nw H a := by
      cases q1 : H1 a with
      | none => rw [QaO q1, QaO (p.same.free q1)]; exact Zm _
      | some o => unfold nw; rw [q1]; exact Zag _
     exact ZF h1 (ZaY h2 _)
    ·have := (pv.cnt h).2
     rw [er] at this
     simp only [D.nl, nls, Qb4 _ hf] at this ⊢
     omega
   ·cases e
  ·cases e
end
end HS
namespace HS
open PySem PySem.Spec L2
structure FnR where
 n : Nat
 dfl : List D
 den : Den
structure Th where
 N : List Str
 sc : List (Str × NameKind)
 Γ : List (Str × FnR)
 cs : List (Str × Int)
noncomputable def posOf (x : Str) : List Str -> Option Nat
 | [] => none
 | y :: ys => if x = y then some 0 else (posOf x ys).map (· + 1)
theorem QeN : ∀ {x : Str} {ys : List Str} {i : Nat}, posOf x ys = some i -> ys[i]? = some x
 | x, [], i, h => by cases h
 | x, y :: ys, i, h => by
  unfold posOf at h
  split at h
  ·rename_i e; cases h; subst e; rfl
  ·obtain ⟨j, hj, rfl⟩ := Zc.mp h
   simpa using QeN hj
noncomputable def look {α : Type} (x : Str) : List (Str × α) -> Option α
 | [] => none
 | (y, a) :: r => if x = y then some a else look x r
theorem Qbm {α : Type} : ∀ {x : Str} {l : List (Str × α)}, look x l = l.lookup x
 | x, [] => rfl
 | x, (y, a) :: r => by
  unfold look
  rw [Zt]
  by_cases h : x = y
  ·subst h; simp
  ·rw [if_neg h, Qbm]
   have : (x == y) = false := by simpa using h
   rw [this]
noncomputable def QsO : NameKind -> Bool
 | .local => true | .cell => true | .free => true | _ => false
noncomputable def QsQ : NameKind -> Bool
 | .local => true | .cell => true | _ => false
noncomputable def QxM : NameKind -> Bool
 | .globalImplicit => true | _ => false
noncomputable def isFree : NameKind -> Bool
 | .free => true | _ => false
noncomputable def odd (x : Str) : Bool := decide (x = "__debug__") || decide (x = "__classdict__") || decide (x = "__name__")
noncomputable def Th.slot (Θ : Th) (x : Str) : Option Nat := if ((look x Θ.sc).map QsO).getD false && !odd x then posOf x Θ.N else none
noncomputable def Th.Qd2 (Θ : Th) (x : Str) : Option Nat := if ((look x Θ.sc).map QsQ).getD false && !odd x then posOf x Θ.N else none
noncomputable def Th.gl (Θ : Th) (x : Str) : Bool := ((look x Θ.sc).map QxM).getD false && !odd x
def Qus (X : Cx) (x : Str) (r : FnR) : Prop := ∃ k f fd ps, QcR X.prog X.w X.K X.mg X.base CX0 k f fd ps (spV X.K r.n r.den) /\ Qbl k X.A /\ X.mg x = some (.ref f) /\ PySem.W.keepIn X.K (.ref f) = true ∧
 ∀ m, m <= r.dfl.length -> ∃ ds dvs, Binds X.K fd ps ds /\ Qy dvs ds /\ ∀ H, Rps X.K H (r.dfl.drop (r.dfl.length - m)) dvs []
noncomputable def QlR : List Str := ["range", "enumerate", "zip", "len", "list", "min", "max", "sum", "abs", "isinstance", "int", "bool", "tuple", "str", "divmod", "sorted", "any", "all"]
structure Qaf (X : Cx) (Θ : Th) : Prop where
 N : X.N = Θ.N
 nd : Θ.N.Nodup
 lc : ∀ x, look x Θ.sc = some .local -> X.env.scope.names.lookup x = some .local
 ce : ∀ x, look x Θ.sc = some .cell -> X.env.scope.names.lookup x = some .cell /\ X.fn x = true
 fe : ∀ x, look x Θ.sc = some .free -> X.env.scope.names.lookup x = some .cell ∨ X.env.scope.names.lookup x = some .free
 gl : ∀ x, look x Θ.sc = some .globalImplicit -> X.env.scope.names.lookup x = some .globalImplicit
 calm : X.calm = true
 pass : PassesOwn (model X.prog X.w) X.A X.env X.xe
 units : X.A.units + 64 < cLine
 mg : ∀ x ∈ QlR, X.mg x = none
 fns : ∀ x r, look x Θ.Γ = some r -> Qus X x r
 cs : ∀ x i, look x Θ.cs = some i -> ∃ t, X.mg x = some (.int i t)
section
variable {X : Cx} {Θ : Th} (ok : Qaf X Θ)
theorem QnT {x : Str} (h : odd x = false) : (x == ("__debug__" : Str)) = false /\ (x == ("__classdict__" : Str)) = false /\ x ≠ "__name__" := by
 unfold odd at h
 simp only [Bool.or_eq_false_iff, decide_eq_false_iff_not] at h
 exact ⟨by simpa using h.1.1, by simpa using h.1.2, h.2⟩
theorem Qej (ok : Qaf X Θ) {x : Str} {i : Nat} {pos : Pos} (h : Θ.slot x = some i) : PE X (.Name x pos) (QjD i) := by
 unfold Th.slot at h
 split at h
 ·rename_i hc
  simp only [Zg, ZaE] at hc
  obtain ⟨h1, h2, _⟩ := QnT hc.2
  refine QuP (by rw [ok.N]; exact QeN h) ?_ h1 h2
  cases q : look x Θ.sc with
  | none => rw [q] at hc; cases hc.1
  | some k =>
   rw [q] at hc
   cases k with
   | «local» => exact .inl (ok.lc x q)
   | cell => exact .inr (.inl (ok.ce x q).1)
   | free => exact .inr (ok.fe x q)
   | _ => cases hc.1
 ·cases h
theorem QfH (ok : Qaf X Θ) {x : Str} {i : Nat} (h : Θ.Qd2 x = some i) : X.N[i]? = some x /\ Loc X.env.scope x /\ (X.fn x = true ∨ X.env.scope.names.lookup x = some .local) := by
 unfold Th.Qd2 at h
 split at h
 ·rename_i hc
  simp only [Zg, ZaE] at hc
  refine ⟨by rw [ok.N]; exact QeN h, ?_⟩
  cases q : look x Θ.sc with
  | none => rw [q] at hc; cases hc.1
  | some k =>
   rw [q] at hc
   cases k with
   | «local» => exact ⟨.inl (ok.lc x q), .inr (ok.lc x q)⟩
   | cell => exact ⟨.inr (ok.ce x q).1, .inl (ok.ce x q).2⟩
   | _ => cases hc.1
 ·cases h
theorem Qho (ok : Qaf X Θ) {x : Str} (h : Θ.gl x = true) : Gl X x /\ (x == ("__debug__" : Str)) = false /\ x ≠ "__name__" := by
 unfold Th.gl at h
 simp only [Zg, ZaE] at h
 obtain ⟨h1, h2, h3⟩ := QnT h.2
 refine ⟨?_, h1, h3⟩
 cases q : look x Θ.sc with
 | none => rw [q] at h; cases h.1
 | some k =>
  rw [q] at h
  cases k with
  | globalImplicit => exact ok.gl x q
  | _ => cases h.1
end
noncomputable def isTup : Expr -> Bool
 | .Tuple .. => true
 | _ => false
noncomputable def Qqh : Expr -> Option Str
 | .Name x _ => some x
 | _ => none
noncomputable def QeZ (Θ : Th) : Expr -> Option Tg
 | .Name x _ => (Θ.Qd2 x).map .nm
 | .Tuple es _ _ => ((es.mapM Qqh).bind λ xs => xs.mapM Θ.Qd2).map .tp
 | _ => none
noncomputable def Qn8 : CmpOp -> Option (D -> D -> Option D)
 | .Eq => some gEq | .NotEq => some gNe | .Lt => some gLt | .LtE => some gLe | .Gt => some gGt | .GtE => some gGe
 | .Is => none | .IsNot => none
 | .In => some (gIn false) | .NotIn => some (gIn true)
noncomputable def QrN (x : Str) : Option String :=
 if x = "int" then some "int" else if x = "bool" then some "bool" else if x = "list" then some "list" else if x = "tuple" then some "tuple" else if x = "str" then some "str" else none
noncomputable def inner (Θ : Th) (scope : Scope) : Th := { N := (scope.names.filter λ y => QsO y.2).map (·.1), sc := scope.names, Γ := Θ.Γ, cs := Θ.cs }
noncomputable def Qhm (Θ : Th) (scope : Scope) : List (Option Nat) := (inner Θ scope).N.map λ x => if ((look x scope.names).map isFree).getD false then posOf x Θ.N else none
noncomputable def Qim (Θ : Th) (scope : Scope) (t : Tg) : Bool := (scope.kind == .function) && decide (inner Θ scope).N.Nodup &&
 (scope.names.all λ y => match y.2 with
  | .cell => decide (look y.1 scope.names = some .cell)
  | .local => decide (look y.1 scope.names = some .local)
  | .free => match look y.1 Θ.sc with
   | some .cell => true
   | some .free => true
   | _ => false
  | _ => true) &&
 t.slots.all λ j => match (Qhm Θ scope)[j]? with
  | some (some _) => false
  | _ => true
noncomputable def Qh3 (Θ : Th) (x : Str) (a : Expr) : Option Expr := match a with
 | .Call (.Name y _) [b] [] _ => if x = "list" /\ y = "range" /\ Θ.gl y = true /\ (look y Θ.Γ).isNone = true then some b else none
 | _ => none
noncomputable def Qli (Θ : Th) (es : List Expr) : Option (Expr × Nat) := match es with
 | [c, .Subscript (.Name x _) (.Constant (.int u) _ _) _, .Subscript (.Name y _) (.Constant (.int v) _ _) _] => (Θ.slot x).bind λ i => (Θ.slot y).bind λ j => if i = j /\ u = 0 /\ v = 1 then some (c, i) else none
 | _ => none
noncomputable def QwN : List Expr -> Bool
 | [] => true | [_] => true | _ => false
noncomputable def bf1 (x : Str) (fa : DE) : Option DE :=
 if x = "len" then some (dBf Qa3 (Qc fa Qg)) else
 if x = "list" then some (dList (Qc fa Qg)) else
 if x = "abs" then some (dBf QoD (Qc fa Qg)) else
 if x = "min" then some (dBf QfX (Qc fa Qg)) else
 if x = "max" then some (dBf Qf2 (Qc fa Qg)) else
 none
noncomputable def bf2 (x : Str) (fa fb : DE) : Option DE :=
 if x = "min" then some (dBf Qfz (Qc fa (Qc fb Qg))) else
 if x = "max" then some (dBf QfR (Qc fa (Qc fb Qg))) else
 if x = "divmod" then some (dDm (Qc fa (Qc fb Qg))) else
 none
mutual
noncomputable def Qq (n : Nat) (Θ : Th) (e : Expr) : Option DE := match n with
 | 0 => none
 | n + 1 => match e with
  | .Name x _ => match Θ.slot x with
   | some i => some (Qa i)
   | none => if Θ.gl x then (look x Θ.cs).map λ i => dC (.int i) else none
  | .Constant (.int i) _ _ => some (dC (.int i))
  | .Constant (.bool b) _ _ => some (dC (.bl b))
  | .Constant .none _ _ => some (dC .non)
  | .Constant (.str x) _ _ => some (dC (.str x))
  | .BinOp a op b _ => (Qq n Θ a).bind λ fa => (Qq n Θ b).bind λ fb => match op with
   | .Add => some (QH fa fb)
   | .Mult => some (Qao fa fb)
   | .Sub => some (dOp Qat fa fb)
   | .FloorDiv => some (dOp Qdh fa fb)
   | .Mod => some (dOp Qau fa fb)
   | .Pow => some (dOp Qdu fa fb)
   | .RShift => some (dOp Qmq fa fb)
   | _ => none
  | .UnaryOp .USub a _ => (Qq n Θ a).map QgN
  | .UnaryOp .Not a _ => (Qq n Θ a).map QvH
  | .BoolOp .And [a] _ => Qq n Θ a
  | .BoolOp .And (a :: b :: r) p => (Qq n Θ a).bind λ fa => (Qq n Θ (.BoolOp .And (b :: r) p)).map λ fb => QlP fa fb
  | .BoolOp .Or [a] _ => Qq n Θ a
  | .BoolOp .Or (a :: b :: r) p => (Qq n Θ a).bind λ fa => (Qq n Θ (.BoolOp .Or (b :: r) p)).map λ fb => dOr fa fb
  | .Compare a [op] [b] _ => (Qq n Θ a).bind λ fa => (Qq n Θ b).bind λ fb => (Qn8 op).map λ g => dOp g fa fb
  | .Tuple es _ _ => (match Qli Θ es with | some ci => (Qq n Θ ci.1).map λ fa => Qi2 fa ci.2 | none => (Qbj n Θ es).map Qaz)
  | .List es _ => (Qbj n Θ es).map QW
  | .Subscript a (.Slice lo hi none _) _ => (Qq n Θ a).bind λ fa => (Qg4 n Θ lo).bind λ fl => (Qg4 n Θ hi).map λ fh => Qcs fa fl fh
  | .Subscript a b _ => (Qq n Θ a).bind λ fa => (Qq n Θ b).map λ fb => Qk fa fb
  | .Call (.Name x _) args [] _ => if Θ.gl x then (match look x Θ.Γ with
    | some r => if r.n <= args.length + r.dfl.length /\ args.length <= r.n then (Qbj n Θ args).map λ fs => Qw r.n r.den (r.dfl.drop (r.dfl.length - (r.n - args.length))) fs else none
    | none => Qi1 n Θ x args) else none
  | .Call (.Attribute (.Name x p) m apos) [] [] cpos => if m = "bit_length" /\ (apos.endLine == cpos.line) = true then (Qq n Θ (.Name x p)).map QkK else none
  | .ListComp elt [⟨tg, iter, ifs, 0⟩] scope _ => (QeZ (inner Θ scope) tg).bind λ t => if Qim Θ scope t && QwN ifs then
    (QeU n Θ tg iter).bind λ fi => (Qex n (inner Θ scope) ifs).bind λ ft => (Qq n (inner Θ scope) elt).map λ fe => QX fi t (Qhm Θ scope) ft fe else none
  | _ => none
noncomputable def Qi1 (n : Nat) (Θ : Th) (x : Str) (args : List Expr) : Option DE := match n with
  | 0 => none
  | n + 1 => match args with
    | [a] => match Qh3 Θ x a with
     | some b => (Qq n Θ b).map QkS
     | none => (Qq n Θ a).bind λ fa => bf1 x fa
    | [a, b] => if x = "isinstance" then (Qq n Θ a).bind λ fa => match b with
        | .Name y _ => if Θ.gl y then (QrN y).map λ T => Qe6 T fa else none
        | _ => none
      else (Qq n Θ a).bind λ fa => (Qq n Θ b).bind λ fb => bf2 x fa fb
    | _ => none
noncomputable def QaZ (n : Nat) (Θ : Th) (e : Expr) : Option DT := match n with
 | 0 => none
 | n + 1 => match e with
  | .UnaryOp .Not a _ => (QaZ n Θ a).map QbK
  | .BoolOp .And [a] _ => QaZ n Θ a
  | .BoolOp .And (a :: b :: r) p => (QaZ n Θ a).bind λ fa => (QaZ n Θ (.BoolOp .And (b :: r) p)).map λ fb => QdX fa fb
  | .BoolOp .Or [a] _ => QaZ n Θ a
  | .BoolOp .Or (a :: b :: r) p => (QaZ n Θ a).bind λ fa => (QaZ n Θ (.BoolOp .Or (b :: r) p)).map λ fb => bOr fa fb
  | .Compare a [op] [b] _ => (Qq n Θ a).bind λ fa => (Qq n Θ b).bind λ fb => (Qn8 op).map λ g => QG (dOp g fa fb)
  | .BoolOp _ _ _ => none
  | .IfExp _ _ _ _ => none
  | .Compare _ _ _ _ => none
  | e => (Qq n Θ e).map QG
noncomputable def Qex (n : Nat) (Θ : Th) (es : List Expr) : Option DT := match n with
 | 0 => none
 | n + 1 => match es with
  | [] => some Q8
  | [c] => QaZ n Θ c
  | _ => none
noncomputable def Qbj (n : Nat) (Θ : Th) (es : List Expr) : Option DA := match n with
 | 0 => none
 | n + 1 => match es with
  | [] => some Qg
  | e :: es => (Qq n Θ e).bind λ fa => (Qbj n Θ es).map λ fs => Qc fa fs
noncomputable def Qg4 (n : Nat) (Θ : Th) (e : Option Expr) : Option DO := match n with
 | 0 => none
 | n + 1 => match e with
  | none => some Qdq
  | some e => (Qq n Θ e).map QaK
noncomputable def QeU (n : Nat) (Θ : Th) (tg e : Expr) : Option DI := match n with
 | 0 => none
 | n + 1 => match e with
  | .Call (.Name x _) args [] _ => if Θ.gl x && (look x Θ.Γ).isNone then (match args with
    | [a] => if x = "range" then (Qq n Θ a).map Qbc else
     if x = "enumerate" then (if isTup tg then (Qq n Θ a).map Qem else none) else
     (Qq n Θ e).map Qak
    | [a, b, c] =>
     if x = "range" then (Qq n Θ a).bind λ fa => (Qq n Θ b).bind λ fb => (Qq n Θ c).map λ fc => Qfi fa fb fc else
     if x = "zip" then (if isTup tg then (Qq n Θ a).bind λ fa => (Qq n Θ b).bind λ fb => (Qq n Θ c).map λ fc => Qgb fa fb fc else none) else
     (Qq n Θ e).map Qak
    | [a, b] =>
     if x = "range" then (Qq n Θ a).bind λ fa => (Qq n Θ b).map λ fb => Qeh fa fb else
     if x = "zip" then (if isTup tg then (Qq n Θ a).bind λ fa => (Qq n Θ b).map λ fb => QaJ fa fb else none) else
     (Qq n Θ e).map Qak
    | _ => (Qq n Θ e).map Qak) else (Qq n Θ e).map Qak
  | e => (Qq n Θ e).map Qak
end
end HS
namespace HS
open PySem PySem.Spec L2
theorem Qad {α β γ : Type} {x : Option α} {y : α -> Option β} {k : α -> β -> γ} {r : γ} (e : (x.bind λ a => (y a).map λ b => k a b) = some r) : ∃ a b, x = some a /\ y a = some b /\ k a b = r := by
 obtain ⟨a, h1, e⟩ := bind1 e
 obtain ⟨b, h2, e⟩ := Zc.mp e
 exact ⟨a, b, h1, h2, e⟩
theorem Qac {n : Nat} {Θ : Th} {e : Expr} {f : DE} (h : Qq n Θ e = some f) (es : List Expr) (env : Env) : starEach (e :: es) env = (false, eval e env) :: starEach es env := by
 cases n with
 | zero => exact nomatch (show (none : Option DE) = some _ from h)
 | succ n => cases e <;> first | rfl | (exact nomatch (show (none : Option DE) = some _ from h))
theorem Qnd : ∀ {n : Nat} {Θ : Th} {es : List Expr} {f : DA}, Qbj n Θ es = some f -> ∀ (pos : Pos) (env : Env), (backTo pos (starEach es env)).any (·.1) = false
 | 0, _, _, _, h, _, _ => by simp [Qbj] at h
 | n + 1, _, [], _, h, _, _ => rfl
 | n + 1, _, e :: es, _, h, pos, env => by
  simp only [Qbj] at h
  obtain ⟨fa, fs, h1, h2, _⟩ := Qad h
  rw [Qac h1]
  have := Qnd h2 pos env
  simpa [backTo] using this
theorem QnW {n : Nat} {Θ : Th} {b : Expr} {f : DE} (h : Qq n Θ b = some f) : Qhn b := by
 cases n with
 | zero => exact nomatch (show (none : Option DE) = some _ from h)
 | succ n => cases b <;> first | (intro o i; rfl) | (exact nomatch (show (none : Option DE) = some _ from h))
theorem Qvi {n : Nat} {Θ : Th} {e : Expr} {f : DE} (h : Qq n Θ e = some f) (env : Env) : ∀ x, foldedSetIterable e env x = pure x := by
 cases n with
 | zero => exact nomatch (show (none : Option DE) = some _ from h)
 | succ n => cases e <;> first | (intro x; rfl) | (exact nomatch (show (none : Option DE) = some _ from h))
theorem Qpc {n : Nat} {Θ : Th} {e : Expr} {f : DE} (h : Qq n Θ e = some f) (op : CmpOp) : behindInMarks op e = false := by
 cases n with
 | zero => exact nomatch (show (none : Option DE) = some _ from h)
 | succ n => cases e <;> first | rfl | (exact nomatch (show (none : Option DE) = some _ from h))
theorem Qds {env : Env} : ∀ {names : List (Str × NameKind)} {x : Str}, names.lookup x = some .cell →
  (names.map λ (n, k) => if (k == NameKind.free && env.scope.kind == .function && env.kindOf n == some .cell) then (n, NameKind.cell) else (n, k)).lookup x = some .cell
 | [], _, h => by simp at h
 | (n, k) :: r, x, h => by
  have ih := @Qds env r x
  rw [Zn]
  cases hx : x == n with
  | true =>
   simp only [Zt, hx] at h
   cases h
   dsimp only
   split <;> simp [Zt, hx]
  | false =>
   simp only [Zt, hx] at h
   dsimp only
   split <;> (simp only [Zt, hx]; exact ih h)
theorem Qls {X : Cx} {Θ : Th} {scope : Scope} {t : Tg} (ok : Qaf X Θ) (h : Qim Θ scope t = true) : QdU X (inner Θ scope).N scope /\ QkV X (inner Θ scope).N scope (Qhm Θ scope) t.slots /\ ∀ cl C fp s3 H3, Qaf (cxc X (inner Θ scope).N scope cl C fp s3 H3) (inner Θ scope) := by
 unfold Qim at h
 simp only [Zg, decide_eq_true_eq] at h
 obtain ⟨⟨⟨h1, h2⟩, h3⟩, h4⟩ := h
 have hk : scope.kind = .function := by simpa using h1
 have each : ∀ y ∈ scope.names, (y.2 = .cell -> scope.names.lookup y.1 = some .cell) /\ (y.2 = .local -> scope.names.lookup y.1 = some .local) /\ (y.2 = .free -> X.env.kindOf y.1 = some .cell ∨ X.env.kindOf y.1 = some .free) := λ y hy => by
  have := ZaB.mp h3 y hy
  obtain ⟨y, k⟩ := y
  cases k with
  | cell => exact ⟨λ _ => (by rw [← Qbm]; simpa using this), λ z => (by cases z), λ z => (by cases z)⟩
  | «local» => exact ⟨λ z => (by cases z), λ _ => by rw [← Qbm]; simpa using this, λ z => by cases z⟩
  | free =>
   refine ⟨λ z => (by cases z), λ z => (by cases z), λ _ => ?_⟩
   dsimp only at this
   split at this
   ·rename_i q; exact .inl (ok.ce _ q).1
   ·rename_i q; exact ok.fe _ q
   ·cases this
  | _ => exact ⟨λ z => (by cases z), λ z => (by cases z), λ z => (by cases z)⟩
 have S : QdU X (inner Θ scope).N scope := ⟨hk, λ y hy => (each y hy).1, λ y hy => (each y hy).2.1, λ y hy => (each y hy).2.2⟩
 refine ⟨S, ⟨by unfold Qhm; simp, λ j i e => ?_, λ j i e hj => ?_⟩, λ cl C fp s3 H3 => ⟨rfl, h2, λ x e => ?_, λ x e => ?_, λ x e => ?_, λ x e => ?_, ok.calm, PassesOwn.never, ok.units, ok.mg, ok.fns, ok.cs⟩⟩
 ·unfold Qhm at e
  rw [Zo] at e
  cases q : (inner Θ scope).N[j]? with
  | none => rw [q] at e; cases e
  | some x =>
   rw [q] at e
   simp only [ZL, Option.some.injEq] at e
   split at e
   ·rename_i hf
    cases hl : look x scope.names with
    | none => rw [hl] at hf; cases hf
    | some k =>
     rw [hl] at hf
     cases k with
     | free =>
      rw [Qbm] at hl
      exact ⟨x, rfl, hl, by rw [ok.N]; exact QeN e, (each (x, .free) (Zae hl)).2.2 rfl⟩
     | _ => cases hf
   ·cases e
 ·have := ZaB.mp h4 j hj
  rw [e] at this
  cases this
 ·have e' : scope.names.lookup x = some .local := by rw [← Qbm]; exact e
  exact lookup_relabel_local e'
 ·have e' : scope.names.lookup x = some .cell := by rw [← Qbm]; exact e
  exact ⟨Qds e', decide_eq_true e'⟩
 ·have e' : scope.names.lookup x = some .free := by rw [← Qbm]; exact e
  exact Qci e'
 ·have e' : scope.names.lookup x = some .globalImplicit := by rw [← Qbm]; exact e
  show (relabel scope X.env).names.lookup x = some .globalImplicit
  unfold relabel
  have gen : ∀ {names : List (Str × NameKind)}, names.lookup x = some .globalImplicit →
    (names.map λ (n, k) => if (k == NameKind.free && X.env.scope.kind == .function && X.env.kindOf n == some .cell) then (n, NameKind.cell) else (n, k)).lookup x = some .globalImplicit := by
   intro names
   induction names with
   | nil => intro z; simp at z
   | cons y r ih =>
    intro z
    obtain ⟨n, k⟩ := y
    rw [Zn]
    cases hx : x == n with
    | true =>
     simp only [Zt, hx] at z
     cases z
     simp [Zt, hx]
    | false =>
     simp only [Zt, hx] at z
     dsimp only
     split <;> (simp only [Zt, hx]; exact ih z)
  exact gen e'
theorem QkR {X : Cx} {Θ : Th} (ok : Qaf X Θ) {tg : Expr} {t : Tg} (h : QeZ Θ tg = some t) : SG X tg t := by
 have hN : X.N.Nodup := by rw [ok.N]; exact ok.nd
 cases tg with
 | Name x pos =>
  simp only [QeZ] at h
  obtain ⟨i, hi, rfl⟩ := Zc.mp h
  obtain ⟨h1, h2, h3⟩ := QfH ok hi
  exact Qs4 (QnU hN h1 h2 h3)
 | Tuple es k pos =>
  simp only [QeZ] at h
  obtain ⟨is, hi, rfl⟩ := Zc.mp h
  obtain ⟨xs, h1, h2⟩ := bind1 hi
  have key : ∀ (es : List Expr) (xs : List Str) (is : List Nat), es.mapM Qqh = some xs -> xs.mapM Θ.Qd2 = some is -> PGs X es (Qij is) /\ (assignEach es X.env).length = is.length /\ (assignEach es X.env).findIdx? (·.1) = none := by
   intro es
   induction es with
   | nil =>
    intro xs is h1 h2
    cases h1
    cases h2
    exact ⟨Qt2, rfl, rfl⟩
   | cons e es ih =>
    intro xs is h1 h2
    rw [List.mapM_cons] at h1
    obtain ⟨x, hx, h1⟩ := bind1 h1
    obtain ⟨ys, hy, h1⟩ := bind1 h1
    cases h1
    rw [List.mapM_cons] at h2
    obtain ⟨i, hi, h2⟩ := bind1 h2
    obtain ⟨js, hj, h2⟩ := bind1 h2
    cases h2
    obtain ⟨a1, a2, a3⟩ := ih ys js hy hj
    cases e with
    | Name y p =>
     cases hx
     obtain ⟨g1, g2, g3⟩ := QfH ok hi
     refine ⟨Qrb (QnU hN g1 g2 g3) a1 rfl, ?_, ?_⟩
     ·show (assignEach es X.env).length + 1 = _
      rw [a2]; rfl
     ·show List.findIdx? (·.1) ((false, assign (.Name x p) X.env) :: assignEach es X.env) = none
      rw [List.findIdx?_cons]
      simp only [a3]; rfl
    | _ => cases hx
  obtain ⟨a1, a2, a3⟩ := key es xs is h1 h2
  exact QvY ok.calm a1 a2 a3
 | _ => simp only [QeZ] at h; cases h
theorem Qor {f : Int -> Int -> Bool} : ∀ a b d, gI (λ i j => some (.bl (f i j))) a b = some d -> ∃ k, d = .bl k := λ a b d h => by
 obtain ⟨i, j, _, _, e⟩ := Qo2 h
 cases e
 exact ⟨_, rfl⟩
theorem Qo0 {X : Cx} {Θ : Th} (ok : Qaf X Θ) {op : CmpOp} {g : D -> D -> Option D} (h : Qn8 op = some g) : ∃ r, OpR X (compareOp op) r /\ QbW X.K g r /\ ∀ a b d, g a b = some d -> ∃ k, d = .bl k := by
 cases op <;> cases h
 ·exact ⟨_, Qva ok.units, Qxl, λ a b d h => by unfold gEq at h; split at h <;> cases h; exact ⟨_, rfl⟩⟩
 ·exact ⟨_, Qwj ok.units, QwF, λ a b d h => by unfold gNe at h; split at h <;> cases h; exact ⟨_, rfl⟩⟩
 ·exact ⟨_, Qxh, Qxf, Qor⟩
 ·exact ⟨_, QwH, Qxn, Qor⟩
 ·exact ⟨_, QwV, Qxv, Qor⟩
 ·exact ⟨_, QwY, Qw3, Qor⟩
 ·exact ⟨_, Qvr ok.units, QsY, λ a b d h => by unfold gIn at h; split at h <;> first | (split at h <;> cases h; exact ⟨_, rfl⟩) | cases h⟩
 ·exact ⟨_, Qqk ok.units, QsY, λ a b d h => by unfold gIn at h; split at h <;> first | (split at h <;> cases h; exact ⟨_, rfl⟩) | cases h⟩
structure Qin (n : Nat) : Prop where
 E : ∀ X Θ e f, Qaf X Θ -> Qq n Θ e = some f -> SE X e f
 B : ∀ X Θ x args f p pos, Qaf X Θ -> Θ.gl x = true -> Qi1 n Θ x args = some f -> SE X (.Call (.Name x p) args [] pos) f
 T : ∀ X Θ e f, Qaf X Θ -> QaZ n Θ e = some f -> ST X e f
 Ts : ∀ X Θ e f, Qaf X Θ -> Qex n Θ e = some f -> QmA X e f
 A : ∀ X Θ e f, Qaf X Θ -> Qbj n Θ e = some f -> SA X e f
 O : ∀ X Θ e f, Qaf X Θ -> Qg4 n Θ e = some f -> SO X e f
 I : ∀ X Θ tg e f, Qaf X Θ -> QeU n Θ tg e = some f -> SI X tg e f /\ ∀ x, foldedSetIterable e X.env x = pure x
theorem callArgs {X : Cx} {n : Nat} {Θ : Th} {es : List Expr} {fs : DA} (h : Qbj n Θ es = some fs) {e : Expr} {es' : List Expr} (he : es = e :: es') (pos : Pos) : starEach (e :: es') X.env = (false, eval e X.env) :: starEach es' X.env /\ (backTo pos (starEach es' X.env)).any (·.1) = false := by
 subst he
 cases n with
 | zero => simp [Qbj] at h
 | succ n =>
  simp only [Qbj] at h
  obtain ⟨fa, fs', h1, h2, _⟩ := Qad h
  exact ⟨Qac h1 es' X.env, Qnd h2 pos X.env⟩
theorem QsE {Θ : Th} {es : List Expr} {ci : Expr × Nat} (h : Qli Θ es = some ci) : ∃ (x y : Str) (p1 p2 q1 q2 s1 s2 : Pos) (k1 k2 : Nat), es = [ci.1, .Subscript (.Name x p1) (.Constant (.int 0) k1 q1) s1, .Subscript (.Name y p2) (.Constant (.int 1) k2 q2) s2] /\ Θ.slot x = some ci.2 /\ Θ.slot y = some ci.2 := by
 unfold Qli at h
 split at h
 ·obtain ⟨i, h1, k1⟩ := bind1 h
  clear h
  obtain ⟨j, h2, k2⟩ := bind1 k1
  clear k1
  split at k2
  ·rename_i e
   obtain ⟨rfl, rfl, rfl⟩ := e
   cases k2
   exact ⟨_, _, _, _, _, _, _, _, _, _, rfl, h1, h2⟩
  ·cases k2
 ·cases h
theorem Qxp {n : Nat} (ih : Qin n) : ∀ X Θ e f, Qaf X Θ -> Qq (n + 1) Θ e = some f -> SE X e f := by
  intro X Θ e f ok h
  cases e with
  | Name x pos =>
    (conv at h => lhs; whnf)
    cases q : Θ.slot x with
    | some i => rw [q] at h; cases h; exact QvM (Qej ok q)
    | none =>
      rw [q] at h
      dsimp only at h
      split at h
      · rename_i hg
        obtain ⟨i, hi, rfl⟩ := Zc.mp h
        obtain ⟨g1, g2, g3⟩ := Qho ok hg
        obtain ⟨t, hm⟩ := ok.cs x i hi
        exact Qld (v := .int i) (QtT g1 hm ⟨t, rfl⟩ g2) (λ _ _ => .int_mk) rfl
      · cases h
  | Constant c k pos =>
    cases c with
    | int i => (conv at h => lhs; whnf); cases h; exact Qld Qmk (λ _ _ => .int_mk) rfl
    | bool b => (conv at h => lhs; whnf); cases h; exact Qld Qxi (λ _ _ => .Qdd) rfl
    | none => (conv at h => lhs; whnf); cases h; exact Qld Qvx (λ _ _ => .QiF) rfl
    | str x => (conv at h => lhs; whnf); cases h; exact Qld QvD (λ _ _ => .str_mk) rfl
    | _ => exact nomatch (show (none : Option DE) = some _ from h)
  | BinOp a op b pos =>
    (conv at h => lhs; whnf)
    obtain ⟨fa, h1, h⟩ := bind1 h
    obtain ⟨fb, h2, h⟩ := bind1 h
    have ha := ih.E X Θ a fa ok h1
    have hb := ih.E X Θ b fb ok h2
    cases op with
    | Add => cases h; exact QvT ha hb
    | Mult => cases h; exact QvE ha hb
    | Sub => cases h; exact QiR QuY Qqg ha hb
    | FloorDiv => cases h; exact QiR Quw Qvy ha hb
    | Mod => cases h; exact QiR Qty QvQ ha hb
    | Pow => cases h; exact QiR QtJ Qwt ha hb
    | RShift => cases h; exact QiR Qwi Qvv ha hb
    | _ => cases h
  | UnaryOp op a pos =>
    cases op with
    | USub =>
      (conv at h => lhs; whnf)
      obtain ⟨fa, h1, rfl⟩ := Zc.mp h
      exact QvG (ih.E X Θ a fa ok h1)
    | Not =>
      (conv at h => lhs; whnf)
      obtain ⟨fa, h1, rfl⟩ := Zc.mp h
      exact Qws (ih.E X Θ a fa ok h1)
    | _ => exact nomatch (show (none : Option DE) = some _ from h)
  | BoolOp op es pos =>
    cases op with
    | And =>
      match es, h with
      | [], h => exact nomatch (show (none : Option DE) = some _ from h)
      | [a], h => (conv at h => lhs; whnf); exact Qpo (ih.E X Θ a f ok h)
      | a :: b :: r, h =>
        (conv at h => lhs; whnf)
        obtain ⟨fa, fb, h1, h2, rfl⟩ := Qad h
        exact QuZ (ih.E X Θ a fa ok h1) (ih.E X Θ _ fb ok h2)
    | Or =>
      match es, h with
      | [], h => exact nomatch (show (none : Option DE) = some _ from h)
      | [a], h => (conv at h => lhs; whnf); exact Qpo (ih.E X Θ a f ok h)
      | a :: b :: r, h =>
        (conv at h => lhs; whnf)
        obtain ⟨fa, fb, h1, h2, rfl⟩ := Qad h
        exact Qxt (ih.E X Θ a fa ok h1) (ih.E X Θ _ fb ok h2)
  | Compare a ops bs pos =>
    match ops, bs, h with
    | [op], [b], h =>
      (conv at h => lhs; whnf)
      obtain ⟨fa, h1, h⟩ := bind1 h
      obtain ⟨fb, g, h2, h3, rfl⟩ := Qad h
      obtain ⟨r, o1, o2, _⟩ := Qo0 ok h3
      exact Qwp o1 o2 (ih.E X Θ a fa ok h1) (ih.E X Θ b fb ok h2) (Qpc h2 op)
    | [], _, h => exact nomatch (show (none : Option DE) = some _ from h)
    | [_], [], h => exact nomatch (show (none : Option DE) = some _ from h)
    | [_], _ :: _ :: _, h => exact nomatch (show (none : Option DE) = some _ from h)
    | _ :: _ :: _, _, h => exact nomatch (show (none : Option DE) = some _ from h)
  | Tuple es k pos =>
    have h : (match Qli Θ es with | some ci => (Qq n Θ ci.1).map λ fa => Qi2 fa ci.2 | none => (Qbj n Θ es).map Qaz) = some f := h
    cases q : Qli Θ es with
    | some ci =>
      rw [q] at h
      obtain ⟨fa, h1, rfl⟩ := Zc.mp h
      obtain ⟨x, y, p1, p2, q1, q2, s1, s2, k1, k2, rfl, hx, hy⟩ := QsE q
      exact Qs6 (ih.E X Θ _ fa ok h1) (Qej ok hx) (Qej ok hy) λ es => Qac h1 es X.env
    | none =>
      rw [q] at h
      obtain ⟨fs, h1, rfl⟩ := Zc.mp h
      exact QuJ (ih.A X Θ es fs ok h1)
  | List es pos =>
    (conv at h => lhs; whnf)
    obtain ⟨fs, h1, rfl⟩ := Zc.mp h
    exact Qwb (ih.A X Θ es fs ok h1)
  | Subscript a b pos =>
    by_cases hb : ∃ lo hi p2, b = .Slice lo hi none p2
    · obtain ⟨lo, hi, p2, rfl⟩ := hb
      (conv at h => lhs; whnf)
      obtain ⟨fa, h1, h⟩ := bind1 h
      obtain ⟨fl, fh, h2, h3, rfl⟩ := Qad h
      exact Qu7 (ih.E X Θ a fa ok h1) (ih.O X Θ lo fl ok h2) (ih.O X Θ hi fh ok h3)
    · have h' : ((Qq n Θ a).bind λ fa => (Qq n Θ b).map λ fb => Qk fa fb) = some f := by
        cases b <;> first
          | (exact h)
          | (rename_i lo hi st p2; cases lo <;> cases hi <;> cases st <;> first | (exact absurd ⟨_, _, _, rfl⟩ hb) | (exact h))
      obtain ⟨fa, fb, h1, h2, rfl⟩ := Qad h'
      exact QuL (ih.E X Θ a fa ok h1) (ih.E X Θ b fb ok h2) (QnW h2)
  | Call fn args kws pos =>
    cases fn with
    | Name x p =>
     cases kws with
     | cons k ks => exact nomatch (show (none : Option DE) = some _ from h)
     | nil =>
      have h : (if Θ.gl x then (match look x Θ.Γ with | some r => if r.n <= args.length + r.dfl.length /\ args.length <= r.n then (Qbj n Θ args).map λ fs => Qw r.n r.den (r.dfl.drop (r.dfl.length - (r.n - args.length))) fs else none | none => Qi1 n Θ x args) else none) = some f := h
      split at h
      · rename_i hg
        obtain ⟨g1, g2, g3⟩ := Qho ok hg
        split at h
        · rename_i r hr
          split at h
          · rename_i hn
            obtain ⟨fs, h1, rfl⟩ := Zc.mp h
            obtain ⟨k, fa, fd, ps, F1, F2, F3, F4, F5⟩ := ok.fns x r hr
            obtain ⟨ds, dvs, b1, b2, b3⟩ := F5 (r.n - args.length) (by omega)
            cases args with
            | nil =>
              cases n with
              | zero => simp [Qbj] at h1
              | succ n =>
                simp only [Qbj] at h1
                cases h1
                exact QrI F1 F2 g1 F3 F4 b1 b2 b3 g2
            | cons e es =>
              obtain ⟨s1, s2⟩ := callArgs (X := X) h1 rfl pos
              exact QuE F1 F2 g1 F3 F4 b1 b2 b3 (ih.A X Θ _ fs ok h1) g2 s1 s2
          · cases h
        · exact ih.B X Θ x args f p pos ok hg h
      · cases h
    | Attribute o m apos =>
      cases o with
      | Name x p =>
        cases args with
        | nil =>
          cases kws with
          | nil =>
            have h : (if m = "bit_length" /\ (apos.endLine == pos.line) = true then (Qq n Θ (.Name x p)).map QkK else none) = some f := h
            split at h
            · rename_i hc
              obtain ⟨fa, h1, rfl⟩ := Zc.mp h
              obtain ⟨rfl, hl⟩ := hc
              exact Quo (ih.E X Θ _ fa ok h1) rfl hl
            · cases h
          | cons _ _ => exact nomatch (show (none : Option DE) = some _ from h)
        | cons _ _ => exact nomatch (show (none : Option DE) = some _ from h)
      | _ => exact nomatch (show (none : Option DE) = some _ from h)
    | _ => exact nomatch (show (none : Option DE) = some _ from h)
  | ListComp elt gens scope pos =>
    match gens, h with
    | [⟨tg, iter, ifs, k⟩], h =>
      by_cases hk : k = 0
      · subst hk
        (conv at h => lhs; whnf)
        obtain ⟨t, ht, h⟩ := bind1 h
        split at h
        · rename_i hc
          simp only [Zg] at hc
          obtain ⟨fi, h1, h⟩ := bind1 h
          obtain ⟨ft, fe, h2, h3, rfl⟩ := Qad h
          obtain ⟨S, cap, inn⟩ := Qls ok hc.1
          obtain ⟨i1, i2⟩ := ih.I X Θ tg iter fi ok h1
          exact Qtl ok.calm S i1 cap (λ cl C fp s3 H3 => ⟨QkR (inn cl C fp s3 H3) ht, ih.Ts _ _ ifs ft (inn cl C fp s3 H3) h2, ih.E _ _ elt fe (inn cl C fp s3 H3) h3⟩) i2
        · cases h
      · exfalso
        cases k with
        | ofNat k =>
          cases k with
          | zero => exact hk rfl
          | succ k => exact nomatch (show (none : Option DE) = some _ from h)
        | negSucc k => exact nomatch (show (none : Option DE) = some _ from h)
    | [], h => exact nomatch (show (none : Option DE) = some _ from h)
    | ⟨_, _, _, .ofNat 0⟩ :: _ :: _, h => exact nomatch (show (none : Option DE) = some _ from h)
    | ⟨_, _, _, .ofNat (k + 1)⟩ :: _ :: _, h => exact nomatch (show (none : Option DE) = some _ from h)
    | ⟨_, _, _, .negSucc k⟩ :: _ :: _, h => exact nomatch (show (none : Option DE) = some _ from h)
  | _ => exact nomatch (show (none : Option DE) = some _ from h)
theorem Qwv {X : Cx} {Θ : Th} {x : Str} {a : Expr} {fa f : DE} {p pos : Pos} (ok : Qaf X Θ) (g1 : Gl X x) (sa : SA X [a] (Qc fa Qg)) (st : starEach [a] X.env = (false, eval a X.env) :: starEach [] X.env) (h : bf1 x fa = some f) : SE X (.Call (.Name x p) [a] [] pos) f := by
 unfold bf1 at h
 by_cases e : x = "len"
 ·rw [if_pos e] at h; cases h; subst e; have hm := ok.mg "len" (by decide +kernel)
  exact Qhb Ql0 Qv9 g1 hm PySem.boot_len sa (by decide) (by decide) st rfl
 rw [if_neg e] at h; clear e
 by_cases e : x = "list"
 ·rw [if_pos e] at h; cases h; subst e; have hm := ok.mg "list" (by decide +kernel)
  exact QtN g1 hm sa st rfl
 rw [if_neg e] at h; clear e
 by_cases e : x = "abs"
 ·rw [if_pos e] at h; cases h; subst e; have hm := ok.mg "abs" (by decide +kernel)
  exact Qhb QqY Qvm g1 hm PyProof.Rows.boot_abs sa (by decide) (by decide) st rfl
 rw [if_neg e] at h; clear e
 by_cases e : x = "min"
 ·rw [if_pos e] at h; cases h; subst e; have hm := ok.mg "min" (by decide +kernel)
  exact Qhb (Qqq ok.calm) QtS g1 hm PyProof.Rows.boot_min sa (by decide) (by decide) st rfl
 rw [if_neg e] at h; clear e
 by_cases e : x = "max"
 ·rw [if_pos e] at h; cases h; subst e; have hm := ok.mg "max" (by decide +kernel)
  exact Qhb (QpN ok.calm) QtI g1 hm PyProof.Rows.boot_max sa (by decide) (by decide) st rfl
 rw [if_neg e] at h; clear e
 cases h
theorem Qwd {X : Cx} {Θ : Th} {x : Str} {a b : Expr} {fa fb f : DE} {p pos : Pos} (ok : Qaf X Θ) (g1 : Gl X x) (sa : SA X [a, b] (Qc fa (Qc fb Qg))) (st : starEach [a, b] X.env = (false, eval a X.env) :: starEach [b] X.env) (pl : (backTo pos (starEach [b] X.env)).any (·.1) = false) (h : bf2 x fa fb = some f) : SE X (.Call (.Name x p) [a, b] [] pos) f := by
 unfold bf2 at h
 by_cases e : x = "min"
 ·rw [if_pos e] at h; cases h; subst e; have hm := ok.mg "min" (by decide +kernel)
  exact Qhb (Qqo ok.calm) Qt5 g1 hm PyProof.Rows.boot_min sa (by decide) (by decide) st pl
 rw [if_neg e] at h; clear e
 by_cases e : x = "max"
 ·rw [if_pos e] at h; cases h; subst e; have hm := ok.mg "max" (by decide +kernel)
  exact Qhb (Qp7 ok.calm) Qtu g1 hm PyProof.Rows.boot_max sa (by decide) (by decide) st pl
 rw [if_neg e] at h; clear e
 by_cases e : x = "divmod"
 ·rw [if_pos e] at h; cases h; subst e; have hm := ok.mg "divmod" (by decide +kernel)
  exact Qxe (x := "divmod") g1 hm sa st pl
 rw [if_neg e] at h; clear e
 cases h
theorem QwR {n : Nat} (ih : Qin n) : ∀ X Θ x args f p pos, Qaf X Θ -> Θ.gl x = true -> Qi1 (n + 1) Θ x args = some f -> SE X (.Call (.Name x p) args [] pos) f := by
 intro X Θ x args f p pos ok hg h
 obtain ⟨g1, g2, g3⟩ := Qho ok hg
 match args, h with
 | [], h => exact nomatch (show (none : Option DE) = some _ from h)
 | [a], h =>
  change (match Qh3 Θ x a with | some b => (Qq n Θ b).map QkS | none => (Qq n Θ a).bind λ fa => bf1 x fa) = some f at h
  split at h
  ·rename_i b hr
   obtain ⟨fb, h1, rfl⟩ := Zc.mp h
   unfold Qh3 at hr
   split at hr
   ·rename_i y p' b' pos'
    split at hr
    ·rename_i hc
     cases hr
     obtain ⟨c1, c2, c3, _⟩ := hc
     subst c1
     subst c2
     obtain ⟨y1, y2, y3⟩ := Qho ok c3
     exact QtD g1 (ok.mg _ (by decide +kernel)) y1 (ok.mg _ (by decide +kernel)) ok.calm (ih.E X Θ b fb ok h1) (Qac h1 [] X.env)
    ·cases hr
   ·cases hr
  obtain ⟨fa, h1, h⟩ := bind1 h
  have ha := ih.E X Θ a fa ok h1
  have st := Qac h1 [] X.env
  exact Qwv ok g1 (Qhd ha Qlc st) st h
 | [a, b], h =>
  change (if x = "isinstance" then (Qq n Θ a).bind λ fa => (match b with | .Name y _ => if Θ.gl y then (QrN y).map λ T => Qe6 T fa else none | _ => none) else (Qq n Θ a).bind λ fa => (Qq n Θ b).bind λ fb => bf2 x fa fb) = some f at h
  split at h
  ·rename_i e
   obtain ⟨fa, h1, h⟩ := bind1 h
   have ha := ih.E X Θ a fa ok h1
   split at h
   ·rename_i y p2
    split at h
    ·rename_i hy
     obtain ⟨T, hT, rfl⟩ := Zc.mp h
     obtain ⟨y1, y2, y3⟩ := Qho ok hy
     clear h
     subst e
     refine Qve g1 (ok.mg _ (by decide +kernel)) ha ?_ (Qac h1 _ X.env)
     unfold QrN at hT
     split at hT
     ·rename_i e; cases hT; subst e
      exact Qfm y1 (ok.mg _ (by decide +kernel)) PyProof.Rows.boot_int rfl
     ·split at hT
      ·rename_i e; cases hT; subst e
       exact Qfm y1 (ok.mg _ (by decide +kernel)) PyProof.Rows.boot_bool rfl
      ·split at hT
       ·rename_i e; cases hT; subst e
        exact Qfm y1 (ok.mg _ (by decide +kernel)) ZbT rfl
       ·split at hT
        ·rename_i e; cases hT; subst e
         exact Qfm y1 (ok.mg _ (by decide +kernel)) PyProof.Rows.boot_tuple rfl
        ·split at hT
         ·rename_i e; cases hT; subst e
          exact Qfm y1 (ok.mg _ (by decide +kernel)) PyProof.Rows.boot_str rfl
         ·cases hT
    ·cases h
   ·cases h
  ·obtain ⟨fa, h1, h⟩ := bind1 h
   obtain ⟨fb, h2, h⟩ := bind1 h
   have ha := ih.E X Θ a fa ok h1
   have hb := ih.E X Θ b fb ok h2
   have sb : SA X [b] (Qc fb Qg) := Qhd hb Qlc (Qac h2 [] X.env)
   have sa : SA X [a, b] (Qc fa (Qc fb Qg)) := Qhd ha sb (Qac h1 [b] X.env)
   have pl : (backTo pos (starEach [b] X.env)).any (·.1) = false := by rw [Qac h2 [] X.env]; rfl
   exact Qwd ok g1 sa (Qac h1 [b] X.env) pl h
 | _ :: _ :: _ :: _, h => exact nomatch (show (none : Option DE) = some _ from h)
theorem QwS {n : Nat} (ih : Qin n) : ∀ X Θ e f, Qaf X Θ -> QaZ (n + 1) Θ e = some f -> ST X e f := by
 intro X Θ e f ok h
 have dflt : (Qq n Θ e).map QG = some f -> (∀ whole, isTrue e X.env whole = (do let v ← whole; standAt e.pos; holding [v] (truthy v))) -> ST X e f := λ h he => by
  obtain ⟨fa, h1, rfl⟩ := Zc.mp h
  exact Qwo (ih.E X Θ e fa ok h1) he
 cases e with
 | UnaryOp op a pos =>
  cases op with
  | Not =>
   change (QaZ n Θ a).map QbK = some f at h
   obtain ⟨fa, h1, rfl⟩ := Zc.mp h
   exact QvS (ih.T X Θ a fa ok h1)
  | _ => exact dflt h λ _ => rfl
 | BoolOp op es pos =>
  cases op with
  | And =>
   match es, h with
   | [], h => exact nomatch (show (none : Option DT) = some _ from h)
   | [a], h => exact (Qtq (ih.T X Θ a f ok h)).st
   | a :: b :: r, h =>
    change ((QaZ n Θ a).bind λ fa => (QaZ n Θ (.BoolOp .And (b :: r) pos)).map λ fb => QdX fa fb) = some f at h
    obtain ⟨fa, fb, h1, h2, rfl⟩ := Qad h
    have hb := ih.T X Θ _ fb ok h2
    exact (Qvg (ih.T X Θ a fa ok h1) (λ H0 A0 wh pins s σ H Q I q => by have := hb H0 A0 pins s σ H Q I q; exact this)).st
  | Or =>
   match es, h with
   | [], h => exact nomatch (show (none : Option DT) = some _ from h)
   | [a], h => exact (Qvn (ih.T X Θ a f ok h)).st
   | a :: b :: r, h =>
    change ((QaZ n Θ a).bind λ fa => (QaZ n Θ (.BoolOp .Or (b :: r) pos)).map λ fb => bOr fa fb) = some f at h
    obtain ⟨fa, fb, h1, h2, rfl⟩ := Qad h
    have hb := ih.T X Θ _ fb ok h2
    exact (QwE (ih.T X Θ a fa ok h1) (λ H0 A0 wh pins s σ H Q I q => by have := hb H0 A0 pins s σ H Q I q; exact this)).st
 | Compare a ops bs pos =>
  match ops, bs, h with
  | [op], [b], h =>
   change ((Qq n Θ a).bind λ fa => (Qq n Θ b).bind λ fb => (Qn8 op).map λ g => QG (dOp g fa fb)) = some f at h
   obtain ⟨fa, h1, h⟩ := bind1 h
   obtain ⟨fb, g, h2, h3, rfl⟩ := Qad h
   obtain ⟨r, o1, o2, o3⟩ := Qo0 ok h3
   exact QvF o1 o2 o3 (ih.E X Θ a fa ok h1) (ih.E X Θ b fb ok h2) (Qpc h2 op)
  | [], _, h => exact nomatch (show (none : Option DT) = some _ from h)
  | [_], [], h => exact nomatch (show (none : Option DT) = some _ from h)
  | [_], _ :: _ :: _, h => exact nomatch (show (none : Option DT) = some _ from h)
  | _ :: _ :: _, _, h => exact nomatch (show (none : Option DT) = some _ from h)
 | IfExp c a b pos => exact nomatch (show (none : Option DT) = some _ from h)
 | _ => exact dflt h λ _ => rfl
theorem Qw0 {n : Nat} (ih : Qin n) : ∀ X Θ tg e f, Qaf X Θ -> QeU (n + 1) Θ tg e = some f -> SI X tg e f /\ ∀ x, foldedSetIterable e X.env x = pure x := by
 intro X Θ tg e f ok h
 have dflt : (Qq n Θ e).map Qak = some f -> SI X tg e f /\ ∀ x, foldedSetIterable e X.env x = pure x := λ h => by
  obtain ⟨fa, h1, rfl⟩ := Zc.mp h
  exact ⟨Qu6 (ih.E X Θ e fa ok h1), Qvi h1 X.env⟩
 cases e with
 | Call fn args kws pos =>
  cases fn with
  | Name x p =>
   cases kws with
   | cons k ks => exact dflt h
   | nil =>
    simp only [QeU] at h
    split at h
    ·rename_i hg
     simp only [Zg] at hg
     obtain ⟨g1, g2, g3⟩ := Qho ok hg.1
     match args, h with
     | [], h => exact dflt h
     | [a], h =>
      dsimp only at h
      by_cases er : x = "range"
      ·rw [if_pos er] at h
       obtain ⟨fa, h1, rfl⟩ := Zc.mp h
       subst er
       exact ⟨QqL g1 (ok.mg _ (by decide +kernel)) (ih.E X Θ a fa ok h1) (Qac h1 [] X.env), λ _ => rfl⟩
      rw [if_neg er] at h
      by_cases ez : x = "enumerate"
      ·rw [if_pos ez] at h
       split at h
       ·rename_i ht
        obtain ⟨fa, h1, rfl⟩ := Zc.mp h
        subst ez
        cases tg with
        | Tuple es k tp => exact ⟨Qtj g1 (ok.mg _ (by decide +kernel)) (ih.E X Θ a fa ok h1) (Qac h1 [] X.env), λ _ => rfl⟩
        | _ => exact nomatch (show false = true from ht)
       ·cases h
      rw [if_neg ez] at h
      exact dflt h
     | [a, b], h =>
      dsimp only at h
      by_cases er : x = "range"
      ·rw [if_pos er] at h
       obtain ⟨fa, fb, h1, h2, rfl⟩ := Qad h
       subst er
       exact ⟨QpC g1 (ok.mg _ (by decide +kernel)) (ih.E X Θ a fa ok h1) (ih.E X Θ b fb ok h2) (by rw [Qac h1 [b] X.env, Qac h2 [] X.env]; rfl) (Qac h2 [] X.env), λ _ => rfl⟩
      rw [if_neg er] at h
      by_cases ez : x = "zip"
      ·rw [if_pos ez] at h
       split at h
       ·rename_i ht
        obtain ⟨fa, fb, h1, h2, rfl⟩ := Qad h
        subst ez
        cases tg with
        | Tuple es k tp => exact ⟨Qu4 g1 (ok.mg _ (by decide +kernel)) (ih.E X Θ a fa ok h1) (ih.E X Θ b fb ok h2) (by rw [Qac h1 [b] X.env, Qac h2 [] X.env]; rfl) (Qac h2 [] X.env), λ _ => rfl⟩
        | _ => exact nomatch (show false = true from ht)
       ·cases h
      rw [if_neg ez] at h
      exact dflt h
     | [a, b, c], h =>
      dsimp only at h
      by_cases er : x = "range"
      ·rw [if_pos er] at h
       obtain ⟨fa, h1, h⟩ := bind1 h
       obtain ⟨fb, fc, h2, h3, rfl⟩ := Qad h
       subst er
       exact ⟨Qo4 g1 (ok.mg _ (by decide +kernel)) (ih.E X Θ a fa ok h1) (ih.E X Θ b fb ok h2) (ih.E X Θ c fc ok h3) (Qac h1 [b, c] X.env) (Qac h2 [c] X.env) (Qac h3 [] X.env), λ _ => rfl⟩
      rw [if_neg er] at h
      by_cases ez : x = "zip"
      ·rw [if_pos ez] at h
       split at h
       ·rename_i ht
        obtain ⟨fa, h1, h⟩ := bind1 h
        obtain ⟨fb, fc, h2, h3, rfl⟩ := Qad h
        subst ez
        cases tg with
        | Tuple es k tp => exact ⟨QtX g1 (ok.mg _ (by decide +kernel)) (ih.E X Θ a fa ok h1) (ih.E X Θ b fb ok h2) (ih.E X Θ c fc ok h3) (Qac h1 [b, c] X.env) (Qac h2 [c] X.env) (Qac h3 [] X.env), λ _ => rfl⟩
        | _ => exact nomatch (show false = true from ht)
       ·cases h
      rw [if_neg ez] at h
      exact dflt h
     | _ :: _ :: _ :: _ :: _, h => exact dflt h
    ·exact dflt h
  | _ => exact dflt h
 | _ => exact dflt h
theorem QbN : ∀ n, Qin n
 | 0 => ⟨λ _ _ _ _ _ h => (nomatch (show (none : Option DE) = some _ from h)), λ _ _ _ _ _ _ _ _ _ h => by simp [Qi1] at h, λ _ _ _ _ _ h => by simp [QaZ] at h, λ _ _ _ _ _ h => by simp [Qex] at h, λ _ _ _ _ _ h => by simp [Qbj] at h, λ _ _ _ _ _ h => by simp [Qg4] at h, λ _ _ _ _ _ _ h => by simp [QeU] at h⟩
 | n + 1 => by
  have ih := QbN n
  refine ⟨Qxp ih, QwR ih, QwS ih, λ X Θ e f ok h => ?_, λ X Θ e f ok h => ?_, λ X Θ e f ok h => ?_, Qw0 ih⟩
  ·match e, h with
   | [], h => simp only [Qex] at h; cases h; exact QqQ
   | [c], h => simp only [Qex] at h; exact Qsv (ih.T X Θ c f ok h)
   | _ :: _ :: _, h => simp only [Qex] at h; cases h
  ·match e, h with
   | [], h => simp only [Qbj] at h; cases h; exact Qlc
   | e :: es, h =>
    simp only [Qbj] at h
    obtain ⟨fa, fs, h1, h2, rfl⟩ := Qad h
    exact Qhd (ih.E X Θ e fa ok h1) (ih.A X Θ es fs ok h2) (Qac h1 es X.env)
  ·match e, h with
   | none, h => simp only [Qg4] at h; cases h; exact Qui
   | some e, h =>
    simp only [Qg4] at h
    obtain ⟨fa, h1, rfl⟩ := Zc.mp h
    exact Qs9 (ih.E X Θ e fa ok h1)
section
variable {X : Cx} {st : Stmt} {sts : List Stmt} {e : Expr} {fa : DE} {f g : DS} {gc : DT} {pos : Pos}
noncomputable def QF : DS := λ _ => none
theorem QqZ : S1 X st QF := λ H0 A0 => QrY.mono λ E σ H ⟨ρ, hs, F, o, rel, e, q⟩ => by cases e
theorem QfC {g : DT} {fb : DS} : ∀ {n : Nat} {ρ : En} {o : Out}, QaT g fb n ρ = some o -> QaT g fb (n + 1) ρ = some o
 | 0, _, _, h => by cases h
 | n + 1, ρ, o, h => by
  unfold QaT at h ⊢
  obtain ⟨b, hb, h⟩ := bind1 h
  rw [hb]
  cases b with
  | false => exact h
  | true =>
   rw [if_pos rfl] at h
   obtain ⟨o1, ho, h⟩ := bind1 h
   rw [Za, if_pos rfl, ho]
   cases o1 with
   | nx ρ2 => exact QfC h
   | ct ρ2 => exact QfC h
   | bk ρ2 => exact h
   | rt d fr => exact h
theorem QlT {g : DT} {fb : DS} {ρ : En} {o : Out} {n m : Nat} (h : QaT g fb n ρ = some o) (hm : n <= m) : QaT g fb m ρ = some o := by
 induction hm with
 | refl => exact h
 | step _ ih => exact QfC ih
open Classical in
noncomputable def Qb3 (g : DT) (fb : DS) : DS := λ ρ => if h : ∃ n, (QaT g fb n ρ).isSome = true then QaT g fb h.choose ρ else none
theorem QcG {g : DT} {fb : DS} {ρ : En} {o : Out} : Qb3 g fb ρ = some o ↔ ∃ n, QaT g fb n ρ = some o := by
 unfold Qb3
 constructor
 ·intro h
  split at h
  ·exact ⟨_, h⟩
  ·cases h
 ·rintro ⟨n, h⟩
  have hx : ∃ n, (QaT g fb n ρ).isSome = true := ⟨n, by rw [h]; rfl⟩
  rw [dif_pos hx]
  obtain ⟨o', ho'⟩ := ZbG.mp hx.choose_spec
  have h1 := QlT h (Nat.le_max_left n hx.choose)
  have h2 := QlT ho' (Nat.le_max_right n hx.choose)
  rw [h1] at h2
  rw [ho', ← h2]
theorem Qpn {c : Expr} {body : List Stmt} (hp : PassesOwn (model X.prog X.w) X.A X.env X.xe) (hc : ST X c gc) (hb : SS X body f) : S1 X (.While c body [] pos) (Qb3 gc f) := λ H0 A0 pins s σ H D I h => by
 obtain ⟨ρ, hs, F, o, rel, e, q⟩ := h
 obtain ⟨n, hn⟩ := QcG.mp e
 exact QrR (n := n) hp hc hb H0 A0 pins s σ H D I ⟨ρ, hs, F, o, rel, hn, q⟩
theorem QpL (g : DT) (fb : DS) (ρ : En) : Qb3 g fb ρ = (g ρ).bind λ b => if b = true then (fb ρ).bind λ o => match o with
  | .nx ρ2 => Qb3 g fb ρ2
  | .ct ρ2 => Qb3 g fb ρ2
  | .bk ρ2 => some (.nx ρ2)
  | .rt d fr => some (.rt d fr)
  else some (.nx ρ) := by
 apply Option.ext
 intro o
 rw [QcG]
 constructor
 ·rintro ⟨n, h⟩
  cases n with
  | zero => cases h
  | succ n =>
   unfold QaT at h
   obtain ⟨b, hb, h⟩ := bind1 h
   rw [hb]
   cases b with
   | false => exact h
   | true =>
    rw [if_pos rfl] at h
    obtain ⟨o1, ho, h⟩ := bind1 h
    rw [Za, if_pos rfl, ho]
    cases o1 with
    | nx ρ2 => exact QcG.mpr ⟨n, h⟩
    | ct ρ2 => exact QcG.mpr ⟨n, h⟩
    | bk ρ2 => exact h
    | rt d fr => exact h
 ·intro h
  obtain ⟨b, hb, h⟩ := bind1 h
  cases b with
  | false => exact ⟨1, by unfold QaT; rw [hb]; exact h⟩
  | true =>
   rw [if_pos rfl] at h
   obtain ⟨o1, ho, h⟩ := bind1 h
   cases o1 with
   | nx ρ2 =>
    obtain ⟨n, hn⟩ := QcG.mp h
    exact ⟨n + 1, by unfold QaT; rw [hb]; rw [Za, if_pos rfl, ho]; exact hn⟩
   | ct ρ2 =>
    obtain ⟨n, hn⟩ := QcG.mp h
    exact ⟨n + 1, by unfold QaT; rw [hb]; rw [Za, if_pos rfl, ho]; exact hn⟩
   | bk ρ2 => exact ⟨1, by unfold QaT; rw [hb]; rw [Za, if_pos rfl, ho]; exact h⟩
   | rt d fr => exact ⟨1, by unfold QaT; rw [hb]; rw [Za, if_pos rfl, ho]; exact h⟩
noncomputable def QcX (t : Tg) (fa : DE) : DS := λ ρ => (fa ρ).bind λ r => (Qcj t r.d (QaU r.norm.M ρ)).map .nx
theorem Qt6 {tg : Expr} {t : Tg} (he : SE X e fa) (hg : SG X tg t) (hs : swapsWithSole [tg] e pos.line X.env = pure false) (hw : swappedStores [tg] e X.env = pure none) (h1 : (assignEach [tg] X.env).map (·.2) = [assign tg X.env]) :
  S1 X (.Assign [tg] e pos) (QcX t fa) := λ H0 A0 => (QoX (he H0 A0) (hg H0 A0) hs hw h1).mono λ E σ H ⟨ρ, hs, F, o, rel, e, q⟩ => by
 obtain ⟨r, e1, e⟩ := bind1 e
 obtain ⟨ρ', e2, rfl⟩ := Zc.mp e
 refine ⟨ρ, hs, F, r, rel, e1, λ v H' G p => ?_⟩
 have p' := p.norm
 have rp := p'.rp
 rw [r.QcU] at rp
 exact ⟨QaU r.norm.M ρ, hs, F, r.d, G, ρ', (rel.ext p'.same).weak (Qbv _ _), rp, Shr.of rel p'.src, e2, λ σ' F' rel' _ _ => q _ _ F' rel'⟩
theorem Qs2 {tg iter elt : Expr} {ifs : List Expr} {scope : Scope} {N' : List Str} {fi : DI} {t : Tg} {cap : List (Option Nat)} {ft : DT} {fe : DE} {i : Nat} {x : Str} {pos' spos : Pos} (hN : X.N.Nodup) (hx1 : X.N[i]? = some x) (hx : Loc X.env.scope x) (hf : X.fn x = true ∨ X.env.scope.names.lookup x = some .local)
  (hcalm : X.calm = true) (S : QdU X N' scope) (hi : SI X tg iter fi) (hcap : QkV X N' scope cap t.slots)
  (hin : ∀ cl C fp s3 H3, SG (cxc X N' scope cl C fp s3 H3) tg t /\ QmA (cxc X N' scope cl C fp s3 H3) ifs ft /\ SE (cxc X N' scope cl C fp s3 H3) elt fe) (hs : ∀ x, foldedSetIterable iter X.env x = pure x) :
  S1 X (.Assign [.Name x pos'] (.ListComp elt [⟨tg, iter, ifs, 0⟩] scope pos) spos) (Qs i (QX fi t cap ft fe)) :=
 QlQ λ H0 A0 => (Que hN hx1 hx hf hcalm S (hi H0 A0) (λ cl C fp s3 H3 => ⟨(hin cl C fp s3 H3).1 _ _, (hin cl C fp s3 H3).2.1 _ _, (hin cl C fp s3 H3).2.2 _ _⟩) hs).mono λ E σ H h => Qke hcap h
end
end HS
namespace HS
open PySem PySem.Spec L2 PyProof.Rows
section
variable {X : Cx} {a b e : Expr} {fa fb : DE} {pf : DP} {x : Nat} {pos apos : Pos}
theorem Qfh {X : Cx} {H : Hp} {ds : List D} {w : V} {Gm : List Addr} (h : Rp X.K H (.lst ds) w Gm) : tyV X.K "list" w H := by
 obtain ⟨l, ws, L, rfl, hl, _⟩ := h.lst_inv
 exact .inl ⟨rfl, ws, Q3 hl⟩
theorem Q6.unit {K : PySem.W.Frag} {ρ : En} {F : Nat -> List Addr} {H : Hp} : Q6 K ρ F H H ⟨.non, true, []⟩ .non [] := .flat (QL.refl _) .QiF
noncomputable def QfT (x : Nat) (pf : DP) : DS := λ ρ => match ρ[x]? with
 | some (some (d, true)) => (pf ρ).bind λ is => match Qa8 d is with
  | some (.lst _) => some (.nx (ρ.set x (some (QaI is d (.lst []), true))))
  | _ => none
 | _ => none
theorem Qsi {H0 : Hp} {A0 : List Addr} {E : Ends} {σ : L2.St} {H : Hp} : tS X.K H0 A0 (QfT x pf) E σ H -> QfB (Qwq X.K "list" Qpg (tP X.K H0 A0 x pf)) E σ H := λ ⟨ρ, hs, F, o, rel, e, q⟩ => by
 unfold QfT at e
 split at e
 ·rename_i d hx
  obtain ⟨is, e2, e⟩ := bind1 e
  split at e
  ·rename_i ds hp
   cases e
   refine ⟨ρ, hs, F, d, true, is, .lst ds, rel, hx, e2, hp, λ v0 w H2 Gm s2 hv0 fo => ⟨Qfh fo.rp, ?_⟩⟩
   obtain ⟨l, vsm, Gp, rfl, g1, g2, g3, g4, g5, g6, g7⟩ := (rel.ext s2).write .unit rfl Zan hx (by simp) hv0 fo
   refine ⟨l, vsm, rfl, rfl, g1, ?_⟩
   obtain ⟨F', rel'⟩ := g7 [] [] [] (by simp [Rps]) (Zag _) rfl (λ a => by simp)
   exact q _ _ F' rel'
  ·cases e
 ·cases e
noncomputable def Qah (xs : List α) (k : Nat) (y : α) : List α := xs.take k ++ y :: xs.drop k
noncomputable def Qwu : V -> List V -> Hp -> VK -> Prop := λ x vs H Q => ∃ l xs i y, x = .ref l /\ vs = [.int i, y] /\ H l = some (.lst xs) /\ 0 <= i /\ i < 2 ^ 62 /\ xs.length < sizeLine /\ Q .non (upd H l (.lst (Qah xs (min i.toNat xs.length) y)))
theorem Qvq : MtM X "list.insert" Qwu := by
 intro pins s σ H x vs v us Q I rx rv h
 obtain ⟨l, xs, i, y, rfl, rfl, hH, h0, h1, hz, q⟩ := h
 cases rx
 obtain ⟨u, w', rfl, ⟨t, rfl⟩, rw'⟩ := vals2 rv
 obtain ⟨z, its, n, r, hl, e⟩ := I.Qje hH
 have hfit : ¬ (!Builtin.List.listFitsIndex i) = true := by
  unfold Builtin.List.listFitsIndex
  simp only [ZaE, Bool.and_eq_false_iff, decide_eq_false_iff_not]
  omega
 refine call_meets F.slot_list_insert ⟨_, e, rfl⟩ F.entry_list_insert (F.args_list_insert_3 _ _ _) (AutoSeq1.list_insert_list_int_val_1 l its.toArray n i t w' hfit (by rw [Zp]; omega)) ⟨e, ?_⟩
 refine ⟨.non, _, I.Qmb (its' := Qah its (min i.toNat its.length) w') hH e ?_ ?_ ?_, rfl, q⟩
 ·dsimp only
  rw [if_neg (by omega)]
  apply Array.ext'
  simp [Qah]
  rw [ZbU (by simp)]
 ·rw [hl]
  unfold Qah
  exact (r.take _).append (.cons rw' (r.drop _))
 ·unfold Qah
  rw [Zw, ZI, Zao, Zaz]
  omega
theorem Rps.Qu5 {K : PySem.W.Frag} {H : Hp} {d : D} {v : V} (hd : Rp K H d v []) : ∀ {ds : List D} {vs : List V} {F : List Addr} (k : Nat), Rps K H ds vs F -> Rps K H (Qah ds k d) (Qah vs k v) F
 | ds, vs, F, 0, h => by
  simp only [Qah, List.take_zero, List.drop_zero, Zbw, Rps]
  exact ⟨v, vs, [], F, rfl, rfl, hd, h⟩
 | [], vs, F, k + 1, h => by
  simp only [Rps] at h
  obtain ⟨rfl, rfl⟩ := h
  simp only [Qah, List.take_nil, List.drop_nil, Zbw, Rps]
  exact ⟨v, [], [], [], rfl, rfl, hd, rfl, rfl⟩
 | d' :: ds, vs, F, k + 1, h => by
  simp only [Rps] at h
  obtain ⟨w, ws, F1, F2, rfl, rfl, r, q⟩ := h
  have ih := Rps.Qu5 hd k q
  simp only [Qah, Zbz, List.drop_succ_cons, Zbq, Rps] at ih ⊢
  exact ⟨w, _, F1, F2, rfl, rfl, r, ih⟩
theorem Qto {d : D} (hd : d.flat = true) (ds : List D) (k : Nat) : nls (Qah ds k d) = nls ds := by
 unfold Qah
 rw [QbX]
 simp only [nls, Qb4 d hd]
 have := congrArg nls (ZaK k ds)
 rw [QbX] at this
 omega
noncomputable def QgT (x : Nat) (pf : DP) (fi fa : DE) : DS := λ ρ => match ρ[x]? with
 | some (some (d, true)) => (pf ρ).bind λ is => (fi ρ).bind λ ri => (fa ρ).bind λ r0 => match Qa8 d is, ri.d with
  | some (.lst ds), .int i => if r0.d.flat = true /\ 0 <= i /\ i < 2 ^ 62 /\ ds.length < sizeLine then some (.nx (ρ.set x (some (QaI is d (.lst (Qah ds (min i.toNat ds.length) r0.d)), true)))) else none
  | _, _ => none
 | _ => none
theorem Qq9 {fi : DE} {H0 : Hp} {A0 : List Addr} {E : Ends} {σ : L2.St} {H : Hp} : tS X.K H0 A0 (QgT x pf fi fa) E σ H -> QfB (tBM X.K "list" Qwu (tP X.K H0 A0 x pf) (QcF (tV X.K H0 A0 fi) (QcF (tV X.K H0 A0 fa) QdZ))) E σ H := λ ⟨ρ, hs, F, o, rel, e, q⟩ => by
 unfold QgT at e
 split at e
 ·rename_i d hx
  obtain ⟨is, e2, e⟩ := bind1 e
  obtain ⟨ri, e3, e⟩ := bind1 e
  obtain ⟨r0, e1, e⟩ := bind1 e
  split at e
  ·rename_i ds i hp hr
   split at e
   ·rename_i hc
    cases e
    refine ⟨ρ, hs, F, d, true, is, .lst ds, rel, hx, e2, hp, λ v0 w H2 Gm s2 hv0 fo => ⟨Qfh fo.rp, ρ, hs, F, ri, rel.ext s2, e3, λ vi H3 Gi pi => ⟨ρ, hs, F, r0, (rel.ext s2).ext pi.same, e1, λ vn H4 Gn p => ?_⟩⟩⟩
    have rel4 := ((rel.ext s2).ext pi.same).ext p.same
    obtain ⟨l, vsm, Gp, rfl, g1, g2, g3, g4, g5, g6, g7⟩ := rel4.write .unit rfl Zan hx (by simp) hv0 ((fo.same pi.same).same p.same)
    have ri' := pi.rp
    rw [hr] at ri'
    have rn := p.rp
    have z := rn.QaY hc.1
    subst z
    have n1 := g2.length
    rw [ri'.int_inv]
    refine ⟨l, vsm, i, vn, rfl, rfl, g1, hc.2.1, hc.2.2.1, by omega, ?_⟩
    obtain ⟨F', rel'⟩ := g7 (Qah ds (min i.toNat ds.length) r0.d) (Qah vsm (min i.toNat vsm.length) vn) Gp (by rw [← n1]; exact Rps.Qu5 (rn.upd g1 (by simp)) _ (g2.upd g1 g4)) (by unfold Qah; rw [Zw, ZI, Zao, Zaz]; omega) (by rw [Qto hc.1, g3]) (λ a => by omega)
    exact q _ _ F' rel'
   ·cases e
  ·cases e
 ·cases e
noncomputable def QfS (k : Int) : List Int -> Option Nat
 | [] => none
 | a :: r => if a = k then some 0 else (QfS k r).map (· + 1)
theorem QsX {k : Int} : ∀ {us : List Value} {ns : List Int}, IntsAre us ns -> PySem.W.kf_ints us = true /\ PySem.W.kf_at k us = QfS k ns
 | _, _, .nil => ⟨rfl, rfl⟩
 | _, _, .cons n t h => by
  obtain ⟨h1, h2⟩ := QsX (k := k) h
  refine ⟨h1, ?_⟩
  unfold PySem.W.kf_at QfS
  rw [h2]
  by_cases e : n = k
  ·subst e
   rw [if_pos rfl]
   have : PyProof.Rows.isInt n (.int n t) = true := by show (n == n) = true; simp
   rw [this]; rfl
  ·rw [if_neg e]
   have : PyProof.Rows.isInt k (.int n t) = false := by show (n == k) = false; simpa using e
   rw [this]
   cases QfS k _ <;> rfl
theorem Qfy {α β : Type} (f : α -> β) : ∀ (l : List α) (j : Nat), (l.eraseIdx j).map f = (l.map f).eraseIdx j
 | [], _ => rfl
 | a :: l, 0 => rfl
 | a :: l, j + 1 => by simp only [Zap, Zn, Qfy f l j]
noncomputable def QvP : V -> List V -> Hp -> VK -> Prop := λ x vs H Q => ∃ l ns i j, x = .ref l /\ vs = [.int i] /\ H l = some (.lst (ns.map V.int)) /\ QfS i ns = some j /\ Q .non (upd H l (.lst ((ns.eraseIdx j).map V.int)))
theorem Qu2 : MtM X "list.remove" QvP := by
 intro pins s σ H x vs v us Q I rx rv h
 obtain ⟨l, ns, i, j, rfl, rfl, hH, hj, q⟩ := h
 cases rx
 obtain ⟨u, rfl, ru⟩ := rv.one
 obtain ⟨t, rfl⟩ := ru
 obtain ⟨z, its, n, r, hl, e⟩ := I.Qje hH
 obtain ⟨h1, h2⟩ := QsX (k := i) (QbU r)
 rw [hj] at h2
 obtain ⟨a, b, c⟩ := PySem.W.kf_at_spec h2
 have hz : its.toArray.size <= sizeLine := by rw [Zp]; omega
 refine call_meets ZbH ⟨_, e, rfl⟩ PySem.F.entry_list_remove (PySem.F.args_list_remove_2 _ _)
  (MeetsSeq.list_remove l its.toArray n (.int i t) (PyProof.Rows.isInt i) (λ y hy => PySem.W.kf_eq h1 y (by simpa using hy)) j (by simpa using a) (by simpa using b) (λ k hk hlt => by simpa using c k (by simpa using hk) hlt) hz) ⟨e, ?_⟩
 refine ⟨.non, _, I.Qmb (its' := its.eraseIdx j) hH e ?_ ?_ ?_, rfl, q⟩
 ·show its.toArray.eraseIdxIfInBounds j = (its.eraseIdx j).toArray
  rw [Zbn]
 ·rw [Qfy]; exact r.eraseIdx j
 ·have := QeT ns j
  rw [Zi] at *
  omega
noncomputable def QjW (x : Nat) (pf : DP) (fa : DE) : DS := λ ρ => match ρ[x]? with
 | some (some (d, true)) => (pf ρ).bind λ is => (fa ρ).bind λ r0 => match Qa8 d is, r0.d with
  | some (.lst ds), .int i => (Qdo ds).bind λ ns => (QfS i ns).map λ j => .nx (ρ.set x (some (QaI is d (.lst ((ns.eraseIdx j).map .int)), true)))
  | _, _ => none
 | _ => none
theorem QhI : ∀ ns : List Int, QK (ns.map D.int) = true
 | [] => rfl
 | n :: ns => by simp only [Zn, QK, QhI ns]; rfl
theorem Rps.Qnz {K : PySem.W.Frag} {H : Hp} : ∀ ns : List Int, Rps K H (ns.map .int) (ns.map V.int) []
 | [] => by simp [Rps]
 | n :: ns => by
  simp only [Zn, Rps]
  exact ⟨_, _, [], [], rfl, rfl, .int_mk, Rps.Qnz ns⟩
theorem Qrj {H0 : Hp} {A0 : List Addr} {E : Ends} {σ : L2.St} {H : Hp} : tS X.K H0 A0 (QjW x pf fa) E σ H -> QfB (tBM X.K "list" QvP (tP X.K H0 A0 x pf) (QcF (tV X.K H0 A0 fa) QdZ)) E σ H := λ ⟨ρ, hs, F, o, rel, e, q⟩ => by
 unfold QjW at e
 split at e
 ·rename_i d hx
  obtain ⟨is, e2, e⟩ := bind1 e
  obtain ⟨r0, e1, e⟩ := bind1 e
  split at e
  ·rename_i ds i hp hr
   obtain ⟨ns, hns, e⟩ := bind1 e
   obtain ⟨j, hj, rfl⟩ := Zc.mp e
   refine ⟨ρ, hs, F, d, true, is, .lst ds, rel, hx, e2, hp, λ v0 w H2 Gm s2 hv0 fo => ⟨Qfh fo.rp, ρ, hs, F, r0, rel.ext s2, e1, λ vn H4 Gn p => ?_⟩⟩
   have rel4 := (rel.ext s2).ext p.same
   obtain ⟨l, vsm, Gp, rfl, g1, g2, g3, g4, g5, g6, g7⟩ := rel4.write .unit rfl Zan hx (by simp) hv0 (fo.same p.same)
   have rn := p.rp
   rw [hr] at rn
   rw [rn.int_inv]
   have hd := Qc9 hns
   have hv : vsm = ns.map V.int := by
    rw [hd] at g2
    exact g2.ints
   rw [hv] at g1
   refine ⟨l, ns, i, j, rfl, rfl, g1, hj, ?_⟩
   have n1 := g2.length
   obtain ⟨F', rel'⟩ := g7 ((ns.eraseIdx j).map .int) ((ns.eraseIdx j).map V.int) [] (Rps.Qnz _) (by
    have := QeT ns j
    have h3 : ds.length = ns.length := by rw [hd, Zi]
    rw [Zi]
    omega) (by rw [QeC _ (QhI _)]; rfl) (λ a => by simp)
   exact q _ _ F' rel'
  ·cases e
 ·cases e
theorem Rps.erase {K : PySem.W.Frag} {H : Hp} : ∀ {ds : List D} {vs : List V} {F : List Addr} (k : Nat), QK ds = true -> Rps K H ds vs F -> Rps K H (ds.eraseIdx k) (vs.eraseIdx k) []
 | [], vs, F, k, _, h => by
  simp only [Rps] at h
  obtain ⟨rfl, rfl⟩ := h
  simp [Rps]
 | d :: ds, vs, F, 0, hf, h => by
  have hF := h.QaY hf
  subst hF
  simp only [Rps] at h
  obtain ⟨w, ws, F1, F2, rfl, eF, r, q⟩ := h
  have : F2 = [] := (ZbV.mp eF.symm).2
  subst this
  simpa using q
 | d :: ds, vs, F, k + 1, hf, h => by
  have hF := h.QaY hf
  subst hF
  simp only [Rps] at h
  obtain ⟨w, ws, F1, F2, rfl, eF, r, q⟩ := h
  obtain ⟨rfl, rfl⟩ := ZbV.mp eF.symm
  simp only [QK, Zg] at hf
  have ih := Rps.erase k hf.2 q
  simp only [Zap, Rps]
  exact ⟨w, _, [], [], rfl, rfl, r, ih⟩
theorem Qhw : ∀ (ds : List D) (k : Nat), QK ds = true -> QK (ds.eraseIdx k) = true
 | [], _, _ => rfl
 | d :: ds, 0, h => by simp only [QK, Zg] at h; exact h.2
 | d :: ds, k + 1, h => by
  simp only [QK, Zg] at h
  simp only [Zap, QK, Zg]
  exact ⟨h.1, Qhw ds k h.2⟩
noncomputable def Qed (x y : Nat) (fi : DE) : DS := λ ρ => match ρ[x]?, ρ[y]? with
 | some (some (.lst xs, true)), some (some (.lst ys, true)) => (fi ρ).bind λ ri => match ri.d with
  | .int i => if x ≠ y /\ QK ys = true /\ 0 <= i /\ i < 2 ^ 62 /\ xs.length < sizeLine then (ys[i.toNat]?).map λ d => .nx ((ρ.set y (some (.lst (ys.eraseIdx i.toNat), true))).set x (some (.lst (xs ++ [d]), true))) else none
  | _ => none
 | _, _ => none
theorem Qm5 {y : Nat} {fi : DE} {H0 : Hp} {A0 : List Addr} {E : Ends} {σ : L2.St} {H : Hp} : tS X.K H0 A0 (Qed x y fi) E σ H -> QfB (tBM X.K "list" QjQ (tP X.K H0 A0 x Q1) (QcF (tBM X.K "list" QlE (tP X.K H0 A0 y Q1) (QcF (tV X.K H0 A0 fi) QdZ)) QdZ)) E σ H := λ ⟨ρ, hs, F, o, rel, e, q⟩ => by
 unfold Qed at e
 split at e
 ·rename_i xs ys hx hy
  obtain ⟨ri, e3, e⟩ := bind1 e
  split at e
  ·rename_i i hr
   split at e
   ·rename_i hc
    obtain ⟨hxy, hfl, h0, h1, hz⟩ := hc
    obtain ⟨d, hd, rfl⟩ := Zc.mp e
    refine ⟨ρ, hs, F, .lst xs, true, [], .lst xs, rel, hx, rfl, rfl, λ v0 w H2 Gm s2 hv0 fo => ⟨Qfh fo.rp, ρ, hs, F, .lst ys, true, [], .lst ys, rel.ext s2, hy, rfl, rfl, λ v1 w1 H3 Gm1 s3 hv1 fo1 => ⟨Qfh fo1.rp, ρ, hs, F, ri, (rel.ext s2).ext s3, e3, λ vi H4 Gi pi => ?_⟩⟩⟩
    have rel4 := ((rel.ext s2).ext s3).ext pi.same
    obtain ⟨l, vsm, Gp, rfl, g1, g2, g3, g4, g5, g6, g7⟩ := rel4.write .unit rfl Zan hy (by simp) hv1 (fo1.same pi.same)
    have ri' := pi.rp
    rw [hr] at ri'
    rw [ri'.int_inv]
    have n1 := g2.length
    have hil : i.toNat < ys.length := (Zf.mp hd).1
    obtain ⟨yv, Gy, hyv, ryv, _⟩ := g2.nth hd
    have gz := ryv.QaY (by
     have gen : ∀ (l : List D) (k : Nat) (d : D), QK l = true -> l[k]? = some d -> d.flat = true := by
      intro l
      induction l with
      | nil => intro k d _ h; simp at h
      | cons a l ih =>
       intro k d hf h
       simp only [QK, Zg] at hf
       cases k with
       | zero => simp at h; rw [← h]; exact hf.1
       | succ k => exact ih k d hf.2 (by simpa using h)
     exact gen ys _ _ hfl hd)
    subst gz
    refine ⟨l, vsm, i, i.toNat, yv, rfl, rfl, g1, by omega, by omega, ?_, hyv, ?_⟩
    ·unfold seqIndex?
     simp only [if_neg (by omega : ¬ i < 0)]
     rw [if_pos (by simp; omega)]
    obtain ⟨F', rel'⟩ := g7 (ys.eraseIdx i.toNat) (vsm.eraseIdx i.toNat) [] (Rps.erase i.toNat hfl (g2.upd g1 g4)) (by rw [List.length_eraseIdx]; split <;> omega) (by rw [QeC _ (Qhw ys _ hfl)]; rfl) (λ a => by simp)
    simp only [QaI, kill] at rel'
    have hx' : (ρ.set y (some (.lst (ys.eraseIdx i.toNat), true)))[x]? = some (some (.lst xs, true)) := by rw [Zj (Ne.symm hxy)]; exact hx
    obtain ⟨v0', hv0', rp0⟩ := rel'.val x _ _ hx'
    rw [hv0] at hv0'
    cases hv0'
    have hw : w = v0 := fo.2.1
    subst hw
    obtain ⟨l2, vs2, Gp2, el2, k1, k2, k3, k4, k5, k6, k7⟩ := rel'.write .unit rfl Zan hx' (by simp) hv0 (is := []) ⟨rfl, rfl, rfl, rp0⟩
    cases el2
    refine ⟨l2, vs2, yv, rfl, rfl, k1, by rw [← k2.length]; exact hz, ?_⟩
    have ryv' : Rps X.K (upd (upd H4 l (.lst (vsm.eraseIdx i.toNat))) l2 (.lst (vs2 ++ [yv]))) [d] [yv] [] := by
     simp only [Rps]
     exact ⟨yv, [], [], [], rfl, rfl, (ryv.upd g1 (by simp)).upd k1 (by simp), rfl, rfl⟩
    have hfd : d.flat = true := by
     have gen : ∀ (l : List D) (k : Nat) (d : D), QK l = true -> l[k]? = some d -> d.flat = true := by
      intro l
      induction l with
      | nil => intro k d _ h; simp at h
      | cons a l ih =>
       intro k d hf h
       simp only [QK, Zg] at hf
       cases k with
       | zero => simp at h; rw [← h]; exact hf.1
       | succ k => exact ih k d hf.2 (by simpa using h)
     exact gen ys _ _ hfl hd
    obtain ⟨F'', rel''⟩ := k7 (xs ++ [d]) (vs2 ++ [yv]) (Gp2 ++ []) ((k2.upd k1 k4).append ryv') (by rw [Zw, ZaS]; omega) (by rw [ZaF, QbX, k3]; simp [nls, Qb4 d hfd]) (λ a => by rw [ZaF]; omega)
    exact q _ _ F'' rel''
   ·cases e
  ·cases e
 ·cases e
end
noncomputable def Qff : Expr -> Bool
 | .ListComp .. => false
 | .SetComp .. => false
 | .DictComp .. => false
 | _ => true
theorem Qgv {e : Expr} {t : Option Expr} {l : Nat} {env : Env} (h : Qff e = true) : swapsWith e t l env = pure false := by
 cases e <;> first | rfl | cases h
noncomputable def Qp6 : Expr -> Bool
 | .Tuple .. => true
 | _ => false
noncomputable def Qbu (n : Nat) (Θ : Th) (e : Expr) : Option (Nat × DP) := match n with
 | 0 => none
 | n + 1 => match e with
  | .Name x _ => (Θ.slot x).map λ i => (i, Q1)
  | .Subscript a b _ => (Qbu n Θ a).bind λ q => (Qq n Θ b).map λ fb => (q.1, QcY q.2 fb)
  | _ => none
theorem QfY : ∀ (n : Nat) (X : Cx) (Θ : Th) (e : Expr) (q : Nat × DP), Qaf X Θ -> Qbu n Θ e = some q -> SPa X e q.1 q.2 /\ attributeBase e = λ _ env w => w
 | 0, _, _, _, _, _, h => by simp [Qbu] at h
 | n + 1, X, Θ, e, q, ok, h => by
  cases e with
  | Name x pos =>
   simp only [Qbu] at h
   obtain ⟨i, hi, rfl⟩ := Zc.mp h
   exact ⟨Qib (Qej ok hi), by funext a b c; rfl⟩
  | Subscript a b pos =>
   simp only [Qbu] at h
   obtain ⟨q', fb, h1, h2, rfl⟩ := Qad h
   exact ⟨Quc (QfY n X Θ a q' ok h1).1 ((QbN n).E X Θ b fb ok h2) (QnW h2), by funext a b c; rfl⟩
  | _ => simp [Qbu] at h
noncomputable def Qi9 : Expr -> Bool
 | .Name .. => true
 | .Subscript _ (.Slice ..) _ => false
 | .Subscript (.Call ..) _ _ => false
 | .Subscript .. => true
 | _ => false
noncomputable def Qsq : Operator -> Option (D -> D -> Option D)
 | .Add => some (gI λ i j => some (.int (i + j)))
 | .Sub => some Qat
 | _ => none
theorem QuW {X : Cx} {op : Operator} {g : D -> D -> Option D} (h : Qsq op = some g) : ∃ r, OpR X (inplaceOp op) r /\ QbW X.K g r := by
 cases op <;> cases h
 ·exact ⟨_, Quv, Qe8 (λ i j d e => by cases e; rfl) λ i j d e H Q q => by cases e; exact ⟨i, j, rfl, rfl, q _ λ _ => .int_mk⟩⟩
 ·exact ⟨_, QtH, Qqg⟩
noncomputable def Qs3 : Expr -> Bool
 | .Slice .. => true
 | _ => false
noncomputable def QiB (n : Nat) (Θ : Th) (o : Expr) (m : Str) (args : List Expr) : Option DS := match args with
  | [] => (Qbu n Θ o).bind λ q => if m = "clear" then some (QfT q.1 q.2) else
    none
  | [e] => if m = "append" then
     (match o, e with
      | .Name x _, .Call (.Attribute (.Name y _) pm apos) [i] [] cpos => if pm = "pop" /\ (apos.endLine == cpos.line) = true then (Θ.slot x).bind λ sx => (Θ.slot y).bind λ sy => (Qq n Θ i).map λ fi => Qed sx sy fi else none
      | o, e => (Qbu n Θ o).bind λ q => (Qq n Θ e).map λ fa => Qdj q.1 q.2 fa)
    else
    if m = "remove" then (Qbu n Θ o).bind λ q => (Qq n Θ e).map λ fa => QjW q.1 q.2 fa else
    none
  | [i, e] => if m = "insert" then (Qbu n Θ o).bind λ q => (Qq n Θ i).bind λ fi => (Qq n Θ e).map λ fa => QgT q.1 q.2 fi fa else none
  | _ => none
theorem Qsa {n : Nat} {X : Cx} {Θ : Th} {o : Expr} {m : Str} {args : List Expr} {f : DS} {apos cpos pos : Pos} (ok : Qaf X Θ) (h : QiB n Θ o m args = some f) (hl : (apos.endLine == cpos.line) = true) :
  S1 X (.Expr (.Call (.Attribute o m apos) args [] cpos) pos) f := by
 have base : ∀ {q : Nat × DP}, Qbu n Θ o = some q -> SPa X o q.1 q.2 /\ attributeBase o m X.env (eval o X.env) = eval o X.env := λ {q} h1 => by
  obtain ⟨sp, ab⟩ := QfY n X Θ o _ ok h1
  exact ⟨sp, by rw [ab]⟩
 have app : ∀ {e : Expr} {f : DS}, m = "append" -> ((Qbu n Θ o).bind λ q => (Qq n Θ e).map λ fa => Qdj q.1 q.2 fa) = some f -> S1 X (.Expr (.Call (.Attribute o m apos) [e] [] cpos) pos) f := λ {e f} em h => by
  obtain ⟨q, fa, h1, h2, rfl⟩ := Qad h
  obtain ⟨sp, hb⟩ := base h1
  subst em
  have he := (QbN n).E X Θ e fa ok h2
  have st := Qac h2 [] X.env
  have sa : ∀ H0 A0, PA X [e] (QcF (tV X.K H0 A0 fa) QdZ) := λ H0 A0 => Q2 (he H0 A0) Qbh st
  exact λ H0 A0 => (Qeb (QiJ Zaq ZbI ZbJ QgP (sp H0 A0) (sa H0 A0) hb (by rw [st]; rfl) hl st rfl) rfl).mono λ E σ H q => Qrg q
 match args, h with
 | [], h =>
  unfold QiB at h
  dsimp only at h
  obtain ⟨⟨x, pf⟩, h1, h⟩ := bind1 h
  obtain ⟨sp, hb⟩ := base h1
  by_cases e : m = "clear"
  ·rw [if_pos e] at h; cases h; subst e
   exact λ H0 A0 => (Qeb (QqF Zaq PySem.F.slot_list_clear PySem.F.type_list_clear QqW (sp H0 A0) hb hl) rfl).mono λ E σ H q => Qsi q
  rw [if_neg e] at h
  cases h
 | [e], h =>
  unfold QiB at h
  dsimp only at h
  by_cases em : m = "append"
  ·rw [if_pos em] at h
   split at h
   ·rename_i x p y p' pm apos' i cpos' hz
    split at h
    ·rename_i hc
     obtain ⟨sx, h1, h⟩ := bind1 h
     obtain ⟨sy, fi, h2, h3, rfl⟩ := Qad h
     obtain ⟨rfl, hl2⟩ := hc
     subst em
     have spx := Qib (Qej ok h1 (pos := p))
     have spy := Qib (Qej ok h2 (pos := p'))
     have hi := (QbN n).E X Θ i fi ok h3
     have st := Qac h3 [] X.env
     have sa : ∀ H0 A0, PA X [i] (QcF (tV X.K H0 A0 fi) QdZ) := λ H0 A0 => Q2 (hi H0 A0) Qbh st
     have pop : ∀ H0 A0, PE X (.Call (.Attribute (.Name y p') "pop" apos') [i] [] cpos') (tBM X.K "list" QlE (tP X.K H0 A0 sy Q1) (QcF (tV X.K H0 A0 fi) QdZ)) := λ H0 A0 =>
      QiJ Zaq PySem.F.slot_list_pop PySem.F.type_list_pop QsN (spy H0 A0) (sa H0 A0) rfl (by rw [st]; rfl) hl2 st rfl
     exact λ H0 A0 => (Qeb (QiJ Zaq ZbI ZbJ QgP (spx H0 A0) (Q2 (pop H0 A0) Qbh rfl) rfl rfl hl rfl rfl) rfl).mono λ E σ H q => Qm5 q
    ·cases h
   ·exact app em h
  rw [if_neg em] at h
  clear em
  clear app
  by_cases em : m = "remove"
  ·rw [if_pos em] at h
   obtain ⟨q, fa, h1, h2, rfl⟩ := Qad h
   obtain ⟨sp, hb⟩ := base h1
   subst em
   have he := (QbN n).E X Θ e fa ok h2
   have st := Qac h2 [] X.env
   have sa : ∀ H0 A0, PA X [e] (QcF (tV X.K H0 A0 fa) QdZ) := λ H0 A0 => Q2 (he H0 A0) Qbh st
   exact λ H0 A0 => (Qeb (QiJ Zaq ZbH PySem.F.type_list_remove Qu2 (sp H0 A0) (sa H0 A0) hb (by rw [st]; rfl) hl st rfl) rfl).mono λ E σ H q => Qrj q
  rw [if_neg em] at h
  clear em
  cases h
 | [i, e], h =>
  change (if m = "insert" then (Qbu n Θ o).bind λ q => (Qq n Θ i).bind λ fi => (Qq n Θ e).map λ fa => QgT q.1 q.2 fi fa else none) = some f at h
  split at h
  ·rename_i em
   obtain ⟨q, h1, h⟩ := bind1 h
   obtain ⟨fi, fa, h2, h3, rfl⟩ := Qad h
   obtain ⟨sp, hb⟩ := base h1
   subst em
   have hi := (QbN n).E X Θ i fi ok h2
   have he := (QbN n).E X Θ e fa ok h3
   have st2 := Qac h3 [] X.env
   have st := Qac h2 [e] X.env
   have sa : ∀ H0 A0, PA X [i, e] (QcF (tV X.K H0 A0 fi) (QcF (tV X.K H0 A0 fa) QdZ)) := λ H0 A0 => Q2 (hi H0 A0) (Q2 (he H0 A0) Qbh st2) st
   exact λ H0 A0 => (Qeb (QiJ Zaq PySem.F.slot_list_insert PySem.F.type_list_insert Qvq (sp H0 A0) (sa H0 A0) hb (by rw [st, st2]; rfl) hl st (by rw [st2]; rfl)) rfl).mono λ E σ H q => Qq9 q
  ·cases h
 | _ :: _ :: _ :: _, h => exact nomatch (show (none : Option DS) = some _ from h)
end HS
namespace HS
open PySem PySem.Spec L2 PyProof.Rows
mutual
noncomputable def QkP (n : Nat) (Θ : Th) (st : Stmt) : Option DS := match n with
 | 0 => none
 | n + 1 => match st with
  | .Pass _ => some Qn
  | .Break _ => some Qsp
  | .Continue _ => some QqN
  | .Raise _ _ _ => some QF
  | .Return none _ => some QoW
  | .Return (some e) _ => (Qq n Θ e).map QM
  | .Expr (.Constant (.str _) _ _) _ => some Qn
  | .Expr (.Call (.Attribute o m apos) args [] cpos) _ => if (apos.endLine == cpos.line) = true then QiB n Θ o m args else none
  | .Expr (.Call (.Name x p) args [] cpos) _ => (Qq n Θ (.Call (.Name x p) args [] cpos)).map Qdk
  | .Assign [.Name x _] e _ => (Θ.Qd2 x).bind λ i => (Qq n Θ e).map λ fa => Qs i (if Qi9 e = true then QaF fa else fa)
  | .Assign [.Tuple es k p] e _ => if Qff e = true /\ Qp6 e = false then (QeZ Θ (.Tuple es k p)).bind λ t => (Qq n Θ e).map λ fa => QcX t fa else none
  | .Assign [.Subscript a i _] e _ => (Qbu n Θ a).bind λ q => (Qq n Θ i).bind λ fi => (Qq n Θ e).map λ fa => QcQ q.1 q.2 fi fa
  | .AugAssign (.Subscript a i _) op e _ => (Qbu n Θ a).bind λ q => (Qq n Θ i).bind λ fi => (Qsq op).bind λ g => (Qq n Θ e).map λ fa => Qdg g q.1 q.2 fi fa
  | .If c a b _ => (QaZ n Θ c).bind λ g => (Qbe n Θ a).bind λ f1 => (Qbe n Θ b).map λ f2 => sIf g f1 f2
  | .For tg iter body [] _ => (QeZ Θ tg).bind λ t => (QeU n Θ tg iter).bind λ fi => (Qbe n Θ body).map λ fb => Qa1 fi t fb
  | .While c body [] _ => (QaZ n Θ c).bind λ g => (Qbe n Θ body).map λ fb => Qb3 g fb
  | _ => none
noncomputable def Qbe (n : Nat) (Θ : Th) (sts : List Stmt) : Option DS := match n with
 | 0 => none
 | n + 1 => match sts with
  | [] => some Qn
  | st :: r => (QkP n Θ st).bind λ f => (Qbe n Θ r).map λ g => Qf f g
end
theorem QnL {n : Nat} {Θ : Th} {e : Expr} {f : DE} (h : Qq n Θ e = some f) : Qs3 e = false := by
 cases n with
 | zero => exact nomatch (show (none : Option DE) = some _ from h)
 | succ n => cases e <;> first | rfl | (exact nomatch (show (none : Option DE) = some _ from h))
theorem Qtn {n : Nat} {Θ : Th} {elt : Expr} {gens : List Comprehension} {scope : Scope} {pos : Pos} {f : DE} (h : Qq n Θ (.ListComp elt gens scope pos) = some f) : ∃ m tg iter ifs t fi ft fe, n = m + 1 /\ gens = [⟨tg, iter, ifs, 0⟩] /\ QeZ (inner Θ scope) tg = some t /\ Qim Θ scope t = true ∧
  QeU m Θ tg iter = some fi /\ Qex m (inner Θ scope) ifs = some ft /\ Qq m (inner Θ scope) elt = some fe /\ f = QX fi t (Qhm Θ scope) ft fe := by
 cases n with
 | zero => exact nomatch (show (none : Option DE) = some _ from h)
 | succ n =>
  match gens, h with
  | [⟨tg, iter, ifs, k⟩], h =>
   by_cases hk : k = 0
   ·subst hk
    (conv at h => lhs; whnf)
    obtain ⟨t, ht, h⟩ := bind1 h
    split at h
    ·rename_i hc
     simp only [Zg] at hc
     obtain ⟨fi, h1, h⟩ := bind1 h
     obtain ⟨ft, fe, h2, h3, rfl⟩ := Qad h
     exact ⟨n, tg, iter, ifs, t, fi, ft, fe, rfl, rfl, ht, hc.1, h1, h2, h3, rfl⟩
    ·cases h
   ·exfalso
    cases k with
    | ofNat k =>
     cases k with
     | zero => exact hk rfl
     | succ k => exact nomatch (show (none : Option DE) = some _ from h)
    | negSucc k => exact nomatch (show (none : Option DE) = some _ from h)
  | [], h => exact nomatch (show (none : Option DE) = some _ from h)
  | ⟨_, _, _, .ofNat 0⟩ :: _ :: _, h => exact nomatch (show (none : Option DE) = some _ from h)
  | ⟨_, _, _, .ofNat (k + 1)⟩ :: _ :: _, h => exact nomatch (show (none : Option DE) = some _ from h)
  | ⟨_, _, _, .negSucc k⟩ :: _ :: _, h => exact nomatch (show (none : Option DE) = some _ from h)
theorem Quh {n : Nat} {X : Cx} {Θ : Th} {x : Str} {p pos : Pos} {e : Expr} {fa : DE} {i : Nat} (ok : Qaf X Θ) (hx : Θ.Qd2 x = some i) (h : Qq n Θ e = some fa) : S1 X (.Assign [.Name x p] e pos) (Qs i fa) := by
 have hN : X.N.Nodup := by rw [ok.N]; exact ok.nd
 obtain ⟨h1, h2, h3⟩ := QfH ok hx
 by_cases hc : Qff e = true
 ·have he := (QbN n).E X Θ e fa ok h
  exact QlQ λ H0 A0 => Ql6 hN h1 h2 (he H0 A0) (Qgv hc) h3
 ·cases e with
  | ListComp elt gens scope cpos =>
   obtain ⟨m, tg, iter, ifs, t, fi, ft, fe, rfl, rfl, ht, hco, g1, g2, g3, rfl⟩ := Qtn h
   obtain ⟨S, cap, inn⟩ := Qls ok hco
   obtain ⟨i1, i2⟩ := (QbN m).I X Θ tg iter fi ok g1
   exact Qs2 hN h1 h2 h3 ok.calm S i1 cap (λ cl C fp s3 H3 => ⟨QkR (inn cl C fp s3 H3) ht, (QbN m).Ts _ _ ifs ft (inn cl C fp s3 H3) g2, (QbN m).E _ _ elt fe (inn cl C fp s3 H3) g3⟩) i2
  | SetComp _ _ _ _ => cases n <;> exact nomatch (show (none : Option DE) = some _ from h)
  | DictComp _ _ _ _ _ => cases n <;> exact nomatch (show (none : Option DE) = some _ from h)
  | _ => exact absurd rfl hc
theorem Qsk {X : Cx} {x : Str} {p pos : Pos} {e : Expr} {fa : DE} {i : Nat} {n : Nat} {Θ : Th} (ok : Qaf X Θ) (hx : Θ.Qd2 x = some i) (h : Qq n Θ e = some fa) (ha : Qi9 e = true) : S1 X (.Assign [.Name x p] e pos) (Qs i (QaF fa)) := by
 have hN : X.N.Nodup := by rw [ok.N]; exact ok.nd
 obtain ⟨h1, h2, h3⟩ := QfH ok hx
 have hc : Qff e = true := by cases e <;> first | rfl | cases ha
 have he := QqR ((QbN n).E X Θ e fa ok h)
 exact QlQ λ H0 A0 => Ql6 hN h1 h2 (he H0 A0) (Qgv hc) h3
theorem QqJ {a i e : Expr} {p : Pos} {l : Nat} {env : Env} : swapsWithSole [.Subscript a i p] e l env = pure false := by
 cases e <;> rfl
structure Qvc (n : Nat) : Prop where
 S : ∀ X Θ st f, Qaf X Θ -> QkP n Θ st = some f -> S1 X st f
 Ss : ∀ X Θ sts f, Qaf X Θ -> Qbe n Θ sts = some f -> SS X sts f
theorem QuQ {n : Nat} (ih : Qvc n) : ∀ X Θ st f, Qaf X Θ -> QkP (n + 1) Θ st = some f -> S1 X st f := by
 intro X Θ st f ok h
 have hN : X.N.Nodup := by rw [ok.N]; exact ok.nd
 have E := QbN n
 cases st with
 | Pass pos => change some Qn = some f at h; cases h; exact Qt7
 | Break pos => change some Qsp = some f at h; cases h; exact QqO
 | Continue pos => change some QqN = some f at h; cases h; exact Quz
 | Raise a b pos => change some QF = some f at h; cases h; exact QqZ
 | Return e pos =>
  cases e with
  | none => change some QoW = some f at h; cases h; exact Qts
  | some e =>
   change (Qq n Θ e).map QM = some f at h
   obtain ⟨fa, h1, rfl⟩ := Zc.mp h
   exact QvI (E.E X Θ e fa ok h1)
 | Expr e pos =>
  cases e with
  | Constant c k p =>
   cases c with
   | str x =>
    change some Qn = some f at h
    cases h
    exact λ H0 A0 => Qu8.mono λ E σ H ⟨ρ, hs, F, o, rel, e, q⟩ => by cases e; exact q σ H F rel
   | _ => exact nomatch (show (none : Option DS) = some _ from h)
  | Call fn args kws cpos =>
   cases fn with
   | Attribute o m apos =>
    cases kws with
    | nil =>
     change (if (apos.endLine == cpos.line) = true then QiB n Θ o m args else none) = some f at h
     split at h
     ·rename_i hl
      exact Qsa ok h hl
     ·cases h
    | cons _ _ => exact nomatch (show (none : Option DS) = some _ from h)
   | Name x p =>
    cases kws with
    | nil =>
     change (Qq n Θ (.Call (.Name x p) args [] cpos)).map Qdk = some f at h
     obtain ⟨fa, h1, rfl⟩ := Zc.mp h
     exact λ H0 A0 => QuD (Qeb (E.E X Θ _ fa ok h1 H0 A0) rfl)
    | cons _ _ => exact nomatch (show (none : Option DS) = some _ from h)
   | _ => exact nomatch (show (none : Option DS) = some _ from h)
  | _ => exact nomatch (show (none : Option DS) = some _ from h)
 | Assign ts e pos =>
  match ts, h with
  | [t], h =>
   cases t with
   | Name x p =>
    change ((Θ.Qd2 x).bind λ i => (Qq n Θ e).map λ fa => Qs i (if Qi9 e = true then QaF fa else fa)) = some f at h
    obtain ⟨i, fa, h1, h2, rfl⟩ := Qad h
    split
    ·rename_i ha; exact Qsk ok h1 h2 ha
    ·exact Quh ok h1 h2
   | Tuple es k p =>
    change (if Qff e = true /\ Qp6 e = false then (QeZ Θ (.Tuple es k p)).bind λ t => (Qq n Θ e).map λ fa => QcX t fa else none) = some f at h
    split at h
    ·rename_i hc
     obtain ⟨t, fa, h1, h2, rfl⟩ := Qad h
     refine Qt6 (E.E X Θ e fa ok h2) (QkR ok h1) (by show swapsWith e (some (.Tuple es k p)) pos.line X.env = pure false; exact Qgv hc.1) ?_ rfl
     cases e <;> first | rfl | (cases hc.2)
    ·cases h
   | Subscript a i p =>
    change ((Qbu n Θ a).bind λ q => (Qq n Θ i).bind λ fi => (Qq n Θ e).map λ fa => QcQ q.1 q.2 fi fa) = some f at h
    obtain ⟨q, h1, h⟩ := bind1 h
    obtain ⟨fi, fa, h2, h3, rfl⟩ := Qad h
    obtain ⟨sp, _⟩ := QfY n X Θ a q ok h1
    have ns := QnL h2
    refine Qv6 (E.E X Θ e fa ok h3) sp (E.E X Θ i fi ok h2) λ te to ti he ho hi => QoX he (QuU ho hi set_list ?_) QqJ ?_ rfl
    ·intro v; cases i <;> first | rfl | (cases ns)
    ·cases e <;> rfl
   | _ => exact nomatch (show (none : Option DS) = some _ from h)
  | [], h => exact nomatch (show (none : Option DS) = some _ from h)
  | t :: _ :: _, h => cases t <;> exact nomatch (show (none : Option DS) = some _ from h)
 | AugAssign t op e pos =>
  cases t with
  | Subscript a i p =>
   change ((Qbu n Θ a).bind λ q => (Qq n Θ i).bind λ fi => (Qsq op).bind λ g => (Qq n Θ e).map λ fa => Qdg g q.1 q.2 fi fa) = some f at h
   obtain ⟨q, h1, h⟩ := bind1 h
   obtain ⟨fi, h2, h⟩ := bind1 h
   obtain ⟨g, fa, h3, h4, rfl⟩ := Qad h
   obtain ⟨r, o1, o2⟩ := QuW (X := X) h3
   obtain ⟨sp, _⟩ := QfY n X Θ a q ok h1
   have ns := QnL h2
   exact Qt0 o1 o2 (E.E X Θ e fa ok h4) sp (E.E X Θ i fi ok h2) λ ov iv new => by cases i <;> first | rfl | (cases ns)
  | _ => exact nomatch (show (none : Option DS) = some _ from h)
 | If c a b pos =>
  change ((QaZ n Θ c).bind λ g => (Qbe n Θ a).bind λ f1 => (Qbe n Θ b).map λ f2 => sIf g f1 f2) = some f at h
  obtain ⟨g, h1, h⟩ := bind1 h
  obtain ⟨f1, f2, h2, h3, rfl⟩ := Qad h
  exact Qxm (E.T X Θ c g ok h1) (ih.Ss X Θ a f1 ok h2) (ih.Ss X Θ b f2 ok h3)
 | For tg iter body els pos =>
  cases els with
  | nil =>
   change ((QeZ Θ tg).bind λ t => (QeU n Θ tg iter).bind λ fi => (Qbe n Θ body).map λ fb => Qa1 fi t fb) = some f at h
   obtain ⟨t, h1, h⟩ := bind1 h
   obtain ⟨fi, fb, h2, h3, rfl⟩ := Qad h
   obtain ⟨i1, i2⟩ := E.I X Θ tg iter fi ok h2
   exact Qwl ok.pass ok.calm i1 (QkR ok h1) (ih.Ss X Θ body fb ok h3) i2
  | cons _ _ => exact nomatch (show (none : Option DS) = some _ from h)
 | While c body els pos =>
  cases els with
  | nil =>
   change ((QaZ n Θ c).bind λ g => (Qbe n Θ body).map λ fb => Qb3 g fb) = some f at h
   obtain ⟨g, fb, h1, h2, rfl⟩ := Qad h
   exact Qpn ok.pass (E.T X Θ c g ok h1) (ih.Ss X Θ body fb ok h2)
  | cons _ _ => exact nomatch (show (none : Option DS) = some _ from h)
 | _ => exact nomatch (show (none : Option DS) = some _ from h)
theorem Qs1 : ∀ n, Qvc n
 | 0 => ⟨λ _ _ _ _ _ h => (nomatch (show (none : Option DS) = some _ from h)), λ _ _ _ _ _ h => (nomatch (show (none : Option DS) = some _ from h))⟩
 | n + 1 => by
  have ih := Qs1 n
  refine ⟨QuQ ih, λ X Θ sts f ok h => ?_⟩
  match sts, h with
  | [], h => change some Qn = some f at h; cases h; exact Qv8
  | st :: r, h =>
   change ((QkP n Θ st).bind λ f => (Qbe n Θ r).map λ g => Qf f g) = some f at h
   obtain ⟨fs, fr, h1, h2, rfl⟩ := Qad h
   exact Qux (ih.S X Θ st fs ok h1) (ih.Ss X Θ r fr ok h2)
noncomputable def Qax (k : Nat) (ds : List D) : En := ds.map (λ d => some (d, d.flat)) ++ List.replicate (k - ds.length) none
noncomputable def outD : Out -> Option (D × Bool)
 | .rt d fr => some (d, fr)
 | .nx _ => some (.non, true)
 | _ => none
noncomputable def Qo (k : Nat) (f : DS) : Den := λ ds => (f (Qax k ds)).bind outD
theorem Rps.parts {K : PySem.W.Frag} {H : Hp} : ∀ {ds : List D} {vs : List V} {F : List Addr}, Rps K H ds vs F →
  ∃ Fs : List (List Addr), (∀ L ∈ Fs, ∀ a ∈ L, a ∈ F) /\ ∀ (i : Nat) (d : D), ds[i]? = some d -> ∃ v, vs[i]? = some v /\ Rp K H d v (Fs.getD i [])
 | [], _, _, h => ⟨[], λ L hL => by simp at hL, λ i d e => by simp at e⟩
 | d :: ds, _, _, h => by
  simp only [Rps] at h
  obtain ⟨v, ws, F1, F2, rfl, rfl, r, q⟩ := h
  obtain ⟨Fs, h1, h2⟩ := Rps.parts q
  refine ⟨F1 :: Fs, λ L hL a ha => ?_, λ i d' e => ?_⟩
  ·rcases Zr.mp hL with rfl | hL
   ·exact Zl _ ha
   ·exact Ze _ (h1 L hL a ha)
  ·cases i with
   | zero => simp at e; subst e; exact ⟨v, by simp, by simpa using r⟩
   | succ i => obtain ⟨w, hw, hr⟩ := h2 i d' (by simpa using e); exact ⟨w, by simpa using hw, by simpa using hr⟩
theorem QhA {k : Nat} {ds : List D} {i : Nat} {d : D} {b : Bool} (h : (Qax k ds)[i]? = some (some (d, b))) : ds[i]? = some d /\ b = d.flat := by
 unfold Qax at h
 by_cases hi : i < ds.length
 ·rw [Zai (by simpa using hi), Zo] at h
  cases e : ds[i]? with
  | none => rw [e] at h; cases h
  | some a => rw [e] at h; cases h; exact ⟨rfl, rfl⟩
 ·rw [ZaX (by simpa using hi), ZbM] at h
  split at h <;> cases h
theorem QqH {K : PySem.W.Frag} {H : Hp} {ds : List D} {vs : List V} {F : List Addr} {N : List Str} (r : Rps K H ds vs F) : ∃ F0, Rel K H F [] (Qax N.length ds) F0 (start N vs) H := by
 obtain ⟨Fs, h1, h2⟩ := r.parts
 have hl := r.length
 have src : ∀ i a, a ∈ Fs.getD i [] -> a ∈ F := λ i a ha => by
  by_cases hi : i < Fs.length
  ·have : Fs.getD i [] ∈ Fs := by rw [ZaJ, ZU hi]; exact ZbP hi
   exact h1 _ this a ha
  ·rw [ZaJ, Zx (by omega)] at ha; simp at ha
 refine ⟨λ i => Fs.getD i [], ?_, λ i d b e => ?_, λ i d e => ?_, λ i d b e a ha => .inr (src i a ha), λ t ht => absurd ht (by simp), QL.refl _⟩
 ·unfold Qax L2.start; simp [hl]
 ·obtain ⟨e1, _⟩ := QhA e
  obtain ⟨v, hv, hr⟩ := h2 i d e1
  refine ⟨v, ?_, hr⟩
  have hi : i < vs.length := (Zf.mp hv).1
  unfold L2.start
  rw [Zai (by simpa using hi), Zo, hv]; rfl
 ·obtain ⟨e1, e2⟩ := QhA e
  obtain ⟨v, hv, hr⟩ := h2 i d e1
  have z : Fs.getD i [] = [] := hr.QaY e2.symm
  simp only [z]
  exact ⟨(Qb4 d e2.symm).symm, Zan, λ a ha => by simp at ha, λ _ _ _ _ _ a ha => by simp at ha, λ _ _ a ha => by simp at ha⟩
section
variable (P : Program) (w : World) (K : PySem.W.Frag) (mg : Str -> Option Value) (base : Heap)
def Known (k : Nat) (x : Str) (r : FnR) : Prop := ∃ f fd ps, QcR P w K mg base CX0 k f fd ps (spV K r.n r.den) /\ mg x = some (.ref f) /\ PySem.W.keepIn K (.ref f) = true ∧
 ∀ m, m <= r.dfl.length -> ∃ ds dvs, Binds K fd ps ds /\ Qy dvs ds /\ ∀ H, Rps K H (r.dfl.drop (r.dfl.length - m)) dvs []
def Qdm (k : Nat) (Γ : List (Str × FnR)) : Prop := ∀ x r, look x Γ = some r -> Known P w K mg base k x r
structure Qg1 (cs : List (Str × Int)) : Prop where
 bn : ∀ x ∈ QlR, mg x = none
 cs : ∀ x i, look x cs = some i -> ∃ t, mg x = some (.int i t)
end
section
variable {P : Program} {w : World} {K : PySem.W.Frag} {mg : Str -> Option Value} {base : Heap}
theorem Qdm.nil {k : Nat} : Qdm P w K mg base k [] := λ x r h => by cases h
theorem Known.mono {j k : Nat} {x : Str} {r : FnR} (h : Known P w K mg base j x r) (hk : j <= k) : Known P w K mg base k x r := by
 obtain ⟨f, fd, ps, h1, h2⟩ := h
 exact ⟨f, fd, ps, h1.mono hk, h2⟩
theorem Qdm.cons {k : Nat} {Γ : List (Str × FnR)} {x : Str} {r : FnR} (t : Qdm P w K mg base k Γ) (h : Known P w K mg base (k + 1) x r) : Qdm P w K mg base (k + 1) ((x, r) :: Γ) := λ y q e => by
 unfold look at e
 split at e
 ·rename_i z; cases e; subst z; exact h
 ·exact (t y q e).mono (Zbu _)
noncomputable def namesOf (sc : Scope) : List Str := (sc.names.filter λ y => QsQ y.2).map (·.1)
noncomputable def QlY (st : Stmt) (Γ : List (Str × FnR)) (cs : List (Str × Int)) : Th := ⟨namesOf (QD st), (QD st).names, Γ, cs⟩
theorem QvN {st : Stmt} {ps : List Str} {qual : Str} {f : Addr} {cdv : Value} {A : Around} {outer : List Env} {s : Shared} {H : Hp} {E : XK} {k : Nat} {Γ : List (Str × FnR)} {cs : List (Str × Int)} (S : Qc8 (namesOf (QD st)) ps (QD st)) (M : Qg1 mg cs) (tab : Qdm P w K mg base k Γ)
  (hr : Qbl k (A.deeper (envOfC qual (QD st) s.heap.objs.size f cdv))) : Qaf (QhU CX0 P w K mg base (namesOf (QD st)) qual (QD st) f cdv A outer s H E).nox (QlY st Γ cs) where
 N := rfl
 nd := S.nd
 lc := λ x h => by rw [Qbm] at h; exact h
 ce := λ x h => by rw [Qbm] at h; exact ⟨h, rfl⟩
 fe := λ x h => by rw [Qbm] at h; exact absurd rfl (S.nofree _ (Zae h))
 gl := λ x h => by rw [Qbm] at h; exact h
 calm := rfl
 pass := PassesOwn.never
 units := hr.units
 mg := M.bn
 fns := λ x r h => by
  obtain ⟨f', fd, ps', h1, h2, h3, h4⟩ := tab x r h
  exact ⟨k, f', fd, ps', h1, hr, h2, h3, h4⟩
 cs := M.cs
theorem Qqn {x qual : Str} {st : Stmt} {f : Addr} {fd : FuncData} {ps : List Str} {k n : Nat} {Γ : List (Str × FnR)} {cs : List (Str × Int)} {g : DS} (F : Fun K x qual st f fd) (S : Qc8 (namesOf (QD st)) ps (QD st)) (M : Qg1 mg cs) (tab : Qdm P w K mg base k Γ)
  (hc : Qbe n (QlY st Γ cs) (QbM st) = some g) : QcR P w K mg base CX0 (k + 1) f fd ps (spV K ps.length (Qo (namesOf (QD st)).length g)) := by
 refine F.ok S (Qt9 rfl) λ cdv A outer s H vs Q E hr h => ?_
 obtain ⟨ds, L, d, fr, rps, hl, hd, q⟩ := h
 refine ⟨_, (Qs1 n).Ss _ _ _ g (QvN S M tab hr) hc H L, ?_⟩
 obtain ⟨F0, rel⟩ := QqH (N := namesOf (QD st)) rps
 unfold Qo at hd
 obtain ⟨o, ho, hd⟩ := bind1 hd
 refine ⟨_, [], F0, o, rel, ho, ?_⟩
 cases o with
 | nx ρ =>
  cases hd
  exact λ σ H' F' rel' => q .non H' [] ⟨rel'.same, .QiF, λ a ha => by simp at ha, λ _ => ⟨Zan, rfl, λ a ha => by simp at ha⟩⟩
 | bk ρ => cases hd
 | ct ρ => cases hd
 | rt d' fr' =>
  cases hd
  exact λ v H' G r => q v H' G r
structure Fact (K : PySem.W.Frag) (x : Str) (st : Stmt) : Prop where
 ex : ∃ f fd, Fun K x x st f fd /\ PySem.W.nsIn K mainGlobals x = some (some (.ref f))
theorem fact_mk {x : Str} {st : Stmt} {f : Addr} {oc : Value} {od an : Option Addr} {osl : Array (Option Value)} {kV doc pm cdv ct : Value} (a : PySem.W.nsIn K mainGlobals x = some (some (.ref f))) (l : K.lookup f = some ⟨oc, od, .func (PySem.W.fnOf x x (Qd9 st) (QbM st) (QD st) .none kV doc pm an cdv ct), osl⟩)
  (c : PySem.W.codeIn K cdv x = true) (k : PySem.W.keepIn K (.ref f) = true) : Fact K x st := ⟨f, _, QvK l c k, a⟩
def Qx (x : Str) (st : Stmt) (ps : List Str) : Prop := ∀ (kV doc pm : Value) (an : Option Addr) (cdv ct : Value) (us : List Value), us.length = ps.length -> bindArgs (PySem.W.fnOf x x (Qd9 st) (QbM st) (QD st) .none kV doc pm an cdv ct) ⟨us, []⟩ = pure (ps.zip us)
theorem QA {h : Heap} {x : Str} {st : Stmt} {ps : List Str} {k n : Nat} {Γ : List (Str × FnR)} {cs : List (Str × Int)} {g : DS} (X : K.In h) (G : h.Ns mainGlobals mg) (F : Fact K x st) (S : Qc8 (namesOf (QD st)) ps (QD st)) (B : Qx x st ps) (M : Qg1 mg cs) (tab : Qdm P w K mg base k Γ)
  (hc : Qbe n (QlY st Γ cs) (QbM st) = some g) : Known P w K mg base (k + 1) x ⟨ps.length, [], Qo (namesOf (QD st)).length g⟩ := by
 obtain ⟨f, fd, Fn, a⟩ := F.ex
 refine ⟨f, fd, ps, Qqn Fn S M tab hc, PySem.W.mg_of X G a, Fn.kp, λ m hm => ⟨[], [], Fn.binds (B ·), .nil, λ H => by simp [Rps]⟩⟩
end
end HS
namespace HS
open PySem PySem.Spec L2 PyProof.Rows
theorem Qsy {l : PySem.W.OpenLaw} {k : Nat} {q : Program} {loose : List Str} {XP : (Str -> Option Value) -> Heap -> Prop} {YP : World -> Heap -> Prop} {d : DefRec} {K : Params -> PySem.W.Frag} {den : Den} {x : Str}
  (hn : l.most = some 63) (hdf : d.params.defaults = []) (hr : Qbl k callerA) (hY : ∀ (w : World) (h : Heap), YP w h -> (K w.params).In h)
  (hden : ∀ ns : List Int, ns.length <= 63 -> ∃ fr, den [.lst (ns.map .int)] = some (.bl true, fr))
  (F : ∀ (w : World) (mg : Str -> Option Value) (fa : Addr) (h : Heap), (K w.params).In h -> h.Ns mainGlobals mg -> mg d.name = some (.ref fa) →
   ∃ fd : FuncData, (∀ (s : Shared) (u : Value), BindsTo s fd ⟨[u], []⟩ [(x, u)]) ∧
    ∀ base : Heap, (K w.params).In base -> base.Ns mainGlobals mg -> QcR l.prog w (K w.params) mg base CX0 k fa fd [x] (spV (K w.params) 1 den)) :
  PySem.W.WalkO q loose XP YP l.row.toRowW d [] (λ f vs => PySem.call f vs) := by
 refine Att.Qm2 hn hdf λ w s₀ s₁ mg mb fa o pm cd doc a vs ns G Y ho hd hcd hmg hobj hints hlen hg => ?_
 have KX := hY w _ Y
 obtain ⟨fd, hb, hF⟩ := F w mg fa _ KX G.T.g hmg
 have h63 : (63 : Nat) <= sizeLine := by decide
 refine QsH KX G.T.g G.T.b G.T.builtins G.T.nolimit hg hobj hints (ZF hlen h63) hr hF hb (λ H hO hS => ?_) λ H e s' z => z
 have fx : Fix (K w.params) H a (ns.map V.int) := by
  rcases hS with (h | ⟨o, h⟩) | ⟨o, its, n, hk, hc, hdn, hda, hz, rv⟩
  ·rcases hO a with z | ⟨o, xs, z⟩ <;> rw [h] at z <;> cases z
  ·exact .inl ⟨o, h⟩
  ·have e := KX a o hk
   rw [hobj] at e
   cases e
   cases hda
   exact .inr ⟨vs, _, hk, by rw [Zi]; exact ZF hlen h63, by simpa using rv⟩
 obtain ⟨fr, hfr⟩ := hden ns hlen
 have rp : Rp (K w.params) H (.lst (ns.map .int)) (.ref a) [] := by
  simp only [Rp]
  refine ⟨by rw [Zi]; exact ZF hlen h63, a, _, rfl, .inr ⟨fx, ?_⟩⟩
  have gen : ∀ ns : List Int, Rps (K w.params) H (ns.map .int) (ns.map .int) [] := by
   intro ns
   induction ns with
   | nil => simp [Rps]
   | cons n ns ih => simp only [Zn, Rps]; exact ⟨_, _, [], [], rfl, rfl, .int_mk, ih⟩
  exact gen ns
 refine ⟨[.lst (ns.map .int)], [], .bl true, fr, ?_, rfl, hfr, λ v H' G r => r.rp.Qgu⟩
 simp only [Rps]
 exact ⟨_, _, [], [], rfl, rfl, rp, rfl, rfl⟩
theorem QwT {P : Program} {w : World} {K : PySem.W.Frag} {mg : Str -> Option Value} {h : Heap} {x y : Str} {st : Stmt} {fa : Addr} {k n : Nat} {Γ : List (Str × FnR)} {cs : List (Str × Int)} {g : DS} (X : K.In h) (G : h.Ns mainGlobals mg) (hmg : mg x = some (.ref fa))
  (F : Fact K x st) (S : Qc8 (namesOf (QD st)) [y] (QD st)) (B : Qx x st [y]) (M : Qg1 mg cs) (tab : ∀ base : Heap, Qdm P w K mg base k Γ) (hc : Qbe n (QlY st Γ cs) (QbM st) = some g) :
  ∃ fd : FuncData, (∀ (s : Shared) (u : Value), BindsTo s fd ⟨[u], []⟩ [(y, u)]) ∧
    ∀ base : Heap, K.In base -> base.Ns mainGlobals mg -> QcR P w K mg base CX0 (k + 1) fa fd [y] (spV K 1 (Qo (namesOf (QD st)).length g)) := by
 obtain ⟨f, fd, Fn, a⟩ := F.ex
 have e := hmg.symm.trans (PySem.W.mg_of X G a)
 cases e
 refine ⟨fd, λ s u => ?_, λ base _ _ => Qqn Fn S M (tab base) hc⟩
 obtain ⟨oc, od, kV, doc, pm, an, cdv, ct, osl, rfl, lk, hcd⟩ := Fn.ex
 exact .of_eq (B kV doc pm an cdv ct [u] rfl)
end HS
namespace HS
open PySem PySem.Spec PyProof.Rows L2
section
variable {P : Program} {w : World} {K : PySem.W.Frag} {mg : Str -> Option Value} {base : Heap}
end
end HS
namespace HS
open PySem L2
noncomputable def pairD (p : Int × Int) : D := .tup [.int p.1, .int p.2]
noncomputable def Qq1 (p : Int × Int × Bool) : D := .tup [.int p.1, .int p.2.1, .bl p.2.2]
noncomputable def Qm (ns : List Int) : D := .lst (ns.map .int)
noncomputable def QJ (ps : List (Int × Int)) : D := .lst (ps.map pairD)
noncomputable def Qj (m : Int) (R L : List (Int × Int)) : D := .tup [.int m, QJ R, QJ L]
theorem Qba {α : Type} {f : α -> D} (h : ∀ a, (f a).flat = true) : ∀ l : List α, QK (l.map f) = true
 | [] => rfl
 | a :: l => by simp [QK, h a, Qba h l]
@[simp] theorem Qx0 (i : Int) : (D.int i).flat = true := rfl
@[simp] theorem Qye (i : Bool) : (D.bl i).flat = true := rfl
@[simp] theorem QxU : D.non.flat = true := rfl
@[simp] theorem QxN (x : Str) : (D.str x).flat = true := rfl
@[simp] theorem QxR (xs : List D) : (D.lst xs).flat = false := rfl
@[simp] theorem Qya (xs : List D) : (D.tup xs).flat = QK xs := rfl
@[simp] theorem QxA : QK [] = true := rfl
@[simp] theorem QwC (d : D) (ds : List D) : QK (d :: ds) = (d.flat && QK ds) := rfl
@[simp] theorem Qxy (p : Int × Int) : (pairD p).flat = true := rfl
@[simp] theorem QxJ (p : Int × Int × Bool) : (Qq1 p).flat = true := rfl
@[simp] theorem Qxz (ns : List Int) : (Qm ns).flat = false := rfl
@[simp] theorem Qxb (ns : List (Int × Int)) : (QJ ns).flat = false := rfl
@[simp] theorem Qwy (ps : List (Int × Int)) : QK (ps.map pairD) = true := Qba (λ _ => rfl) _
@[simp] theorem Qxd (ps : List (Int × Int × Bool)) : QK (ps.map Qq1) = true := Qba (λ _ => rfl) _
@[simp] theorem Qf1 (ns : List Int) : QK (ns.map .int) = true := Qba (λ _ => rfl) _
@[simp] theorem Qxx (xs ys : List D) : QK (xs ++ ys) = (QK xs && QK ys) := Qcn xs ys
def Run (f : DS) (ρ : En) (Q : Out -> Prop) : Prop := ∃ o, f ρ = some o /\ Q o
noncomputable def Nx (Q : En -> Prop) : Out -> Prop
 | .nx ρ => Q ρ
 | _ => False
noncomputable def Rt (Q : D -> Bool -> Prop) : Out -> Prop
 | .rt d fr => Q d fr
 | _ => False
theorem Run.mono {f : DS} {ρ : En} {Q Q' : Out -> Prop} (h : Run f ρ Q) (m : ∀ o, Q o -> Q' o) : Run f ρ Q' := let ⟨o, h1, h2⟩ := h; ⟨o, h1, m o h2⟩
theorem Qp {ρ : En} {Q : Out -> Prop} (h : Q (.nx ρ)) : Run Qn ρ Q := ⟨_, rfl, h⟩
theorem run_seq {f g : DS} {ρ : En} {Q : Out -> Prop} (h : Run f ρ (Nx λ ρ' => Run g ρ' Q)) : Run (Qf f g) ρ Q := by
 obtain ⟨o, h1, h2⟩ := h
 cases o with
 | nx ρ' =>
  obtain ⟨o', h3, h4⟩ := h2
  exact ⟨o', by simp [Qf, h1, h3], h4⟩
 | _ => exact False.elim h2
theorem QT {f g : DS} {ρ : En} {Q : Out -> Prop} (h : Run f ρ λ o => match o with | .nx ρ' => Run g ρ' Q | o => Q o) : Run (Qf f g) ρ Q := by
 obtain ⟨o, h1, h2⟩ := h
 cases o with
 | nx ρ' =>
  obtain ⟨o', h3, h4⟩ := h2
  exact ⟨o', by simp [Qf, h1, h3], h4⟩
 | bk ρ' => exact ⟨_, by simp [Qf, h1], h2⟩
 | ct ρ' => exact ⟨_, by simp [Qf, h1], h2⟩
 | rt d fr => exact ⟨_, by simp [Qf, h1], h2⟩
theorem Qi {i : Nat} {fa : DE} {r : R} {ρ : En} {Q : Out -> Prop} (h : fa ρ = some r) (q : Q (.nx (asg i r ρ))) : Run (Qs i fa) ρ Q := ⟨_, by simp [Qs, h], q⟩
theorem Qnf {fa : DE} {r : R} {ρ : En} {Q : Out -> Prop} (h : fa ρ = some r) (q : Q (.rt r.d (r.norm.fr && decide r.norm.M.Nodup))) : Run (QM fa) ρ Q := ⟨_, by simp [QM, h], q⟩
theorem Q0 {g : DT} {f1 f2 : DS} {b : Bool} {ρ : En} {Q : Out -> Prop} (h : g ρ = some b) (q1 : b = true -> Run f1 ρ Q) (q2 : b = false -> Run f2 ρ Q) : Run (sIf g f1 f2) ρ Q := by
 cases b with
 | true => obtain ⟨o, h1, h2⟩ := q1 rfl; exact ⟨o, by simp [sIf, h, h1], h2⟩
 | false => obtain ⟨o, h1, h2⟩ := q2 rfl; exact ⟨o, by simp [sIf, h, h1], h2⟩
theorem Q7 {k : Nat} {f : DS} {ds : List D} {d : D} {fr : Bool} (h : Run f (Qax k ds) (Rt λ d' fr' => d' = d /\ fr' = fr)) : Qo k f ds = some (d, fr) := by
 obtain ⟨o, h1, h2⟩ := h
 unfold Qo
 cases o with
 | rt d' fr' => obtain ⟨rfl, rfl⟩ := h2; rw [h1]; rfl
 | _ => exact False.elim h2
theorem Ql3 {α : Type} {t : Tg} {fb : DS} {toD : α -> D} {Q : Out -> Prop} (I : Nat -> En -> Prop) : ∀ (xs ys : List α) (ρ : En), I ys.length ρ →
  (∀ i x ρ, (ys ++ xs)[i]? = some x -> ys.length <= i -> I i ρ -> ∃ ρ1, Qcj t (toD x) ρ = some ρ1 /\ Run fb ρ1 λ o => match o with | .nx ρ2 => I (i + 1) ρ2 | .ct ρ2 => I (i + 1) ρ2 | .bk ρ2 => Q (.nx ρ2) | .rt d fr => Q (.rt d fr)) →
  (∀ ρ, I (ys ++ xs).length ρ -> Q (.nx ρ)) -> Run (QcW t fb (xs.map toD)) ρ Q
 | [], ys, ρ, h0, _, fin => ⟨_, rfl, fin ρ (by simpa using h0)⟩
 | x :: xs, ys, ρ, h0, turn, fin => by
  obtain ⟨ρ1, h1, o, h2, h3⟩ := turn ys.length x ρ (by simp) (Zm _) h0
  have next : ∀ ρ2, I (ys.length + 1) ρ2 -> Run (QcW t fb (xs.map toD)) ρ2 Q := λ ρ2 hi =>
   Ql3 I xs (ys ++ [x]) ρ2 (by simpa using hi) (λ i y ρ' e hl => turn i y ρ' (by simpa using e) (by simp at hl; omega)) (λ ρ' h => fin ρ' (by simpa using h))
  cases o with
  | nx ρ2 => obtain ⟨o', e1, e2⟩ := next ρ2 h3; exact ⟨o', by simp [QcW, h1, h2, e1], e2⟩
  | ct ρ2 => obtain ⟨o', e1, e2⟩ := next ρ2 h3; exact ⟨o', by simp [QcW, h1, h2, e1], e2⟩
  | bk ρ2 => exact ⟨_, by simp [QcW, h1, h2], h3⟩
  | rt d fr => exact ⟨_, by simp [QcW, h1, h2], h3⟩
theorem Qag {α : Type} {fi : DI} {t : Tg} {fb : DS} {toD : α -> D} {ρ : En} {ir : IR} {Q : Out -> Prop} (xs : List α) (I : Nat -> En -> Prop) (h : fi ρ = some ir) (hx : ir.items = xs.map toD) (h0 : I 0 (QaU ir.M ρ))
  (turn : ∀ i x ρ, xs[i]? = some x -> I i ρ -> ∃ ρ1, Qcj t (toD x) ρ = some ρ1 /\ Run fb ρ1 λ o => match o with | .nx ρ2 => I (i + 1) ρ2 | .ct ρ2 => I (i + 1) ρ2 | .bk ρ2 => Q (.nx ρ2) | .rt d fr => Q (.rt d fr))
  (fin : ∀ ρ, I xs.length ρ -> Q (.nx ρ)) : Run (Qa1 fi t fb) ρ Q := by
 obtain ⟨o, h1, h2⟩ := Ql3 (t := t) (fb := fb) (toD := toD) (Q := Q) I xs [] (QaU ir.M ρ) h0 (λ i x ρ e _ => turn i x ρ (by simpa using e)) (λ ρ h => fin ρ (by simpa using h))
 exact ⟨o, by simp [Qa1, h, hx, h1], h2⟩
theorem QjZ {α : Type} {t : Tg} {ft : DT} {fe : DE} {ρc : En} {toD : α -> D} {keep : α -> Bool} {out : α -> D} : ∀ (xs : List α) (acc : List D),
  (∀ x ∈ xs, ∃ ρ1, Qcj t (toD x) ρc = some ρ1 /\ ft ρ1 = some (keep x) /\ (keep x = true -> ∃ r, fe ρ1 = some r /\ r.d = out x /\ r.norm.fr = true)) →
  (xs.map toD).foldlM (QeP t ft fe ρc) (acc, true) = some (acc ++ (xs.filter keep).map out, true)
 | [], acc, _ => by simp
 | x :: xs, acc, h => by
  obtain ⟨ρ1, h1, h2, h3⟩ := h x Zk
  have ih := λ acc => QjZ xs acc (λ y hy => h y (Zd _ hy))
  cases hk : keep x with
  | false =>
   have e : QeP t ft fe ρc (acc, true) (toD x) = some (acc, true) := by simp [QeP, h1, h2, hk]
   simp [ZbO, e, ih, hk]
  | true =>
   obtain ⟨r, h4, h5, h6⟩ := h3 hk
   have e : QeP t ft fe ρc (acc, true) (toD x) = some (acc ++ [out x], true) := by simp [QeP, h1, h2, hk, h4, h5, h6]
   simp [ZbO, e, ih, hk]
theorem Qng {α : Type} {fi : DI} {t : Tg} {cap : List (Option Nat)} {ft : DT} {fe : DE} {ρ : En} {ir : IR} {toD : α -> D} {keep : α -> Bool} {out : α -> D} (xs : List α) (h : fi ρ = some ir) (hx : ir.items = xs.map toD)
  (turn : ∀ x ∈ xs, ∃ ρ1, Qcj t (toD x) (Qd7 cap ρ) = some ρ1 /\ ft ρ1 = some (keep x) /\ (keep x = true -> ∃ r, fe ρ1 = some r /\ r.d = out x /\ r.norm.fr = true)) :
  QX fi t cap ft fe ρ = some ⟨.lst ((xs.filter keep).map out), true, []⟩ := by
 unfold QX
 rw [h, Za, hx, QjZ xs [] turn]
 simp
theorem QN {α : Type} {fi : DI} {t : Tg} {cap : List (Option Nat)} {fe : DE} {ρ : En} {ir : IR} {toD : α -> D} {out : α -> D} (xs : List α) (h : fi ρ = some ir) (hx : ir.items = xs.map toD)
  (turn : ∀ x ∈ xs, ∃ ρ1, Qcj t (toD x) (Qd7 cap ρ) = some ρ1 /\ ∃ r, fe ρ1 = some r /\ r.d = out x /\ r.norm.fr = true) :
  QX fi t cap Q8 fe ρ = some ⟨.lst (xs.map out), true, []⟩ := by
 have := Qng (keep := λ _ => true) (ft := Q8) xs h hx (cap := cap) (t := t) (fe := fe) (out := out) λ x hx => by
  obtain ⟨ρ1, h1, h2⟩ := turn x hx
  exact ⟨ρ1, h1, rfl, λ _ => h2⟩
 rw [this, ZbA.mpr λ _ _ => rfl]
@[simp] theorem Qx2 (d : D) : R.norm ⟨d, true, []⟩ = ⟨d, true, []⟩ := by unfold R.norm; split <;> rfl
@[simp] theorem Ql (i : Nat) (d : D) (ρ : En) : asg i ⟨d, true, []⟩ ρ = ρ.set i (some (d, true)) := by unfold asg; simp [kill]
theorem QbZ {i : Nat} {d : D} {fr : Bool} {M : List Nat} {ρ : En} (h : d.flat = true) : asg i ⟨d, fr, M⟩ ρ = ρ.set i (some (d, true)) := by
 unfold asg R.norm; simp [h, kill]
theorem Qp8 {i : Nat} {d : D} {M : List Nat} {ρ : En} (h : d.flat = false) : asg i ⟨d, false, M⟩ ρ = (QaU M ρ).set i (some (d, false)) := by
 unfold asg R.norm; simp [h]
theorem Qa6 {i : Nat} {ρ : En} {d : D} {b : Bool} (h : ρ[i]? = some (some (d, b))) : Qa i ρ = some (if d.flat then ⟨d, true, []⟩ else if b then ⟨d, true, [i]⟩ else ⟨d, false, []⟩) := by
 unfold Qa
 rw [h]
 dsimp only
 split
 ·simp_all
 ·split <;> simp_all
theorem Qep {i : Nat} {ρ : En} {n : Int} {b : Bool} (h : ρ[i]? = some (some (.int n, b))) : Qa i ρ = some ⟨.int n, true, []⟩ := by rw [Qa6 h]; rfl
@[simp] theorem Qgr (d : D) (ρ : En) : dC d ρ = some ⟨d, true, []⟩ := rfl
theorem Qae {g : D -> D -> Option D} {fa fb : DE} {ρ : En} {ra rb : R} {d : D} (ha : fa ρ = some ra) (hb : fb ρ = some rb) (h : g ra.d rb.d = some d) : dOp g fa fb ρ = some ⟨d, true, []⟩ := by simp [dOp, ha, hb, h]
theorem Qr {fa : DE} {fs : DA} {ρ : En} {r : R} {rs : RA} (ha : fa ρ = some r) (hs : fs ρ = some rs) : Qc fa fs ρ = some ⟨r.d :: rs.ds, r.fr && rs.fr, r.M ++ rs.M⟩ := by simp [Qc, ha, hs]
@[simp] theorem QS (ρ : En) : Qg ρ = some ⟨[], true, []⟩ := rfl
noncomputable def vf (d : D) (b : Bool) (i : Nat) : R := if d.flat then ⟨d, true, []⟩ else if b then ⟨d, true, [i]⟩ else ⟨d, false, []⟩
@[simp] theorem Qyj (d : D) (b : Bool) (i : Nat) : (vf d b i).d = d := by unfold vf; split; rfl; split <;> rfl
@[simp] theorem Qmd (i j : Int) (h : 0 <= j) : QbC i j = i % j := by unfold QbC; rw [if_pos h]
@[simp] theorem QfD (i j : Int) (h : 0 <= j) : Qcp i j = i / j := by unfold Qcp; rw [if_pos h]
theorem Qc4 {i j : Int} (h : i.natAbs < 2 ^ 64) : Qdl i j = true := by unfold Qdl; simp [h]
theorem Qd8 {i j : Int} (h : j.natAbs < 2 ^ 64) : Qdl i j = true := by unfold Qdl; simp [h]
theorem Qg2 {i j : Int} (h1 : Builtin.Int.intBits i <= 2 ^ 20) (h2 : Builtin.Int.intBits j <= 2 ^ 20) : Qdl i j = true := by
 unfold Qdl
 rw [decide_eq_true h1, decide_eq_true h2, Bool.and_self, Bool.or_true]
theorem QfA : (sizeLine : Nat) = 16777216 := sizeLine_eq
noncomputable def Qb (m : Nat) (f : Nat -> Int) : D := .lst ((List.range m).map λ i => .int (f i))
noncomputable def Qz (m n : Nat) (f : Nat -> Nat -> Int) : D := .lst ((List.range m).map λ i => Qb n (f i))
@[simp] theorem QxP (m : Nat) (f : Nat -> Int) : (Qb m f).flat = false := rfl
@[simp] theorem QxD (m n : Nat) (f : Nat -> Nat -> Int) : (Qz m n f).flat = false := rfl
@[simp] theorem Qqp (m : Nat) (f : Nat -> Int) : QK ((List.range m).map λ i => D.int (f i)) = true := Qba (f := λ i => D.int (f i)) (λ _ => rfl) _
noncomputable def up (f : Nat -> Int) (i : Nat) (v : Int) : Nat -> Int := λ j => if j = i then v else f j
noncomputable def up2 (f : Nat -> Nat -> Int) (i j : Nat) (v : Int) : Nat -> Nat -> Int := λ k => if k = i then up (f k) j v else f k
theorem Qee {n : Nat} {i : Int} (h0 : 0 <= i) (h : i < n) : ixN n i = some i.toNat := by
 unfold ixN; rw [if_pos (by omega), if_pos (by omega)]
theorem Qg8 {α : Type} {xs : List α} {i : Int} (h0 : 0 <= i) (h : i < xs.length) : atI xs i = xs[i.toNat]? := by
 unfold atI; rw [Qee h0 h]; rfl
theorem Qf5 {α : Type} {m : Nat} {f : Nat -> α} {i : Nat} {v : α} : ((List.range m).map f).set i v = (List.range m).map λ j => if j = i then v else f j := by
 apply ZaW
 intro k
 rw [List.getElem?_set]
 simp only [Zi, ZG, Zo]
 by_cases hk : k < m
 ·rw [ZO hk]
  by_cases e : i = k
  ·subst e; simp [hk]
  ·simp [e, Ne.symm e]
 ·rw [Zx (by simp; omega)]
  by_cases e : i = k
  ·subst e; simp [hk]
  ·simp [e]
theorem QjR {m : Nat} {f : Nat -> Int} {i : Nat} {v : Int} : ((List.range m).map λ j => D.int (f j)).set i (.int v) = (List.range m).map λ j => D.int (up f i v j) := by
 rw [Qf5]
 congr 1; funext j; unfold up; split <;> rfl
theorem QnA {m : Nat} {f : Nat -> Int} {i : Int} (h0 : 0 <= i) (h : i < m) : atI ((List.range m).map λ j => D.int (f j)) i = some (.int (f i.toNat)) := by
 rw [Qg8 h0 (by simpa using h), Zo, ZO (by omega)]; rfl
theorem Qn0 {m n : Nat} {f : Nat -> Nat -> Int} {i : Int} (h0 : 0 <= i) (h : i < m) : atI ((List.range m).map λ j => Qb n (f j)) i = some (Qb n (f i.toNat)) := by
 rw [Qg8 h0 (by simpa using h), Zo, ZO (by omega)]; rfl
theorem QfU {x m : Nat} {f : Nat -> Int} {fi fa : DE} {ρ : En} {i : Int} {v : Int} {ri ra : R} {Q : Out -> Prop} (hx : ρ[x]? = some (some (Qb m f, true))) (hi : fi ρ = some ri) (ei : ri.d = .int i) (ha : fa ρ = some ra) (ea : ra.d = .int v) (h0 : 0 <= i) (h : i < m)
  (q : Q (.nx (ρ.set x (some (Qb m (up f i.toNat v), true))))) : Run (QcQ x Q1 fi fa) ρ Q := by
 refine ⟨_, ?_, q⟩
 have hn : ra.norm = ⟨.int v, true, []⟩ := by unfold R.norm; rw [ea]; rfl
 unfold QcQ
 rw [ha, Za, hx]
 simp only [Q1, Za, hi, ei, Qa8, Qb, Zi, ZG, Qee h0 h, hn, ea, QaI, QjR]
 simp [kill]
theorem QsA {g : D -> D -> Option D} {x m : Nat} {f : Nat -> Int} {fi fa : DE} {ρ : En} {i w : Int} {ri ra : R} {Q : Out -> Prop} (hx : ρ[x]? = some (some (Qb m f, true))) (hi : fi ρ = some ri) (ei : ri.d = .int i) (ha : fa ρ = some ra) (h0 : 0 <= i) (h : i < m)
  (hg : g (.int (f i.toNat)) ra.d = some (.int w)) (q : Q (.nx (ρ.set x (some (Qb m (up f i.toNat w), true))))) : Run (Qdg g x Q1 fi fa) ρ Q := by
 refine ⟨_, ?_, q⟩
 have hj : ((List.range m).map λ j => D.int (f j))[i.toNat]? = some (.int (f i.toNat)) := by rw [Zo, ZO (by omega)]; rfl
 unfold Qdg
 rw [hx]
 simp only [Q1, Za, hi, ei, Qa8, Qb, Zi, ZG, Qee h0 h, hj, ha, hg, QaI, QjR, ZL]
theorem QmD {g : D -> D -> Option D} {x m n : Nat} {f : Nat -> Nat -> Int} {fp fi fa : DE} {ρ : En} {i j w : Int} {rp ri ra : R} {Q : Out -> Prop} (hx : ρ[x]? = some (some (Qz m n f, true))) (hp : fp ρ = some rp) (ep : rp.d = .int i) (hi : fi ρ = some ri) (ei : ri.d = .int j) (ha : fa ρ = some ra)
  (h0 : 0 <= i) (h : i < m) (k0 : 0 <= j) (k : j < n) (hg : g (.int (f i.toNat j.toNat)) ra.d = some (.int w)) (q : Q (.nx (ρ.set x (some (Qz m n (up2 f i.toNat j.toNat w), true))))) : Run (Qdg g x (QcY Q1 fp) fi fa) ρ Q := by
 refine ⟨_, ?_, q⟩
 have hj : ((List.range n).map λ k => D.int (f i.toNat k))[j.toNat]? = some (.int (f i.toNat j.toNat)) := by rw [Zo, ZO (by omega)]; rfl
 have hd : Qa8 (Qz m n f) [i] = some (Qb n (f i.toNat)) := by
  simp only [Qa8, Qz, D.items, Za, Qn0 h0 h]
 have hu : QaI [i] (Qz m n f) (.lst (((List.range n).map λ k => D.int (f i.toNat k)).set j.toNat (.int w))) = Qz m n (up2 f i.toNat j.toNat w) := by
  simp only [QaI, Qz, Zi, ZG, Qee h0 h, QjR]
  rw [Qf5]
  congr 2; funext k
  unfold up2
  split
  ·rename_i e; subst e; rfl
  ·rfl
 unfold Qdg
 rw [hx]
 simp only [QcY, Q1, Za, hp, ep, Zbw, hi, ei, hd, Qb, Zi, ZG, Qee k0 k, hj, ha, hg, ZL]
 rw [hu]
theorem Qcv {fa : DE} {ρ : En} {r : R} {n : Nat} (h : fa ρ = some r) (e : r.d = .int n) (hn : n <= 16777216) : Qbc fa ρ = some ⟨(List.range n).map λ (k : Nat) => .int (k : Int), []⟩ := by
 unfold Qbc
 rw [h, Za, e]
 dsimp only
 rw [if_pos ⟨by omega, by omega⟩]
 simp [QgB]
theorem Qne {α : Type} (x : α) : ∀ n : Nat, (List.replicate n [x]).flatten = (List.range n).map λ _ => x
 | 0 => rfl
 | n + 1 => by
  rw [Zaf, Zak, Qne x n, ZbW, Zn, ZR]; rfl
theorem QgK {fb : DE} {ρ : En} {r : R} {n : Nat} {z : Int} (h : fb ρ = some r) (e : r.d = .int n) (hn : n <= 16777216) : Qao (QW (Qc (dC (.int z)) Qg)) fb ρ = some ⟨Qb n (λ _ => z), true, []⟩ := by
 have h1 : QW (Qc (dC (.int z)) Qg) ρ = some ⟨.lst [.int z], true, []⟩ := rfl
 unfold Qao
 rw [h1, Za, h, Za, e]
 dsimp only
 rw [if_pos ⟨by simp [QfA]; omega, by omega, by omega, rfl⟩]
 simp only [ZY, Qne]
 rfl
noncomputable def Qjq : DS := (Qf (Qs 2 (QX (Qak (Qa 0)) (.tp [1, 2]) [none, none, none] Q8 (Qaz (Qc (Qa 1) (Qc (Qa 2) Qg))))) (Qf (Qs 3 (QX (Qak (Qa 0)) (.tp [1, 2]) [none, none, none] Q8 (Qaz (Qc (Qa 2) (Qc (Qa 1) Qg))))) (Qf (QM (QH (QH (Qa 2) (Qa 3)) (dList (Qc (Qa 1) Qg)))) Qn)))
theorem Qns {fa fb : DE} {ρ : En} {ra rb : R} {A B : List (Int × Int)} (ha : fa ρ = some ra) (ea : ra.d = QJ A) (hb : fb ρ = some rb) (eb : rb.d = QJ B) (hl : A.length + B.length <= 16777216) : QH fa fb ρ = some ⟨QJ (A ++ B), true, []⟩ := by
 unfold QH
 rw [ha, Za, hb, Za, ea, eb]
 simp only [QJ, Zi, QfA, if_pos hl, Qa2]
 simp
theorem Ql5 {ρ : En} {A : List (Int × Int)} {fs : DA} {rs : RA} (h : fs ρ = some rs) (e : rs.ds = [QJ A]) (_ : True = True) : dList fs ρ = some ⟨QJ A, true, []⟩ := by
 unfold dList
 rw [h, Za, e]
 simp [QJ, Qa2]
theorem QE {fa : DE} {r : R} {g : DS} {ρ : En} {Q : D -> Bool -> Prop} (h : fa ρ = some r) (q : Q r.d (r.norm.fr && decide r.norm.M.Nodup)) : Run (Qf (QM fa) g) ρ (Rt Q) := QT (Qnf h q)
theorem Qpx {R L : List (Int × Int)} (hl : R.length + R.length + L.length <= 16777216) : Qo 4 Qjq [QJ R, QJ L] = some (QJ (R ++ R.map Prod.swap ++ L), true) := by
 refine Q7 ?_
 refine run_seq (Qi (QN (toD := pairD) (out := pairD) R rfl rfl λ x _ => ⟨[none, some (.int x.1, true), some (.int x.2, true)], rfl, ⟨pairD x, true, []⟩, rfl, rfl, rfl⟩) ?_)
 refine run_seq (Qi (QN (toD := pairD) (out := λ x => pairD x.swap) R rfl rfl λ x _ => ⟨[none, some (.int x.1, true), some (.int x.2, true)], rfl, ⟨pairD x.swap, true, []⟩, rfl, rfl, rfl⟩) ?_)
 have e1 : (R.map λ x => pairD x.swap) = (R.map Prod.swap).map pairD := by simp [ZR, Function.comp_def]
 rw [e1]
 exact QE (Qns (Qns rfl rfl rfl rfl (by simpa using (by omega : R.length + R.length <= 16777216))) rfl (Ql5 rfl rfl rfl) rfl (by simpa using hl)) ⟨rfl, rfl⟩
theorem Qt {n : Nat} {den : Den} {dfl : List D} {fs : DA} {ρ : En} {r : RA} {d : D} (h : fs ρ = some r) (hd : den (r.ds ++ dfl) = some (d, true)) (hl : r.ds.length + dfl.length = n) : Qw n den dfl fs ρ = some ⟨d, true, []⟩ := by
 unfold Qw
 rw [h, Za, if_pos hl, hd]
 simp
theorem Qaj {fa : DE} {ρ : En} {r : R} {xs : List D} (h : fa ρ = some r) (e : r.d = .lst xs) : Qak fa ρ = some ⟨xs, r.M⟩ := by
 unfold Qak
 rw [h, Za, e]
noncomputable def stepT (m : Nat) (f : Nat -> Nat -> Int) (s : Int × Int) : Nat -> Nat -> Int :=
 let f1 := if s.1 < m then up2 f s.1.toNat s.1.toNat (f s.1.toNat s.1.toNat - 1) else f
 if s.1 < m /\ s.2 < m then up2 f1 s.1.toNat s.2.toNat (f1 s.1.toNat s.2.toNat + 1) else f1
noncomputable def Qe (m : Nat) (S : List (Int × Int)) : Nat -> Nat -> Int := S.foldl (stepT m) λ _ _ => 0
noncomputable def QeD (Qc5 : Den) : DS := (Qf (Qs 1 (QaF (Qk (Qa 0) (dC (.int 0))))) (Qf (Qs 2 (QX (Qbc (Qa 1)) (.nm 1) [none, none, some 1] Q8 (Qao (QW (Qc (dC (.int 0)) Qg)) (Qa 2)))) (Qf (Qa1 (Qak (Qw 2 Qc5 [] (Qc (Qk (Qa 0) (dC (.int 1))) (Qc (Qk (Qa 0) (dC (.int 2))) Qg)))) (.tp [3, 4]) (Qf (sIf (QG (dOp gLt (Qa 3) (Qa 1))) (Qf (Qdg Qat 2 (QcY Q1 (Qa 3)) (Qa 3) (dC (.int 1))) Qn) Qn) (Qf (sIf (QdX (QG (dOp gLt (Qa 3) (Qa 1))) (QG (dOp gLt (Qa 4) (Qa 1)))) (Qf (Qdg (gI λ i j => some (.int (i + j))) 2 (QcY Q1 (Qa 3)) (Qa 4) (dC (.int 1))) Qn) Qn) Qn))) (Qf (QM (Qa 2)) Qn))))
theorem Qry {Qc5 : Den} {m : Nat} {R L S : List (Int × Int)} (hm : m <= 16777216) (hs : Qc5 [QJ R, QJ L] = some (QJ S, true)) (hS : ∀ s ∈ S, 0 <= s.1 /\ 0 <= s.2) : Qo 5 (QeD Qc5) [Qj m R L] = some (Qz m m (Qe m S), true) := by
 refine Q7 ?_
 refine run_seq (Qi (r := ⟨.int m, false, []⟩) rfl ?_)
 refine run_seq (Qi (QN (out := λ _ => Qb m λ _ => 0) (List.range m) (Qcv (n := m) (r := ⟨.int m, true, []⟩) rfl rfl hm) rfl λ x _ => ⟨[none, some (.int x, true), some (.int m, true)], rfl, _, QgK (r := ⟨.int m, true, []⟩) rfl rfl hm, rfl, rfl⟩) ?_)
 refine run_seq (Qag (toD := pairD) S (λ i ρ => ∃ j1 j2, ρ = [some (Qj m R L, false), some (.int m, true), some (Qz m m (Qe m (S.take i)), true), j1, j2]) (ir := ⟨S.map pairD, []⟩) ?_ rfl ⟨none, none, rfl⟩ ?_ ?_)
 ·exact Qaj (Qt (r := ⟨[QJ R, QJ L], false, []⟩) (d := QJ S) rfl hs rfl) rfl
 ·rintro i s ρ hi ⟨j1, j2, rfl⟩
  refine ⟨_, rfl, ?_⟩
  obtain ⟨s1, s2⟩ := hS s (ZJ hi)
  refine run_seq (f := sIf _ _ _) (Run.mono (Q := Nx λ ρ => ρ = [some (Qj m R L, false), some (.int m, true), some (Qz m m (if s.1 < m then up2 (Qe m (S.take i)) s.1.toNat s.1.toNat (Qe m (S.take i) s.1.toNat s.1.toNat - 1) else Qe m (S.take i)), true), some (.int s.1, true), some (.int s.2, true)]) ?_ ?_)
  ·refine Q0 (b := decide (s.1 < m)) rfl (λ h => ?_) (λ h => ?_)
   ·have h := of_decide_eq_true h
    rw [if_pos h]
    exact run_seq (QmD (i := s.1) (j := s.1) rfl rfl rfl rfl rfl rfl s1 h s1 h rfl (Qp rfl))
   ·have h := of_decide_eq_false h
    rw [if_neg h]
    exact Qp rfl
  ·intro o ho
   cases o with
   | nx ρ =>
    subst ho
    have fin : Qe m (S.take (i + 1)) = stepT m (Qe m (S.take i)) s := by
     unfold Qe
     rw [ZbE, hi, List.foldl_append]; rfl
    refine run_seq (f := sIf _ _ _) (Run.mono (Q := Nx λ ρ => ρ = [some (Qj m R L, false), some (.int m, true), some (Qz m m (stepT m (Qe m (S.take i)) s), true), some (.int s.1, true), some (.int s.2, true)]) ?_ ?_)
    ·refine Q0 (b := decide (s.1 < m /\ s.2 < m)) ?_ (λ h => ?_) (λ h => ?_)
     ·by_cases h : s.1 < (m : Int)
      ·simp [QdX, QG, dOp, Qa, gLt, gI, D.tru, h]
      ·simp [QdX, QG, dOp, Qa, gLt, gI, D.tru, h]
     ·have h := of_decide_eq_true h
      refine run_seq (QmD (i := s.1) (j := s.2) rfl rfl rfl rfl rfl rfl s1 h.1 s2 h.2 rfl (Qp ?_))
      unfold stepT
      rw [if_pos h]; rfl
     ·have h := of_decide_eq_false h
      refine Qp ?_
      unfold stepT
      rw [if_neg h]; rfl
    ·intro o ho
     cases o with
     | nx ρ =>
      subst ho
      exact Qp ⟨_, _, by rw [fin]⟩
     | _ => exact False.elim ho
   | _ => exact False.elim ho
 ·rintro ρ ⟨j1, j2, rfl⟩
  rw [ZaP]
  exact QE rfl ⟨rfl, rfl⟩
noncomputable def hit (i j : Nat) (s : Int × Int) : Int := (if s.1 = i /\ s.2 = j then 1 else 0) - (if s.1 = i /\ i = j then 1 else 0)
theorem QnK {f : Nat -> Nat -> Int} {a b : Nat} {v : Int} {i j : Nat} : up2 f a b v i j = if i = a /\ j = b then v else f i j := by
 unfold up2 up
 by_cases h1 : i = a
 ·by_cases h2 : j = b
  ·simp [h1, h2]
  ·simp [h1, h2]
 ·simp [h1]
theorem Qqd {m : Nat} {f : Nat -> Nat -> Int} {s : Int × Int} {i j : Nat} (hi : i < m) (hj : j < m) (h1 : 0 <= s.1) (h2 : 0 <= s.2) : stepT m f s i j = f i j + hit i j s := by
 unfold stepT hit
 have e1 : (s.1 = (i : Int)) ↔ (i = s.1.toNat) := by omega
 have e2 : (s.2 = (j : Int)) ↔ (j = s.2.toNat) := by omega
 simp only [e1, e2]
 by_cases c1 : s.1 < (m : Int)
 ·by_cases c2 : s.2 < (m : Int)
  ·simp only [c1, c2, and_self, if_true, QnK]
   generalize s.1.toNat = a
   generalize s.2.toNat = b
   by_cases d1 : i = a
   ·subst d1
    by_cases d2 : j = b
    ·subst d2
     by_cases d3 : i = j
     ·subst d3; simp
     ·have d4 : ¬ j = i := λ z => d3 z.symm
      simp [d3, d4]
    ·by_cases d3 : i = j
     ·subst d3; simp [d2]; omega
     ·have d4 : ¬ j = i := λ z => d3 z.symm
      simp [d2, d3, d4]
   ·simp [d1]
  ·have d2 : ¬ (j = s.2.toNat) := by omega
   simp only [c1, c2, and_false, if_false, if_true, QnK, d2]
   generalize s.1.toNat = a
   by_cases d1 : i = a
   ·subst d1
    by_cases d3 : i = j
    ·subst d3; simp; omega
    ·have d4 : ¬ j = i := λ z => d3 z.symm
     simp [d3, d4]
   ·simp [d1]
 ·have d1 : ¬ (i = s.1.toNat) := by omega
  simp [c1, d1]
theorem Qkp {m : Nat} {i j : Nat} (hi : i < m) (hj : j < m) : ∀ (S : List (Int × Int)) (f : Nat -> Nat -> Int), (∀ s ∈ S, 0 <= s.1 /\ 0 <= s.2) -> S.foldl (stepT m) f i j = f i j + (S.map (hit i j)).sum
 | [], f, _ => by simp
 | s :: S, f, h => by
  obtain ⟨h1, h2⟩ := h s Zk
  rw [List.foldl_cons, Qkp hi hj S _ (λ t ht => h t (Zd _ ht)), Qqd hi hj h1 h2, Zn, ZM]
  omega
theorem Qa0 {m : Nat} {S : List (Int × Int)} {i j : Nat} (hi : i < m) (hj : j < m) (h : ∀ s ∈ S, 0 <= s.1 /\ 0 <= s.2) : Qe m S i j = (S.map (hit i j)).sum := by
 unfold Qe
 rw [Qkp hi hj S _ h]; simp
noncomputable def isI (i : Nat) (a : Int) : Int := if a = i then 1 else 0
noncomputable def Qv (R L : List (Int × Int)) (i : Nat) : Int := (R.map λ r => isI i r.1 + isI i r.2).sum + (L.map λ l => isI i l.1).sum
theorem sum_neg (S : List (Int × Int)) (i : Nat) (h : ∀ s ∈ S, s.1 ≠ s.2) : (S.map (hit i i)).sum = - (S.map λ s => isI i s.1).sum := by
 induction S with
 | nil => rfl
 | cons s S ih =>
  rw [Zn, ZM, ih λ t ht => h t (Zd _ ht), Zn, ZM]
  have hn := h s Zk
  unfold hit isI
  by_cases e : s.1 = (i : Int)
  ·have : ¬ (s.2 = (i : Int)) := λ z => hn (e.trans z.symm)
   simp [e, this]; omega
  ·simp [e]
noncomputable def Qd (R L : List (Int × Int)) : List (Int × Int) := R ++ R.map Prod.swap ++ L
theorem Qj3 (R L : List (Int × Int)) (i : Nat) : ((Qd R L).map λ s => isI i s.1).sum = Qv R L i := by
 unfold Qd Qv
 rw [ZT, ZT, Zbd, Zbd]
 have : (R.map λ r => isI i r.1 + isI i r.2).sum = (R.map λ s => isI i s.1).sum + ((R.map Prod.swap).map λ s => isI i s.1).sum := by
  induction R with
  | nil => rfl
  | cons r R ih => simp only [Zn, ZM, ih, Zbt]; omega
 omega
def Good (m : Nat) (s : Int × Int) : Prop := 0 <= s.1 /\ 0 <= s.2 /\ s.1 <= m /\ s.2 <= m /\ s.1 ≠ s.2
theorem Qa9 {m : Nat} {R L : List (Int × Int)} (hR : ∀ s ∈ R, Good m s) (hL : ∀ s ∈ L, Good m s) : ∀ s ∈ Qd R L, Good m s := λ s hs => by
 unfold Qd at hs
 rcases ZE.mp hs with hs | hs
 ·rcases ZE.mp hs with hs | hs
  ·exact hR s hs
  ·obtain ⟨t, ht, rfl⟩ := ZN.mp hs
   obtain ⟨h1, h2, h3, h4, h5⟩ := hR t ht
   exact ⟨h2, h1, h4, h3, λ z => h5 z.symm⟩
 ·exact hL s hs
def Qek (d : Den) : Prop := ∀ (m : Nat) (R L : List (Int × Int)), m <= 1000 -> R.length + R.length + L.length <= 1000000 -> (∀ s ∈ R, Good m s) -> (∀ s ∈ L, Good m s) -> d [Qj m R L] = some (Qz m m (Qe m (Qd R L)), true)
theorem Qt1 : Qek (Qo 5 (QeD (Qo 4 Qjq))) := λ m R L hm hl hR hL => by
 refine Qry (by omega) (Qpx (by omega)) λ s hs => ?_
 obtain ⟨h1, h2, _⟩ := Qa9 hR hL s hs
 exact ⟨h1, h2⟩
noncomputable def Qe5 (QZ : Den) : DS := (Qf (QM (QX (Qem (Qw 1 QZ [] (Qc (Qa 0) Qg))) (.tp [1, 2]) [none, none, none] Q8 (dOp Qat (dC (.int 0)) (Qk (Qa 2) (Qa 1))))) Qn)
theorem QfQ {α : Type} (m : Nat) (f : Nat -> D) : Qdp ((List.range m).map f) = (List.range m).map λ i => .tup [.int i, f i] := by
 apply ZaW
 intro k
 unfold Qdp
 simp only [Zo, List.getElem?_zipIdx, Nat.zero_add]
 by_cases hk : k < m
 ·rw [ZO hk]; rfl
 ·rw [Zx (by simp; omega)]; rfl
theorem QrL {d : Den} (hd : Qek d) {m : Nat} {R L : List (Int × Int)} (hm : m <= 1000) (hl : R.length + R.length + L.length <= 1000000) (hR : ∀ s ∈ R, Good m s) (hL : ∀ s ∈ L, Good m s) : Qo 1 (Qe5 d) [Qj m R L] = some (Qb m (Qv R L), true) := by
 refine Q7 ?_
 refine QE (QN (toD := λ (i : Nat) => .tup [.int i, Qb m (Qe m (Qd R L) i)]) (out := λ (i : Nat) => .int (Qv R L i)) (ir := ⟨Qdp ((List.range m).map λ i => Qb m (Qe m (Qd R L) i)), []⟩) (List.range m) ?_ ?_ λ i hi => ?_) ⟨rfl, rfl⟩
 ·unfold Qem
  rw [Qt (n := 1) (fs := Qc (Qa 0) Qg) (ρ := Qax 1 [Qj m R L]) (dfl := []) (r := ⟨[Qj m R L], false, []⟩) rfl (hd m R L hm hl hR hL) rfl]; rfl
 ·exact QfQ (α := Nat) m _
 ·have hi := Zh.mp hi
  refine ⟨[none, some (.int i, true), some (Qb m (Qe m (Qd R L) i), false)], rfl, ⟨.int (0 - Qe m (Qd R L) i i), true, []⟩, ?_, ?_, rfl⟩
  ·have e : Qk (Qa 2) (Qa 1) [none, some (.int (i : Int), true), some (Qb m (Qe m (Qd R L) i), false)] = some ⟨.int (Qe m (Qd R L) i i), true, []⟩ := by
    show ((D.items (Qb m (Qe m (Qd R L) i))).bind λ xs => (atI xs (i : Int)).map λ d => (HS.R.norm ⟨d, false, []⟩)) = _
    unfold Qb
    rw [show D.items (.lst ((List.range m).map λ j => D.int (Qe m (Qd R L) i j))) = some ((List.range m).map λ j => D.int (Qe m (Qd R L) i j)) from rfl, Za, QnA (by omega) (by omega)]
    rfl
   exact Qae (rfl) e rfl
  ·have g := Qa9 hR hL
   rw [Qa0 hi hi λ s hs => ⟨(g s hs).1, (g s hs).2.1⟩, sum_neg _ i λ s hs => (g s hs).2.2.2.2, Qj3]
   show D.int (0 - -(Qv R L i)) = _
   rw [show (0 : Int) - -(Qv R L i) = Qv R L i by omega]
theorem Qi7 (a b : Int) : deq (.int a) (.int b) = decide (a = b) := by
 show PyData.eqv (.int a) (.int b) = _
 unfold PyData.eqv
 exact Bool.beq_eq_decide_eq a b
theorem Qes {fa fb : DE} {ρ : En} {ra rb : R} {a b : Int} (ha : fa ρ = some ra) (ea : ra.d = .int a) (hb : fb ρ = some rb) (eb : rb.d = .int b) : dOp gEq fa fb ρ = some ⟨.bl (decide (a = b)), true, []⟩ := by
 refine Qae ha hb ?_
 rw [ea, eb]
 show some (D.bl (deq (.int a) (.int b))) = _
 rw [Qi7]
theorem QdV {fa fb : DE} {ρ : En} {ra rb : R} {a b : Int} (ha : fa ρ = some ra) (ea : ra.d = .int a) (hb : fb ρ = some rb) (eb : rb.d = .int b) : dOp gNe fa fb ρ = some ⟨.bl (!decide (a = b)), true, []⟩ := by
 refine Qae ha hb ?_
 rw [ea, eb]
 show some (D.bl (!deq (.int a) (.int b))) = _
 rw [Qi7]
theorem Qww {fa fb : DE} {ρ : En} {a b : Bool} (ha : fa ρ = some ⟨.bl a, true, []⟩) (hb : fb ρ = some ⟨.bl b, true, []⟩) : QlP fa fb ρ = some ⟨.bl (a && b), true, []⟩ := by
 unfold QlP
 rw [ha]
 cases a <;> simp [D.tru, hb]
theorem QB {fa : DE} {ρ : En} {r : R} {b : Bool} (ha : fa ρ = some r) (e : r.d = .bl b) : QG fa ρ = some b := by
 unfold QG
 rw [ha, Za, e]; rfl
theorem Qbg {g : DT} {ρ : En} {b : Bool} (h : g ρ = some b) : QbK g ρ = some (!b) := by unfold QbK; rw [h]; rfl
theorem QaL {g1 g2 : DT} {ρ : En} {a b : Bool} (ha : g1 ρ = some a) (hb : g2 ρ = some b) : bOr g1 g2 ρ = some (a || b) := by
 unfold bOr; rw [ha]; cases a <;> simp [hb]
theorem Qhf {g1 g2 : DT} {ρ : En} {a b : Bool} (ha : g1 ρ = some a) (hb : g2 ρ = some b) : QdX g1 g2 ρ = some (a && b) := by
 unfold QdX; rw [ha]; cases a <;> simp [hb]
theorem QaN {fa fb : DE} {ρ : En} {ra rb : R} {a b : Int} (ha : fa ρ = some ra) (ea : ra.d = .int a) (hb : fb ρ = some rb) (eb : rb.d = .int b) (h : Qdl a b = true) : Qao fa fb ρ = some ⟨.int (a * b), true, []⟩ := by
 unfold Qao
 rw [ha, Za, hb, Za, ea, eb]
 simp [h]
theorem QQ {fa fb : DE} {ρ : En} {ra rb : R} {a b : Int} (ha : fa ρ = some ra) (ea : ra.d = .int a) (hb : fb ρ = some rb) (eb : rb.d = .int b) : QH fa fb ρ = some ⟨.int (a + b), true, []⟩ := by
 unfold QH
 rw [ha, Za, hb, Za, ea, eb]
theorem Qap {fa fb : DE} {ρ : En} {ra rb : R} {a b : Int} (ha : fa ρ = some ra) (ea : ra.d = .int a) (hb : fb ρ = some rb) (eb : rb.d = .int b) (h : 0 < b) : dOp Qau fa fb ρ = some ⟨.int (a % b), true, []⟩ := by
 refine Qae ha hb ?_
 rw [ea, eb]
 show (if b ≠ 0 then some (D.int (QbC a b)) else none) = _
 rw [if_pos (by omega), Qmd _ _ (by omega)]
theorem QpB {fa fb : DE} {ρ : En} {ra rb : R} {a b : Int} (ha : fa ρ = some ra) (ea : ra.d = .int a) (hb : fb ρ = some rb) (eb : rb.d = .int b) (h : 0 < b) (h2 : b < 2 ^ 64) : dOp Qdh fa fb ρ = some ⟨.int (a / b), true, []⟩ := by
 refine Qae ha hb ?_
 rw [ea, eb]
 have : Qa7 b = true := by
  unfold Qa7
  have h3 : b.natAbs < 2 ^ 8000 := Zv (by omega : b.natAbs < 2 ^ 64) (ZK (by decide) (by decide))
  simp only [Zg, decide_eq_true_eq]
  exact ⟨by omega, h3⟩
 show (if Qa7 b = true then some (D.int (Qcp a b)) else none) = _
 rw [if_pos this, QfD _ _ (by omega)]
theorem Qcw {fa : DE} {ρ : En} {r : R} (h : fa ρ = some r) : QaF fa ρ = some ⟨r.d, false, r.M⟩ := by unfold QaF; rw [h]; rfl
theorem QcL {fa fb : DE} {ρ : En} {ra rb : R} {m : Nat} {f : Nat -> Int} {i : Int} (ha : fa ρ = some ra) (ea : ra.d = Qb m f) (hb : fb ρ = some rb) (eb : rb.d = .int i) (h0 : 0 <= i) (h : i < m) : Qk fa fb ρ = some ⟨.int (f i.toNat), true, []⟩ := by
 unfold Qk
 rw [ha, Za, hb, Za, ea, eb]
 simp only [Qb, D.items, Za, QnA h0 h, ZL]
 rfl
theorem Qbs {fa fb : DE} {ρ : En} {ra rb : R} {ns : List Int} {i : Int} {v : Int} (ha : fa ρ = some ra) (ea : ra.d = .lst (ns.map .int)) (hb : fb ρ = some rb) (eb : rb.d = .int i) (h0 : 0 <= i) (h : ns[i.toNat]? = some v) : Qk fa fb ρ = some ⟨.int v, true, []⟩ := by
 have hl : i < ns.length := by have := (Zf.mp h).1; omega
 unfold Qk
 rw [ha, Za, hb, Za, ea, eb]
 simp only [D.items, Za]
 rw [Qg8 h0 (by simpa using hl), Zo, h]
 rfl
theorem Qqf {m n : Nat} {f : Nat -> Int} (h : n <= m) : cutD ((List.range m).map λ i => D.int (f i)) none (some (n : Int)) = (List.range n).map λ i => D.int (f i) := by
 unfold cutD
 simp only [Zi, ZG, HT.QkZ, HT.Qjp, List.drop_zero, Nat.sub_zero, Zcc h]
 rw [← ZbK, List.take_range, Zcc h]
theorem Qny {fa fb : DE} {ρ : En} {ra rb : R} {m n : Nat} {f : Nat -> Int} (ha : fa ρ = some ra) (ea : ra.d = Qb m f) (hb : fb ρ = some rb) (eb : rb.d = .int n) (h : n <= m) : Qcs fa Qdq (QaK fb) ρ = some ⟨Qb n f, true, []⟩ := by
 unfold Qcs Qdq QaK
 rw [ha, Za, hb, ea]
 simp only [Za, eb, Qb, Qqf h, Qa2, Qqp, if_true]
theorem Qsd {n : Nat} {den : Den} {dfl : List D} {fs : DA} {ρ : En} {r : RA} {d : D} {fr : Bool} (h : fs ρ = some r) (hd : den (r.ds ++ dfl) = some (d, fr)) (hl : r.ds.length + dfl.length = n) : Qw n den dfl fs ρ = some (if fr = true then ⟨d, true, []⟩ else HS.R.norm ⟨d, false, r.M⟩) := by
 unfold Qw
 rw [h, Za, if_pos hl, hd]
 rfl
theorem Qqz {i : Nat} {d : D} {fr : Bool} {ρ : En} (h : d.flat = false) : asg i (if fr = true then ⟨d, true, []⟩ else HS.R.norm ⟨d, false, []⟩) ρ = ρ.set i (some (d, fr)) := by
 cases fr
 ·simp [HS.R.norm, h, asg, QaU]
 ·simp
def GoodW (m : Nat) (w : Int × Int × Bool) : Prop := Good m (w.1, w.2.1) /\ (w.2.2 = true -> w.1 < m)
noncomputable def Qxg (W : List (Int × Int × Bool)) : D := .lst (W.map Qq1)
@[simp] theorem Qxo (W : List (Int × Int × Bool)) : (Qxg W).flat = false := rfl
theorem Qwa {a x n : Int} (h1 : 0 < x) (h2 : x < n) : (a + x) % n ≠ a % n := λ h => by
 have h3 : (a + x - a) % n = 0 := Int.emod_eq_emod_iff_emod_sub_eq_zero.mp h
 rw [show a + x - a = x by omega, Int.emod_eq_of_lt (by omega) h2] at h3
 omega
theorem QnS {x : Nat} {fa : DE} {ρ : En} {r : R} {xs : List D} {Q : Out -> Prop} (hx : ρ[x]? = some (some (.lst xs, true))) (ha : fa ρ = some r) (hf : r.d.flat = true) (hl : xs.length < 16777216) (q : Q (.nx (ρ.set x (some (.lst (xs ++ [r.d]), true))))) : Run (Qdj x Q1 fa) ρ Q := by
 refine ⟨_, ?_, q⟩
 have hn : r.norm = ⟨r.d, true, []⟩ := by unfold HS.R.norm; rw [if_pos hf]
 unfold Qdj
 rw [hx]
 simp only [Q1, Za, ha, Qa8, QiT, hn, QaI, kill, QfA]
 simp [hl]
theorem QnQ {x y m : Nat} {f : Nat -> Int} {ρ : En} {i : Int} {b : Bool} {Q : Out -> Prop} (hx : ρ[x]? = some (some (Qb m f, true))) (hy : ρ[y]? = some (some (.int i, b))) (h0 : 0 <= i) (h : i < m)
  (q : Q (.nx (ρ.set x (some (Qb m (up f i.toNat (f i.toNat + 1)), true))))) : Run (QcQ x Q1 (Qa y) (QH (Qk (Qa x) (Qa y)) (dC (.int 1)))) ρ Q := by
 have e1 : Qa y ρ = some ⟨.int i, true, []⟩ := Qep hy
 have e2 := Qa6 hx
 exact QfU hx e1 rfl (QQ (QcL e2 (by simp) e1 rfl h0 h) rfl (Qgr (.int 1) _) rfl) rfl h0 h q
theorem Run.nx {f : DS} {ρ : En} {Q Q' : En -> Prop} (h : Run f ρ (Nx Q)) (m : ∀ ρ, Q ρ -> Q' ρ) : Run f ρ (Nx Q') := h.mono λ o ho => by
 cases o with
 | nx ρ => exact m ρ ho
 | _ => exact ho.elim
theorem Qai {f g : DS} {ρ : En} {P : En -> Prop} {Q : Out -> Prop} (h : Run f ρ (Nx P)) (k : ∀ ρ', P ρ' -> Run g ρ' Q) : Run (Qf f g) ρ Q := run_seq (h.nx k)
noncomputable def Qb1 (w : Int × Int × Bool) : Int × Int := (if w.2.1 < w.1 then w.2.1 else w.1, if w.2.1 > w.1 then w.2.1 else w.1)
noncomputable def Qbi (w : Int × Int × Bool) : Int × Int := (w.1, w.2.1)
noncomputable def Qdw (W : List (Int × Int × Bool)) : List (Int × Int) := (W.filter λ w => !w.2.2).map Qb1
noncomputable def Qei (W : List (Int × Int × Bool)) : List (Int × Int) := (W.filter λ w => w.2.2).map Qbi
theorem Qik {m : Nat} {W : List (Int × Int × Bool)} (h : ∀ w ∈ W, GoodW m w) : ∀ s ∈ Qdw W, Good m s /\ s.1 < s.2 := λ s hs => by
 obtain ⟨w, hw, rfl⟩ := ZN.mp hs
 obtain ⟨⟨h1, h2, h3, h4, h5⟩, _⟩ := h w (ZC.mp hw).1
 simp only at h1 h2 h3 h4 h5
 unfold Qb1 Good
 simp only
 split <;> split <;> omega
theorem Qi3 {m : Nat} {W : List (Int × Int × Bool)} (h : ∀ w ∈ W, GoodW m w) : ∀ s ∈ Qei W, Good m s /\ s.1 < m := λ s hs => by
 obtain ⟨w, hw, rfl⟩ := ZN.mp hs
 obtain ⟨h1, h2⟩ := h w (ZC.mp hw).1
 exact ⟨h1, h2 (by simpa using (ZC.mp hw).2)⟩
theorem Qqe (W : List (Int × Int × Bool)) : (Qdw W).length <= W.length := by unfold Qdw; rw [Zi]; exact ZaT _ _
theorem Qpp (W : List (Int × Int × Bool)) : (Qei W).length <= W.length := by unfold Qei; rw [Zi]; exact ZaT _ _
theorem QcA {f : Nat -> Int} {i k : Nat} {v : Int} : up f i v k = if k = i then v else f k := rfl
theorem QcI {fa : DE} {ρ : En} {r : R} {m : Int} {R L : List (Int × Int)} (h : fa ρ = some r) (e : r.d = Qj m R L) :
  Qk fa (dC (.int 0)) ρ = some ⟨.int m, true, []⟩ /\ Qk fa (dC (.int 1)) ρ = some ⟨QJ R, r.fr, r.M⟩ /\ Qk fa (dC (.int 2)) ρ = some ⟨QJ L, r.fr, r.M⟩ := by
 unfold Qk
 rw [h]
 simp only [Za, e, Qgr]
 exact ⟨rfl, rfl, rfl⟩
theorem QfP {α : Type} {g : α -> Int} {xs : List α} {i : Nat} {x : α} (h : xs[i]? = some x) : ((xs.take (i + 1)).map g).sum = ((xs.take i).map g).sum + g x := by
 rw [ZbE, h, ZT, Zbd]; simp
def Qiw (d : Den) : Prop := ∀ ns : List Int, d [.lst (ns.map .int), .lst (ns.map .int)] = some (.bl true, true)
theorem Qrv (ns : List Int) : Qdf (ns.map D.int) (ns.map D.int) = ns.map λ n => .tup [.int n, .int n] := by
 induction ns with
 | nil => rfl
 | cons n ns ih => unfold Qdf at ih ⊢; simp only [Zn, List.zip_cons_cons, ih]
theorem QcT {fa : DE} {ρ : En} {r : R} {xs : List D} (h : fa ρ = some r) (e : r.d = .lst xs) : dBf Qa3 (Qc fa Qg) ρ = some ⟨.int xs.length, true, []⟩ := by
 unfold dBf
 rw [Qr h (QS _), Za]
 simp [e, Qa3]
theorem QmB {d : Den} (h : Qiw d) (m : Nat) (f : Nat -> Int) : d [Qb m f, Qb m f] = some (.bl true, true) := by
 have := h ((List.range m).map f)
 rw [ZR] at this
 exact this
theorem Qj4 (n : Nat) (ps : List (Int × Int)) : (QJ ps).sim (n + 2) = true := by
 unfold QJ
 simp only [D.sim, ZbX, ZaB]
 intro p _
 cases n <;> rfl
theorem Qfj {fa fb : DE} {ρ : En} {ra rb : R} {d : D} (ha : fa ρ = some ra) (ea : ra.d = d) (hb : fb ρ = some rb) (eb : rb.d = d) (hs : d.sim 8 = true) : dOp gNe fa fb ρ = some ⟨.bl false, true, []⟩ := by
 refine Qae ha hb ?_
 rw [ea, eb]
 unfold gNe
 rw [hs, QlO hs]; rfl
def QiZ (d : Den) : Prop := ∀ (m : Nat) (R L : List (Int × Int)), m <= 1000 -> R.length + R.length + L.length <= 1000000 -> (∀ s ∈ R, Good m s) -> (∀ s ∈ L, Good m s) -> d [Qj m R L] = some (Qb m (Qv R L), true)
theorem QtK {d : Den} (h : Qek d) : QiZ (Qo 1 (Qe5 d)) := λ m R L h1 h2 h3 h4 => QrL h h1 h2 h3 h4
theorem Qkn {b : Int} (h : 0 < b) (h2 : b < 2 ^ 200) : Qa7 b = true := by
 unfold Qa7
 have h3 : b.natAbs < 2 ^ 8000 := Zv (by omega : b.natAbs < 2 ^ 200) (ZK (by decide) (by decide))
 simp only [Zg, decide_eq_true_eq]
 exact ⟨by omega, h3⟩
theorem Qev {i j : Nat} {fa fb : DE} {ρ : En} {ra rb : R} {a b : Int} {Q : Out -> Prop} (ha : fa ρ = some ra) (ea : ra.d = .int a) (hb : fb ρ = some rb) (eb : rb.d = .int b) (h : 0 < b) (h2 : b < 2 ^ 200)
  (q : Q (.nx ((ρ.set i (some (.int (a / b), true))).set j (some (.int (a % b), true))))) : Run (QcX (.tp [i, j]) (dDm (Qc fa (Qc fb Qg)))) ρ Q := by
 have e : dDm (Qc fa (Qc fb Qg)) ρ = some ⟨.tup [.int (a / b), .int (a % b)], true, []⟩ := by
  unfold dDm
  rw [Qr ha (Qr hb (QS _)), Za]
  simp only [ea, eb]
  rw [if_pos (Qkn h h2), QfD _ _ (by omega), Qmd _ _ (by omega)]
 refine ⟨_, ?_, q⟩
 unfold QcX
 rw [e]
 rfl
theorem Qv2 (xs : List D) : deq (.lst xs) (.lst []) = xs.isEmpty := by cases xs <;> rfl
theorem QuV (n : Nat) (ns : List Int) : (Qm ns).sim (n + 1) = true := by
 unfold Qm
 simp only [D.sim, ZbX, ZaB]
 intro p _
 cases n <;> rfl
theorem QhN {fa : DE} {ρ : En} {r : R} {ns : List Int} (ha : fa ρ = some r) (e : r.d = .lst (ns.map .int)) : QG (dOp gNe fa (QW Qg)) ρ = some (!ns.isEmpty) := by
 refine QB (Qae ha (rb := ⟨.lst [], true, []⟩) rfl (d := .bl (!ns.isEmpty)) ?_) rfl
 rw [e]
 unfold gNe
 have : (D.lst (ns.map .int)).sim 8 = true := QuV 7 ns
 rw [this]
 show some (D.bl (!deq (.lst (ns.map .int)) (.lst []))) = _
 rw [Qv2]; simp
theorem Qpy {fa fb : DE} {ρ : En} {ra rb : R} {a b : Int} (ha : fa ρ = some ra) (ea : ra.d = .int a) (hb : fb ρ = some rb) (eb : rb.d = .int b) (h : 0 <= b /\ b <= 1000 /\ a.natAbs < 2 ^ 200) : dOp Qdu fa fb ρ = some ⟨.int (a ^ b.toNat), true, []⟩ := by
 refine Qae ha hb ?_
 rw [ea, eb]
 show (if 0 <= b /\ b <= 1000 /\ a.natAbs < 2 ^ 200 then some (D.int (a ^ b.toNat)) else none) = _
 rw [if_pos h]
theorem Qlf {x : Nat} {fa : DE} {ρ : En} {r : R} {A : List Int} {n : Int} {Q : Out -> Prop} (hx : ρ[x]? = some (some (Qm A, true))) (ha : fa ρ = some r) (hf : r.d = .int n) (hl : A.length < 16777216) (q : Q (.nx (ρ.set x (some (Qm (A ++ [n]), true))))) : Run (Qdj x Q1 fa) ρ Q := by
 refine QnS (xs := A.map .int) hx ha (by rw [hf]; rfl) (by simpa using hl) ?_
 rw [hf]
 unfold Qm at q
 rw [ZT] at q
 exact q
noncomputable abbrev B40 : Int := 10000000000000000000000000000000000000000
noncomputable def QeG : DS := (Qf (Qs 2 (dOp Qdu (dC (.int 10)) (dC (.int 40)))) (Qf (Qs 3 (dC (.int 0))) (Qf (sIf (QG (dOp gNe (Qa 0) (QW Qg))) (Qf (Qs 3 (QaF (Qk (Qa 0) (dC (.int 0))))) Qn) Qn) (Qf (Qs 4 (QW Qg)) (Qf (Qa1 (Qbc (Qa 1)) (.nm 5) (Qf (QcX (.tp [3, 6]) (dDm (Qc (Qa 3) (Qc (Qa 2) Qg)))) (Qf (Qdj 4 Q1 (Qa 6)) Qn))) (Qf (sIf (QG (dOp gGt (Qa 3) (dC (.int 0)))) (Qf (QM (Qa 4)) Qn) Qn) (Qf (Qs 7 (QW Qg)) (Qf (Qa1 (Qbc (Qa 1)) (.nm 5) (Qf (Qs 8 (dC (.int 7919))) (Qf (sIf (QG (dOp gNe (Qa 0) (QW Qg))) (Qf (Qs 8 (QaF (Qk (Qa 0) (dOp Qau (Qa 5) (dBf Qa3 (Qc (Qa 0) Qg)))))) Qn) Qn) (Qf (Qs 8 (dOp Qau (Qao (QH (QH (QH (Qa 8) (Qao (Qao (Qa 5) (Qa 5)) (dC (.int 7919)))) (Qao (Qa 5) (dC (.int 104729)))) (dC (.int 31))) (dC (.int 48271))) (dC (.int 2147483647)))) (Qf (Qs 8 (dOp Qau (Qao (dOp Qau (Qao (Qa 8) (Qa 8)) (dC (.int 2147483629))) (QH (Qao (dC (.int 2)) (Qa 5)) (dC (.int 69621)))) (dC (.int 2147483587)))) (Qf (Qdj 7 Q1 (dOp Qau (Qao (Qa 8) (dOp Qdu (dC (.int 618970019642690137449562111)) (dC (.int 2)))) (Qa 2))) Qn)))))) (Qf (QM (Qa 7)) Qn)))))))))
def CellsOk (d : Den) : Prop := ∀ (ns : List Int) (n : Nat), ns.length <= 63 -> n <= 200 -> ∃ cs : List Int, d [.lst (ns.map .int), .int n] = some (Qm cs, true) /\ cs.length = n /\ ∀ c ∈ cs, 0 <= c /\ c < B40
theorem Qsw : CellsOk (Qo 9 QeG) := λ ns n hl hn => by
 have key : Run QeG (Qax 9 [.lst (ns.map .int), .int n]) (Rt λ d fr => ∃ cs : List Int, d = Qm cs /\ fr = true /\ cs.length = n /\ ∀ c ∈ cs, 0 <= c /\ c < B40) := by
  refine run_seq (Qi (r := ⟨.int B40, true, []⟩) ?_ ?_)
  ·exact Qpy (a := 10) (b := 40) rfl rfl rfl rfl (by decide)
  rw [Ql]
  refine run_seq (Qi (r := ⟨.int 0, true, []⟩) rfl ?_)
  rw [Ql]
  refine Qai (P := λ ρ => ∃ z : Int, ρ = [some (.lst (ns.map .int), false), some (.int n, true), some (.int B40, true), some (.int z, true), none, none, none, none, none]) ?_ ?_
  ·refine Q0 (QhN (ns := ns) (r := ⟨.lst (ns.map .int), false, []⟩) rfl rfl) (λ h => ?_) (λ _ => Qp ⟨0, rfl⟩)
   cases ns with
   | nil => cases h
   | cons a r => exact run_seq (Qi (r := ⟨.int a, false, []⟩) (Qcw (Qbs (ns := a :: r) (i := 0) rfl rfl rfl rfl (by decide) rfl)) (Qp ⟨a, by rw [QbZ rfl]; rfl⟩))
  rintro ρ ⟨z, rfl⟩
  refine run_seq (Qi (r := ⟨Qm [], true, []⟩) rfl ?_)
  rw [Ql]
  refine Qai (P := λ ρ => ∃ (z : Int) (cs : List Int) (j5 j6 : Option (D × Bool)), cs.length = n /\ (∀ c ∈ cs, 0 <= c /\ c < B40) /\ ρ = [some (.lst (ns.map .int), false), some (.int n, true), some (.int B40, true), some (.int z, true), some (Qm cs, true), j5, j6, none, none]) ?_ ?_
  ·refine Qag (List.range n) (λ i ρ => ∃ (z : Int) (cs : List Int) (j5 j6 : Option (D × Bool)), cs.length = i /\ (∀ c ∈ cs, 0 <= c /\ c < B40) /\ ρ = [some (.lst (ns.map .int), false), some (.int n, true), some (.int B40, true), some (.int z, true), some (Qm cs, true), j5, j6, none, none]) (Qcv (n := n) (r := ⟨.int n, true, []⟩) rfl rfl (by omega)) rfl ⟨z, [], none, none, rfl, by simp, rfl⟩ ?_ ?_
   ·rintro i k ρ hi ⟨z, cs, j5, j6, h1, h2, rfl⟩
    have hin : i < n := by have := (Zf.mp hi).1; simpa using this
    refine ⟨_, rfl, ?_⟩
    refine run_seq (Qev (a := z) (b := B40) rfl rfl rfl rfl (by decide) (by decide) ?_)
    refine run_seq (Qlf (A := cs) (n := z % B40) rfl rfl rfl (by omega) (Qp ⟨z / B40, cs ++ [z % B40], _, _, by simp [h1], λ c hc => ?_, rfl⟩))
    rcases ZE.mp hc with hc | hc
    ·exact h2 c hc
    ·rw [ZD.mp hc]; exact ⟨Zy _ (by decide), Zq _ (by decide)⟩
   ·rintro ρ ⟨z, cs, j5, j6, h1, h2, rfl⟩
    exact ⟨z, cs, j5, j6, by simpa using h1, h2, rfl⟩
  rintro ρ ⟨z, cs, j5, j6, h1, h2, rfl⟩
  refine QT (Q0 (b := decide (0 < z)) (QB (b := decide (0 < z)) rfl rfl) (λ _ => QE (Q := λ d fr => ∃ cs : List Int, d = Qm cs /\ fr = true /\ cs.length = n /\ ∀ c ∈ cs, 0 <= c /\ c < B40) (r := ⟨Qm cs, true, [4]⟩) rfl ⟨cs, rfl, rfl, h1, h2⟩ |> λ h => h.mono λ o ho => by cases o <;> first | exact ho | exact ho.elim) (λ _ => Qp ?_))
  refine run_seq (Qi (r := ⟨Qm [], true, []⟩) rfl ?_)
  rw [Ql]
  refine Qai (P := λ ρ => ∃ (cs' : List Int) (j5 j8 : Option (D × Bool)), cs'.length = n /\ (∀ c ∈ cs', 0 <= c /\ c < B40) /\ ρ = [some (.lst (ns.map .int), false), some (.int n, true), some (.int B40, true), some (.int z, true), some (Qm cs, true), j5, j6, some (Qm cs', true), j8]) ?_ ?_
  ·refine Qag (List.range n) (λ i ρ => ∃ (cs' : List Int) (j5 j8 : Option (D × Bool)), cs'.length = i /\ (∀ c ∈ cs', 0 <= c /\ c < B40) /\ ρ = [some (.lst (ns.map .int), false), some (.int n, true), some (.int B40, true), some (.int z, true), some (Qm cs, true), j5, j6, some (Qm cs', true), j8]) (Qcv (n := n) (r := ⟨.int n, true, []⟩) rfl rfl (by omega)) rfl ⟨[], _, none, rfl, by simp, rfl⟩ ?_ ?_
   ·rintro i k ρ hi ⟨cs', j5, j8, h3, h4, rfl⟩
    have hin : i < n := by have := (Zf.mp hi).1; simpa using this
    have hk : k < n := by have := ZJ hi; simpa using this
    refine ⟨_, rfl, ?_⟩
    refine run_seq (Qi (r := ⟨.int 7919, true, []⟩) rfl ?_)
    rw [Ql]
    refine Qai (P := λ ρ => ∃ y : Int, ρ = [some (.lst (ns.map .int), false), some (.int n, true), some (.int B40, true), some (.int z, true), some (Qm cs, true), some (.int k, true), j6, some (Qm cs', true), some (.int y, true)]) ?_ ?_
    ·refine Q0 (QhN (ns := ns) (r := ⟨.lst (ns.map .int), false, []⟩) rfl rfl) (λ h => ?_) (λ _ => Qp ⟨7919, rfl⟩)
     have hne : 0 < ns.length := by cases ns with
      | nil => cases h
      | cons a r => simp
     have m1 := Zy (k : Int) (by omega : (ns.length : Int) ≠ 0)
     have m2 := Zq (k : Int) (by omega : (0 : Int) < ns.length)
     have hg : ns[((k : Int) % ns.length).toNat]? = some (ns[((k : Int) % ns.length).toNat]'(by omega)) := ZU _
     have elen : dBf Qa3 (Qc (Qa 0) Qg) [some (.lst (ns.map .int), false), some (.int n, true), some (.int B40, true), some (.int z, true), some (Qm cs, true), some (.int k, true), j6, some (Qm cs', true), some (.int 7919, true)] = some ⟨.int ns.length, true, []⟩ := by
      rw [QcT (r := ⟨.lst (ns.map .int), false, []⟩) (xs := ns.map D.int) rfl rfl, Zi]
     exact run_seq (Qi (Qcw (Qbs (ns := ns) (i := (k : Int) % ns.length) rfl rfl (Qap (a := (k : Int)) (b := ns.length) rfl rfl elen rfl (by omega)) rfl m1 hg)) (Qp ⟨_, by rw [QbZ rfl]; rfl⟩))
    rintro ρ ⟨y, rfl⟩
    refine run_seq (Qi (Qap (b := 2147483647) (QaN (b := 48271) (QQ (b := 31) (QQ (QQ (a := y) rfl rfl (QaN (b := 7919) (QaN (a := (k : Int)) (b := k) rfl rfl rfl rfl (Qc4 (by omega))) rfl rfl rfl (Qd8 (by decide))) rfl) rfl (QaN (a := (k : Int)) (b := 104729) rfl rfl rfl rfl (Qd8 (by decide))) rfl) rfl rfl rfl) rfl rfl rfl (Qd8 (by decide))) rfl rfl rfl (by decide)) ?_)
    rw [Ql]
    generalize ew : (y + (k : Int) * k * 7919 + (k : Int) * 104729 + 31) * 48271 % 2147483647 = w
    have w1 : 0 <= w := by rw [← ew]; exact Zy _ (by decide)
    have w2 : w < 2147483647 := by rw [← ew]; exact Zq _ (by decide)
    refine run_seq (Qi (Qap (b := 2147483587) (QaN (Qap (b := 2147483629) (QaN (a := w) (b := w) rfl rfl rfl rfl (Qc4 (by omega))) rfl rfl rfl (by decide)) rfl (QQ (b := 69621) (QaN (a := 2) (b := (k : Int)) rfl rfl rfl rfl (Qc4 (by decide))) rfl rfl rfl) rfl (Qd8 (by omega))) rfl rfl rfl (by decide)) ?_)
    rw [Ql]
    generalize eu : w * w % 2147483629 * (2 * (k : Int) + 69621) % 2147483587 = u
    have u1 : 0 <= u := by rw [← eu]; exact Zy _ (by decide)
    have u2 : u < 2147483587 := by rw [← eu]; exact Zq _ (by decide)
    have epow : dOp Qdu (dC (.int 618970019642690137449562111)) (dC (.int 2)) [some (.lst (ns.map .int), false), some (.int n, true), some (.int B40, true), some (.int z, true), some (Qm cs, true), some (.int k, true), j6, some (Qm cs', true), some (.int u, true)] = some ⟨.int (618970019642690137449562111 ^ 2), true, []⟩ := Qpy (a := 618970019642690137449562111) (b := 2) rfl rfl rfl rfl (by decide)
    refine run_seq (Qlf (A := cs') rfl (Qap (b := B40) (QaN (a := u) rfl rfl epow rfl (Qc4 (by omega))) rfl rfl rfl (by decide)) rfl (by omega) (Qp ⟨_, _, _, ?_, λ c hc => ?_, rfl⟩))
    ·simp [h3]
    ·rcases ZE.mp hc with hc | hc
     ·exact h4 c hc
     ·rw [ZD.mp hc]; exact ⟨Zy _ (by decide), Zq _ (by decide)⟩
   ·rintro ρ ⟨cs', j5, j8, h3, h4, rfl⟩
    exact ⟨cs', j5, j8, by simpa using h3, h4, rfl⟩
  rintro ρ ⟨cs', j5, j8, h3, h4, rfl⟩
  exact QE (r := ⟨Qm cs', true, [7]⟩) rfl ⟨cs', rfl, rfl, h3, h4⟩
 obtain ⟨o, h1, h2⟩ := key
 cases o with
 | rt d fr =>
  obtain ⟨cs, rfl, rfl, h3, h4⟩ := h2
  exact ⟨cs, by unfold Qo; rw [h1]; rfl, h3, h4⟩
 | _ => exact h2.elim
theorem Qnu {α β : Type} (f : α -> β) (xs : List α) (k : Nat) (y : α) : (Qah xs k y).map f = Qah (xs.map f) k (f y) := by
 unfold Qah; simp [ZbK, Zch]
theorem Qfr {α : Type} {xs : List α} {k : Nat} {y z : α} : z ∈ Qah xs k y ↔ z = y ∨ z ∈ xs := by
 unfold Qah
 rw [ZE, Zr]
 constructor
 ·rintro (h | h | h)
  ·exact .inr (List.mem_of_mem_take h)
  ·exact .inl h
  ·exact .inr (List.mem_of_mem_drop h)
 ·rintro (h | h)
  ·exact .inr (.inl h)
  ·rw [← ZaK k xs, ZE] at h
   rcases h with h | h
   ·exact .inl h
   ·exact .inr (.inr h)
theorem Qnh {α : Type} (xs : List α) (k : Nat) (y : α) : (Qah xs k y).length = xs.length + 1 := by
 unfold Qah; rw [Zw, ZI, Zao, Zaz]; omega
theorem Qkm {α β : Type} (f : α -> β) : ∀ (l : List α) (k : Nat), (l.map f).eraseIdx k = (l.eraseIdx k).map f
 | [], _ => rfl
 | _ :: _, 0 => rfl
 | a :: l, k + 1 => by simp only [Zn, Zap, Qkm f l k]
theorem QiA {α : Type} : ∀ (l : List α) (k : Nat) (b : α), l[k]? = some b -> (b :: l.eraseIdx k).Perm l
 | [], _, _, h => by simp at h
 | a :: l, 0, b, h => by simp at h; subst h; exact .refl _
 | a :: l, k + 1, b, h => by
  have := QiA l k b (by simpa using h)
  simp only [Zap]
  exact (List.Perm.swap a b _).trans (this.cons a)
theorem Qn4 {x y : Nat} {fi : DE} {ρ : En} {ri : R} {A B : List Int} {i b : Int} {Q : Out -> Prop} (hx : ρ[x]? = some (some (Qm A, true))) (hy : ρ[y]? = some (some (Qm B, true))) (hi : fi ρ = some ri) (ei : ri.d = .int i) (hxy : x ≠ y) (h0 : 0 <= i) (h1 : i < 2 ^ 62) (hb : B[i.toNat]? = some b) (hl : A.length < 16777216)
  (q : Q (.nx ((ρ.set y (some (Qm (B.eraseIdx i.toNat), true))).set x (some (Qm (A ++ [b]), true))))) : Run (Qed x y fi) ρ Q := by
 refine ⟨_, ?_, q⟩
 unfold Qed
 rw [hx, hy]
 simp only [Qm, Za, hi, ei, Zi, QfA]
 rw [if_pos ⟨hxy, Qf1 B, h0, h1, hl⟩, Zo, hb]
 simp only [ZL, ZT]
 rw [Qkm]
 rfl
def Esc (m : Nat) (W : List (Int × Int × Bool)) : Prop := ∀ A : Nat -> Prop, (∃ p, p < m /\ A p) -> ∃ w ∈ W, w.1 < m /\ A w.1.toNat /\ (w.2.1 = m ∨ ¬ A w.2.1.toNat)
theorem Esc.mono {m : Nat} {W W' : List (Int × Int × Bool)} (h : Esc m W) (s : ∀ w ∈ W, w ∈ W') : Esc m W' := λ A hA => let ⟨w, hw, r⟩ := h A hA; ⟨w, s w hw, r⟩
def Qge (m : Nat) (O : List Int) (w : Int × Int × Bool) (j : Nat) : Prop := O[j]? = some w.1 /\ (w.2.1 = m ∨ ∃ i, i < j /\ O[i]? = some w.2.1)
theorem Qge.app {m : Nat} {O O' : List Int} {w : Int × Int × Bool} {j : Nat} (h : Qge m O w j) : Qge m (O ++ O') w j := by
 obtain ⟨h1, h2⟩ := h
 have hj : j < O.length := (Zf.mp h1).1
 refine ⟨by rw [Zai hj]; exact h1, ?_⟩
 rcases h2 with h2 | ⟨i, hi, h2⟩
 ·exact .inl h2
 ·exact .inr ⟨i, hi, by rw [Zai (by omega)]; exact h2⟩
theorem QuH {m : Nat} {O : List Int} {W : List (Int × Int × Bool)} (hp : O.Perm ((List.range m).map λ (k : Nat) => (k : Int))) (hW : ∀ j, j < m -> ∃ w ∈ W, Qge m O w j) : Esc m W := λ A ⟨p, hp1, hp2⟩ => by
 have hl : O.length = m := by rw [hp.length_eq]; simp
 have nd : O.Nodup := hp.nodup_iff.mpr (by
  rw [ZbD, List.pairwise_map]
  exact List.Pairwise.imp (λ h z => h (by omega)) ZaH)
 have mem : ∀ x ∈ O, 0 <= x /\ x < m := λ x hx => by
  obtain ⟨k, hk, rfl⟩ := ZN.mp (hp.mem_iff.mp hx)
  have := Zh.mp hk
  omega
 have ex : ∃ (j : Nat) (x : Int), O[j]? = some x /\ A x.toNat := by
  have : (p : Int) ∈ O := hp.mem_iff.mpr (ZN.mpr ⟨p, Zh.mpr hp1, rfl⟩)
  obtain ⟨j, hj⟩ := List.getElem?_of_mem this
  exact ⟨j, _, hj, by simpa using hp2⟩
 have least : ∃ (j : Nat), (∃ x : Int, O[j]? = some x /\ A x.toNat) /\ ∀ i : Nat, i < j -> ¬ ∃ x : Int, O[i]? = some x /\ A x.toNat := by
  obtain ⟨j, hj⟩ := ex
  induction j using Nat.strongRecOn with
  | _ j ih =>
   by_cases h : ∃ i : Nat, i < j /\ ∃ x : Int, O[i]? = some x /\ A x.toNat
   ·obtain ⟨i, hi, h⟩ := h; exact ih i hi h
   ·exact ⟨j, hj, λ i hi hx => h ⟨i, hi, hx⟩⟩
 obtain ⟨j, ⟨x, hx, hA⟩, hmin⟩ := least
 have hj : j < m := by rw [← hl]; exact (Zf.mp hx).1
 obtain ⟨w, hw, h1, h2⟩ := hW j hj
 rw [hx] at h1
 cases h1
 refine ⟨w, hw, (mem _ (ZJ hx)).2, hA, ?_⟩
 rcases h2 with h2 | ⟨i, hi, h2⟩
 ·exact .inl h2
 ·exact .inr λ hA' => hmin i hi ⟨_, h2, hA'⟩
theorem QpZ {m : Nat} {O : List Int} {w : Int × Int × Bool} {j : Nat} (nd : O.Nodup) (mem : ∀ x ∈ O, 0 <= x /\ x < m) (h : Qge m O w j) : GoodW m w := by
 obtain ⟨h1, h2⟩ := h
 have a := mem _ (ZJ h1)
 refine ⟨⟨a.1, ?_, by dsimp only; omega, ?_, ?_⟩, λ _ => a.2⟩
 ·rcases h2 with h2 | ⟨i, hi, h2⟩
  ·dsimp only; omega
  ·exact (mem _ (ZJ h2)).1
 ·rcases h2 with h2 | ⟨i, hi, h2⟩
  ·dsimp only; omega
  ·have := mem _ (ZJ h2); dsimp only; omega
 ·rcases h2 with h2 | ⟨i, hi, h2⟩
  ·dsimp only; omega
  ·dsimp only
   intro z
   rw [z, ← h2] at h1
   have hil : i < O.length := (Zf.mp h2).1
   have hjl : j < O.length := by
    by_cases q : j < O.length
    ·exact q
    ·rw [Zx (by omega), h2] at h1; cases h1
   have := (List.getElem?_inj hjl nd).mp h1
   omega
theorem Qsj {m : Nat} {a s : Int} {ln : Bool} (h0 : 0 <= a) (h1 : a <= m) (hs : 0 <= s) (hs2 : s < m) (hl : ln = true -> a < m) : GoodW m (a, (a + 1 + s) % (m + 1), ln) := by
 have h5 := Zy (a + 1 + s) (by omega : (m : Int) + 1 ≠ 0)
 have h6 := Zq (a + 1 + s) (by omega : (0 : Int) < m + 1)
 have h7 := Qwa (a := a) (x := 1 + s) (n := (m : Int) + 1) (by omega) (by omega)
 rw [← Zci, show a % ((m : Int) + 1) = a from Int.emod_eq_of_lt h0 (by omega)] at h7
 exact ⟨⟨h0, h5, h1, by dsimp only; omega, λ z => h7 z.symm⟩, hl⟩
noncomputable def Qu (m : Nat) (g : Nat -> Int) : Int := ((List.range m).map g).sum
theorem Qab (m : Nat) (g : Nat -> Int) : Qu (m + 1) g = Qu m g + g m := by
 unfold Qu; rw [Zbx, ZT, Zbd]; simp
theorem QC {m : Nat} {f g : Nat -> Int} (h : ∀ i, i < m -> f i = g i) : Qu m f = Qu m g := by
 unfold Qu; rw [Zs λ i hi => h i (Zh.mp hi)]
theorem Qal (m : Nat) (f g : Nat -> Int) : Qu m (λ i => f i + g i) = Qu m f + Qu m g := by
 induction m with
 | zero => rfl
 | succ m ih => rw [Qab, Qab, Qab, ih]; omega
theorem Qcy (m : Nat) (f : Nat -> Int) : Qu m (λ i => - f i) = - Qu m f := by
 induction m with
 | zero => rfl
 | succ m ih => rw [Qab, Qab, ih]; omega
theorem Q4 (m : Nat) : Qu m (λ _ => 0) = 0 := by
 induction m with
 | zero => rfl
 | succ m ih => rw [Qab, ih]; rfl
theorem Qc1 (m : Nat) (c : Int) (f : Nat -> Int) : Qu m (λ i => c * f i) = c * Qu m f := by
 induction m with
 | zero => simp [Qu]
 | succ m ih => rw [Qab, Qab, ih, ZaZ]
theorem Qqi (m n : Nat) (f : Nat -> Nat -> Int) : Qu m (λ i => Qu n λ j => f i j) = Qu n λ j => Qu m λ i => f i j := by
 induction m with
 | zero => show 0 = Qu n λ j => 0; rw [Q4]
 | succ m ih =>
  rw [Qab, ih, ← Qal]
  exact QC λ j _ => by rw [Qab]
theorem QaA {m : Nat} {p : Nat} (hp : p < m) (v : Int) (f : Nat -> Int) : Qu m (λ i => (if i = p then v else 0) * f i) = v * f p := by
 induction m with
 | zero => omega
 | succ m ih =>
  rw [Qab]
  by_cases h : p = m
  ·subst h
   rw [if_pos rfl, QC (g := λ _ => 0) λ i hi => by rw [if_neg (by omega)]; simp, Q4]; simp
  ·rw [ih (by omega), if_neg (λ z => h z.symm)]; simp
noncomputable def Qh (m : Nat) (T : Nat -> Nat -> Int) (f c : Nat -> Int) : Nat -> Int := λ j => f j + Qu m λ i => c i * T i j
theorem QcK {m : Nat} {f g : Nat -> Int} (h : ∀ i, i < m -> f i = g i) : Qb m f = Qb m g := by
 unfold Qb
 congr 1
 refine Zs λ i hi => ?_
 rw [h i (Zh.mp hi)]
noncomputable def Qfa : DS := (Qf (Qa1 (Qak (Qa 1)) (.nm 2) (Qf (sIf (QG (dOp gNe (dBf Qa3 (Qc (Qa 2) Qg)) (Qk (Qa 0) (dC (.int 0))))) (Qf QF Qn) Qn) Qn)) Qn)
def Qfd (d : Den) : Prop := ∀ (m : Nat) (R L : List (Int × Int)) (fs : List (Nat -> Int)), d [Qj m R L, .lst (fs.map λ f => Qb m f)] = some (.non, true)
theorem QuB : Qfd (Qo 3 Qfa) := λ m R L fs => by
 have key : Run Qfa (Qax 3 [Qj m R L, .lst (fs.map λ f => Qb m f)]) (Nx λ _ => True) := by
  refine run_seq (Qag (toD := λ f => Qb m f) fs (λ _ ρ => ∃ j2, ρ = [some (Qj m R L, false), some (.lst (fs.map λ f => Qb m f), false), j2]) (ir := ⟨fs.map λ f => Qb m f, []⟩) rfl rfl ⟨none, rfl⟩ ?_ ?_)
  ·rintro i f ρ _ ⟨j2, rfl⟩
   refine ⟨_, rfl, ?_⟩
   refine run_seq (Q0 (b := false) (QB (QdV (QcT (xs := (List.range m).map λ i => .int (f i)) (r := ⟨Qb m f, false, []⟩) rfl rfl) rfl (QcI (m := m) (R := R) (L := L) (r := ⟨Qj m R L, false, []⟩) rfl rfl).1 rfl) (by simp)) (λ h => by cases h) (λ _ => Qp (Qp ⟨_, rfl⟩)))
  ·rintro ρ ⟨j2, rfl⟩
   exact Qp trivial
 obtain ⟨o, h1, h2⟩ := key
 unfold Qo
 rw [h1]
 cases o with
 | nx ρ => rfl
 | _ => exact h2.elim
noncomputable def QnN (Q5 : Den) (QZ : Den) : DS := (Qf (Qdk (Qw 2 Q5 [] (Qc (Qa 0) (Qc (QW (Qc (Qa 1) (Qc (Qa 2) Qg))) Qg)))) (Qf (Qs 3 (dList (Qc (Qa 1) Qg))) (Qf (Qa1 (QaJ (Qw 1 QZ [] (Qc (Qa 0) Qg)) (Qa 2)) (.tp [4, 5]) (Qf (Qs 3 (QX (QaJ (Qa 3) (Qa 4)) (.tp [1, 2]) [none, none, none, some 5] Q8 (QH (Qa 1) (Qao (Qa 3) (Qa 2))))) Qn)) (Qf (QM (Qa 3)) Qn))))
theorem QdG {fa : DE} {r : R} {ρ : En} {Q : Out -> Prop} (h : fa ρ = some r) (q : Q (.nx ρ)) : Run (Qdk fa) ρ Q := ⟨_, by simp [Qdk, h], q⟩
theorem QiU {m : Nat} (f g : Nat -> D) : Qdf ((List.range m).map f) ((List.range m).map g) = (List.range m).map λ i => .tup [f i, g i] := by
 generalize List.range m = l
 induction l with
 | nil => rfl
 | cons n ns ih => unfold Qdf at ih ⊢; simp only [Zn, List.zip_cons_cons, ih]
theorem Qbf {ρ : En} {m : Nat} {f : Nat -> Int} {fs : DA} {rs : RA} (h : fs ρ = some rs) (e : rs.ds = [Qb m f]) : dList fs ρ = some ⟨Qb m f, true, []⟩ := by
 unfold dList
 rw [h, Za, e]
 simp [Qb, Qa2]
theorem Qcg {fa fb : DE} {ρ : En} {ra rb : R} {m : Nat} {f g : Nat -> D} (ha : fa ρ = some ra) (ea : ra.d = .lst ((List.range m).map f)) (hb : fb ρ = some rb) (eb : rb.d = .lst ((List.range m).map g)) : QaJ fa fb ρ = some ⟨(List.range m).map λ i => .tup [f i, g i], ra.M ++ rb.M⟩ := by
 unfold QaJ
 rw [ha, Za, hb, Za, ea, eb]
 simp only [QiU]
theorem Qut (i j : Nat) (s : Int × Int) : (hit i j s).natAbs <= 1 := by unfold hit; split <;> split <;> decide
theorem Qfc (i j : Nat) : ∀ S : List (Int × Int), ((S.map (hit i j)).sum).natAbs <= S.length
 | [] => by simp
 | s :: S => by
  have := Qfc i j S
  have := Qut i j s
  rw [Zn, ZM, ZI]
  omega
def QgY (d : Den) : Prop := ∀ (m : Nat) (R L : List (Int × Int)) (f c : Nat -> Int), m <= 1000 -> R.length + R.length + L.length <= 1000000 -> (∀ s ∈ R, Good m s) -> (∀ s ∈ L, Good m s) -> d [Qj m R L, Qb m f, Qb m c] = some (Qb m (Qh m (Qe m (Qd R L)) f c), true)
theorem QsJ {dn dt : Den} (hn : Qfd dn) (ht : Qek dt) : QgY (Qo 6 (QnN dn dt)) := λ m R L f c hm hl hR hL => by
 have gS := Qa9 hR hL
 have tb : ∀ i j, i < m -> j < m -> (Qe m (Qd R L) i j).natAbs < 2 ^ 64 := λ i j hi hj => by
  rw [Qa0 hi hj λ s hs => ⟨(gS s hs).1, (gS s hs).2.1⟩]
  have := Qfc i j (Qd R L)
  have : (Qd R L).length <= 1000000 := by unfold Qd; simp; omega
  omega
 refine Q7 ?_
 refine run_seq (QdG (Qt (r := ⟨[Qj m R L, .lst [Qb m f, Qb m c]], false, []⟩) rfl (hn m R L [f, c]) rfl) ?_)
 refine run_seq (Qi (Qbf (m := m) (f := f) (rs := ⟨[Qb m f], false, []⟩) rfl rfl) ?_)
 rw [Ql]
 refine Qai (P := λ ρ => ∃ j4 j5, ρ = [some (Qj m R L, false), some (Qb m f, false), some (Qb m c, false), some (Qb m (Qh m (Qe m (Qd R L)) f c), true), j4, j5]) ?_ ?_
 ·refine Qag (toD := λ (i : Nat) => .tup [Qb m (Qe m (Qd R L) i), .int (c i)]) (List.range m) (λ k ρ => ∃ j4 j5, ρ = [some (Qj m R L, false), some (Qb m f, false), some (Qb m c, false), some (Qb m (λ j => f j + Qu k λ i => c i * Qe m (Qd R L) i j), true), j4, j5]) (Qcg (Qt (r := ⟨[Qj m R L], false, []⟩) rfl (ht m R L hm hl hR hL) rfl) rfl (rb := ⟨Qb m c, false, []⟩) rfl rfl) rfl ⟨none, none, ?_⟩ ?_ ?_
  ·show [some (Qj m R L, false), some (Qb m f, false), some (Qb m c, false), some (Qb m f, true), none, none] = _
   have : Qb m f = Qb m λ j => f j + Qu 0 λ i => c i * Qe m (Qd R L) i j := QcK λ i _ => by show f i = f i + 0; omega
   rw [← this]
  ·rintro k k' ρ hk ⟨j4, j5, rfl⟩
   have hk' : k < m /\ k = k' := by
    obtain ⟨h1, h2⟩ := Zf.mp hk
    simp at h1 h2; exact ⟨h1, h2⟩
   obtain ⟨hkm, rfl⟩ := hk'
   refine ⟨_, rfl, ?_⟩
   refine run_seq (Qi (r := ⟨Qb m (λ j => f j + Qu (k + 1) λ i => c i * Qe m (Qd R L) i j), true, []⟩) ?_ (Qp ⟨_, _, by rw [Ql]; rfl⟩))
   have e := QN (fi := QaJ (Qa 3) (Qa 4)) (t := .tp [1, 2]) (cap := [none, none, none, some 5]) (fe := QH (Qa 1) (Qao (Qa 3) (Qa 2))) (ρ := [some (Qj m R L, false), some (Qb m f, false), some (Qb m c, false), some (Qb m (λ j => f j + Qu k λ i => c i * Qe m (Qd R L) i j), true), some (Qb m (Qe m (Qd R L) k), false), some (.int (c k), true)])
    (toD := λ (j : Nat) => .tup [.int (f j + Qu k λ i => c i * Qe m (Qd R L) i j), .int (Qe m (Qd R L) k j)]) (out := λ (j : Nat) => .int (f j + (Qu k λ i => c i * Qe m (Qd R L) i j) + c k * Qe m (Qd R L) k j)) (List.range m) (Qcg (ra := ⟨Qb m (λ j => f j + Qu k λ i => c i * Qe m (Qd R L) i j), true, [3]⟩) (rb := ⟨Qb m (Qe m (Qd R L) k), false, []⟩) rfl rfl rfl rfl) rfl λ j hj => by
     have hj := Zh.mp hj
     exact ⟨[none, some (.int (f j + Qu k λ i => c i * Qe m (Qd R L) i j), true), some (.int (Qe m (Qd R L) k j), true), some (.int (c k), true)], rfl, _, QQ (a := f j + Qu k λ i => c i * Qe m (Qd R L) i j) rfl rfl (QaN (a := c k) (b := Qe m (Qd R L) k j) rfl rfl rfl rfl (Qd8 (tb k j hkm hj))) rfl, rfl, rfl⟩
   refine e.trans ?_
   congr 2
   show D.lst _ = D.lst _
   congr 1
   refine Zs λ j _ => ?_
   show _ = D.int (f j + Qu (k + 1) λ i => c i * Qe m (Qd R L) i j)
   rw [Qab, Zci]
  ·rintro ρ ⟨j4, j5, rfl⟩
   rw [ZG]
   exact ⟨j4, j5, rfl⟩
 rintro ρ ⟨j4, j5, rfl⟩
 exact QE (r := ⟨Qb m (Qh m (Qe m (Qd R L)) f c), true, [3]⟩) rfl ⟨rfl, rfl⟩
theorem Qhj {fa fl fh : DE} {ρ : En} {ra rl rh : R} {cs : List Int} {a b : Nat} (ha : fa ρ = some ra) (ea : ra.d = Qm cs) (hl : fl ρ = some rl) (el : rl.d = .int a) (hh : fh ρ = some rh) (eh : rh.d = .int b) : Qcs fa (QaK fl) (QaK fh) ρ = some ⟨Qm ((cs.drop (min a cs.length)).take (min b cs.length - min a cs.length)), true, []⟩ := by
 unfold Qcs QaK
 simp only [ha, hl, hh, Za, ea, el, eh, Qm, cutD, Zi, HT.Qjp, ← Zch, ← ZbK, Qa2, Qf1, if_true]
theorem Qnw {cs : List Int} {a b : Nat} {c : Int} (h : c ∈ (cs.drop a).take b) : c ∈ cs := List.mem_of_mem_drop (List.mem_of_mem_take h)
structure Qan (m : Nat) (R L : List (Int × Int)) : Prop where
 ex : ∃ W, Esc m W /\ (∀ w ∈ W, GoodW m w) /\ W.length <= 200 /\ R = Qdw W /\ L = Qei W
theorem Qan.good {m : Nat} {R L : List (Int × Int)} (h : Qan m R L) : (∀ s ∈ R, Good m s) /\ (∀ s ∈ L, Good m s) /\ R.length <= 200 /\ L.length <= 200 /\ (∀ s ∈ R, s.1 < s.2) /\ ∀ s ∈ L, s.1 < m := by
 obtain ⟨W, _, h2, h3, rfl, rfl⟩ := h.ex
 exact ⟨λ s hs => (Qik h2 s hs).1, λ s hs => (Qi3 h2 s hs).1, ZF (Qqe W) h3, ZF (Qpp W) h3, λ s hs => (Qik h2 s hs).2, λ s hs => (Qi3 h2 s hs).2⟩
theorem Qgq {α : Type} (m : Nat) (g : Nat -> α -> Int) : ∀ S : List α, Qu m (λ j => (S.map (g j)).sum) = (S.map λ s => Qu m λ j => g j s).sum
 | [] => by simp [Q4]
 | s :: S => by
  simp only [Zn, ZM]
  rw [Qal, Qgq m g S]
theorem Qjt {α : Type} (c : Int) (f : α -> Int) : ∀ S : List α, c * (S.map f).sum = (S.map λ s => c * f s).sum
 | [] => by simp
 | s :: S => by simp only [Zn, ZM, ZaZ, Qjt c f S]
theorem Qsl {m : Nat} {T : Nat -> Nat -> Int} {f : Nat -> Int} : Qb m (Qh m T f λ _ => 0) = Qb m f := QcK λ j _ => by
 unfold Qh
 rw [QC (g := λ _ => 0) λ i _ => by simp, Q4]; omega
theorem QnM {fa fb : DE} {ρ : En} {ra rb : R} {d : D} (ha : fa ρ = some ra) (ea : ra.d = d) (hb : fb ρ = some rb) (eb : rb.d = d) (hs : d.sim 8 = true) : dOp gEq fa fb ρ = some ⟨.bl true, true, []⟩ := by
 refine Qae ha hb ?_
 rw [ea, eb]
 unfold gEq
 rw [hs, QlO hs]; rfl
structure TP (m : Nat) (T : Nat -> Nat -> Int) : Prop where
 neg : ∀ p, p < m -> T p p < 0
 pos : ∀ i j, i < m -> j < m -> i ≠ j -> 0 <= T i j
 bnd : ∀ i j, i < m -> j < m -> (T i j).natAbs < 2 ^ 64
 wt : ∃ w : Nat -> Int, (∀ j, 0 <= w j) /\ ∀ i, i < m -> Qu m (λ j => T i j * w j) <= -1
inductive Leg (m : Nat) (T : Nat -> Nat -> Int) (f : Nat -> Int) : (Nat -> Int) -> Prop where
 | nil : Leg m T f λ _ => 0
 | step {c : Nat -> Int} {p : Nat} {t : Int} : Leg m T f c -> p < m -> 0 <= t -> t * (0 - T p p) <= Qh m T f c p -> Leg m T f (up c p (c p + t))
def Stb (m : Nat) (T : Nat -> Nat -> Int) (g : Nat -> Int) : Prop := ∀ p, p < m -> g p < 0 - T p p
theorem QjN {m p : Nat} {T : Nat -> Nat -> Int} {f c : Nat -> Int} {v : Int} (hp : p < m) (j : Nat) : Qh m T f (up c p (c p + v)) j = Qh m T f c j + v * T p j := by
 unfold Qh
 have e2 : (λ i => up c p (c p + v) i * T i j) = λ i => c i * T i j + (if i = p then v else 0) * T i j := by
  funext i
  unfold up
  by_cases h : i = p
  ·subst h; simp only [if_true]; rw [ZZ]
  ·simp [h]
 rw [e2, Qal, QaA hp]
 omega
theorem Leg.nonneg {m : Nat} {T : Nat -> Nat -> Int} {f c : Nat -> Int} (h : Leg m T f c) : ∀ i, 0 <= c i := by
 induction h with
 | nil => intro i; exact Zah _
 | step _ _ ht _ ih =>
  intro i
  unfold up
  split
  ·have := ih ‹Nat›; rename_i p _ _ _ _ _; have := ih p; omega
  ·exact ih i
theorem Qbp {m : Nat} {f g : Nat -> Int} (h : ∀ i, i < m -> f i <= g i) : Qu m f <= Qu m g := by
 induction m with
 | zero => exact Zah _
 | succ m ih =>
  rw [Qab, Qab]
  have := ih λ i hi => h i (by omega)
  have := h m (by omega)
  omega
theorem Leg.least {m : Nat} {T : Nat -> Nat -> Int} (tp : TP m T) {f c : Nat -> Int} (h : Leg m T f c) {c' : Nat -> Int} (h0 : ∀ i, i < m -> 0 <= c' i) (hs : Stb m T (Qh m T f c')) : ∀ i, i < m -> c i <= c' i := by
 induction h with
 | nil => exact h0
 | @step c p t _ hp ht hle ih =>
  intro i hi
  unfold up
  split
  ·rename_i e
   subst e
   have key : Qh m T f c i + (c' i - c i) * T i i <= Qh m T f c' i := by
    unfold Qh
    have e1 : Qu m (λ k => c k * T k i) + (c' i - c i) * T i i = Qu m (λ k => c k * T k i + (if k = i then c' i - c i else 0) * T k i) := by rw [Qal, QaA hi]
    have e2 : Qu m (λ k => c k * T k i + (if k = i then c' i - c i else 0) * T k i) <= Qu m (λ k => c' k * T k i) := by
     refine Qbp λ k hk => ?_
     by_cases hki : k = i
     ·subst hki; rw [if_pos rfl, ← ZZ]; rw [show c k + (c' k - c k) = c' k by omega]; exact Zah _
     ·rw [if_neg hki, ZQ, ZaG]
      exact Zab (ih k hk) (tp.pos k i hk hi hki)
    omega
   have h1 := hs i hi
   have h2 := tp.neg i hi
   by_cases hlt : c i + t <= c' i
   ·exact hlt
   ·exfalso
    have h3 : (c' i - c i + 1) <= t := by omega
    have h4 : (c' i - c i + 1) * (0 - T i i) <= t * (0 - T i i) := Zab h3 (by omega)
    have h5 : (c' i - c i + 1) * (0 - T i i) = (0 - T i i) - (c' i - c i) * T i i := by rw [ZZ, Zar, Int.mul_sub, Zat]; omega
    omega
  ·exact ih i hi
theorem Qnt {m : Nat} {T : Nat -> Nat -> Int} {f c b : Nat -> Int} (j : Nat) : Qh m T (λ i => 2 * f i + b i) (λ i => 2 * c i) j = 2 * Qh m T f c j + b j := by
 unfold Qh
 have e : (λ i => 2 * c i * T i j) = λ i => 2 * (c i * T i j) := by funext i; rw [Zas]
 rw [e, Qc1]; show 2 * f j + b j + 2 * _ = 2 * (f j + _) + b j; omega
theorem QaH {m : Nat} {T : Nat -> Nat -> Int} {f g c d : Nat -> Int} (j : Nat) (h1 : f j = g j) (h2 : ∀ i, i < m -> c i = d i) : Qh m T f c j = Qh m T g d j := by
 unfold Qh
 rw [h1, QC λ i hi => by rw [h2 i hi]]
theorem Leg.Qv0 {m : Nat} {T : Nat -> Nat -> Int} {f c : Nat -> Int} (h : Leg m T f c) (b : Nat -> Int) (hb : ∀ i, 0 <= b i) : ∃ d, Leg m T (λ i => 2 * f i + b i) d /\ ∀ i, d i = 2 * c i := by
 induction h with
 | nil => exact ⟨_, .nil, λ i => by simp⟩
 | @step c p t _ hp ht hle ih =>
  obtain ⟨d, hd, e⟩ := ih
  have ed : d = λ i => 2 * c i := funext e
  subst ed
  refine ⟨_, .step (p := p) (t := 2 * t) hd hp (by omega) ?_, λ i => ?_⟩
  ·rw [Qnt]
   have := hb p
   have e2 : 2 * t * (0 - T p p) = 2 * (t * (0 - T p p)) := by rw [Zas]
   omega
  ·show up (λ i => 2 * c i) p (2 * c p + 2 * t) i = 2 * up c p (c p + t) i
   unfold up
   split
   ·omega
   ·rfl
theorem Leg.cast {m : Nat} {T : Nat -> Nat -> Int} {f c d : Nat -> Int} (h : Leg m T f c) (e : ∀ i, c i = d i) : Leg m T f d := by
 have : c = d := funext e
 rw [← this]; exact h
theorem Leg.Qoo {m : Nat} {T : Nat -> Nat -> Int} {f g c : Nat -> Int} (h : Leg m T f c) (e : ∀ i, i < m -> f i = g i) : Leg m T g c := by
 induction h with
 | nil => exact .nil
 | @step c p t _ hp ht hle ih => exact .step ih hp ht (by rw [← QaH (f := f) (g := g) p (e p hp) (λ _ _ => rfl)]; exact hle)
noncomputable def wtF (m : Nat) (w g : Nat -> Int) : Int := Qu m λ j => g j * w j
theorem QwM {m : Nat} {T : Nat -> Nat -> Int} {w : Nat -> Int} (hw : ∀ i, i < m -> Qu m (λ j => T i j * w j) <= -1) {f c : Nat -> Int} {p : Nat} {t : Int} (hp : p < m) (ht : 0 <= t) : wtF m w (Qh m T f (up c p (c p + t))) <= wtF m w (Qh m T f c) - t := by
 unfold wtF
 have e : (λ j => Qh m T f (up c p (c p + t)) j * w j) = λ j => Qh m T f c j * w j + t * (T p j * w j) := by
  funext j; rw [QjN hp, ZZ, Zas]
 rw [e, Qal, Qc1]
 have h1 : t * Qu m (λ j => T p j * w j) <= t * (-1) := ZX (hw p hp) ht
 omega
theorem Qqv {m : Nat} {w g : Nat -> Int} (hw : ∀ j, 0 <= w j) (hg : ∀ j, j < m -> 0 <= g j) : 0 <= wtF m w g := by
 have := Qbp (m := m) (f := λ _ => 0) (g := λ j => g j * w j) λ i hi => ZaD (hg i hi) (hw i)
 rw [Q4] at this
 exact this
theorem QgX {g : DT} {fb : DS} {Q : Out -> Prop} (I : Nat -> En -> Prop) (step : ∀ n ρ, I n ρ -> ∃ b, g ρ = some b /\ (b = false -> Q (.nx ρ)) /\ (b = true -> Run fb ρ λ o => match o with | .nx ρ2 => ∃ n', n' < n /\ I n' ρ2 | .ct ρ2 => ∃ n', n' < n /\ I n' ρ2 | .bk ρ2 => Q (.nx ρ2) | .rt d fr => Q (.rt d fr))) :
  ∀ (n : Nat) (ρ : En), I n ρ -> Run (Qb3 g fb) ρ Q := by
 intro n
 induction n using Nat.strongRecOn with
 | _ n ih =>
  intro ρ h
  obtain ⟨b, hb, hf, ht⟩ := step n ρ h
  unfold Run
  rw [QpL, hb, Za]
  cases b with
  | false => exact ⟨_, by simp, hf rfl⟩
  | true =>
   obtain ⟨o, ho, hq⟩ := ht rfl
   rw [if_pos rfl, ho, Za]
   cases o with
   | nx ρ2 => obtain ⟨n', hn, hI⟩ := hq; exact ih n' hn ρ2 hI
   | ct ρ2 => obtain ⟨n', hn, hI⟩ := hq; exact ih n' hn ρ2 hI
   | bk ρ2 => exact ⟨_, rfl, hq⟩
   | rt d fr => exact ⟨_, rfl, hq⟩
theorem QtO {fa fb : DE} {ρ : En} {ra rb : R} {a b : Int} (ha : fa ρ = some ra) (ea : ra.d = .int a) (hb : fb ρ = some rb) (eb : rb.d = .int b) (h : 0 < b) (h2 : b < 2 ^ 200) : dOp Qdh fa fb ρ = some ⟨.int (a / b), true, []⟩ := by
 refine Qae ha hb ?_
 rw [ea, eb]
 show (if Qa7 b = true then some (D.int (Qcp a b)) else none) = _
 rw [if_pos (Qkn h h2), QfD _ _ (by omega)]
theorem Qas {fa fb : DE} {ρ : En} {ra rb : R} {m : Nat} {f : Nat -> Int} {i : Nat} (ha : fa ρ = some ra) (ea : ra.d = Qb m f) (hb : fb ρ = some rb) (eb : rb.d = .int i) (h : i < m) : Qk fa fb ρ = some ⟨.int (f i), true, []⟩ := by
 have := QcL ha ea hb eb (by omega) (by omega)
 rw [ZY] at this
 exact this
noncomputable def QgF : DS := (Qf (Qs 3 (dList (Qc (Qa 1) Qg))) (Qf (Qs 4 (dList (Qc (Qa 2) Qg))) (Qf (Qs 5 (dC (.bl true))) (Qf (Qb3 (QG (Qa 5)) (Qf (Qs 5 (dC (.bl false))) (Qf (Qa1 (Qem (Qa 0)) (.tp [6, 7]) (Qf (Qs 8 (dOp Qdh (Qk (Qa 3) (Qa 6)) (dOp Qat (dC (.int 0)) (Qk (Qa 7) (Qa 6))))) (Qf (sIf (QG (dOp gGt (Qa 8) (dC (.int 0)))) (Qf (Qs 5 (dC (.bl true))) (Qf (Qdg (gI λ i j => some (.int (i + j))) 4 Q1 (Qa 6) (Qa 8)) (Qf (Qs 3 (QX (QaJ (Qa 3) (Qa 7)) (.tp [1, 2]) [none, none, none, some 8] Q8 (QH (Qa 1) (Qao (Qa 3) (Qa 2))))) Qn))) Qn) Qn))) Qn))) (Qf (QM (Qaz (Qc (Qa 3) (Qc (Qa 4) Qg)))) Qn)))))
def Qga (d : Den) : Prop := ∀ (m : Nat) (T : Nat -> Nat -> Int) (f k : Nat -> Int), m <= 1000 -> TP m T -> Leg m T f k -> (∀ j, j < m -> 0 <= Qh m T f k j) -> ∃ k', d [Qz m m T, Qb m (Qh m T f k), Qb m k] = some (.tup [Qb m (Qh m T f k'), Qb m k'], true) /\ Leg m T f k' /\ (∀ j, j < m -> 0 <= Qh m T f k' j) /\ Stb m T (Qh m T f k')
theorem QoK {h s : Int} (hs : 0 < s) (ht : ¬ 0 < h / s) (h0 : 0 <= h) : h < s := by
 have := ZaN h0 (by omega : 0 <= s)
 have e : h / s = 0 := by omega
 have := Zq h hs
 have := Zbp h s
 rw [e] at this; omega
theorem Qot {h s : Int} (hs : 0 < s) : h / s * s <= h := Int.ediv_mul_le h (by omega)
theorem QoC : Qga (Qo 9 QgF) := λ m T f k hm tp hk hpos => by
 obtain ⟨w, hw0, hw⟩ := tp.wt
 have key : Run QgF (Qax 9 [Qz m m T, Qb m (Qh m T f k), Qb m k]) (Rt λ d fr => ∃ k', d = .tup [Qb m (Qh m T f k'), Qb m k'] /\ fr = true /\ Leg m T f k' /\ (∀ j, j < m -> 0 <= Qh m T f k' j) /\ Stb m T (Qh m T f k')) := by
  refine run_seq (Qi (Qbf (m := m) (f := Qh m T f k) (rs := ⟨[Qb m (Qh m T f k)], false, []⟩) rfl rfl) ?_)
  rw [Ql]
  refine run_seq (Qi (Qbf (m := m) (f := k) (rs := ⟨[Qb m k], false, []⟩) rfl rfl) ?_)
  rw [Ql]
  refine run_seq (Qi (r := ⟨.bl true, true, []⟩) rfl ?_)
  rw [Ql]
  refine run_seq (Run.mono (Q := Nx λ ρ => ∃ k' j5 j6 j7 j8, Leg m T f k' /\ (∀ j, j < m -> 0 <= Qh m T f k' j) /\ Stb m T (Qh m T f k') /\ ρ = [some (Qz m m T, false), some (Qb m (Qh m T f k), false), some (Qb m k, false), some (Qb m (Qh m T f k'), true), some (Qb m k', true), j5, j6, j7, j8]) ?_ ?_)
  ·refine QgX (λ n ρ => ∃ k' bz j6 j7 j8, Leg m T f k' /\ (∀ j, j < m -> 0 <= Qh m T f k' j) /\ (bz = false -> Stb m T (Qh m T f k')) /\ n = (wtF m w (Qh m T f k')).toNat + (if bz = true then 1 else 0) /\ ρ = [some (Qz m m T, false), some (Qb m (Qh m T f k), false), some (Qb m k, false), some (Qb m (Qh m T f k'), true), some (Qb m k', true), some (.bl bz, true), j6, j7, j8]) ?_ _ _ ⟨k, true, none, none, none, hk, hpos, λ h => by (cases h), rfl, rfl⟩
   rintro n ρ ⟨k', bz, j6, j7, j8, hL, hP, hS, rfl, rfl⟩
   refine ⟨bz, QB (b := bz) rfl rfl, λ h => ⟨k', _, _, _, _, hL, hP, hS h, rfl⟩, λ hb => ?_⟩
   subst hb
   refine run_seq (Qi (r := ⟨.bl false, true, []⟩) rfl ?_)
   rw [Ql]
   refine QT (Run.mono (Q := Nx λ ρ => ∃ k2 b2 j6 j7 j8, Leg m T f k2 /\ (∀ j, j < m -> 0 <= Qh m T f k2 j) /\ (b2 = false -> Stb m T (Qh m T f k2)) /\ (wtF m w (Qh m T f k2) + (if b2 = true then 1 else 0) <= wtF m w (Qh m T f k')) /\ ρ = [some (Qz m m T, false), some (Qb m (Qh m T f k), false), some (Qb m k, false), some (Qb m (Qh m T f k2), true), some (Qb m k2, true), some (.bl b2, true), j6, j7, j8]) ?_ ?_)
   ·refine Qag (toD := λ (p : Nat) => .tup [.int p, Qb m (T p)]) (List.range m) (λ i ρ => ∃ k2 b2 j6 j7 j8, Leg m T f k2 /\ (∀ j, j < m -> 0 <= Qh m T f k2 j) /\ (b2 = false -> ∀ p, p < i -> Qh m T f k2 p < 0 - T p p) /\ (wtF m w (Qh m T f k2) + (if b2 = true then 1 else 0) <= wtF m w (Qh m T f k')) /\ ρ = [some (Qz m m T, false), some (Qb m (Qh m T f k), false), some (Qb m k, false), some (Qb m (Qh m T f k2), true), some (Qb m k2, true), some (.bl b2, true), j6, j7, j8]) (ir := ⟨Qdp ((List.range m).map λ i => Qb m (T i)), []⟩) rfl (QfQ (α := Nat) m _) ⟨k', false, _, _, _, hL, hP, λ _ p hp => absurd hp (by omega), by simp, rfl⟩ ?_ ?_
    ·rintro i p ρ hi ⟨k2, b2, j6, j7, j8, hL2, hP2, hS2, hW2, rfl⟩
     have hp' : i < m /\ i = p := by
      obtain ⟨h1, h2⟩ := Zf.mp hi
      simp at h1 h2; exact ⟨h1, h2⟩
     obtain ⟨him, rfl⟩ := hp'
     have hneg := tp.neg i him
     have hb := tp.bnd i i him him
     have h0 := hP2 i him
     refine ⟨_, rfl, ?_⟩
     refine run_seq (Qi (QtO (a := Qh m T f k2 i) (b := 0 - T i i) (Qas (m := m) (f := Qh m T f k2) (i := i) (ra := ⟨Qb m (Qh m T f k2), true, [3]⟩) rfl rfl rfl rfl him) rfl (Qae (ra := ⟨.int 0, true, []⟩) (rb := ⟨.int (T i i), true, []⟩) rfl (Qas (m := m) (f := T i) (i := i) (ra := ⟨Qb m (T i), false, []⟩) rfl rfl rfl rfl him) rfl) rfl (by omega) (by omega)) ?_)
     rw [Ql]
     generalize et : Qh m T f k2 i / (0 - T i i) = t
     have t0 : 0 <= t := by rw [← et]; exact ZaN h0 (by omega)
     refine QT (Q0 (b := decide (0 < t)) (QB (b := decide (0 < t)) rfl rfl) (λ h => ?_) (λ h => ?_))
     ·have h := of_decide_eq_true h
      have hle : t * (0 - T i i) <= Qh m T f k2 i := by rw [← et]; exact Qot (by omega)
      refine run_seq (Qi (r := ⟨.bl true, true, []⟩) rfl ?_)
      rw [Ql]
      refine run_seq (QsA (m := m) (f := k2) (i := i) (w := k2 (i : Int).toNat + t) rfl rfl rfl rfl (by omega) (by omega) rfl ?_)
      rw [ZY]
      refine run_seq (Qi (r := ⟨Qb m (Qh m T f (up k2 i (k2 i + t))), true, []⟩) ?_ (Qp (Qp ?_)))
      ·have e := QN (fi := QaJ (Qa 3) (Qa 7)) (t := .tp [1, 2]) (cap := [none, none, none, some 8]) (fe := QH (Qa 1) (Qao (Qa 3) (Qa 2))) (ρ := [some (Qz m m T, false), some (Qb m (Qh m T f k), false), some (Qb m k, false), some (Qb m (Qh m T f k2), true), some (Qb m (up k2 i (k2 i + t)), true), some (.bl true, true), some (.int i, true), some (Qb m (T i), false), some (.int t, true)])
        (toD := λ (j : Nat) => .tup [.int (Qh m T f k2 j), .int (T i j)]) (out := λ (j : Nat) => .int (Qh m T f k2 j + t * T i j)) (List.range m) (Qcg (ra := ⟨Qb m (Qh m T f k2), true, [3]⟩) (rb := ⟨Qb m (T i), false, []⟩) rfl rfl rfl rfl) rfl λ j hj => by
         have hj := Zh.mp hj
         exact ⟨[none, some (.int (Qh m T f k2 j), true), some (.int (T i j), true), some (.int t, true)], rfl, _, QQ (a := Qh m T f k2 j) rfl rfl (QaN (a := t) (b := T i j) rfl rfl rfl rfl (Qd8 (tp.bnd i j him hj))) rfl, rfl, rfl⟩
       refine e.trans ?_
       congr 2
       show D.lst _ = D.lst _
       congr 1
       refine Zs λ j _ => ?_
       rw [QjN him]
      ·rw [Ql]
       have hup := QwM (w := w) hw (f := f) (c := k2) him t0
       refine ⟨up k2 i (k2 i + t), true, _, _, _, .step hL2 him t0 hle, λ j hj => ?_, λ z => (by cases z), ?_, rfl⟩
       ·rw [QjN him]
        by_cases hji : j = i
        ·subst hji
         have : t * T j j = - (t * (0 - T j j)) := by rw [Zba, ZaQ, Int.neg_neg]
         omega
        ·have := hP2 j hj
         have := ZaD t0 (tp.pos i j him hj (λ z => hji z.symm))
         omega
       ·rw [if_pos rfl]
        have : (0 : Int) <= if b2 = true then 1 else 0 := by split <;> omega
        omega
     ·have h := of_decide_eq_false h
      refine Qp (Qp ⟨k2, b2, _, _, _, hL2, hP2, λ hb2 p hp => ?_, hW2, rfl⟩)
      by_cases hpi : p = i
      ·subst hpi; exact QoK (by omega) (by rw [et]; exact h) h0
      ·exact hS2 hb2 p (by omega)
    ·rintro ρ ⟨k2, b2, j6, j7, j8, hL2, hP2, hS2, hW2, rfl⟩
     rw [ZG] at hS2
     exact ⟨k2, b2, _, _, _, hL2, hP2, hS2, hW2, rfl⟩
   ·intro o ho
    cases o with
    | nx ρ =>
     obtain ⟨k2, b2, j6, j7, j8, hL2, hP2, hS2, hW2, rfl⟩ := ho
     refine Qp ⟨_, ?_, k2, b2, _, _, _, hL2, hP2, hS2, rfl, rfl⟩
     have n1 := Qqv (m := m) hw0 hP2
     rw [if_pos rfl]
     cases b2 <;> simp at hW2 ⊢ <;> omega
    | _ => exact ho.elim
  ·intro o ho
   cases o with
   | nx ρ =>
    obtain ⟨k', j5, j6, j7, j8, hL, hP, hS, rfl⟩ := ho
    exact QE (r := ⟨.tup [Qb m (Qh m T f k'), Qb m k'], true, [3, 4]⟩) rfl ⟨k', rfl, rfl, hL, hP, hS⟩
   | _ => exact ho.elim
 obtain ⟨o, h1, h2⟩ := key
 cases o with
 | rt d fr =>
  obtain ⟨k', rfl, rfl, h3, h4, h5⟩ := h2
  exact ⟨k', by unfold Qo; rw [h1]; rfl, h3, h4, h5⟩
 | _ => exact h2.elim
def Qlq (m : Nat) (S : List (Int × Int)) : Prop := ∀ A : Nat -> Prop, (∃ p, p < m /\ A p) -> ∃ s ∈ S, s.1 < m /\ A s.1.toNat /\ (s.2 = m ∨ ¬ A s.2.toNat)
theorem Qj6 {m : Nat} {W : List (Int × Int × Bool)} (h : Esc m W) : Qlq m (Qd (Qdw W) (Qei W)) := λ A hA => by
 obtain ⟨w, hw, h1, h2, h3⟩ := h A hA
 refine ⟨(w.1, w.2.1), ?_, h1, h2, h3⟩
 unfold Qd
 cases e : w.2.2 with
 | true => exact Ze _ (ZN.mpr ⟨w, ZC.mpr ⟨hw, e⟩, rfl⟩)
 | false =>
  have hr : Qb1 w ∈ Qdw W := ZN.mpr ⟨w, ZC.mpr ⟨hw, by simp [e]⟩, rfl⟩
  by_cases hlt : w.2.1 < w.1
  ·refine Zl _ (Ze _ (ZN.mpr ⟨Qb1 w, hr, ?_⟩))
   unfold Qb1
   rw [if_pos hlt, if_neg (by omega)]; rfl
  ·refine Zl _ (Zl _ ?_)
   have : Qb1 w = (w.1, w.2.1) := by
    unfold Qb1
    rw [if_neg hlt]
    by_cases hgt : w.2.1 > w.1
    ·rw [if_pos hgt]
    ·rw [if_neg hgt]; rw [show w.2.1 = w.1 by omega]
   rw [← this]; exact hr
inductive Rk (m : Nat) (S : List (Int × Int)) : Nat -> Nat -> Prop where
 | pit {s : Int × Int} {n : Nat} : s ∈ S -> s.2 = m -> Rk m S (n + 1) s.1.toNat
 | step {s : Int × Int} {k n : Nat} : s ∈ S -> s.2 ≠ m -> Rk m S k s.2.toNat -> k < n -> Rk m S n s.1.toNat
theorem Qmy {P : Nat -> Prop} (h : ∃ n, P n) : ∃ n, P n /\ ∀ k, k < n -> ¬ P k := by
 obtain ⟨n, hn⟩ := h
 induction n using Nat.strongRecOn with
 | _ n ih =>
  by_cases h : ∃ k, k < n /\ P k
  ·obtain ⟨k, hk, h⟩ := h; exact ih k hk h
  ·exact ⟨n, hn, λ k hk hx => h ⟨k, hk, hx⟩⟩
theorem QwU {m : Nat} {S : List (Int × Int)} (he : Qlq m S) : ∀ p, p < m -> ∃ n, Rk m S n p := λ p hp => by
 by_cases h : ∃ n, Rk m S n p
 ·exact h
 ·exfalso
  obtain ⟨s, hs, h1, h2, h3⟩ := he (λ p => ¬ ∃ n, Rk m S n p) ⟨p, hp, h⟩
  by_cases e : s.2 = m
  ·exact h2 ⟨1, .pit hs e⟩
  ·rcases h3 with h3 | h3
   ·exact e h3
   ·have : ∃ n, Rk m S n s.2.toNat := ZH λ z => h3 z
    obtain ⟨k, hk⟩ := this
    exact h2 ⟨k + 1, .step hs e hk (by omega)⟩
theorem QtL {m : Nat} {S : List (Int × Int)} (hg : ∀ s ∈ S, Good m s) (he : Qlq m S) : ∃ r : Nat -> Nat, r m = 0 /\ ∀ p, p < m -> ∃ s ∈ S, s.1 = p /\ r s.2.toNat < r p := by
 have h : ∀ p, ∃ n, (p < m -> Rk m S n p /\ ∀ k, k < n -> ¬ Rk m S k p) /\ (p = m -> n = 0) := λ p => by
  by_cases hp : p < m
  ·obtain ⟨n, hn⟩ := Qmy (QwU he p hp)
   exact ⟨n, λ _ => hn, λ z => by omega⟩
  ·exact ⟨0, λ z => absurd z hp, λ _ => rfl⟩
 obtain ⟨r, hr⟩ := Classical.axiomOfChoice h
 refine ⟨r, (hr m).2 rfl, λ p hp => ?_⟩
 have h1 := ((hr p).1 hp).1
 generalize r p = n at h1
 cases h1 with
 | @pit s n hs e =>
  obtain ⟨g1, g2, g3, g4, g5⟩ := hg s hs
  exact ⟨s, hs, by omega, by rw [e, ZY, (hr m).2 rfl]; omega⟩
 | @step s k n hs e hk hkn =>
  obtain ⟨g1, g2, g3, g4, g5⟩ := hg s hs
  refine ⟨s, hs, by omega, ?_⟩
  have hl : s.2.toNat < m := by omega
  have := ((hr s.2.toNat).1 hl).2 k
  have : ¬ k < r s.2.toNat := λ z => this z hk
  omega
theorem Qk4 (r : Nat -> Nat) : ∀ m : Nat, ∃ N, ∀ p, p <= m -> r p <= N
 | 0 => ⟨r 0, λ p hp => by rw [show p = 0 by omega]; exact Zm _⟩
 | m + 1 => by
  obtain ⟨N, hN⟩ := Qk4 r m
  refine ⟨N + r (m + 1), λ p hp => ?_⟩
  by_cases e : p = m + 1
  ·subst e; omega
  ·have := hN p (by omega); omega
theorem QpK {m : Nat} {i : Nat} {s : Int × Int} (hi : i < m) (g : Good m s) (w : Nat -> Int) (hw : w m = 0) : Qu m (λ j => hit i j s * w j) = if s.1 = i then w s.2.toNat - w i else 0 := by
 obtain ⟨g1, g2, g3, g4, g5⟩ := g
 by_cases h : s.1 = i
 ·rw [if_pos h]
  have e : Qu m (λ j => hit i j s * w j) = Qu m (λ j => (if j = s.2.toNat then 1 else 0) * w j + (if j = i then -1 else 0) * w j) := QC λ j _ => by
   have : hit i j s = (if j = s.2.toNat then 1 else 0) + (if j = i then -1 else 0) := by
    unfold hit
    by_cases a : s.2 = j
    ·by_cases b : i = j
     ·rw [if_pos ⟨h, a⟩, if_pos ⟨h, b⟩, if_pos (by omega), if_pos b.symm]; omega
     ·rw [if_pos ⟨h, a⟩, if_neg (λ z => b z.2), if_pos (by omega), if_neg (λ z => b z.symm)]; omega
    ·by_cases b : i = j
     ·rw [if_neg (λ z => a z.2), if_pos ⟨h, b⟩, if_neg (by omega), if_pos b.symm]; omega
     ·rw [if_neg (λ z => a z.2), if_neg (λ z => b z.2), if_neg (by omega), if_neg (λ z => b z.symm)]; omega
   rw [this, ZZ]
  rw [e, Qal, QaA hi]
  by_cases hm : s.2.toNat < m
  ·rw [QaA hm]; omega
  ·have e2 : Qu m (λ j => (if j = s.2.toNat then 1 else 0) * w j) = 0 := by
    rw [QC (g := λ _ => 0) λ j hj => by rw [if_neg (by omega), ZQ], Q4]
   rw [e2, show s.2.toNat = m by omega, hw]; omega
 ·rw [if_neg h]
  rw [QC (g := λ _ => 0) λ j hj => by
   unfold hit
   rw [if_neg (λ z => h z.1), if_neg (λ z => h z.1)]; rw [Int.sub_self, ZQ], Q4]
theorem Qii {α : Type} {g : α -> Int} {X : Int} : ∀ S : List α, (∀ s ∈ S, g s <= X) -> (S.map g).sum <= S.length * X
 | [], _ => by simp
 | a :: S, h => by
  have h1 := h a (by simp)
  have h2 := Qii S λ s hs => h s (by simp [hs])
  simp only [Zn, ZM, ZI, Zcd, ZZ]
  rw [show ((1 : Nat) : Int) * X = X by simp]
  omega
theorem Qix {α : Type} {g : α -> Int} {X Y : Int} : ∀ (S : List α), (∀ s ∈ S, g s <= X) -> (∃ s ∈ S, g s <= Y) -> (S.map g).sum <= S.length * X - X + Y
 | [], _, h => by obtain ⟨s, hs, _⟩ := h; exact absurd hs (by simp)
 | a :: S, h, h2 => by
  obtain ⟨s, hs, hy⟩ := h2
  have hb : ∀ s ∈ S, g s <= X := λ s hs => h s (by simp [hs])
  simp only [Zn, ZM, ZI, Zcd, ZZ]
  rw [show ((1 : Nat) : Int) * X = X by simp]
  rcases Zr.mp hs with e | hs
  ·subst e
   have := Qii S hb
   omega
  ·have := Qix S hb ⟨s, hs, hy⟩
   have := h a (by simp)
   omega
theorem Qd6 {α : Type} {g : α -> Int} : ∀ S : List α, (∀ s ∈ S, 0 <= g s) -> 0 <= (S.map g).sum
 | [], _ => by simp
 | a :: S, h => by
  have h1 := h a (by simp)
  have h2 := Qd6 S λ s hs => h s (by simp [hs])
  simp only [Zn, ZM]
  omega
theorem Qsz {m : Nat} {S : List (Int × Int)} (hg : ∀ s ∈ S, Good m s) (he : Qlq m S) (hl : S.length < 2 ^ 60) : TP m (Qe m S) := by
 have hn : ∀ s ∈ S, 0 <= s.1 /\ 0 <= s.2 := λ s hs => ⟨(hg s hs).1, (hg s hs).2.1⟩
 have pos : ∀ i j, i < m -> j < m -> i ≠ j -> 0 <= Qe m S i j := λ i j hi hj hij => by
  rw [Qa0 hi hj hn]
  refine Qd6 S λ s _ => ?_
  unfold hit
  rw [if_neg (λ z => hij z.2) (c := s.1 = i /\ i = j)]
  split <;> omega
 obtain ⟨r, r0, hr⟩ := QtL hg he
 obtain ⟨N, hN⟩ := Qk4 r m
 have M1 : 1 <= S.length + 1 := by omega
 have wt : ∃ w : Nat -> Int, (∀ j, 0 <= w j) /\ ∀ i, i < m -> Qu m (λ j => Qe m S i j * w j) <= -1 := by
  refine ⟨λ v => (((S.length + 1) ^ N : Nat) : Int) - (((S.length + 1) ^ (N - r v) : Nat) : Int), λ j => ?_, λ i hi => ?_⟩
  ·have := ZK M1 (Nat.sub_le N (r j))
   show (0 : Int) <= (((S.length + 1) ^ N : Nat) : Int) - (((S.length + 1) ^ (N - r j) : Nat) : Int)
   omega
  ·generalize hw : (λ v => (((S.length + 1) ^ N : Nat) : Int) - (((S.length + 1) ^ (N - r v) : Nat) : Int)) = w
   have hw' : ∀ v, w v = (((S.length + 1) ^ N : Nat) : Int) - (((S.length + 1) ^ (N - r v) : Nat) : Int) := λ v => by rw [← hw]
   have wm : w m = 0 := by rw [hw', r0, Nat.sub_zero]; omega
   have e : Qu m (λ j => Qe m S i j * w j) = (S.map λ s => if s.1 = (i : Int) then w s.2.toNat - w i else 0).sum := by
    rw [QC (g := λ j => (S.map λ s => hit i j s * w j).sum) λ j hj => by
     rw [Qa0 hi hj hn, Zau, Qjt]
     congr 1
     exact Zs λ s _ => Zau _ _]
    rw [Qgq m (λ j s => hit i j s * w j) S]
    congr 1
    exact Zs λ s hs => QpK hi (hg s hs) w wm
   rw [e]
   obtain ⟨s0, hs0, e0, hlt⟩ := hr i hi
   generalize hX : (((S.length + 1) ^ (N - r i) : Nat) : Int) = X
   have X1 : 1 <= X := by
    have : 0 < (S.length + 1) ^ (N - r i) := Nat.pow_pos (by omega)
    omega
   have key := Qix (g := λ s : Int × Int => if s.1 = i then w s.2.toNat - w i else 0) (X := X) (Y := X - (S.length + 1) * X) S (λ s _ => by
    show (if s.1 = i then w s.2.toNat - w i else 0) <= X
    split
    ·rw [hw', hw' i, hX]
     have : 0 <= (((S.length + 1) ^ (N - r s.2.toNat) : Nat) : Int) := Int.natCast_nonneg _
     omega
    ·omega) ⟨s0, hs0, by
    show (if s0.1 = i then w s0.2.toNat - w i else 0) <= _
    rw [if_pos e0, hw', hw' i, hX]
    have hb := hN i (by omega)
    have h1 : (S.length + 1) ^ (N - r i + 1) <= (S.length + 1) ^ (N - r s0.2.toNat) := ZK M1 (by omega)
    rw [Nat.pow_succ] at h1
    have h2 : ((((S.length + 1) ^ (N - r i) * (S.length + 1) : Nat)) : Int) <= (((S.length + 1) ^ (N - r s0.2.toNat) : Nat) : Int) := by exact_mod_cast h1
    rw [Int.natCast_mul, hX, Zau] at h2
    rw [show ((S.length + 1 : Nat) : Int) = (S.length : Int) + 1 by omega] at h2
    omega⟩
   have : ((S.length : Int) + 1) * X = S.length * X + X := by rw [ZZ, Zar]
   omega
 refine ⟨λ p hp => ?_, pos, λ i j hi hj => ?_, wt⟩
 ·obtain ⟨w, w0, hw⟩ := wt
  have h1 := hw p hp
  by_cases hneg : Qe m S p p < 0
  ·exact hneg
  ·exfalso
   have : 0 <= Qu m (λ j => Qe m S p j * w j) := by
    have := Qbp (m := m) (f := λ _ => 0) (g := λ j => Qe m S p j * w j) λ j hj => by
     by_cases e : p = j
     ·subst e; exact ZaD (by omega) (w0 _)
     ·exact ZaD (pos p j hp hj e) (w0 _)
    rw [Q4] at this
    exact this
   omega
 ·rw [Qa0 hi hj hn]
  have := Qfc i j S
  omega
theorem Qan.tp {m : Nat} {R L : List (Int × Int)} (h : Qan m R L) : TP m (Qe m (Qd R L)) := by
 have hg := h.good
 refine Qsz (Qa9 hg.1 hg.2.1) ?_ ?_
 ·obtain ⟨W, h1, _, _, rfl, rfl⟩ := h.ex
  exact Qj6 h1
 ·unfold Qd
  simp only [Zw, Zi]
  omega
theorem Qan.neg {m : Nat} {R L : List (Int × Int)} (h : Qan m R L) {i : Nat} (hi : i < m) : 0 - Qe m (Qd R L) i i = Qv R L i := by
 have hg := h.good
 have hs := Qa9 hg.1 hg.2.1
 rw [Qa0 hi hi (λ s z => ⟨(hs s z).1, (hs s z).2.1⟩), sum_neg _ _ (λ s z => (hs s z).2.2.2.2), Qj3]
 omega
theorem Qan.Qh6 {m : Nat} {R L : List (Int × Int)} (h : Qan m R L) {i : Nat} (hi : i < m) : 0 < Qv R L i := by
 have := h.neg hi
 have := h.tp.neg i hi
 omega
theorem QjY (m : Nat) (f : Nat -> Int) : Qb m f = .lst (((List.range m).map f).map D.int) := by
 unfold Qb; rw [ZR]; rfl
theorem QnE : ∀ {ns : List Int}, ns ≠ [] -> ∃ m, Qh5 ns = some m
 | [], h => absurd rfl h
 | [n], _ => ⟨n, rfl⟩
 | n :: k :: r, _ => by
  obtain ⟨m, hm⟩ := QnE (ns := k :: r) (by simp)
  exact ⟨if m < n then m else n, by simp only [Qh5, hm, ZL]⟩
theorem Qnq : ∀ {ns : List Int}, ns ≠ [] -> ∃ m, QhL ns = some m
 | [], h => absurd rfl h
 | [n], _ => ⟨n, rfl⟩
 | n :: k :: r, _ => by
  obtain ⟨m, hm⟩ := Qnq (ns := k :: r) (by simp)
  exact ⟨if n < m then m else n, by simp only [QhL, hm, ZL]⟩
theorem Qpl {m : Nat} (h : 0 < m) (f : Nat -> Int) : (List.range m).map f ≠ [] := by
 intro z
 have := congrArg List.length z
 simp at this
 omega
theorem QnO {m : Nat} (m0 : 0 < m) (f : Nat -> Int) : ∃ v, (∃ i, i < m /\ v = f i) /\ (∀ i, i < m -> v <= f i) /\ ∀ {fa : DE} {ρ : En} {r : R}, fa ρ = some r -> r.d = Qb m f -> dBf QfX (Qc fa Qg) ρ = some ⟨.int v, true, []⟩ := by
 obtain ⟨v, hv⟩ := QnE (Qpl m0 f)
 obtain ⟨h1, h2⟩ := Qhe hv
 refine ⟨v, ?_, λ i hi => h2 _ (ZN.mpr ⟨i, Zh.mpr hi, rfl⟩), λ {fa ρ r} h e => ?_⟩
 ·obtain ⟨i, hi, e⟩ := ZN.mp h1
  exact ⟨i, Zh.mp hi, e.symm⟩
 ·unfold dBf
  rw [Qr h (QS _), Za]
  simp only [e, QjY, QfX, Qfx, Za, hv, ZL]
theorem QnY {m : Nat} (m0 : 0 < m) (f : Nat -> Int) : ∃ v, (∃ i, i < m /\ v = f i) /\ (∀ i, i < m -> f i <= v) /\ ∀ {fa : DE} {ρ : En} {r : R}, fa ρ = some r -> r.d = Qb m f -> dBf Qf2 (Qc fa Qg) ρ = some ⟨.int v, true, []⟩ := by
 obtain ⟨v, hv⟩ := Qnq (Qpl m0 f)
 obtain ⟨h1, h2⟩ := Qhk hv
 refine ⟨v, ?_, λ i hi => h2 _ (ZN.mpr ⟨i, Zh.mpr hi, rfl⟩), λ {fa ρ r} h e => ?_⟩
 ·obtain ⟨i, hi, e⟩ := ZN.mp h1
  exact ⟨i, Zh.mp hi, e.symm⟩
 ·unfold dBf
  rw [Qr h (QS _), Za]
  simp only [e, QjY, Qf2, Qfx, Za, hv, ZL]
noncomputable def QeL (Q5 : Den) : DS := (Qf (Qdk (Qw 2 Q5 [] (Qc (Qa 0) (Qc (Qa 1) Qg)))) (Qf (Qa1 (Qak (Qa 1)) (.nm 2) (Qf (sIf (QG (dOp gLt (dBf QfX (Qc (Qa 2) Qg)) (dC (.int 0)))) (Qf QF Qn) Qn) Qn)) Qn))
def Qjx (d : Den) : Prop := ∀ (m : Nat) (R L : List (Int × Int)) (fs : List (Nat -> Int)), 0 < m -> (∀ f ∈ fs, ∀ j, j < m -> 0 <= f j) -> d [Qj m R L, .lst (fs.map λ f => Qb m f)] = some (.non, true)
theorem QsL {dn : Den} (hn : Qfd dn) : Qjx (Qo 3 (QeL dn)) := λ m R L fs m0 hf => by
 have key : Run (QeL dn) (Qax 3 [Qj m R L, .lst (fs.map λ f => Qb m f)]) (Nx λ _ => True) := by
  refine run_seq (QdG (Qt (r := ⟨[Qj m R L, .lst (fs.map λ f => Qb m f)], false, []⟩) rfl (hn m R L fs) rfl) ?_)
  refine run_seq (Qag (toD := λ f => Qb m f) fs (λ _ ρ => ∃ j2, ρ = [some (Qj m R L, false), some (.lst (fs.map λ f => Qb m f), false), j2]) (ir := ⟨fs.map λ f => Qb m f, []⟩) rfl rfl ⟨none, rfl⟩ ?_ ?_)
  ·rintro i f ρ hi ⟨j2, rfl⟩
   refine ⟨_, rfl, ?_⟩
   obtain ⟨v, ⟨q, hq, e⟩, _, hv⟩ := QnO m0 f
   have h0 := hf f (ZJ hi) q hq
   refine run_seq (Q0 (b := false) (QB (Qae (rb := ⟨.int 0, true, []⟩) (d := .bl (decide (v < 0))) (hv (r := ⟨Qb m f, false, []⟩) rfl rfl) rfl rfl) ?_) (λ h => by cases h) (λ _ => Qp (Qp ⟨_, rfl⟩)))
   show D.bl _ = _
   rw [decide_eq_false (by omega)]
  ·rintro ρ ⟨j2, rfl⟩
   exact Qp trivial
 obtain ⟨o, h1, h2⟩ := key
 unfold Qo
 rw [h1]
 cases o with
 | nx ρ => rfl
 | _ => exact h2.elim
noncomputable def Qjy (QbO : Den) (QZ : Den) (Qdb : Den) : DS := (Qf (Qdk (Qw 2 QbO [] (Qc (Qa 0) (Qc (QW (Qc (Qa 1) Qg)) Qg)))) (Qf (Qs 2 (Qw 1 QZ [] (Qc (Qa 0) Qg))) (Qf (Qs 3 (Qao (QW (Qc (dC (.int 0)) Qg)) (Qk (Qa 0) (dC (.int 0))))) (Qf (Qs 4 (Qao (QW (Qc (dC (.int 0)) Qg)) (Qk (Qa 0) (dC (.int 0))))) (Qf (Qs 5 (Qaz (Qc (Qa 3) (Qc (Qa 4) Qg)))) (Qf (Qs 6 (dBf Qf2 (Qc (Qa 1) Qg))) (Qf (Qa1 (Qfi (dOp Qat (QkK (Qa 6)) (dC (.int 1))) (QgN (dC (.int 1))) (QgN (dC (.int 1)))) (.nm 7) (Qf (Qs 3 (QX (QaJ (Qk (Qa 5) (dC (.int 0))) (Qa 1)) (.tp [1, 2]) [none, none, none, some 7] Q8 (QH (Qao (dC (.int 2)) (Qa 1)) (dOp Qau (dOp Qmq (Qa 2) (Qa 3)) (dC (.int 2)))))) (Qf (Qs 4 (QX (Qak (Qk (Qa 5) (dC (.int 1)))) (.nm 1) [none, none] Q8 (Qao (dC (.int 2)) (Qa 1)))) (Qf (Qs 5 (Qw 3 Qdb [] (Qc (Qa 2) (Qc (Qa 3) (Qc (Qa 4) Qg))))) Qn)))) (Qf (QM (Qa 5)) Qn))))))))
noncomputable def Qdn (m : Nat) (T : Nat -> Nat -> Int) (f c : Nat -> Int) : D := .tup [Qb m (Qh m T f c), Qb m c]
structure Told (m : Nat) (T : Nat -> Nat -> Int) (f c : Nat -> Int) : Prop where
 leg : Leg m T f c
 pos : ∀ j, j < m -> 0 <= Qh m T f c j
 stb : Stb m T (Qh m T f c)
def Qjd (d : Den) : Prop := ∀ (m : Nat) (R L : List (Int × Int)) (f : Nat -> Int), 0 < m -> m <= 1000 -> Qan m R L -> (∀ j, j < m -> 0 <= f j /\ f j < 2 ^ 200) -> ∃ c, d [Qj m R L, Qb m f] = some (Qdn m (Qe m (Qd R L)) f c, true) /\ Told m (Qe m (Qd R L)) f c
theorem Qpm {fa fb fc : DE} {ρ : En} {ra rb rc : R} {n : Nat} (ha : fa ρ = some ra) (ea : ra.d = .int ((n : Int) - 1)) (hb : fb ρ = some rb) (eb : rb.d = .int (-1)) (hc : fc ρ = some rc) (ec : rc.d = .int (-1)) (hn : n <= 16777216) : Qfi fa fb fc ρ = some ⟨(List.range n).map λ (k : Nat) => .int ((n : Int) - 1 - k), []⟩ := by
 unfold Qfi
 rw [ha, Za, hb, Za, hc, Za, ea, eb, ec]
 show (if (n : Int) - 1 - -1 <= 16777216 /\ _ then _ else _) = _
 rw [if_pos ⟨by omega, by omega, by omega, by omega, by omega⟩]
 rw [show ((n : Int) - 1 - -1).toNat = n by omega]
 rfl
theorem Qvo {fa fb : DE} {ρ : En} {ra rb : R} {a : Int} {k : Nat} (ha : fa ρ = some ra) (ea : ra.d = .int a) (hb : fb ρ = some rb) (eb : rb.d = .int k) : dOp Qmq fa fb ρ = some ⟨.int (a / 2 ^ k), true, []⟩ := by
 refine Qae ha hb ?_
 rw [ea, eb]
 show (if (0 : Int) <= k then some (D.int (a / 2 ^ (k : Int).toNat)) else none) = _
 rw [if_pos (by omega), ZY]
theorem Qro (x : Int) (s : Nat) : x / 2 ^ s = 2 * (x / 2 ^ (s + 1)) + x / 2 ^ s % 2 := by
 have e : x / 2 ^ (s + 1) = x / 2 ^ s / 2 := by rw [Int.pow_succ, Int.ediv_ediv_of_nonneg (Int.pow_nonneg (by decide))]
 rw [e]
 omega
theorem Qiv {m : Nat} {T : Nat -> Nat -> Int} {f g c : Nat -> Int} (e : ∀ j, j < m -> f j = g j) (h : Told m T f c) : Told m T g c where
 leg := h.leg.Qoo e
 pos := λ j hj => by rw [← QaH (f := f) (c := c) (d := c) j (e j hj) (λ _ _ => rfl)]; exact h.pos j hj
 stb := λ j hj => by rw [← QaH (f := f) (c := c) (d := c) j (e j hj) (λ _ _ => rfl)]; exact h.stb j hj
theorem Qhu {m : Nat} {T : Nat -> Nat -> Int} {f g c : Nat -> Int} (e : ∀ j, j < m -> f j = g j) : Qdn m T f c = Qdn m T g c := by
 unfold Qdn
 rw [QcK (f := Qh m T f c) (g := Qh m T g c) λ j hj => QaH j (e j hj) λ _ _ => rfl]
theorem Qq3 {dn dt ds : Den} (hn : Qjx dn) (ht : Qek dt) (hs : Qga ds) : Qjd (Qo 8 (Qjy dn dt ds)) := λ m R L f m0 hm hw hf => by
 have hg := hw.good
 have tp := hw.tp
 have htoll := ht m R L hm (by omega) hg.1 hg.2.1
 generalize hT : Qe m (Qd R L) = T at tp htoll ⊢
 obtain ⟨top, ⟨q, hq, etop⟩, hmax, evmax⟩ := QnY m0 f
 have htop0 : 0 <= top := by rw [etop]; exact (hf q hq).1
 have hB : Builtin.Int.intBits top <= 200 := by
  rw [intBits_le_iff]
  have : top < 2 ^ 200 := by rw [etop]; exact (hf q hq).2
  have e2 : ((2 ^ 200 : Nat) : Int) = (2 : Int) ^ 200 := by rw [Int.natCast_pow]; rfl
  generalize (2 : Int) ^ 200 = z at this e2
  generalize (2 : Nat) ^ 200 = z' at e2 ⊢
  omega
 have hlt : ∀ j, j < m -> f j / 2 ^ Builtin.Int.intBits top = 0 := λ j hj => by
  have h1 := (intBits_le_iff (m := Builtin.Int.intBits top) (x := top)).mp (Zm _)
  refine Int.ediv_eq_zero_of_lt (hf j hj).1 ?_
  have h2 := hmax j hj
  have e2 : ((2 ^ Builtin.Int.intBits top : Nat) : Int) = (2 : Int) ^ Builtin.Int.intBits top := by rw [Int.natCast_pow]; rfl
  rw [← e2]
  omega
 generalize hBe : Builtin.Int.intBits top = B at hB hlt
 have key : Run (Qjy dn dt ds) (Qax 8 [Qj m R L, Qb m f]) (Rt λ d fr => ∃ c, d = Qdn m T f c /\ fr = true /\ Told m T f c) := by
  have hneed := hn m R L [f] m0 (λ g hg' j hj => by rw [ZD.mp hg']; exact (hf j hj).1)
  refine run_seq (QdG (Qt (r := ⟨[Qj m R L, .lst [Qb m f]], false, []⟩) rfl hneed rfl) ?_)
  refine run_seq (Qi (Qt (r := ⟨[Qj m R L], false, []⟩) rfl htoll rfl) ?_)
  rw [Ql]
  refine run_seq (Qi (QgK (n := m) (r := ⟨.int m, true, []⟩) rfl rfl (by omega)) ?_)
  rw [Ql]
  refine run_seq (Qi (QgK (n := m) (r := ⟨.int m, true, []⟩) rfl rfl (by omega)) ?_)
  rw [Ql]
  refine run_seq (Qi (r := ⟨.tup [Qb m (λ _ => 0), Qb m (λ _ => 0)], true, [3, 4]⟩) rfl ?_)
  refine run_seq (Qi (evmax (r := ⟨Qb m f, false, []⟩) rfl rfl) ?_)
  rw [Ql]
  refine Qai (P := λ ρ => ∃ c j3 j4 j7, Told m T f c /\ ρ = [some (Qj m R L, false), some (Qb m f, false), some (Qz m m T, true), j3, j4, some (Qdn m T f c, true), some (.int top, true), j7]) ?_ ?_
  ·refine Qag (toD := λ (k : Nat) => .int ((B : Int) - 1 - k)) (List.range B) (λ i ρ => ∃ c j3 j4 j7, Told m T (λ j => f j / 2 ^ (B - i)) c /\ ρ = [some (Qj m R L, false), some (Qb m f, false), some (Qz m m T, true), j3, j4, some (Qdn m T (λ j => f j / 2 ^ (B - i)) c, true), some (.int top, true), j7])
    (Qpm (n := B) (Qae (d := .int ((B : Int) - 1)) (ra := ⟨.int B, true, []⟩) (rb := ⟨.int 1, true, []⟩) (by rw [← hBe]; rfl) rfl rfl) rfl (rb := ⟨.int (-1), true, []⟩) rfl rfl (rc := ⟨.int (-1), true, []⟩) rfl rfl (by omega)) rfl ⟨λ _ => 0, none, none, none, ?_, ?_⟩ ?_ ?_
   ·refine Qiv (f := λ _ => 0) (λ j hj => (hlt j hj).symm) ⟨.nil, λ j hj => ?_, λ j hj => ?_⟩
    ·unfold Qh
     rw [QC (g := λ _ => 0) λ i _ => by rw [ZQ], Q4]
     exact Zah _
    ·unfold Qh
     rw [QC (g := λ _ => 0) λ i _ => by rw [ZQ], Q4]
     have := tp.neg j hj
     show (0 : Int) + 0 < _
     omega
   ·show _ = [some (Qj m R L, false), some (Qb m f, false), some (Qz m m T, true), none, none, some (Qdn m T (λ j => f j / 2 ^ B) λ _ => 0, true), some (.int top, true), none]
    rw [← Qhu (f := λ _ => 0) λ j hj => (hlt j hj).symm]
    unfold Qdn
    rw [Qsl]
    rfl
   ·rintro i i' ρ hi ⟨c, j3, j4, j7, hc, rfl⟩
    have hi' : i < B /\ i = i' := by
     obtain ⟨h1, h2⟩ := Zf.mp hi
     simp at h1 h2; exact ⟨h1, h2⟩
    obtain ⟨hiB, rfl⟩ := hi'
    obtain ⟨s, hsB⟩ : ∃ s : Nat, B - i = s + 1 := ⟨B - i - 1, by omega⟩
    have es : (B : Int) - 1 - i = (s : Int) := by omega
    have es2 : B - (i + 1) = s := by omega
    rw [hsB] at hc
    rw [hsB, es2, es]
    generalize hF : (λ j => f j / 2 ^ (s + 1)) = F at hc
    have hF' : ∀ j, F j = f j / 2 ^ (s + 1) := λ j => by rw [← hF]
    refine ⟨_, rfl, ?_⟩
    have e2 : ∀ j, 2 * F j + f j / 2 ^ s % 2 = f j / 2 ^ s := λ j => by rw [hF', ← Qro]
    have erow : ∀ j, 2 * Qh m T F c j + f j / 2 ^ s % 2 = Qh m T (λ j => f j / 2 ^ s) (λ i => 2 * c i) j := λ j => by
     have := Qnt (m := m) (T := T) (f := F) (c := c) (b := λ j => f j / 2 ^ s % 2) j
     rw [← this]
     exact (QaH j (e2 j).symm λ _ _ => rfl).symm
    refine run_seq (Qi (r := ⟨Qb m (Qh m T (λ j => f j / 2 ^ s) (λ i => 2 * c i)), true, []⟩) ?_ ?_)
    ·have e := QN (fi := QaJ (Qk (Qa 5) (dC (.int 0))) (Qa 1)) (t := .tp [1, 2]) (cap := [none, none, none, some 7]) (fe := QH (Qao (dC (.int 2)) (Qa 1)) (dOp Qau (dOp Qmq (Qa 2) (Qa 3)) (dC (.int 2)))) (ρ := [some (Qj m R L, false), some (Qb m f, false), some (Qz m m T, true), j3, j4, some (Qdn m T F c, true), some (.int top, true), some (.int s, true)])
      (toD := λ (j : Nat) => .tup [.int (Qh m T F c j), .int (f j)]) (out := λ (j : Nat) => .int (2 * Qh m T F c j + f j / 2 ^ s % 2)) (List.range m) (Qcg (ra := ⟨Qb m (Qh m T F c), true, [5]⟩) (rb := ⟨Qb m f, false, []⟩) rfl rfl rfl rfl) rfl λ j hj =>
       ⟨[none, some (.int (Qh m T F c j), true), some (.int (f j), true), some (.int s, true)], rfl, _, QQ (a := 2 * Qh m T F c j) (QaN (a := 2) rfl rfl rfl rfl (Qc4 (by decide))) rfl (Qap (b := 2) (Qvo (a := f j) (k := s) rfl rfl rfl rfl) rfl rfl rfl (by decide)) rfl, rfl, rfl⟩
     refine e.trans ?_
     congr 2
     show D.lst _ = D.lst _
     congr 1
     refine Zs λ j _ => ?_
     rw [erow]
    ·rw [Ql]
     refine run_seq (Qi (r := ⟨Qb m (λ i => 2 * c i), true, []⟩) ?_ ?_)
     ·exact QN (toD := λ (j : Nat) => .int (c j)) (out := λ (j : Nat) => .int (2 * c j)) (List.range m) (Qaj (r := ⟨Qb m c, true, [5]⟩) rfl rfl) rfl λ j hj => ⟨[none, some (.int (c j), true)], rfl, _, QaN (a := 2) (b := c j) rfl rfl rfl rfl (Qc4 (by decide)), rfl, rfl⟩
     ·rw [Ql]
      obtain ⟨d2, hd2, ed2⟩ := hc.leg.Qv0 (λ j => f j / 2 ^ s % 2) (λ j => Zy _ (by decide))
      have hleg : Leg m T (λ j => f j / 2 ^ s) (λ i => 2 * c i) := (hd2.cast ed2).Qoo λ j _ => e2 j
      have hpos : ∀ j, j < m -> 0 <= Qh m T (λ j => f j / 2 ^ s) (λ i => 2 * c i) j := λ j hj => by
       rw [← erow]
       have := hc.pos j hj
       have := Zy (f j / 2 ^ s) (by decide : (2 : Int) ≠ 0)
       omega
      obtain ⟨k', h1, h2, h3, h4⟩ := hs m T _ _ hm tp hleg hpos
      refine run_seq (Qi (Qt (r := ⟨[Qz m m T, Qb m (Qh m T (λ j => f j / 2 ^ s) (λ i => 2 * c i)), Qb m (λ i => 2 * c i)], true, [2, 3, 4]⟩) rfl h1 rfl) (Qp ?_))
      rw [Ql]
      exact ⟨k', _, _, _, ⟨h2, h3, h4⟩, rfl⟩
   ·rintro ρ ⟨c, j3, j4, j7, hc, rfl⟩
    rw [ZG, Nat.sub_self] at *
    have e : ∀ j, j < m -> f j / 2 ^ 0 = f j := λ j _ => by rw [Int.pow_zero, Int.ediv_one]
    exact ⟨c, _, _, _, Qiv e hc, by rw [Qhu (f := λ j => f j / 2 ^ 0) (g := f) e]⟩
  ·rintro ρ ⟨c, j3, j4, j7, hc, rfl⟩
   exact QE (r := ⟨Qdn m T f c, true, [5]⟩) rfl ⟨c, rfl, rfl, hc⟩
 obtain ⟨o, h1, h2⟩ := key
 cases o with
 | rt d fr =>
  obtain ⟨c, rfl, rfl, h3⟩ := h2
  exact ⟨c, by unfold Qo; rw [h1]; rfl, h3⟩
 | _ => exact h2.elim
noncomputable def QhF : DS := (Qf (sIf (bOr (QbK (QG (Qe6 "list" (Qa 0)))) (QG (dOp gNe (dBf Qa3 (Qc (Qa 0) Qg)) (dBf Qa3 (Qc (Qa 1) Qg))))) (Qf (QM (dC (.bl false))) Qn) Qn) (Qf (Qa1 (QaJ (Qa 0) (Qa 1)) (.tp [2, 3]) (Qf (sIf (bOr (QbK (QG (Qe6 "int" (Qa 2)))) (bOr (QG (Qe6 "bool" (Qa 2))) (QG (dOp gNe (Qa 2) (Qa 3))))) (Qf (QM (dC (.bl false))) Qn) Qn) Qn)) (Qf (QM (dC (.bl true))) Qn)))
theorem Qxr : Qiw (Qo 4 QhF) := λ ns => by
 refine Q7 ?_
 refine QT (Q0 (b := false) (QaL (a := false) (b := false) (Qbg (b := true) (QB (b := true) rfl rfl)) (QB (b := false) (r := ⟨.bl false, true, []⟩) ?_ rfl)) (λ h => by cases h) (λ _ => Qp ?_))
 ·rw [QdV (QcT (xs := ns.map D.int) rfl rfl) rfl (QcT (xs := ns.map D.int) rfl rfl) rfl]; simp
 refine QT (Qag (toD := λ n => .tup [.int n, .int n]) ns (λ _ ρ => ∃ j2 j3, ρ = [some (.lst (ns.map .int), false), some (.lst (ns.map .int), false), j2, j3]) (ir := ⟨Qdf (ns.map D.int) (ns.map D.int), []⟩) rfl (Qrv ns) ⟨none, none, rfl⟩ ?_ ?_)
 ·rintro i n ρ _ ⟨j2, j3, rfl⟩
  refine ⟨_, rfl, ?_⟩
  refine QT (Q0 (b := false) (QaL (a := false) (b := false) (Qbg (b := true) (QB (b := true) rfl rfl)) (QaL (a := false) (b := false) (QB (b := false) rfl rfl) (QB (b := false) (r := ⟨.bl false, true, []⟩) ?_ rfl))) (λ h => by cases h) (λ _ => Qp (Qp ⟨_, _, rfl⟩)))
  rw [QdV (a := n) (b := n) rfl rfl rfl rfl]; simp
 ·rintro ρ ⟨j2, j3, rfl⟩
  exact QE rfl ⟨rfl, rfl⟩
noncomputable def Qch (m : Nat) (f : Nat -> Int) : Nat -> Int := λ i => if i < m then f i else 0
noncomputable def QdC (o : Nat -> Int) (s : Int × Int) (j : Nat) : Int := (if s.2 = j then o s.1.toNat else 0) - (if s.1 = j then o s.1.toNat else 0)
theorem Qp0 {m : Nat} {j : Nat} {s : Int × Int} (hj : j < m) (g : Good m s) (c : Nat -> Int) : Qu m (λ i => c i * hit i j s) = QdC (Qch m c) s j := by
 obtain ⟨g1, g2, g3, g4, g5⟩ := g
 have e : Qu m (λ i => c i * hit i j s) = Qu m (λ i => (if i = s.1.toNat then (if s.2 = j then 1 else 0) - (if s.1 = j then 1 else 0) else 0) * c i) := QC λ i _ => by
  have : hit i j s = (if i = s.1.toNat then (if s.2 = j then 1 else 0) - (if s.1 = j then 1 else 0) else 0) := by
   unfold hit
   by_cases a : s.1 = i
   ·rw [if_pos (show i = s.1.toNat by omega)]
    congr 1
    ·by_cases b : s.2 = j
     ·rw [if_pos ⟨a, b⟩, if_pos b]
     ·rw [if_neg (λ z => b z.2), if_neg b]
    ·by_cases b : i = j
     ·rw [if_pos ⟨a, b⟩, if_pos (by omega)]
     ·rw [if_neg (λ z => b z.2), if_neg (by omega)]
   ·rw [if_neg (λ z => a z.1), if_neg (λ z => a z.1), if_neg (by omega)]; rfl
  rw [this, Zau]
 rw [e]
 unfold QdC Qch
 by_cases hm : s.1.toNat < m
 ·rw [QaA hm, if_pos hm]
  by_cases a : s.2 = j
  ·rw [if_pos a, if_pos a]
   by_cases b : s.1 = j
   ·rw [if_pos b, if_pos b]; omega
   ·rw [if_neg b, if_neg b]; omega
  ·rw [if_neg a, if_neg a]
   by_cases b : s.1 = j
   ·rw [if_pos b, if_pos b]; omega
   ·rw [if_neg b, if_neg b]; omega
 ·rw [QC (g := λ _ => 0) λ i hi => by rw [if_neg (by omega), ZQ], Q4, if_neg hm]
  simp
theorem Qtg {m : Nat} {R L : List (Int × Int)} (hR : ∀ s ∈ R, Good m s) (hL : ∀ s ∈ L, Good m s) (f c : Nat -> Int) {j : Nat} (hj : j < m) :
  Qh m (Qe m (Qd R L)) f c j = Qch m f j + (R.map λ s => QdC (Qch m c) s j + QdC (Qch m c) s.swap j).sum + (L.map λ s => QdC (Qch m c) s j).sum := by
 have gS := Qa9 hR hL
 have e : Qu m (λ i => c i * Qe m (Qd R L) i j) = ((Qd R L).map λ s => QdC (Qch m c) s j).sum := by
  rw [QC (g := λ i => ((Qd R L).map λ s => c i * hit i j s).sum) λ i hi => by
   rw [Qa0 hi hj λ s hs => ⟨(gS s hs).1, (gS s hs).2.1⟩, Qjt]]
  rw [Qgq m (λ i s => c i * hit i j s) (Qd R L)]
  congr 1
  exact Zs λ s hs => Qp0 hj (gS s hs) c
 unfold Qh
 rw [e, show Qch m f j = f j by unfold Qch; rw [if_pos hj]]
 unfold Qd
 rw [ZT, Zbg, ZT, Zbg, ZR]
 have : ∀ R : List (Int × Int), (R.map λ s => QdC (Qch m c) s j + QdC (Qch m c) s.swap j).sum = (R.map λ s => QdC (Qch m c) s j).sum + (R.map ((λ s => QdC (Qch m c) s j) ∘ Prod.swap)).sum := by
  intro R
  induction R with
  | nil => rfl
  | cons s R ih => simp only [Zn, ZM, ih, Function.comp]; omega
 rw [this]
 omega
theorem Qjf {a : Int} {k : Nat} {ρ : En} (h1 : a.natAbs < 2 ^ 200) (h2 : k <= 1000) : dOp Qdu (dC (.int a)) (dC (.int k)) ρ = some ⟨.int (a ^ k), true, []⟩ := by
 refine Qae (ra := ⟨.int a, true, []⟩) (rb := ⟨.int k, true, []⟩) rfl rfl ?_
 show (if 0 <= (k : Int) /\ (k : Int) <= 1000 /\ a.natAbs < 2 ^ 200 then some (D.int (a ^ (k : Int).toNat)) else none) = _
 rw [if_pos ⟨by omega, by omega, h1⟩, ZY]
theorem Qsn {i : Nat} {g : Nat -> Int} {v : Int} : ((List.range i).map λ k => D.int (g k)) ++ [.int v] = (List.range (i + 1)).map λ k => D.int (up g i v k) := by
 rw [Zbx, ZT]
 congr 1
 ·refine Zs λ k hk => ?_
  have := Zh.mp hk
  unfold up
  rw [if_neg (by omega)]
 ·show _ = [D.int (up g i v i)]
  unfold up
  rw [if_pos rfl]
theorem Qq7 {x : Nat} {fa : DE} {ρ : En} {r : R} {i : Nat} {g : Nat -> Int} {v : Int} {Q : Out -> Prop} (hx : ρ[x]? = some (some (Qb i g, true))) (ha : fa ρ = some r) (e : r.d = .int v) (hl : i < 16777216) (q : Q (.nx (ρ.set x (some (Qb (i + 1) (up g i v), true))))) : Run (Qdj x Q1 fa) ρ Q := by
 refine QnS (xs := (List.range i).map λ k => D.int (g k)) hx ha (by rw [e]; rfl) (by simpa using hl) ?_
 rw [e, Qsn]
 exact q
theorem Qtp {fa : DE} {ρ : En} {r : R} {m : Nat} {f : Nat -> Int} (h : fa ρ = some r) (e : r.d = Qb m f) : dBf Qa3 (Qc fa Qg) ρ = some ⟨.int m, true, []⟩ := by
 rw [QcT h e]; simp
theorem Qfq {fs : DA} {ρ : En} {rs : RA} (h : fs ρ = some rs) (hl : rs.ds.length <= 64) : QW fs ρ = some ⟨.lst rs.ds, rs.fr, rs.M⟩ := by
 unfold QW
 rw [h, Za, if_pos hl]
theorem QjI (n m : Nat) (f : Nat -> Int) : (Qb m f).sim (n + 1) = true := by
 unfold Qb
 simp only [D.sim, ZbX, ZaB]
 intro p _
 cases n <;> rfl
theorem QnZ {fa fb : DE} {ρ : En} {ra rb : R} {m n : Nat} {f : Nat -> Nat -> Int} {i : Int} (ha : fa ρ = some ra) (ea : ra.d = Qz m n f) (hb : fb ρ = some rb) (eb : rb.d = .int i) (h0 : 0 <= i) (h : i < m) : Qk fa fb ρ = some ⟨Qb n (f i.toNat), ra.fr, ra.M⟩ := by
 unfold Qk
 rw [ha, Za, hb, Za, ea, eb]
 simp only [Qz, D.items, Za, Qn0 h0 h, ZL]
 rfl
noncomputable def Qiu : DS := (Qf (QM (dOp gEq (dBf Qa3 (Qc (Qk (Qa 0) (dC (.int 2))) Qg)) (dC (.int 0)))) Qn)
def Qjj (d : Den) : Prop := ∀ (m : Int) (R L : List (Int × Int)), d [Qj m R L] = some (.bl (decide ((L.length : Int) = 0)), true)
theorem Qrs : Qjj (Qo 1 Qiu) := λ m R L => by
 refine Q7 ?_
 refine QE (Qes (QcT (QcI (r := ⟨Qj m R L, false, []⟩) rfl rfl).2.2 rfl) rfl rfl rfl) ⟨?_, rfl⟩
 simp
noncomputable def Qam (l : List Nat) : D := .lst (l.map λ (p : Nat) => .int (p : Int))
theorem Qfk {m : Nat} {g : Nat -> Int} : ∀ {l : List Nat}, l.Nodup -> (∀ o ∈ l, o < m) -> (l.map g).sum = Qu m λ o => if o ∈ l then g o else 0
 | [], _, _ => by
  rw [QC (g := λ _ => 0) λ i _ => by rw [if_neg (by simp)], Q4]; rfl
 | a :: l, nd, h => by
  have nd' := Zad.mp nd
  rw [Zn, ZM, Qfk nd'.2 λ o ho => h o (by simp [ho])]
  have e := QaA (m := m) (p := a) (h a (by simp)) 1 g
  rw [show g a = 1 * g a by rw [Zar], ← e, ← Qal]
  refine QC λ o _ => ?_
  by_cases ho : o = a
  ·subst ho
   rw [if_pos rfl, if_neg nd'.1, if_pos (by simp)]; omega
  ·rw [if_neg ho]
   by_cases hl : o ∈ l
   ·rw [if_pos hl, if_pos (by simp [hl])]; omega
   ·rw [if_neg hl, if_neg (by simp [ho, hl])]; omega
theorem Qtt {m : Nat} {g : Nat -> Int} {l k : List Nat} (hl : l.Nodup) (hk : k.Nodup) (sub : ∀ o ∈ l, o ∈ k) (hm : ∀ o ∈ k, o < m) (pos : ∀ o ∈ k, 0 <= g o) : (l.map g).sum <= (k.map g).sum := by
 rw [Qfk hl λ o ho => hm o (sub o ho), Qfk hk hm]
 refine Qbp λ o _ => ?_
 by_cases h : o ∈ l
 ·rw [if_pos h, if_pos (sub o h)]; exact Zah _
 ·rw [if_neg h]
  by_cases h2 : o ∈ k
  ·rw [if_pos h2]; exact pos o h2
  ·rw [if_neg h2]; exact Zah _
theorem Qr5 {m : Nat} {R : List (Int × Int)} (hR : ∀ s ∈ R, Good m s) {i j : Nat} (hi : i < m) (hj : j < m) (hij : i ≠ j) : Qe m (Qd R []) i j = Qe m (Qd R []) j i := by
 have gS := Qa9 (L := []) hR (λ s hs => absurd hs (by simp))
 have hn : ∀ s ∈ Qd R [], 0 <= s.1 /\ 0 <= s.2 := λ s hs => ⟨(gS s hs).1, (gS s hs).2.1⟩
 rw [Qa0 hi hj hn, Qa0 hj hi hn]
 unfold Qd
 rw [ZaF, ZT, ZT, Zbg, Zbg, ZR, ZR]
 have e : ∀ i j : Nat, i ≠ j -> ∀ s : Int × Int, (hit i j ∘ Prod.swap) s = hit j i s := λ i j h s => by
  unfold hit
  simp only [Function.comp, Zbt, ZbL]
  rw [if_neg (λ z => h z.2) (c := s.2 = i /\ i = j), if_neg (λ z => h z.2.symm) (c := s.1 = j /\ j = i)]
  congr 1
  by_cases a : s.2 = i
  ·by_cases b : s.1 = j
   ·rw [if_pos ⟨a, b⟩, if_pos ⟨b, a⟩]
   ·rw [if_neg (λ z => b z.2), if_neg (λ z => b z.1)]
  ·rw [if_neg (λ z => a z.1), if_neg (λ z => a z.2)]
 rw [Zs λ s _ => e i j hij s, Zs λ s _ => e j i (λ z => hij z.symm) s]
 omega
noncomputable def Q9 (T : Nat -> Nat -> Int) (p : Nat) (l : List Nat) : Int := ((l.filter λ o => decide (o ≠ p)).map (T p)).sum
noncomputable def Qb2 (T : Nat -> Nat -> Int) (a : Nat -> Int) (l : List Nat) : List Nat := l.filter λ p => decide (Q9 T p l <= a p)
noncomputable def QcZ (T : Nat -> Nat -> Int) (a : Nat -> Int) (l : List Nat) : List Nat := l.filter λ p => !(Qb2 T a l).contains p
theorem Qsu {m : Nat} {T : Nat -> Nat -> Int} (tp : TP m T) (sym : ∀ i j, i < m -> j < m -> i ≠ j -> T i j = T j i) {f c : Nat -> Int} (h : Told m T f c) {l : List Nat} (nd : l.Nodup) (ne : l ≠ []) (hl : ∀ p ∈ l, p < m /\ 0 < c p) : Qb2 T (Qh m T f c) l ≠ [] := λ z => by
 have hno : ∀ p ∈ l, Qh m T f c p < Q9 T p l := λ p hp => by
  have : ¬ p ∈ Qb2 T (Qh m T f c) l := by rw [z]; simp
  unfold Qb2 at this
  rw [ZC] at this
  by_cases h2 : Q9 T p l <= Qh m T f c p
  ·exact absurd ⟨hp, by rw [decide_eq_true h2]⟩ this
  ·omega
 have key := h.leg.least tp (c' := λ i => c i - (if i ∈ l then 1 else 0)) (λ i hi => by
  have := h.leg.nonneg i
  show 0 <= c i - (if i ∈ l then 1 else 0)
  split
  ·have := (hl i ‹_›).2; omega
  ·omega) (λ j hj => by
  have e : Qh m T f (λ i => c i - (if i ∈ l then 1 else 0)) j = Qh m T f c j - Qu m λ i => if i ∈ l then T i j else 0 := by
   unfold Qh
   have e1 : (λ i => (c i - (if i ∈ l then 1 else 0)) * T i j) = λ i => c i * T i j + - (if i ∈ l then T i j else 0) := by
    funext i
    rw [Int.sub_mul]
    split <;> omega
   rw [e1, Qal, Qcy]
   omega
  rw [e]
  have hs := h.stb j hj
  by_cases hjl : j ∈ l
  ·have hn := hno j hjl
   have e2 : (Qu m λ i => if i ∈ l then T i j else 0) = Q9 T j l + T j j := by
    unfold Q9
    rw [Qfk (m := m) (nd.filter _) λ o ho => (hl o (ZC.mp ho).1).1]
    have e3 := QaA (m := m) (p := j) hj 1 (λ i => T j i)
    rw [show T j j = 1 * T j j by rw [Zar], ← e3, ← Qal]
    refine QC λ i hi => ?_
    by_cases hij : i = j
    ·subst hij
     rw [if_pos hjl, if_pos rfl, if_neg (by simp)]; omega
    ·rw [if_neg hij]
     by_cases hil : i ∈ l
     ·rw [if_pos hil, if_pos (ZC.mpr ⟨hil, by simpa using hij⟩), sym i j hi hj hij]; omega
     ·rw [if_neg hil, if_neg (λ z => hil (ZC.mp z).1)]; omega
   rw [e2]
   omega
  ·have : 0 <= Qu m λ i => if i ∈ l then T i j else 0 := by
    have := Qbp (m := m) (f := λ _ => 0) (g := λ i => if i ∈ l then T i j else 0) λ i hi => by
     show (0 : Int) <= if i ∈ l then T i j else 0
     split
     ·refine tp.pos i j hi hj λ e => ?_
      subst e
      exact hjl ‹_›
     ·exact Zah _
    rw [Q4] at this
    exact this
   omega)
 cases l with
 | nil => exact ne rfl
 | cons p l =>
  have := key p (hl p (by simp)).1
  have : c p <= c p - (if p ∈ p :: l then 1 else 0) := this
  rw [if_pos (by simp)] at this
  omega
theorem QoG (l : List Nat) : QK (l.map λ (p : Nat) => D.int (p : Int)) = true := Qba (λ _ => rfl) l
theorem Qkd (l : List Nat) : Qam l = .lst ((l.map λ (p : Nat) => (p : Int)).map D.int) := by unfold Qam; rw [ZR]; rfl
noncomputable def QeK (QcD : Den) : DS := (Qf (sIf (QbK (QG (Qw 1 QcD [] (Qc (Qa 0) Qg)))) (Qf QF Qn) Qn) Qn)
def Qjc (d : Den) : Prop := ∀ (m : Nat) (R : List (Int × Int)), d [Qj m R []] = some (.non, true)
theorem Qsf {dp : Den} (hp : Qjj dp) : Qjc (Qo 1 (QeK dp)) := λ m R => by
 have key : Run (QeK dp) (Qax 1 [Qj m R []]) (Nx λ _ => True) := by
  refine run_seq (Q0 (b := false) (Qbg (b := true) (QB (b := true) (Qt (r := ⟨[Qj m R []], false, []⟩) rfl (hp m R []) rfl) rfl)) (λ h => by cases h) (λ _ => Qp (Qp trivial)))
 obtain ⟨o, h1, h2⟩ := key
 unfold Qo
 rw [h1]
 cases o with
 | nx ρ => rfl
 | _ => exact h2.elim
theorem QuC {o : Nat} {l : List Nat} : (l.map λ (p : Nat) => D.int (p : Int)).any (λ y => deq y (.int o)) = l.contains o := by
 induction l with
 | nil => rfl
 | cons a l ih =>
  rw [Zn, List.any_cons, ih, Qi7, List.contains_cons]
  congr 1
  by_cases h : a = o
  ·subst h; simp
  ·rw [decide_eq_false (by omega)]
   exact (beq_eq_false_iff_ne.mpr (λ z => h z.symm)).symm
theorem QsF (n : Nat) (l : List Nat) : (Qam l).sim (n + 1) = true := by
 unfold Qam
 simp only [D.sim, ZbX, ZaB]
 intro p _
 cases n <;> rfl
theorem QvU {neg : Bool} {fa fb : DE} {ρ : En} {ra rb : R} {o : Nat} {l : List Nat} (ha : fa ρ = some ra) (ea : ra.d = .int o) (hb : fb ρ = some rb) (eb : rb.d = Qam l) : dOp (gIn neg) fa fb ρ = some ⟨.bl (if neg then !l.contains o else l.contains o), true, []⟩ := by
 refine Qae ha hb ?_
 rw [ea, eb]
 have : (D.int (o : Int)).sim 8 = true := rfl
 show (if (D.int (o : Int)).sim 8 && (Qam l).sim 8 then some (D.bl (if neg then !((l.map λ (p : Nat) => D.int (p : Int)).any λ y => deq y (.int o)) else (l.map λ (p : Nat) => D.int (p : Int)).any λ y => deq y (.int o))) else none) = _
 rw [this, QsF 7 l, QuC]
 rfl
theorem QnB {A : Prop} [Decidable A] {x : Int} (hx : 0 <= x) : ∀ {l : List Nat}, l.Nodup -> (l.map λ (o : Nat) => if A /\ x = (o : Int) then (1 : Int) else 0).sum = if A /\ x.toNat ∈ l then 1 else 0
 | [], _ => by simp
 | a :: l, nd => by
  have nd' := Zad.mp nd
  rw [Zn, ZM, QnB hx nd'.2]
  by_cases hA : A
  ·by_cases h : x = a
   ·have : x.toNat = a := by omega
    rw [if_pos ⟨hA, h⟩, if_neg (λ z => nd'.1 (this ▸ z.2)), if_pos ⟨hA, by simp [this]⟩]; rfl
   ·have : ¬ x.toNat = a := by omega
    rw [if_neg (λ z => h z.2)]
    by_cases h2 : x.toNat ∈ l
    ·rw [if_pos ⟨hA, h2⟩, if_pos ⟨hA, by simp [h2]⟩]; rfl
    ·rw [if_neg (λ z => h2 z.2), if_neg (λ z => by rcases Zr.mp z.2 with e | e; exact this e; exact h2 e)]; rfl
  ·rw [if_neg (λ z => hA z.1), if_neg (λ z => hA z.1), if_neg (λ z => hA z.1)]; rfl
theorem Qkh {β : Type} : ∀ S : List β, (S.map λ _ => (0 : Int)).sum = 0
 | [] => rfl
 | _ :: S => by rw [Zn, ZM, Qkh S]; rfl
theorem QgV {α β : Type} (g : α -> β -> Int) : ∀ (l : List α) (S : List β), (l.map λ o => (S.map (g o)).sum).sum = (S.map λ s => (l.map λ o => g o s).sum).sum
 | [], S => (Qkh S).symm
 | a :: l, S => by
  rw [Zn, ZM, QgV g l S]
  clear QgV
  induction S with
  | nil => rfl
  | cons s S ih => simp only [Zn, ZM] at ih ⊢; omega
noncomputable def QP (p : Nat) (l : List Nat) (s : Int × Int) : Int := if (s.1 = p /\ s.2.toNat ∈ l) ∨ (s.2 = p /\ s.1.toNat ∈ l) then 1 else 0
theorem Qj7 {m : Nat} {R : List (Int × Int)} (hR : ∀ s ∈ R, Good m s) {p : Nat} (hp : p < m) {l : List Nat} (nd : l.Nodup) (hl : ∀ o ∈ l, o < m) (hpl : p ∉ l) : (l.map (Qe m (Qd R []) p)).sum = (R.map (QP p l)).sum := by
 have gS := Qa9 (L := []) hR (λ s hs => absurd hs (by simp))
 have hn : ∀ s ∈ Qd R [], 0 <= s.1 /\ 0 <= s.2 := λ s hs => ⟨(gS s hs).1, (gS s hs).2.1⟩
 have e1 : l.map (Qe m (Qd R []) p) = l.map λ o => ((Qd R []).map (hit p o)).sum := Zs λ o ho => Qa0 hp (hl o ho) hn
 rw [e1, QgV (λ o s => hit p o s) l (Qd R [])]
 have e2 : (Qd R []).map (λ s => (l.map λ o => hit p o s).sum) = (Qd R []).map λ s => if s.1 = (p : Int) /\ s.2.toNat ∈ l then (1 : Int) else 0 := Zs λ s hs => by
  rw [← QnB (hn s hs).2 nd]
  congr 1
  refine Zs λ o ho => ?_
  unfold hit
  rw [if_neg (λ z => hpl (z.2 ▸ ho)) (c := s.1 = p /\ p = o)]; omega
 rw [e2]
 unfold Qd
 rw [ZaF, ZT, Zbg, ZR]
 clear e1 e2 hn gS
 induction R with
 | nil => rfl
 | cons s R ih =>
  have hs := hR s (by simp)
  obtain ⟨h1, h2, h3, h4, h5⟩ := hs
  have ih := ih λ s hs => hR s (by simp [hs])
  simp only [Zn, ZM, Function.comp, Zbt, ZbL] at ih ⊢
  have : (if s.1 = p /\ s.2.toNat ∈ l then (1 : Int) else 0) + (if s.2 = p /\ s.1.toNat ∈ l then 1 else 0) = QP p l s := by
   unfold QP
   by_cases a : s.1 = p /\ s.2.toNat ∈ l
   ·rw [if_pos a, if_neg (λ z => h5 (a.1.trans z.1.symm)) (c := s.2 = p /\ s.1.toNat ∈ l), if_pos (Or.inl a)]; rfl
   ·by_cases b : s.2 = p /\ s.1.toNat ∈ l
    ·rw [if_neg a, if_pos b, if_pos (Or.inr b)]; rfl
    ·rw [if_neg a, if_neg b, if_neg (λ z => z.elim a b)]; rfl
  omega
noncomputable def Qle (w : Int × Int × Bool) : Int × Int × Bool := (w.1, w.2.1, false)
theorem QqG {m : Nat} {W : List (Int × Int × Bool)} (he : Esc m W) (hg : ∀ w ∈ W, GoodW m w) (hl : W.length <= 200) : Qan m (W.map Qb1) [] := by
 refine ⟨W.map Qle, λ A hA => ?_, λ w hw => ?_, by rw [Zi]; exact hl, ?_, ?_⟩
 ·obtain ⟨w, h1, h2⟩ := he A hA
  exact ⟨Qle w, ZN.mpr ⟨w, h1, rfl⟩, h2⟩
 ·obtain ⟨w', h1, rfl⟩ := ZN.mp hw
  exact ⟨(hg w' h1).1, λ z => by cases z⟩
 ·unfold Qdw
  rw [ZbA.mpr λ w hw => by obtain ⟨w', _, rfl⟩ := ZN.mp hw; rfl, ZR]
  rfl
 ·unfold Qei
  rw [List.filter_eq_nil_iff.mpr λ w hw => by obtain ⟨w', _, rfl⟩ := ZN.mp hw; simp [Qle]]
  rfl
theorem Qr0 {x : Nat} {a : D} {xs : List D} {ρ : En} {Q : Out -> Prop} (hx : ρ[x]? = some (some (.lst [a, .lst xs], true))) (q : Q (.nx (ρ.set x (some (.lst [a, .lst []], true))))) : Run (QfT x (QcY Q1 (dC (.int 1)))) ρ Q := by
 refine ⟨_, ?_, q⟩
 unfold QfT
 rw [hx]
 rfl
noncomputable def Qos : Option Int -> D
 | none => .non
 | some i => .int i
@[simp] theorem QsG (o : Option Int) : (Qos o).flat = true := by cases o <;> rfl
noncomputable def QxT (m : Nat) (F : Nat -> Option Int) : D := .lst ((List.range m).map λ i => Qos (F i))
@[simp] theorem Qx9 (m : Nat) (F : Nat -> Option Int) : (QxT m F).flat = false := rfl
@[simp] theorem QxB (m : Nat) (F : Nat -> Option Int) : QK ((List.range m).map λ i => Qos (F i)) = true := Qba (f := λ i => Qos (F i)) (λ _ => QsG _) _
noncomputable def QI (T : Nat -> Nat -> Int) (h : Nat -> Int) (m : Nat) : Nat -> List Nat
 | 0 => List.range m
 | k + 1 => QcZ T h (QI T h m k)
noncomputable def QaS (T : Nat -> Nat -> Int) (h : Nat -> Int) (m : Nat) : Nat -> Nat -> Option Int
 | 0, _ => none
 | k + 1, p => if p ∈ Qb2 T h (QI T h m k) then some ((k : Int) + 1) else QaS T h m k p
theorem Qb0 {T : Nat -> Nat -> Int} {h : Nat -> Int} {m : Nat} : ∀ k, (QI T h m k).Nodup
 | 0 => ZaH
 | k + 1 => (Qb0 k).filter _
theorem Qcm {T : Nat -> Nat -> Int} {h : Nat -> Int} {l : List Nat} {p : Nat} : p ∈ QcZ T h l ↔ p ∈ l /\ p ∉ Qb2 T h l := by
 unfold QcZ
 rw [ZC]
 simp
theorem QbV {T : Nat -> Nat -> Int} {h : Nat -> Int} {l : List Nat} {p : Nat} : p ∈ Qb2 T h l ↔ p ∈ l /\ Q9 T p l <= h p := by
 unfold Qb2
 rw [ZC]
 simp
theorem QhV {T : Nat -> Nat -> Int} {h : Nat -> Int} {m : Nat} {k j : Nat} (hkj : k <= j) {p : Nat} (hp : p ∈ QI T h m j) : p ∈ QI T h m k := by
 induction j with
 | zero => rw [show k = 0 by omega]; exact hp
 | succ j ih =>
  by_cases e : k = j + 1
  ·rw [e]; exact hp
  ·exact ih (by omega) (Qcm.mp hp).1
theorem Qcb {T : Nat -> Nat -> Int} {h : Nat -> Int} {m k p : Nat} (hp : p ∈ QI T h m k) : p < m := Zh.mp (QhV (Zag k) hp)
theorem Qc7 {T : Nat -> Nat -> Int} {h : Nat -> Int} {m : Nat} : ∀ k p, p < m -> (QaS T h m k p = none ↔ p ∈ QI T h m k)
 | 0, p, hp => ⟨λ _ => Zh.mpr hp, λ _ => rfl⟩
 | k + 1, p, hp => by
  show (if p ∈ Qb2 T h (QI T h m k) then some ((k : Int) + 1) else QaS T h m k p) = none ↔ p ∈ QcZ T h (QI T h m k)
  rw [Qcm]
  by_cases hr : p ∈ Qb2 T h (QI T h m k)
  ·rw [if_pos hr]
   exact ⟨λ z => (by cases z), λ z => absurd hr z.2⟩
  ·rw [if_neg hr, Qc7 k p hp]
   exact ⟨λ z => ⟨z, hr⟩, λ z => z.1⟩
theorem Qgw {T : Nat -> Nat -> Int} {h : Nat -> Int} {m : Nat} : ∀ k p t, QaS T h m k p = some t -> ∃ j : Nat, j < k /\ t = (j : Int) + 1 /\ p ∈ QI T h m j /\ p ∉ QI T h m (j + 1) /\ Q9 T p (QI T h m j) <= h p
 | 0, _, _, e => by cases e
 | k + 1, p, t, e => by
  unfold QaS at e
  by_cases hr : p ∈ Qb2 T h (QI T h m k)
  ·rw [if_pos hr] at e
   cases e
   exact ⟨k, by omega, rfl, (QbV.mp hr).1, λ z => (Qcm.mp z).2 hr, (QbV.mp hr).2⟩
  ·rw [if_neg hr] at e
   obtain ⟨j, h1, h2⟩ := Qgw k p t e
   exact ⟨j, by omega, h2⟩
theorem Qd5 {m : Nat} {T : Nat -> Nat -> Int} (pos : ∀ i j, i < m -> j < m -> i ≠ j -> 0 <= T i j) {p : Nat} (hp : p < m) {l k : List Nat} (hl : l.Nodup) (hk : k.Nodup) (hm : ∀ o ∈ k, o < m) (sub : ∀ o ∈ l, o ∈ k) : Q9 T p l <= Q9 T p k := by
 unfold Q9
 refine Qtt (m := m) (hl.filter _) (hk.filter _) (λ o ho => ?_) (λ o ho => hm o (ZC.mp ho).1) (λ o ho => pos p o hp (hm o (ZC.mp ho).1) λ e => ?_)
 ·obtain ⟨h1, h2⟩ := ZC.mp ho
  exact ZC.mpr ⟨sub o h1, h2⟩
 ·have := (ZC.mp ho).2
  simp at this
  exact this e.symm
theorem Qgz {m : Nat} {T : Nat -> Nat -> Int} (pos : ∀ i j, i < m -> j < m -> i ≠ j -> 0 <= T i j) {h g : Nat -> Int} (hg : ∀ j, j < m -> h j <= g j) : ∀ k p, p ∈ QI T g m k -> p ∈ QI T h m k
 | 0, p, hp => hp
 | k + 1, p, hp => by
  obtain ⟨h1, h2⟩ := Qcm.mp hp
  have h3 := Qgz pos hg k p h1
  refine Qcm.mpr ⟨h3, λ z => h2 (QbV.mpr ⟨h1, ?_⟩)⟩
  have h4 := (QbV.mp z).2
  have h5 := hg p (Qcb h1)
  have h6 := Qd5 pos (Qcb h1) (Qb0 (T := T) (h := g) (m := m) k) (Qb0 (T := T) (h := h) (m := m) k) (λ o ho => Qcb ho) (λ o ho => Qgz pos hg k o ho)
  omega
theorem Qqt {m : Nat} {T : Nat -> Nat -> Int} (pos : ∀ i j, i < m -> j < m -> i ≠ j -> 0 <= T i j) {h g : Nat -> Int} (hg : ∀ j, j < m -> h j <= g j) {p : Nat} (hp : p < m) {t : Int} (e : QaS T h m m p = some t) : ∃ t', QaS T g m m p = some t' /\ t' <= t := by
 obtain ⟨j, h1, h2, _, h4, _⟩ := Qgw m p t e
 have h5 : p ∉ QI T g m (j + 1) := λ z => h4 (Qgz pos hg _ _ z)
 cases e2 : QaS T g m m p with
 | none => exact absurd (QhV (by omega) ((Qc7 m p hp).mp e2)) h5
 | some t' =>
  obtain ⟨j', g1, g2, g3, _⟩ := Qgw m p t' e2
  refine ⟨t', rfl, ?_⟩
  by_cases hj : j + 1 <= j'
  ·exact absurd (QhV hj g3) h5
  ·omega
theorem Qpb {fa fb : DE} {ρ : En} {ra rb : R} {i j : Int} {n : Nat} (ha : fa ρ = some ra) (ea : ra.d = .int i) (hb : fb ρ = some rb) (eb : rb.d = .int j) (hn : (n : Int) = j - i) (hl : n <= 16777216) (h1 : -(2 ^ 62) <= i) (h2 : i < 2 ^ 61) : Qeh fa fb ρ = some ⟨(List.range n).map λ (k : Nat) => .int (i + k), []⟩ := by
 unfold Qeh
 rw [ha, Za, hb, Za, ea, eb]
 show (if j - i <= 16777216 /\ _ then _ else _) = _
 rw [if_pos ⟨by omega, by omega, by omega, by omega, by omega⟩]
 rw [show (j - i).toNat = n by omega]
 rfl
noncomputable def prs (W : List (Int × Int × Bool)) : List (Int × Int) := W.map Qbi
theorem QmW (p : Nat) (l : List Nat) (s : Int × Int) : 0 <= QP p l s /\ QP p l s <= 1 := by unfold QP; split <;> omega
theorem Qk0 {T : Nat -> Nat -> Int} {h : Nat -> Int} {l : List Nat} : QcZ T h l = l ∨ (QcZ T h l).length < l.length := by
 by_cases e : (QcZ T h l).length < l.length
 ·exact .inr e
 ·left
  unfold QcZ at e ⊢
  have h1 := ZaT (λ p => !(Qb2 T h l).contains p) l
  rw [ZbA]
  intro a ha
  have h2 := List.length_filter_eq_length_iff.mp (Nat.le_antisymm (ZaT _ l) (Nat.le_of_not_lt e))
  exact h2 a ha
theorem Qmz {T : Nat -> Nat -> Int} {h : Nat -> Int} {m : Nat} : ∀ k, QI T h m (k + 1) = QI T h m k ∨ (QI T h m (k + 1)).length + (k + 1) <= m
 | 0 => by
  rcases Qk0 (T := T) (h := h) (l := QI T h m 0) with e | e
  ·exact .inl e
  ·right
   have : (QI T h m 0).length = m := ZG
   show (QcZ T h (QI T h m 0)).length + 1 <= m
   omega
 | k + 1 => by
  rcases Qmz (T := T) (h := h) (m := m) k with e | e
  ·left
   show QcZ T h (QI T h m (k + 1)) = QI T h m (k + 1)
   rw [e]
   exact e
  ·rcases Qk0 (T := T) (h := h) (l := QI T h m (k + 1)) with e2 | e2
   ·exact .inl e2
   ·right
    show (QcZ T h (QI T h m (k + 1))).length + (k + 1 + 1) <= m
    omega
theorem Qlw {T : Nat -> Nat -> Int} {h : Nat -> Int} {m p : Nat} (hp : p ∈ QI T h m m) : h p < Q9 T p (QI T h m m) := by
 have hm : 0 < m := ZaI (Zag _) (Qcb hp)
 have key : QI T h m (m + 1) = QI T h m m := by
  rcases Qmz (T := T) (h := h) (m := m) m with e | e
  ·exact e
  ·omega
 have h1 : p ∈ QcZ T h (QI T h m m) := by
  show p ∈ QI T h m (m + 1)
  rw [key]; exact hp
 have h2 := (Qcm.mp h1).2
 by_cases h3 : Q9 T p (QI T h m m) <= h p
 ·exact absurd (QbV.mpr ⟨hp, h3⟩) h2
 ·omega
theorem QoN {m : Nat} {s : Int × Int} (g : Good m s) {p : Nat} {l : List Nat} : QP p (l.filter λ o => decide (o ≠ p)) s = QP p l s := by
 obtain ⟨g1, g2, g3, g4, g5⟩ := g
 unfold QP
 have e1 : (s.1 = p /\ s.2.toNat ∈ l.filter λ o => decide (o ≠ p)) ↔ (s.1 = p /\ s.2.toNat ∈ l) := by
  rw [ZC]
  constructor
  ·rintro ⟨a, b, _⟩; exact ⟨a, b⟩
  ·rintro ⟨a, b⟩; exact ⟨a, b, decide_eq_true (by omega)⟩
 have e2 : (s.2 = p /\ s.1.toNat ∈ l.filter λ o => decide (o ≠ p)) ↔ (s.2 = p /\ s.1.toNat ∈ l) := by
  rw [ZC]
  constructor
  ·rintro ⟨a, b, _⟩; exact ⟨a, b⟩
  ·rintro ⟨a, b⟩; exact ⟨a, b, decide_eq_true (by omega)⟩
 simp only [e1, e2]
theorem Qe9 {m : Nat} {R : List (Int × Int)} (hR : ∀ s ∈ R, Good m s) {p : Nat} (hp : p < m) {l : List Nat} (nd : l.Nodup) (hl : ∀ o ∈ l, o < m) : Q9 (Qe m (Qd R [])) p l = (R.map (QP p l)).sum := by
 unfold Q9
 rw [Qj7 hR hp (nd.filter _) (λ o ho => hl o (ZC.mp ho).1) (λ z => by have := (ZC.mp z).2; simp at this)]
 rw [Zs λ s hs => QoN (hR s hs)]
theorem Qil {m : Nat} {R : List (Int × Int)} (hR : ∀ s ∈ R, Good m s) (p : Nat) : (R.map (QP p (List.range (m + 1)))).sum = Qv R [] p := by
 unfold Qv
 rw [ZbB, List.sum_nil, ZaG]
 congr 1
 refine Zs λ s hs => ?_
 obtain ⟨g1, g2, g3, g4, g5⟩ := hR s hs
 unfold QP isI
 have e1 : s.2.toNat ∈ List.range (m + 1) := Zh.mpr (by omega)
 have e2 : s.1.toNat ∈ List.range (m + 1) := Zh.mpr (by omega)
 by_cases a : s.1 = p
 ·have b : ¬ s.2 = p := by omega
  simp [a, b, e1, e2]
 ·by_cases b : s.2 = p
  ·simp [a, b, e1, e2]
  ·simp [a, b, e1, e2]
noncomputable def Qxs (F : Nat -> Option Int) (t : Int) (o : Nat) : Bool := match F o with
 | none => true
 | some u => decide (t <= u)
noncomputable def QwX (m : Nat) (F : Nat -> Option Int) (t : Int) : List Nat := (List.range m).filter (Qxs F t)
noncomputable def Qyg (R : List (Int × Int)) (m : Nat) (F : Nat -> Option Int) (p : Nat) (t : Int) : Int := (R.map (QP p (QwX m F t))).sum
theorem Qov {fa : DE} {ρ : En} {r : R} {m : Int} {R : List (Int × Int)} (h : fa ρ = some r) (e : r.d = Qj m R []) : Qaz (Qc (Qk fa (dC (.int 0))) (Qc (dList (Qc (Qk fa (dC (.int 1))) Qg)) (Qc (QW Qg) Qg))) ρ = some ⟨Qj m R [], true, []⟩ := by
 obtain ⟨h1, h2, _⟩ := QcI (m := m) (R := R) (L := []) h e
 unfold Qaz
 refine (congrArg (λ z => Option.bind z _) (Qr h1 (Qr (Ql5 (Qr h2 (QS _)) rfl rfl) (Qr (r := ⟨.lst [], true, []⟩) rfl (QS _))))).trans ?_
 rfl
theorem QnF {p : Nat} : ∀ {l : List Nat}, p ∈ l -> ∃ j, QfS (p : Int) (l.map λ (q : Nat) => (q : Int)) = some j /\ l[j]? = some p
 | a :: l, h => by
  by_cases e : a = p
  ·subst e
   exact ⟨0, by simp [QfS], rfl⟩
  ·have h' : p ∈ l := by
    rcases Zr.mp h with z | z
    ·exact absurd z.symm e
    ·exact z
   obtain ⟨j, h1, h2⟩ := QnF h'
   refine ⟨j + 1, ?_, by simpa using h2⟩
   have e' : ¬ ((a : Int) = p) := by omega
   simp only [Zn, QfS, if_neg e', h1, ZL]
theorem Qrz {x : Nat} {fa : DE} {ρ : En} {r : R} {l : List Nat} {p : Nat} {Q : Out -> Prop} (hx : ρ[x]? = some (some (Qam l, true))) (ha : fa ρ = some r) (e : r.d = .int p) (hp : p ∈ l) (q : ∀ j, l[j]? = some p -> Q (.nx (ρ.set x (some (Qam (l.eraseIdx j), true))))) : Run (QjW x Q1 fa) ρ Q := by
 obtain ⟨j, h1, h2⟩ := QnF hp
 refine ⟨_, ?_, q j h2⟩
 unfold QjW
 rw [hx]
 have hd : Qdo (l.map λ (p : Nat) => D.int (p : Int)) = some (l.map λ (q : Nat) => (q : Int)) := by
  have : (l.map λ (p : Nat) => D.int (p : Int)) = (l.map λ (q : Nat) => (q : Int)).map D.int := by rw [ZR]; rfl
  rw [this, Qfx]
 simp only [Q1, Za, ha, e, Qam, Qa8, hd, h1, ZL, QaI]
 rw [← Qfy (λ (q : Nat) => (q : Int)) l j, ZR]
 rfl
theorem QhH {α : Type} : ∀ {l : List α} {j : Nat} {a : α}, l[j]? = some a -> (a :: l.eraseIdx j).Perm l
 | [], _, _, h => by simp at h
 | b :: l, 0, a, h => by simp at h; subst h; exact List.Perm.refl _
 | b :: l, j + 1, a, h => by
  have ih := QhH (l := l) (j := j) (a := a) (by simpa using h)
  rw [Zap]
  exact (List.Perm.swap b a _).trans (ih.cons b)
theorem Qig {α : Type} {g : α -> Int} : ∀ {S : List α}, (∀ s ∈ S, 0 <= g s) -> (∃ s ∈ S, 0 < g s) -> 0 < (S.map g).sum
 | [], _, ⟨_, h, _⟩ => absurd h (by simp)
 | a :: S, h0, ⟨s, hs, hp⟩ => by
  rw [Zn, ZM]
  have h1 := h0 a (by simp)
  have h2 := Qd6 S λ s hs => h0 s (by simp [hs])
  rcases Zr.mp hs with rfl | hs
  ·omega
  ·have := Qig (λ s hs => h0 s (by simp [hs])) ⟨s, hs, hp⟩
   omega
theorem QpR {m : Nat} {R : List (Int × Int)} (hw : Qan m R []) : Qlq m (Qd R []) := by
 obtain ⟨W, h1, h2, h3, h4, h5⟩ := hw.ex
 have := Qj6 h1
 rw [← h4, ← h5] at this
 exact this
theorem QtA {m : Nat} {R : List (Int × Int)} (hw : Qan m R []) (A : Nat -> Prop) (hA : ∃ p, p < m /\ A p) : ∃ p, p < m /\ A p /\ ∃ s ∈ R, (s.1 = p /\ (s.2 = m ∨ ¬ A s.2.toNat)) ∨ (s.2 = p /\ (s.1 = m ∨ ¬ A s.1.toNat)) := by
 obtain ⟨s, h1, h2, h3, h4⟩ := QpR hw A hA
 unfold Qd at h1
 rw [ZaF] at h1
 have hg := hw.good.1
 rcases ZE.mp h1 with h | h
 ·obtain ⟨g1, _⟩ := hg s h
  exact ⟨s.1.toNat, by omega, h3, s, h, .inl ⟨by omega, h4⟩⟩
 ·obtain ⟨r, hr, rfl⟩ := ZN.mp h
  obtain ⟨g1, g2, _⟩ := hg r hr
  simp only [Zbt, ZbL] at h2 h3 h4
  exact ⟨r.2.toNat, by omega, h3, r, hr, .inr ⟨by omega, h4⟩⟩
theorem QfG {α : Type} {f h : α -> Int} : ∀ {S : List α}, (∀ s ∈ S, f s <= h s) -> (S.map f).sum <= (S.map h).sum
 | [], _ => by simp
 | a :: S, H => by
  have h1 := H a (by simp)
  have h2 := QfG (S := S) λ s hs => H s (by simp [hs])
  simp only [Zn, ZM]
  omega
theorem Qo8 {p : Nat} {l k : List Nat} {s : Int × Int} (hd : ∀ x ∈ l, x ∈ k) : QP p l s <= QP p k s := by
 unfold QP
 by_cases c : (s.1 = p /\ s.2.toNat ∈ l) ∨ (s.2 = p /\ s.1.toNat ∈ l)
 ·rw [if_pos c, if_pos (c.elim (λ z => .inl ⟨z.1, hd _ z.2⟩) λ z => .inr ⟨z.1, hd _ z.2⟩)]
  exact Zah _
 ·rw [if_neg c]
  split <;> omega
theorem Qg0 {m : Nat} {R : List (Int × Int)} (hR : ∀ s ∈ R, Good m s) : ∀ i j, i < m -> j < m -> i ≠ j -> Qe m (Qd R []) i j = Qe m (Qd R []) j i := λ i j hi hj hij => Qr5 hR hi hj hij
theorem QnJ {m : Nat} {T : Nat -> Nat -> Int} (sym : ∀ i j, i < m -> j < m -> i ≠ j -> T i j = T j i) {l : List Nat} (nd : l.Nodup) (hl : ∀ o ∈ l, o < m) {j : Nat} (hj : j < m) : (Qu m λ i => (if i ∈ l then 1 else 0) * T i j) = Q9 T j l + if j ∈ l then T j j else 0 := by
 unfold Q9
 rw [Qfk (m := m) (nd.filter _) λ o ho => hl o (ZC.mp ho).1]
 have e3 := QaA (m := m) (p := j) hj (if j ∈ l then 1 else 0) (λ i => T j i)
 have e4 : (if j ∈ l then T j j else 0) = (if j ∈ l then 1 else 0) * T j j := by split <;> simp
 rw [e4, ← e3, ← Qal]
 refine QC λ i hi => ?_
 by_cases hij : i = j
 ·subst hij
  rw [if_pos rfl]
  have : ¬ i ∈ l.filter λ o => decide (o ≠ i) := by simp
  rw [if_neg this]; omega
 ·rw [if_neg hij]
  by_cases hil : i ∈ l
  ·rw [if_pos hil, if_pos (ZC.mpr ⟨hil, by simpa using hij⟩), sym i j hi hj hij]; omega
  ·rw [if_neg hil, if_neg (λ z => hil (ZC.mp z).1)]; omega
theorem Qvf {m : Nat} {R : List (Int × Int)} (hR : ∀ s ∈ R, Good m s) {p : Nat} (hp : p < m) {l : List Nat} (nd : l.Nodup) (hl : ∀ o ∈ l, o < m) {s : Int × Int} (hs : s ∈ R) (ho : (s.1 = p /\ (s.2 = m ∨ s.2.toNat ∉ l)) ∨ (s.2 = p /\ (s.1 = m ∨ s.1.toNat ∉ l))) : Q9 (Qe m (Qd R [])) p l + 1 <= Qv R [] p := by
 rw [Qe9 hR hp nd hl, ← Qil hR p]
 obtain ⟨g1, g2, g3, g4, g5⟩ := hR s hs
 have hm : m ∉ l := λ z => by have := hl m z; omega
 have h1 : QP p l s = 0 /\ QP p (List.range (m + 1)) s = 1 := by
  have e1 : s.2.toNat ∈ List.range (m + 1) := Zh.mpr (by omega)
  have e2 : s.1.toNat ∈ List.range (m + 1) := Zh.mpr (by omega)
  unfold QP
  rcases ho with ⟨a, h⟩ | ⟨a, h⟩
  ·have b : ¬ s.2 = p := by omega
   have x : s.2.toNat ∉ l := by
    rcases h with h | h
    ·rw [h, ZY]; exact hm
    ·exact h
   simp [a, b, x, e1]
  ·have b : ¬ s.1 = p := by omega
   have x : s.1.toNat ∉ l := by
    rcases h with h | h
    ·rw [h, ZY]; exact hm
    ·exact h
   simp [a, b, x, e2]
 have le : ∀ r ∈ R, QP p l r <= QP p (List.range (m + 1)) r := λ r _ => Qo8 λ x hx => Zh.mpr (by have := hl x hx; omega)
 clear ho g5 g4 g3 g2 g1 hR
 induction R with
 | nil => simp at hs
 | cons r R ih =>
  simp only [Zn, ZM]
  rcases Zr.mp hs with e | e
  ·subst e
   have := QfG (S := R) (f := QP p l) (h := QP p (List.range (m + 1))) λ r hr => le r (by simp [hr])
   omega
  ·have h2 := ih e λ r hr => le r (by simp [hr])
   have h3 := le r (by simp)
   omega
theorem Qio {m : Nat} {R : List (Int × Int)} (hw : Qan m R []) {f c : Nat -> Int} (hf : ∀ j, j < m -> Qv R [] j - 1 <= f j) (hc : Told m (Qe m (Qd R [])) f c) : ∀ i, i < m -> QaS (Qe m (Qd R [])) (Qh m (Qe m (Qd R [])) f c) m m i ≠ none := by
 have hR := hw.good.1
 have tp := hw.tp
 have c0 := hc.leg.nonneg
 intro i hi z
 have hcold := (Qc7 m i hi).mp z
 have nd := Qb0 (T := Qe m (Qd R [])) (h := Qh m (Qe m (Qd R [])) f c) (m := m) m
 have lt : ∀ o ∈ QI (Qe m (Qd R [])) (Qh m (Qe m (Qd R [])) f c) m m, o < m := λ o ho => Qcb ho
 have few : ∀ p ∈ QI (Qe m (Qd R [])) (Qh m (Qe m (Qd R [])) f c) m m, Qh m (Qe m (Qd R [])) f c p < Q9 (Qe m (Qd R [])) p (QI (Qe m (Qd R [])) (Qh m (Qe m (Qd R [])) f c) m m) := λ p hp => Qlw hp
 generalize QI (Qe m (Qd R [])) (Qh m (Qe m (Qd R [])) f c) m m = C at *
 by_cases hall : ∀ p ∈ C, 0 < c p
 ·have := Qsu tp (Qg0 hR) hc nd (List.ne_nil_of_mem hcold) λ p hp => ⟨lt p hp, hall p hp⟩
  obtain ⟨p, hp⟩ := List.exists_mem_of_ne_nil _ this
  obtain ⟨p1, p2⟩ := QbV.mp hp
  have := few p p1
  omega
 ·obtain ⟨q, hq1, hq2⟩ : ∃ q, q ∈ C /\ ¬ 0 < c q := by
   refine ZH λ w => hall λ p hp => ?_
   exact ZH λ w2 => w ⟨p, hp, w2⟩
  obtain ⟨p, h1, ⟨h2, h2'⟩, s, h3, h4⟩ := QtA hw (λ x => x ∈ C /\ ¬ 0 < c x) ⟨q, lt q hq1, hq1, hq2⟩
  have cp : c p = 0 := by have := c0 p; omega
  have sum0 : ∀ o, o < m -> o ≠ p -> 0 <= c o * Qe m (Qd R []) o p := λ o ho hop => ZaD (c0 o) (tp.pos o p ho h1 hop)
  have hsum : 0 <= Qu m λ i => c i * Qe m (Qd R []) i p := by
   have := Qbp (m := m) (f := λ _ => 0) (g := λ i => c i * Qe m (Qd R []) i p) λ i hi => by
    by_cases e : i = p
    ·subst e; rw [cp, ZQ]; exact Zah _
    ·exact sum0 i hi e
   rw [Q4] at this
   exact this
  have fp := hf p h1
  have st := hc.stb p h1
  rw [hw.neg h1] at st
  have fw := few p h2
  obtain ⟨g1, g2, g3, g4, g5⟩ := hR s h3
  obtain ⟨x, hx, hend⟩ : ∃ x : Nat, x <= m /\ ((s.1 = p /\ s.2 = x) ∨ (s.2 = p /\ s.1 = x)) /\ (x = m ∨ ¬ (x ∈ C /\ ¬ 0 < c x)) := by
   rcases h4 with ⟨a, b⟩ | ⟨a, b⟩
   ·exact ⟨s.2.toNat, by omega, .inl ⟨a, by omega⟩, b.elim (λ z => .inl (by omega)) .inr⟩
   ·exact ⟨s.1.toNat, by omega, .inr ⟨a, by omega⟩, b.elim (λ z => .inl (by omega)) .inr⟩
  by_cases hxC : x ∈ C
  ·
   have hxm := lt x hxC
   have cx : 1 <= c x := by
    rcases hend.2 with e | e
    ·omega
    ·have := ZH λ w : ¬ 0 < c x => e ⟨hxC, w⟩
     omega
   have hxp : x ≠ p := by
    rcases hend.1 with ⟨a, b⟩ | ⟨a, b⟩ <;> omega
   have hT : 1 <= Qe m (Qd R []) x p := by
    rw [Qg0 hR x p hxm h1 hxp]
    have := Qj7 hR h1 (l := [x]) (by simp) (by simpa using hxm) (by simpa using hxp.symm)
    simp only [Zn, ZbB, ZM, List.sum_nil, ZaG] at this
    rw [this]
    have : 0 < (R.map (QP p [x])).sum := Qig (λ s _ => (QmW p _ s).1) ⟨s, h3, by
     unfold QP
     rw [if_pos (by rcases hend.1 with ⟨a, b⟩ | ⟨a, b⟩; exact .inl ⟨a, by simp; omega⟩; exact .inr ⟨a, by simp; omega⟩)]; decide⟩
    omega
   have one : 1 <= Qu m λ i => c i * Qe m (Qd R []) i p := by
    have := Qbp (m := m) (f := λ i => (if i = x then 1 else 0) * (1 : Int)) (g := λ i => c i * Qe m (Qd R []) i p) λ i hi => by
     by_cases e : i = x
     ·subst e
      rw [if_pos rfl]
      have := Zcf cx hT (by decide) (by omega)
      omega
     ·rw [if_neg e, ZQ]
      by_cases e2 : i = p
      ·subst e2; rw [cp, ZQ]; exact Zah _
      ·exact sum0 i hi e2
    rw [QaA hxm 1 (λ _ => 1)] at this
    omega
   unfold Qh at st
   omega
  ·have := Qvf hR h1 nd lt h3 (by
    rcases hend.1 with ⟨a, b⟩ | ⟨a, b⟩
    ·exact .inl ⟨a, .inr (by rw [b, ZY]; exact hxC)⟩
    ·exact .inr ⟨a, .inr (by rw [b, ZY]; exact hxC)⟩)
   unfold Qh at fw
   omega
abbrev QwI (i : Int) : Prop := Builtin.Int.intBits i <= 2 ^ 20
noncomputable def Qlt : DS := (Qf (QM (QX (Qak (Qa 0)) (.nm 1) [none, none, some 1] Q8 (Qk (Qa 1) (Qa 2)))) Qn)
def QfF (d : Den) : Prop := ∀ (n m : Nat) (f : Nat -> Nat -> Int) (j : Nat), j < m -> d [Qz n m f, .int j] = some (Qb n (λ i => f i j), true)
theorem Qqm : QfF (Qo 2 Qlt) := λ n m f j hj =>
 Q7 (QE (QN (toD := λ (i : Nat) => Qb m (f i)) (out := λ (i : Nat) => .int (f i j)) (List.range n) (Qaj (r := ⟨Qz n m f, false, []⟩) rfl rfl) rfl λ i _ => ⟨_, rfl, ⟨.int (f i j), true, []⟩, Qas (m := m) (f := f i) (i := j) (ra := ⟨Qb m (f i), false, []⟩) (rb := ⟨.int j, true, []⟩) rfl rfl rfl rfl hj, rfl, rfl⟩) ⟨rfl, rfl⟩)
noncomputable def Qly (QbY : Den) : DS := (Qf (QM (QX (Qbc (dBf Qa3 (Qc (Qa 0) Qg))) (.nm 1) [none, none, some 0] Q8 (Qw 2 QbY [] (Qc (Qa 2) (Qc (Qa 1) Qg))))) Qn)
theorem Qg3 {fa : DE} {ρ : En} {r : R} {n m : Nat} {f : Nat -> Nat -> Int} (h : fa ρ = some r) (e : r.d = Qz n m f) : dBf Qa3 (Qc fa Qg) ρ = some ⟨.int n, true, []⟩ := by
 rw [QcT h e]; simp
def Qh1 (d : Den) : Prop := ∀ (n : Nat) (f : Nat -> Nat -> Int), n <= 1000 -> d [Qz n n f] = some (Qz n n (λ j i => f i j), true)
theorem QpH {dc : Den} (hc : QfF dc) : Qh1 (Qo 1 (Qly dc)) := λ n f hn =>
 Q7 (QE (QN (toD := λ (k : Nat) => .int (k : Int)) (out := λ (j : Nat) => Qb n (λ i => f i j)) (List.range n) (Qcv (n := n) (Qg3 (n := n) (m := n) (f := f) (r := ⟨Qz n n f, false, []⟩) rfl rfl) rfl (by omega)) rfl λ j hj => ⟨[none, some (.int j, true), some (Qz n n f, false)], rfl, ⟨Qb n (λ i => f i j), true, []⟩, Qt (r := ⟨[Qz n n f, .int j], false, []⟩) rfl (hc n n f j (Zh.mp hj)) rfl, rfl, rfl⟩) ⟨rfl, rfl⟩)
theorem Qeo {fa fb : DE} {ρ : En} {ra rb : R} {m k : Nat} {f g : Nat -> Int} (ha : fa ρ = some ra) (ea : ra.d = Qb m f) (hb : fb ρ = some rb) (eb : rb.d = Qb k g) (hl : m + k <= 1000) : QH fa fb ρ = some ⟨Qb (m + k) (λ i => if i < m then f i else g (i - m)), true, []⟩ := by
 have e : Qb (m + k) (λ i => if i < m then f i else g (i - m)) = .lst (((List.range m).map λ i => D.int (f i)) ++ ((List.range k).map λ i => D.int (g i))) := by
  unfold Qb
  rw [List.range_add, ZT, ZR]
  congr 2
  ·refine Zs λ i hi => ?_
   show D.int (if i < m then f i else g (i - m)) = _
   rw [if_pos (Zh.mp hi)]
  ·refine Zs λ i hi => ?_
   show D.int (if m + i < m then f (m + i) else g (m + i - m)) = _
   rw [if_neg (by omega), Nat.add_sub_cancel_left]
 rw [e]
 unfold QH
 rw [ha, Za, hb, Za, ea, eb]
 simp only [Qb, Zi, ZG, QfA]
 rw [if_pos (by omega)]
 unfold Qa2
 rw [if_pos]
 rw [Qcn, Zg]
 exact ⟨Qba (λ _ => rfl) _, Qba (λ _ => rfl) _⟩
noncomputable def sm : Nat -> (Nat -> Int) -> Int
 | 0, _ => 0
 | n + 1, f => sm n f + f n
theorem Qbw {f g : Nat -> Int} : ∀ {n : Nat}, (∀ i, i < n -> f i = g i) -> sm n f = sm n g
 | 0, _ => rfl
 | n + 1, h => by unfold sm; rw [Qbw λ i hi => h i (by omega), h n (by omega)]
theorem QiH (x y : Int) (f g : Nat -> Int) : ∀ n, sm n (λ i => x * f i + y * g i) = x * sm n f + y * sm n g
 | 0 => by simp [sm]
 | n + 1 => by
  unfold sm
  rw [QiH x y f g n, ZaZ, ZaZ]
  show _ + (x * f n + y * g n) = _
  omega
theorem QjG {f : Nat -> Int} : ∀ {n : Nat}, (∀ i, i < n -> f i = 0) -> sm n f = 0
 | 0, _ => rfl
 | n + 1, h => by unfold sm; rw [QjG λ i hi => h i (by omega), h n (by omega)]; rfl
theorem Qet {f : Nat -> Int} {c : Nat} : ∀ {n : Nat}, c < n -> (∀ i, i < n -> i ≠ c -> f i = 0) -> sm n f = f c
 | 0, hc, _ => by omega
 | n + 1, hc, h => by
  unfold sm
  by_cases e : c = n
  ·rw [QjG λ i hi => h i (by omega) (by omega), e]; omega
  ·rw [Qet (c := c) (by omega) λ i hi => h i (by omega), h n (by omega) (Ne.symm e)]; omega
theorem QiN {f : Nat -> Int} {c d : Nat} : ∀ {n : Nat}, c < d -> d < n -> (∀ i, i < n -> i ≠ c -> i ≠ d -> f i = 0) -> sm n f = f c + f d
 | 0, _, hc, _ => by omega
 | n + 1, hcd, hd, h => by
  unfold sm
  by_cases e : d = n
  ·rw [Qet (c := c) (by omega) λ i hi ne => h i (by omega) ne (by omega), e]
  ·rw [QiN (c := c) (d := d) hcd (by omega) λ i hi => h i (by omega), h n (by omega) (by omega) (by omega)]; omega
theorem Qnl (x : Int) (f : Nat -> Int) : ∀ n, sm n (λ i => f i * x) = sm n f * x
 | 0 => by simp [sm]
 | n + 1 => by unfold sm; rw [Qnl x f n, ZZ]
noncomputable def skp (j c : Nat) : Nat := if c < j then c else c + 1
noncomputable def sgn (j : Nat) : Int := if j % 2 = 0 then 1 else -1
theorem Qh7 (j : Nat) : sgn (j + 1) = - sgn j := by
 unfold sgn
 by_cases h : j % 2 = 0
 ·rw [if_pos h, if_neg (by omega)]
 ·rw [if_neg h, if_pos (by omega)]; rfl
noncomputable def det : Nat -> (Nat -> Nat -> Int) -> Int
 | 0, _ => 1
 | n + 1, m => sm (n + 1) λ j => sgn j * m j 0 * det n λ c r => m (skp j c) (r + 1)
noncomputable def cup (m : Nat -> Nat -> Int) (c : Nat) (a : Nat -> Int) : Nat -> Nat -> Int := λ j => if j = c then a else m j
theorem QY (m : Nat -> Nat -> Int) (c : Nat) (a : Nat -> Int) : cup m c a c = a := by unfold cup; rw [if_pos rfl]
theorem QO (m : Nat -> Nat -> Int) {c j : Nat} (a : Nat -> Int) (h : j ≠ c) : cup m c a j = m j := by unfold cup; rw [if_neg h]
theorem Qcz (m : Nat -> Nat -> Int) (c : Nat) : cup m c (m c) = m := by
 funext j
 by_cases h : j = c
 ·rw [h, QY]
 ·rw [QO _ _ h]
theorem Qul (m : Nat -> Nat -> Int) (c : Nat) (a b : Nat -> Int) : cup (cup m c a) c b = cup m c b := by
 funext j
 by_cases h : j = c
 ·rw [h, QY, QY]
 ·rw [QO _ _ h, QO _ _ h, QO _ _ h]
theorem Qcq (m : Nat -> Nat -> Int) {c d : Nat} (a b : Nat -> Int) (h : c ≠ d) : cup (cup m c a) d b = cup (cup m d b) c a := by
 funext j
 by_cases h1 : j = c
 ·subst h1; rw [QO _ _ h, QY, QY]
 ·by_cases h2 : j = d
  ·subst h2; rw [QY, QO _ _ h1, QY]
  ·rw [QO _ _ h2, QO _ _ h1, QO _ _ h1, QO _ _ h2]
theorem QdM : ∀ {n : Nat} {m k : Nat -> Nat -> Int}, (∀ j, j < n -> ∀ r, r < n -> m j r = k j r) -> det n m = det n k
 | 0, _, _, _ => rfl
 | n + 1, m, k, h => by
  unfold det
  refine Qbw λ j hj => ?_
  rw [h j hj 0 (by omega), QdM (n := n) (m := λ c r => m (skp j c) (r + 1)) (k := λ c r => k (skp j c) (r + 1)) λ c hc r hr => h _ (by unfold skp; split <;> omega) _ (by omega)]
theorem Qgj (m : Nat -> Nat -> Int) (c : Nat) (v : Nat -> Int) : (λ c' r => cup m c v (skp c c') (r + 1)) = λ c' r => m (skp c c') (r + 1) := by
 funext c' r
 rw [QO _ _ (by unfold skp; split <;> omega)]
theorem QfZ (m : Nat -> Nat -> Int) {c j : Nat} (v : Nat -> Int) (h : c ≠ j) : (λ c' r => cup m c v (skp j c') (r + 1)) = cup (λ c' r => m (skp j c') (r + 1)) (if c < j then c else c - 1) (λ r => v (r + 1)) := by
 funext c' r
 by_cases e : c' = if c < j then c else c - 1
 ·rw [e, QY]
  have : skp j (if c < j then c else c - 1) = c := by
   unfold skp
   by_cases q : c < j
   ·rw [if_pos q, if_pos q]
   ·rw [if_neg q, if_neg (by omega)]; omega
  rw [this, QY]
 ·rw [QO _ _ e, QO]
  intro z
  refine e ?_
  unfold skp at z
  by_cases q : c' < j
  ·rw [if_pos q] at z; rw [if_pos (by omega)]; omega
  ·rw [if_neg q] at z; rw [if_neg (by omega)]; omega
theorem Qjl (x y : Int) (a b : Nat -> Int) : ∀ (n : Nat) (m : Nat -> Nat -> Int) (c : Nat), c < n -> ∀ (a b : Nat -> Int), det n (cup m c λ r => x * a r + y * b r) = x * det n (cup m c a) + y * det n (cup m c b)
 | 0, _, _, h, _, _ => by omega
 | n + 1, m, c, h, a, b => by
  unfold det
  rw [← QiH]
  refine Qbw λ j hj => ?_
  by_cases e : j = c
  ·subst e
   rw [Qgj, Qgj, Qgj, QY, QY, QY]
   generalize det n _ = q
   generalize sgn j = s
   simp only [ZaZ, ZZ, Zas, ZbF]
  ·rw [QfZ m _ (Ne.symm e), QfZ m _ (Ne.symm e), QfZ m _ (Ne.symm e), QO _ _ e, QO _ _ e, QO _ _ e]
   rw [Qjl x y a b n _ _ (by split <;> omega)]
   generalize det n _ = q
   generalize det n _ = q'
   generalize sgn j * m j 0 = s
   simp only [ZaZ, ZbF]
theorem Qhl {n : Nat} {m : Nat -> Nat -> Int} {c : Nat} (h : c < n) (a b : Nat -> Int) : det n (cup m c λ r => a r + b r) = det n (cup m c a) + det n (cup m c b) := by
 have := Qjl 1 1 a b n m c h a b
 simpa only [Zar] using this
theorem QjE {n : Nat} {m : Nat -> Nat -> Int} {c : Nat} (h : c < n) (x : Int) (a : Nat -> Int) : det n (cup m c λ r => x * a r) = x * det n (cup m c a) := by
 have := Qjl x 0 a a n m c h a a
 simpa only [ZQ, ZaG] using this
theorem Qhq : ∀ (n : Nat) (m : Nat -> Nat -> Int) (c : Nat), c + 1 < n -> m c = m (c + 1) -> det n m = 0
 | 0, _, _, h, _ => by omega
 | n + 1, m, c, h, e => by
  unfold det
  rw [QiN (c := c) (d := c + 1) (by omega) h]
  ·have : (λ c' r => m (skp c c') (r + 1)) = λ c' r => m (skp (c + 1) c') (r + 1) := by
    funext c' r
    unfold skp
    by_cases q : c' < c
    ·rw [if_pos q, if_pos (by omega)]
    ·rw [if_neg q]
     by_cases q2 : c' = c
     ·rw [if_pos (by omega), q2, e]
     ·rw [if_neg (by omega)]
   rw [this, Qh7, e]
   generalize det n _ = q
   rw [Zav, Zav]; omega
  ·intro j hj h1 h2
   have : det n (λ c' r => m (skp j c') (r + 1)) = 0 := by
    by_cases q : c < j
    ·refine Qhq n _ c (by omega) ?_
     funext r
     show m (skp j c) (r + 1) = m (skp j (c + 1)) (r + 1)
     unfold skp
     rw [if_pos q, if_pos (by omega), e]
    ·refine Qhq n _ (c - 1) (by omega) ?_
     funext r
     show m (skp j (c - 1)) (r + 1) = m (skp j (c - 1 + 1)) (r + 1)
     unfold skp
     rw [if_neg (by omega), if_neg (by omega), show c - 1 + 1 = c by omega, e]
   rw [this, Zat]
theorem QhE {n : Nat} {m : Nat -> Nat -> Int} {c d : Nat} (hc : c < n) (hd : d < n) (hcd : c ≠ d) (hz : ∀ k : Nat -> Nat -> Int, k c = k d -> det n k = 0) (a b : Nat -> Int) : det n (cup (cup m c a) d b) = - det n (cup (cup m c b) d a) := by
 have z := hz (cup (cup m c λ r => a r + b r) d λ r => a r + b r) (by rw [QY, QO _ _ hcd, QY])
 have za := hz (cup (cup m c a) d a) (by rw [QY, QO _ _ hcd, QY])
 have zb := hz (cup (cup m c b) d b) (by rw [QY, QO _ _ hcd, QY])
 rw [Qhl hd, Qcq _ _ _ hcd, Qhl hc, Qcq _ _ _ hcd, Qhl hc, Qcq _ _ _ (Ne.symm hcd), Qcq _ _ _ (Ne.symm hcd), Qcq _ _ _ (Ne.symm hcd), Qcq _ _ _ (Ne.symm hcd), za, zb] at z
 omega
theorem QjH : ∀ (g n : Nat) (m : Nat -> Nat -> Int) (i : Nat), i + g + 1 < n -> m i = m (i + g + 1) -> det n m = 0
 | 0, n, m, i, h, e => Qhq n m i h e
 | g + 1, n, m, i, h, e => by
  have := QhE (m := m) (c := i + g + 1) (d := i + g + 1 + 1) (by omega) (by omega) (by omega) (λ k hk => Qhq n k _ (by omega) hk) (m (i + g + 1)) (m (i + g + 1 + 1))
  rw [Qcz, Qcz] at this
  rw [this, QjH g n _ i (by omega)]
  ·rfl
  ·rw [QO _ _ (by omega), QO _ _ (by omega), QO _ _ (by omega), QY]
   exact e
theorem QiG {n : Nat} {m : Nat -> Nat -> Int} {i j : Nat} (hi : i < n) (hj : j < n) (hij : i ≠ j) (e : m i = m j) : det n m = 0 := by
 rcases Nat.lt_or_gt_of_ne hij with h | h
 ·exact QjH (j - i - 1) n m i (by omega) (by rw [show i + (j - i - 1) + 1 = j by omega]; exact e)
 ·exact QjH (i - j - 1) n m j (by omega) (by rw [show j + (i - j - 1) + 1 = i by omega]; exact e.symm)
theorem Qms {n : Nat} {m : Nat -> Nat -> Int} {c d : Nat} (hc : c < n) (hd : d < n) (hcd : c ≠ d) (a b : Nat -> Int) : det n (cup (cup m c a) d b) = - det n (cup (cup m c b) d a) := QhE hc hd hcd (λ k hk => QiG hc hd hcd hk) a b
theorem Qg9 {n : Nat} {m : Nat -> Nat -> Int} {c : Nat} (h : c < n) (x : Nat -> Int) (E : Nat -> Nat -> Int) : ∀ k, det n (cup m c λ r => sm k λ s => x s * E s r) = sm k λ s => x s * det n (cup m c (E s))
 | 0 => by
  have := QjE (m := m) h 0 λ _ => 0
  rw [ZQ] at this
  unfold sm
  simpa using this
 | k + 1 => by
  unfold sm
  rw [Qhl h, Qg9 h x E k, QjE h]
theorem Qp2 : ∀ {n : Nat} (σ : Nat -> Nat), (∀ j, j < n + 1 -> σ j < n) -> ∃ i j, i < n + 1 /\ j < n + 1 /\ i ≠ j /\ σ i = σ j
 | 0, σ, h => absurd (h 0 (by omega)) (by omega)
 | n + 1, σ, h => by
  by_cases q : ∃ i, i < n + 1 /\ σ i = σ (n + 1)
  ·obtain ⟨i, hi, e⟩ := q
   exact ⟨i, n + 1, by omega, by omega, by omega, e⟩
  ·have ne : ∀ i, i < n + 1 -> σ i ≠ σ (n + 1) := λ i hi e => q ⟨i, hi, e⟩
   have hv := h (n + 1) (by omega)
   obtain ⟨i, j, hi, hj, hij, e⟩ := Qp2 (n := n) (λ j => if σ (n + 1) < σ j then σ j - 1 else σ j) λ j hj => by
    have := h j (by omega)
    have := ne j hj
    show (if σ (n + 1) < σ j then σ j - 1 else σ j) < n
    by_cases c : σ (n + 1) < σ j
    ·rw [if_pos c]; omega
    ·rw [if_neg c]; omega
   refine ⟨i, j, by omega, by omega, hij, ?_⟩
   have a := ne i hi
   have b := ne j hj
   have e : (if σ (n + 1) < σ i then σ i - 1 else σ i) = (if σ (n + 1) < σ j then σ j - 1 else σ j) := e
   by_cases c : σ (n + 1) < σ i
   ·rw [if_pos c] at e
    by_cases d : σ (n + 1) < σ j
    ·rw [if_pos d] at e; omega
    ·rw [if_neg d] at e; omega
   ·rw [if_neg c] at e
    by_cases d : σ (n + 1) < σ j
    ·rw [if_pos d] at e; omega
    ·rw [if_neg d] at e; omega
theorem QlK {n : Nat} {E : Nat -> Nat -> Int} {x : Nat -> Nat -> Int} : ∀ (k : Nat) (W : Nat -> Nat -> Int) (σ : Nat -> Nat), k <= n + 1 -> (∀ j, j < n + 1 -> σ j < n) -> (∀ j, j < k -> W j = λ r => sm n λ s => x j s * E s r) -> (∀ j, k <= j -> j < n + 1 -> W j = E (σ j)) -> det (n + 1) W = 0
 | 0, W, σ, hk, hσ, _, h2 => by
  obtain ⟨i, j, hi, hj, hij, e⟩ := Qp2 σ hσ
  exact QiG hi hj hij (by rw [h2 i (by omega) hi, h2 j (by omega) hj, e])
 | k + 1, W, σ, hk, hσ, h1, h2 => by
  have := Qg9 (n := n + 1) (m := W) (c := k) (by omega) (x k) E n
  rw [← h1 k (by omega), Qcz] at this
  rw [this]
  refine QjG λ s hs => ?_
  rw [QlK k (cup W k (E s)) (λ j => if j = k then s else σ j) (by omega) (λ j hj => by show (if j = k then s else σ j) < n; by_cases e : j = k; (rw [if_pos e]; exact hs); (rw [if_neg e]; exact hσ j hj)) (λ j hj => by rw [QO _ _ (by omega)]; exact h1 j (by omega)) λ j h3 h4 => ?_, Zat]
  show cup W k (E s) j = E (if j = k then s else σ j)
  by_cases e : j = k
  ·rw [e, QY, if_pos rfl]
  ·rw [QO _ _ e, if_neg e]; exact h2 j (by omega) h4
noncomputable def cyc (m : Nat -> Nat -> Int) (a : Nat -> Int) (l k : Nat) : Nat -> Nat -> Int := λ c => if c < k then m c else if c = k then a else if c <= l then m (c - 1) else m c
theorem QqX {n : Nat} (m : Nat -> Nat -> Int) (a : Nat -> Int) {l k : Nat} (hk : k < l) (hl : l < n) : det n (cyc m a l k) = - det n (cyc m a l (k + 1)) := by
 have h := Qms (n := n) (m := cyc m a l k) (c := k) (d := k + 1) (by omega) (by omega) (by omega) a (m k)
 have e1 : cup (cup (cyc m a l k) k a) (k + 1) (m k) = cyc m a l k := by
  have q1 : cyc m a l k k = a := by unfold cyc; rw [if_neg (by omega), if_pos rfl]
  have q2 : cyc m a l k (k + 1) = m k := by unfold cyc; rw [if_neg (by omega), if_neg (by omega), if_pos (by omega), Zbj]
  have := Qcz (cyc m a l k) k
  rw [q1] at this
  rw [this, ← q2, Qcz]
 have e2 : cup (cup (cyc m a l k) k (m k)) (k + 1) a = cyc m a l (k + 1) := by
  funext c
  by_cases h1 : c = k + 1
  ·subst h1; rw [QY]; unfold cyc; rw [if_neg (by omega), if_pos rfl]
  ·rw [QO _ _ h1]
   by_cases h2 : c = k
   ·subst h2; rw [QY]; unfold cyc; rw [if_pos (by omega)]
   ·rw [QO _ _ h2]
    unfold cyc
    by_cases h3 : c < k
    ·rw [if_pos h3, if_pos (by omega)]
    ·rw [if_neg h3, if_neg h2, if_neg (show ¬ c < k + 1 by omega), if_neg h1]
 rw [e1, e2] at h
 exact h
theorem Qni {n : Nat} (m : Nat -> Nat -> Int) (a : Nat -> Int) {l : Nat} (hl : l < n) : ∀ g k, k + g = l -> det n (cyc m a l k) = sgn g * det n (cup m l a)
 | 0, k, h => by
  have : cyc m a l k = cup m l a := by
   funext c
   unfold cyc cup
   by_cases h1 : c = l
   ·rw [if_neg (by omega), if_pos (by omega), if_pos h1]
   ·rw [if_neg h1]
    by_cases h2 : c < k
    ·rw [if_pos h2]
    ·rw [if_neg h2, if_neg (by omega), if_neg (by omega)]
  rw [this]; unfold sgn; simp
 | g + 1, k, h => by
  rw [QqX m a (by omega) hl, Qni m a hl g (k + 1) (by omega), Qh7, Zav]
theorem QuT (j : Nat) : sgn j * sgn j = 1 := by unfold sgn; split <;> rfl
noncomputable def bE (r s q : Nat) : Int := if q = 0 then (if s = r then 1 else 0) else if s = q - 1 then 1 else 0
theorem Qmu {n : Nat} (m : Nat -> Nat -> Int) (a : Nat -> Int) {r : Nat} (hr : r < n) : det n m * a r = sm n λ l => det n (cup m l a) * m l r := by
 have v0 : ∃ v : Nat -> Nat -> Int, v = λ j => if j = 0 then a else m (j - 1) := ⟨_, rfl⟩
 obtain ⟨v, hv⟩ := v0
 have hv0 : v 0 = a := by rw [hv]; rfl
 have hvs : ∀ j, v (j + 1) = m j := λ j => by rw [hv]; show (if j + 1 = 0 then a else m (j + 1 - 1)) = _; rw [if_neg (by omega), Zbj]
 have z : det (n + 1) (λ j s => if s = 0 then v j r else v j (s - 1)) = 0 := by
  have key : det (n + 1) (λ j q => sm n λ s => v j s * bE r s q) = 0 :=
   QlK (E := bE r) (x := v) (n + 1) _ (λ _ => r) (by omega) (λ _ _ => hr) (λ j _ => rfl) (λ j h1 h2 => by omega)
  rw [← key]
  refine QdM λ j hj s hs => ?_
  by_cases e : s = 0
  ·subst e
   rw [if_pos rfl, Qet (c := r) hr]
   ·unfold bE; rw [if_pos rfl, if_pos rfl, Zbk]
   ·intro i _ ne; unfold bE; rw [if_pos rfl, if_neg ne, Zat]
  ·rw [if_neg e, Qet (c := s - 1) (by omega)]
   ·unfold bE; rw [if_neg e, if_pos rfl, Zbk]
   ·intro i _ ne; unfold bE; rw [if_neg e, if_neg ne, Zat]
 unfold det at z
 have term : ∀ j, (sgn j * (if (0 : Nat) = 0 then v j r else v j (0 - 1)) * det n λ c q => if q + 1 = 0 then v (skp j c) r else v (skp j c) (q + 1 - 1)) = sgn j * v j r * det n λ c => v (skp j c) := λ j => by
  rw [if_pos rfl]
  congr 1
 have first : ∀ (k : Nat) (f : Nat -> Int), sm (k + 1) f = f 0 + sm k λ i => f (i + 1) := λ k f => by
  induction k with
  | zero => show 0 + f 0 = f 0 + 0; omega
  | succ k ih => show sm (k + 1) f + f (k + 1) = _; rw [ih]; show _ = f 0 + (sm k (λ i => f (i + 1)) + f (k + 1)); omega
 rw [Qbw λ j _ => term j, first] at z
 have t0 : (λ c => v (skp 0 c)) = m := by funext c; unfold skp; rw [if_neg (by omega), hvs]
 have tl : ∀ l, l < n -> sgn (l + 1) * v (l + 1) r * det n (λ c => v (skp (l + 1) c)) = - (det n (cup m l a) * m l r) := λ l hl => by
  have : (λ c => v (skp (l + 1) c)) = cyc m a l 0 := by
   funext c
   unfold skp cyc
   by_cases h0 : c = 0
   ·subst h0; rw [if_pos (show 0 < l + 1 by omega), if_neg (show ¬ 0 < 0 by omega), if_pos rfl, hv0]
   ·obtain ⟨c', rfl⟩ : ∃ c', c = c' + 1 := ⟨c - 1, by omega⟩
    rw [if_neg (show ¬ c' + 1 < 0 by omega), if_neg h0]
    by_cases h1 : c' + 1 <= l
    ·rw [if_pos (show c' + 1 < l + 1 by omega), if_pos h1, hvs, Zbj]
    ·rw [if_neg (show ¬ c' + 1 < l + 1 by omega), if_neg h1, hvs]
  rw [this, Qni m a hl l 0 (by omega), hvs, Qh7]
  have q := QuT l
  generalize det n (cup m l a) = d at *
  generalize m l r = x at *
  have : - sgn l * x * (sgn l * d) = - (sgn l * sgn l * (d * x)) := by
   rw [Zav, Zav, Zas, ZbF x, ← Zas, Zau x d]
  rw [this, q, Zar]
 rw [t0, hv0] at z
 have neg := QiH (-1) 0 (λ l => det n (cup m l a) * m l r) (λ _ => 0) n
 rw [Qbw (g := λ l => -1 * (det n (cup m l a) * m l r) + 0 * 0) λ l hl => by rw [tl l hl]; omega] at z
 have s0 : sgn 0 = 1 := rfl
 rw [neg, s0, Zar] at z
 rw [Zau]
 omega
theorem Qss {n : Nat} (m : Nat -> Nat -> Int) (u a : Nat -> Int) {k i : Nat} (hk : k < n) (hi : i < n) (hki : k ≠ i) : det n m * det n (cup (cup m k u) i a) = det n (cup m k u) * det n (cup m i a) - det n (cup m i u) * det n (cup m k a) := by
 have h1 : det n m * det n (cup (cup m k u) i a) = det n (cup (cup m i a) k λ r => det n m * u r) := by
  rw [QjE hk, Qcq _ _ _ hki]
 have h2 : det n (cup (cup m i a) k λ r => det n m * u r) = det n (cup (cup m i a) k λ r => sm n λ l => det n (cup m l u) * m l r) := by
  refine QdM λ j hj r hr => ?_
  by_cases e : j = k
  ·subst e; rw [QY, QY]; exact Qmu m u hr
  ·rw [QO _ _ e, QO _ _ e]
 rw [h1, h2, Qg9 hk (λ l => det n (cup m l u)) m n]
 have tk : det n (cup (cup m i a) k (m k)) = det n (cup m i a) := by rw [Qcq _ _ _ (Ne.symm hki), Qcz]
 have ti : det n (cup (cup m i a) k (m i)) = - det n (cup m k a) := by
  rw [Qms hi hk (Ne.symm hki), Qcz]
 have tn : ∀ l, l < n -> l ≠ k -> l ≠ i -> det n (cup (cup m i a) k (m l)) = 0 := λ l hl h1 h2 => QiG hk hl (Ne.symm h1) (by rw [QY, QO _ _ h1, QO _ _ h2])
 rcases Nat.lt_or_gt_of_ne hki with h | h
 ·rw [QiN (c := k) (d := i) h hi λ l hl a b => by rw [tn l hl a b, Zat], tk, ti, ZaQ]; omega
 ·rw [QiN (c := i) (d := k) h hk λ l hl a b => by rw [tn l hl b a, Zat], tk, ti, ZaQ]; omega
noncomputable def Qbk (j r : Nat) : Int := if j = r then 1 else 0
theorem QhO : ∀ n, det n Qbk = 1
 | 0 => rfl
 | n + 1 => by
  unfold det
  rw [Qet (c := 0) (by omega) λ i _ ne => by unfold Qbk; rw [if_neg ne, Zat, ZQ]]
  have : (λ c r => Qbk (skp 0 c) (r + 1)) = Qbk := by
   funext c r
   have e : skp 0 c = c + 1 := by unfold skp; rw [if_neg (by omega)]
   rw [e]
   unfold Qbk
   by_cases h : c = r
   ·rw [if_pos h, if_pos (by omega)]
   ·rw [if_neg h, if_neg (by omega)]
  rw [this, QhO n]
  unfold Qbk sgn
  simp
theorem Qmg {n : Nat} (a : Nat -> Int) {i : Nat} (hi : i < n) : det n (cup Qbk i a) = a i := by
 have := Qmu Qbk a hi
 rw [QhO, Zar, Qet (c := i) hi λ l _ ne => by rw [show Qbk l i = 0 by unfold Qbk; rw [if_neg ne], Zat]] at this
 rw [this, show Qbk i i = 1 by unfold Qbk; rw [if_pos rfl], Zbk]
structure Clr (n N k : Nat) (A m R : Nat -> Nat -> Int) (d : Int) : Prop where
 le : k <= n
 det : HS.det n m = d
 nz : d ≠ 0
 ent : ∀ i j, i < n -> j < N -> R i j = HS.det n (cup m i (A j))
 own : ∀ j, j < k -> m j = A j
theorem Clr.start (n N : Nat) (A : Nat -> Nat -> Int) : Clr n N 0 A Qbk (λ i j => A j i) 1 := ⟨by omega, QhO n, by decide, λ i j hi _ => (Qmg (A j) hi).symm, λ j hj => by omega⟩
theorem Clr.exact {n N k : Nat} {A m R : Nat -> Nat -> Int} {d : Int} (h : Clr n N k A m R d) (hk : k < n) (kN : k < N) {i j : Nat} (hi : i < n) (hj : j < N) (ne : i ≠ k) : R k k * R i j - R i k * R k j = d * HS.det n (cup (cup m k (A k)) i (A j)) := by
 rw [h.ent k k hk kN, h.ent i j hi hj, h.ent i k hi kN, h.ent k j hk hj, ← Qss m (A k) (A j) hk hi (Ne.symm ne), h.det]
theorem Clr.step {n N k : Nat} {A m R R' : Nat -> Nat -> Int} {d : Int} (h : Clr n N k A m R d) (hk : k < n) (kN : k < N) (hp : R k k ≠ 0) (h1 : ∀ j, j < N -> R' k j = R k j) (h2 : ∀ i j, i < n -> i ≠ k -> j < N -> ∀ q, R k k * R i j - R i k * R k j = d * q -> R' i j = q) : Clr n N (k + 1) A (cup m k (A k)) R' (R k k) := by
 refine ⟨hk, (h.ent k k hk kN).symm, hp, λ i j hi hj => ?_, λ j hj => ?_⟩
 ·by_cases e : i = k
  ·subst e
   rw [h1 j hj, h.ent i j hi hj, Qul]
  ·exact h2 i j hi e hj _ (h.exact hk kN hi hj e)
 ·by_cases e : j = k
  ·subst e; rw [QY]
  ·rw [QO _ _ e]; exact h.own j (by omega)
theorem Clr.tell {n N k : Nat} {A m R : Nat -> Nat -> Int} {d : Int} (h : Clr n N k A m R d) {j r : Nat} (hj : j < N) (hr : r < n) : d * A j r = sm n λ l => R l j * m l r := by
 have := Qmu m (A j) hr
 rw [h.det] at this
 rw [this]
 exact Qbw λ l hl => by rw [h.ent l j hl hj]
noncomputable def bnd (B : Nat) : Nat -> Nat
 | 0 => 1
 | n + 1 => (n + 1) * (B * bnd B n)
theorem Qp1 {f : Nat -> Int} {C : Nat} : ∀ {n : Nat}, (∀ i, i < n -> (f i).natAbs <= C) -> (sm n f).natAbs <= n * C
 | 0, _ => by simp [sm]
 | n + 1, h => by
  unfold sm
  have h1 := Qp1 (n := n) λ i hi => h i (by omega)
  have h2 := h n (by omega)
  have := Int.natAbs_add_le (sm n f) (f n)
  rw [ZbS]
  omega
theorem QtP (j : Nat) : (sgn j).natAbs = 1 := by unfold sgn; split <;> rfl
theorem Qha {B : Nat} : ∀ {n : Nat} {m : Nat -> Nat -> Int}, (∀ j, j < n -> ∀ r, r < n -> (m j r).natAbs <= B) -> (det n m).natAbs <= bnd B n
 | 0, _, _ => by show (1 : Int).natAbs <= 1; decide
 | n + 1, m, h => by
  unfold det bnd
  refine Qp1 λ j hj => ?_
  rw [Zcg, Zcg, QtP, Nat.one_mul]
  refine Nat.mul_le_mul (h j hj 0 (by omega)) (Qha λ c hc r hr => h _ ?_ _ (by omega))
  unfold skp
  split <;> omega
theorem Qj0 {n : Nat} (hn : n <= 8) : bnd (2 ^ 200) n < 2 ^ 2000 := by
 have h : ∀ k, k < 9 -> bnd (2 ^ 200) k < 2 ^ 2000 := by decide +kernel
 exact h n (by omega)
def QoM (n : Nat) (m : Nat -> Nat -> Int) : Prop := ∀ j, j < n -> ∀ r, r < n -> (m j r).natAbs <= 2 ^ 200
def QgO (n : Nat) (A : Nat -> Nat -> Int) : Prop := ∀ k, k < n -> ∀ c : Nat -> Int, (∀ r, r <= k -> sm (k + 1) (λ l => c l * A l r) = 0) -> c k = 0
structure QcS (n N k : Nat) (A m R : Nat -> Nat -> Int) (d : Int) : Prop where
 clr : Clr n N k A m R d
 unit : ∀ l, k <= l -> l < n -> m l = Qbk l
 col : QoM n m
theorem QoM.put {n : Nat} {m : Nat -> Nat -> Int} (h : QoM n m) {i : Nat} {a : Nat -> Int} (ha : ∀ r, r < n -> (a r).natAbs <= 2 ^ 200) : QoM n (cup m i a) := λ j hj r hr => by
 by_cases e : j = i
 ·subst e; rw [QY]; exact ha r hr
 ·rw [QO _ _ e]; exact h j hj r hr
theorem QcS.start (n N : Nat) (A : Nat -> Nat -> Int) : QcS n N 0 A Qbk (λ i j => A j i) 1 := ⟨Clr.start n N A, λ _ _ _ => rfl, λ j _ r _ => by unfold Qbk; split <;> decide⟩
theorem QcS.small {n N k : Nat} {A m R : Nat -> Nat -> Int} {d : Int} (h : QcS n N k A m R d) (hn : n <= 8) (hA : ∀ j, j < N -> ∀ r, r < n -> (A j r).natAbs <= 2 ^ 200) : d.natAbs < 2 ^ 2000 /\ ∀ i j, i < n -> j < N -> (R i j).natAbs < 2 ^ 2000 := by
 have b := Qj0 hn
 refine ⟨?_, λ i j hi hj => ?_⟩
 ·rw [← h.clr.det]; exact ZaI (Qha h.col) b
 ·rw [h.clr.ent i j hi hj]; exact ZaI (Qha (h.col.put (hA j hj))) b
theorem QhM {f : Nat -> Int} {k : Nat} : ∀ {n : Nat}, k <= n -> (∀ i, k <= i -> i < n -> f i = 0) -> sm n f = sm k f
 | 0, h, _ => by rw [Nat.le_zero.mp h]
 | n + 1, h, z => by
  by_cases e : k = n + 1
  ·rw [e]
  ·show sm n f + f n = sm k f
   rw [QhM (n := n) (by omega) λ i h1 h2 => z i h1 (by omega), z n (by omega) (by omega), ZaG]
theorem QcS.QsT {n N k : Nat} {A m R : Nat -> Nat -> Int} {d : Int} (h : QcS n N k A m R d) (hk : k < n) (kN : k < N) (hl : QgO n A) : R k k ≠ 0 := λ z => by
 refine h.clr.nz ?_
 have := hl k hk (λ l => if l = k then - d else R l k) λ r hr => by
  have t := h.clr.tell kN (show r < n by omega)
  rw [QhM (k := k) (by omega)] at t
  ·show (sm k λ l => (if l = k then - d else R l k) * A l r) + (if k = k then - d else R k k) * A k r = 0
   rw [if_pos rfl, Qbw (g := λ l => R l k * m l r) λ l hl => by rw [if_neg (by omega), h.clr.own l hl], ← t, Zav]
   omega
  ·intro l h1 h2
   by_cases e : l = k
   ·rw [e, z, ZQ]
   ·rw [h.unit l (by omega) h2, show Qbk l r = 0 by unfold Qbk; rw [if_neg (by omega)], Zat]
 rw [if_pos rfl] at this
 omega
theorem QcS.step {n N k : Nat} {A m R R' : Nat -> Nat -> Int} {d : Int} (h : QcS n N k A m R d) (hk : k < n) (kN : k < N) (hA : ∀ j, j < N -> ∀ r, r < n -> (A j r).natAbs <= 2 ^ 200) (hp : R k k ≠ 0) (h1 : ∀ j, j < N -> R' k j = R k j) (h2 : ∀ i j, i < n -> i ≠ k -> j < N -> ∀ q, R k k * R i j - R i k * R k j = d * q -> R' i j = q) : QcS n N (k + 1) A (cup m k (A k)) R' (R k k) :=
 ⟨h.clr.step hk kN hp h1 h2, λ l h3 h4 => by rw [QO _ _ (by omega)]; exact h.unit l (by omega) h4, h.col.put (hA k kN)⟩
theorem Qcr {i : Int} (h : i.natAbs < 2 ^ 2000) : QwI i := ZF (PyProof.Rows.intBits_le h) (by decide)
theorem QoJ {a d q : Int} (hd : d ≠ 0) (h : a = d * q) : Qcp a d = q := by
 rw [Qhp, h, Int.mul_fdiv_cancel_left q hd]
theorem QdO {fa fb : DE} {ρ : En} {ra rb : R} {a b : Int} (ha : fa ρ = some ra) (ea : ra.d = .int a) (hb : fb ρ = some rb) (eb : rb.d = .int b) : dOp Qat fa fb ρ = some ⟨.int (a - b), true, []⟩ := by
 refine Qae ha hb ?_
 rw [ea, eb]; rfl
theorem Qjs {fa fb : DE} {ρ : En} {ra rb : R} {a b q : Int} (ha : fa ρ = some ra) (ea : ra.d = .int a) (hb : fb ρ = some rb) (eb : rb.d = .int b) (hz : b ≠ 0) (h2 : b.natAbs < 2 ^ 2000) (h : a = b * q) : dOp Qdh fa fb ρ = some ⟨.int q, true, []⟩ := by
 refine Qae ha hb ?_
 rw [ea, eb]
 show (if Qa7 b = true then some (D.int (Qcp a b)) else none) = _
 have : Qa7 b = true := by
  unfold Qa7
  simp only [Zg, decide_eq_true_eq]
  exact ⟨hz, Zv h2 (ZK (by decide) (by decide))⟩
 rw [if_pos this, QoJ hz h]
noncomputable def QhG : DS := (Qf (QM (QX (QaJ (Qa 0) (Qa 1)) (.tp [1, 2]) [none, none, none, some 2, some 3, some 0, some 1] Q8 (dOp Qdh (dOp Qat (Qao (Qk (Qa 6) (Qa 3)) (Qa 1)) (Qao (Qk (Qa 5) (Qa 3)) (Qa 2))) (Qa 4)))) Qn)
def Qjk (d : Den) : Prop := ∀ (N k : Nat) (a p q : Nat -> Int) (b : Int), k < N -> b ≠ 0 -> b.natAbs < 2 ^ 2000 -> (∀ j, j < N -> (a j).natAbs < 2 ^ 2000 /\ (p j).natAbs < 2 ^ 2000) -> (∀ j, j < N -> p k * a j - a k * p j = b * q j) -> d [Qb N a, Qb N p, .int k, .int b] = some (Qb N q, true)
theorem QrH : Qjk (Qo 4 QhG) := λ N k a p q b hk hb hb2 hs hq =>
 Q7 (QE (r := ⟨Qb N q, true, []⟩) (QN (toD := λ (i : Nat) => .tup [.int (a i), .int (p i)]) (out := λ (i : Nat) => .int (q i)) (List.range N) (Qcg (f := λ i => .int (a i)) (g := λ i => .int (p i)) (ra := ⟨Qb N a, false, []⟩) (rb := ⟨Qb N p, false, []⟩) rfl rfl rfl rfl) rfl λ i hi => ⟨[none, some (.int (a i), true), some (.int (p i), true), some (.int k, true), some (.int b, true), some (Qb N a, false), some (Qb N p, false)], rfl, ⟨.int (q i), true, []⟩, by
  have hi' := Zh.mp hi
  refine Qjs (QdO (a := p k * a i) (b := a k * p i) (QaN (a := p k) (b := a i) (Qas (m := N) (f := p) (ra := ⟨Qb N p, false, []⟩) (rb := ⟨.int k, true, []⟩) rfl rfl rfl rfl hk) rfl (rb := ⟨.int (a i), true, []⟩) rfl rfl (Qg2 (Qcr (hs k hk).2) (Qcr (hs i hi').1))) rfl (QaN (a := a k) (b := p i) (Qas (m := N) (f := a) (ra := ⟨Qb N a, false, []⟩) (rb := ⟨.int k, true, []⟩) rfl rfl rfl rfl hk) rfl (rb := ⟨.int (p i), true, []⟩) rfl rfl (Qg2 (Qcr (hs k hk).1) (Qcr (hs i hi').2))) rfl) rfl (rb := ⟨.int b, true, []⟩) rfl rfl hb hb2 (hq i hi'), rfl, rfl⟩) ⟨rfl, rfl⟩)
noncomputable def QgM (Qaq : Den) : DS := (Qf (Qs 2 (QX (Qeh (Qa 1) (dBf Qa3 (Qc (Qa 0) Qg))) (.nm 1) [none, none, some 1, some 0] (QG (dOp gNe (Qk (Qk (Qa 3) (Qa 1)) (Qa 2)) (dC (.int 0)))) (Qa 1))) (Qf (sIf (bOr (QbK (QG (Qa 2))) (QG (dOp gEq (Qk (Qa 2) (dC (.int 0))) (Qa 1)))) (Qf (QM (Qa 0)) Qn) Qn) (Qf (Qs 3 (dList (Qc (Qa 0) Qg))) (Qf (QcQ 3 Q1 (Qa 1) (Qk (Qa 0) (Qk (Qa 2) (dC (.int 0))))) (Qf (QcQ 3 Q1 (Qk (Qa 2) (dC (.int 0))) (Qw 1 Qaq [] (Qc (Qk (Qa 0) (Qa 1)) Qg))) (Qf (QM (Qa 3)) Qn))))))
def QjU (d : Den) : Prop := ∀ (n N k : Nat) (f : Nat -> Nat -> Int), k < n -> n <= 1000 -> k < N -> f k k ≠ 0 -> d [Qz n N f, .int k] = some (Qz n N f, false)
theorem Qr8 {dop : Den} : QjU (Qo 4 (QgM dop)) := λ n N k f hk hn kN hp => by
 have eI := Qng (fi := Qeh (Qa 1) (dBf Qa3 (Qc (Qa 0) Qg))) (t := .nm 1) (cap := [none, none, some 1, some 0]) (ft := QG (dOp gNe (Qk (Qk (Qa 3) (Qa 1)) (Qa 2)) (dC (.int 0)))) (fe := Qa 1) (ρ := [some (Qz n N f, false), some (.int k, true), none, none])
  (toD := λ (i : Nat) => .int ((k : Int) + i)) (keep := λ i => !decide (f (k + i) k = 0)) (out := λ (i : Nat) => .int ((k : Int) + i)) (List.range (n - k)) (Qpb (i := k) (j := n) (n := n - k) (ra := ⟨.int k, true, []⟩) rfl rfl (Qg3 (n := n) (m := N) (f := f) (r := ⟨Qz n N f, false, []⟩) rfl rfl) rfl (by omega) (by omega) (by omega) (by omega)) rfl λ i hi => ⟨[none, some (.int ((k : Int) + i), true), some (.int k, true), some (Qz n N f, false)], rfl, by
   have hi' := Zh.mp hi
   refine QB (QdV (a := f (k + i) k) (b := 0) (Qas (m := N) (f := f (k + i)) (i := k) ((QnZ (m := n) (n := N) (f := f) (i := (k : Int) + i) (ra := ⟨Qz n N f, false, []⟩) (rb := ⟨.int ((k : Int) + i), true, []⟩) rfl rfl rfl rfl (by omega) (by omega)).trans (by rw [show ((k : Int) + i).toNat = k + i by omega])) rfl (rb := ⟨.int k, true, []⟩) rfl rfl kN) rfl rfl rfl) rfl, λ _ => ⟨⟨.int ((k : Int) + i), true, []⟩, rfl, rfl, rfl⟩⟩
 have hr : List.range (n - k) = 0 :: (List.range (n - k - 1)).map (· + 1) := by
  rw [show n - k = (n - k - 1) + 1 by omega, ZbW]; rfl
 rw [hr, List.filter_cons, if_pos (by show (!decide (f (k + 0) k = 0)) = true; rw [Nat.add_zero, decide_eq_false hp]; rfl), Zn] at eI
 generalize ((((List.range (n - k - 1)).map (· + 1)).filter λ i => !decide (f (k + i) k = 0)).map λ (i : Nat) => D.int ((k : Int) + i)) = xs at eI
 refine Q7 ?_
 refine run_seq (Qi eI ?_)
 rw [Ql]
 refine QT (Q0 (b := true) ((QaL (a := false) (b := true) (Qbg (b := true) (show QG (Qa 2) _ = some true from rfl)) (QB (b := true) (Qes (a := k) (b := k) (ra := ⟨.int k, true, []⟩) ?_ rfl (rb := ⟨.int k, true, []⟩) rfl rfl) (by simp))).trans rfl) (λ _ => ?_) (λ h => by cases h))
 ·unfold Qk
  show ((D.items (.lst (.int ((k : Int) + (0 : Nat)) :: xs))).bind λ ys => (atI ys (0 : Int)).map λ d => (HS.R.mk d true [2]).norm) = _
  simp only [D.items, Za]
  rw [Qg8 (show (0 : Int) <= 0 by decide) (by simp)]
  show some (HS.R.mk (.int ((k : Int) + (0 : Nat))) true [2]).norm = _
  rw [show (k : Int) + (0 : Nat) = k by omega]; rfl
 ·exact QT (Qnf (r := ⟨Qz n N f, false, []⟩) rfl ⟨rfl, rfl⟩)
noncomputable def QeQ (QbG : Den) (Qb5 : Den) : DS := (Qf (Qs 1 (QaF (Qa 0))) (Qf (Qs 2 (dC (.int 1))) (Qf (Qa1 (Qbc (dBf Qa3 (Qc (Qa 0) Qg))) (.nm 3) (Qf (Qs 1 (Qw 2 QbG [] (Qc (Qa 1) (Qc (Qa 3) Qg)))) (Qf (Qs 4 (QaF (Qk (Qa 1) (Qa 3)))) (Qf (sIf (QG (dOp gEq (Qk (Qa 4) (Qa 3)) (dC (.int 0)))) (Qf (QM (Qaz (Qc (Qa 1) (Qc (dC (.int 0)) Qg)))) Qn) Qn) (Qf (Qs 1 (QX (Qak (Qa 1)) (.nm 1) [none, none, some 3, some 2, some 4] Q8 (Qw 4 Qb5 [] (Qc (Qa 1) (Qc (Qa 4) (Qc (Qa 2) (Qc (Qa 3) Qg))))))) (Qf (QcQ 1 Q1 (Qa 3) (Qa 4)) (Qf (Qs 2 (QaF (Qk (Qa 4) (Qa 3)))) Qn))))))) (Qf (QM (Qaz (Qc (Qa 1) (Qc (Qa 2) Qg)))) Qn))))
theorem QhY {n : Nat} {den : Den} {dfl : List D} {fs : DA} {ρ : En} {r : RA} {d : D} (h : fs ρ = some r) (e : den (r.ds ++ dfl) = some (d, false)) (hn : r.ds.length + dfl.length = n) : Qw n den dfl fs ρ = some (R.norm ⟨d, false, r.M⟩) := by
 unfold Qw
 rw [h, Za, if_pos hn, e]
 rfl
theorem QpU {x n N k : Nat} {g : Nat -> Nat -> Int} {p : Nat -> Int} {fi fa : DE} {ρ : En} {Q : Out -> Prop} (hx : ρ[x]? = some (some (Qz n N g, true))) (hi : fi ρ = some ⟨.int k, true, []⟩) (ha : fa ρ = some ⟨Qb N p, false, []⟩) (hk : k < n)
  (q : Q (.nx (ρ.set x (some (Qz n N (λ i j => if i = k then p j else g i j), false))))) : Run (QcQ x Q1 fi fa) ρ Q := by
 refine ⟨_, ?_, q⟩
 unfold QcQ
 rw [ha, Za, hx]
 have hn : (HS.R.mk (Qb N p) false []).norm = ⟨Qb N p, false, []⟩ := by unfold R.norm Qb; rfl
 simp only [Q1, Za, hi, Qz, Qa8, Zi, ZG, hn]
 rw [Qee (show (0 : Int) <= k by omega) (by omega)]
 simp only [Za, ZY]
 have e : ((List.range n).map λ i => Qb N (g i)).set k (Qb N p) = (List.range n).map λ i => Qb N (λ j => if i = k then p j else g i j) := by
  refine ZaW λ i => ?_
  rw [List.getElem?_set]
  by_cases h : k = i
  ·subst h
   rw [if_pos rfl, if_pos (by simpa using hk), Zo, ZO hk]
   simp
  ·rw [if_neg h, Zo, Zo]
   by_cases h2 : i < n
   ·rw [ZO h2]
    simp only [ZL, if_neg (Ne.symm h)]
   ·rw [Zx (by simpa using h2)]; rfl
 rw [e]
 rfl
def QgH (d : Den) : Prop := ∀ (n N : Nat) (A : Nat -> Nat -> Int), n <= 8 -> n <= N -> (∀ j, j < N -> ∀ r, r < n -> (A j r).natAbs <= 2 ^ 200) -> QgO n A -> ∃ m R b, d [Qz n N (λ i j => A j i)] = some (.tup [Qz n N R, .int b], false) /\ QcS n N n A m R b
theorem Qn5 {dp dt : Den} (hp : QjU dp) (ht : Qjk dt) : QgH (Qo 5 (QeQ dp dt)) := λ n N A n8 hN hA hl => by
 have key : Run (QeQ dp dt) [some (Qz n N (λ i j => A j i), false), none, none, none, none] λ o => match o with | .rt d fr => fr = false /\ ∃ m R b, d = .tup [Qz n N R, .int b] /\ QcS n N n A m R b | _ => False := by
  refine run_seq (Qi (Qcw (r := ⟨Qz n N (λ i j => A j i), false, []⟩) rfl) ?_)
  refine run_seq (Qi (r := ⟨.int 1, true, []⟩) rfl ?_)
  rw [Ql]
  refine QT (Qag (toD := λ (k : Nat) => .int (k : Int)) (List.range n) (λ k ρ => ∃ m R b j3 j4, QcS n N k A m R b /\ ρ = [some (Qz n N (λ i j => A j i), false), some (Qz n N R, false), some (.int b, true), j3, j4]) (Qcv (n := n) (Qg3 (n := n) (m := N) (f := λ i j => A j i) (r := ⟨Qz n N (λ i j => A j i), false, []⟩) rfl rfl) rfl (by omega)) rfl ⟨_, _, _, none, none, QcS.start n N A, rfl⟩ ?_ ?_)
  ·rintro k k' ρ hk ⟨m, R, b, j3, j4, C, rfl⟩
   have hk' : k < n /\ k = k' := by
    obtain ⟨h1, h2⟩ := Zf.mp hk
    simp at h1 h2; exact ⟨h1, h2⟩
   obtain ⟨hkn, rfl⟩ := hk'
   have kN : k < N := by omega
   have pv := C.QsT hkn kN hl
   obtain ⟨sb, sR⟩ := C.small n8 hA
   have ep := hp n N k R hkn (by omega) kN pv
   refine ⟨[some (Qz n N (λ i j => A j i), false), some (Qz n N R, false), some (.int b, true), some (.int k, true), j4], rfl, ?_⟩
   refine run_seq (Qi (r := ⟨Qz n N R, false, []⟩) ((QhY (r := ⟨[Qz n N R, .int k], false, []⟩) rfl ep rfl).trans rfl) ?_)
   refine run_seq (Qi (r := ⟨Qb N (R k), false, []⟩) ((Qcw (QnZ (m := n) (n := N) (f := R) (i := k) (ra := ⟨Qz n N R, false, []⟩) (rb := ⟨.int k, true, []⟩) rfl rfl rfl rfl (by omega) (by omega))).trans rfl) ?_)
   refine QT (Q0 (b := false) (QB (Qes (a := R k k) (b := 0) (Qas (m := N) (f := R k) (i := k) (ra := ⟨Qb N (R k), false, []⟩) (rb := ⟨.int k, true, []⟩) rfl rfl rfl rfl kN) rfl rfl rfl) (by simp [pv])) (λ h => by cases h) (λ _ => Qp ?_))
   have ex : ∀ i j, ∃ q, i < n -> i ≠ k -> j < N -> R k k * R i j - R i k * R k j = b * q := λ i j => by
    by_cases h : i < n /\ i ≠ k /\ j < N
    ·exact ⟨_, λ h1 h2 h3 => C.clr.exact hkn kN h1 h3 h2⟩
    ·exact ⟨0, λ h1 h2 h3 => absurd ⟨h1, h2, h3⟩ h⟩
   have zz : ∀ j, R k k * R k j - R k k * R k j = b * 0 := λ j => by rw [Int.sub_self, Zat]
   have eT : ∀ i, i < n -> dt [Qb N (R i), Qb N (R k), .int k, .int b] = some (Qb N (λ j => if i = k then 0 else (ex i j).choose), true) := λ i hi =>
    ht N k (R i) (R k) _ b kN C.clr.nz sb (λ j hj => ⟨sR i j hi hj, sR k j hkn hj⟩) λ j hj => by
     by_cases e : i = k
     ·rw [if_pos e, e]; exact zz j
     ·rw [if_neg e]; exact (ex i j).choose_spec hi e hj
   refine run_seq (Qi (r := ⟨Qz n N (λ i j => if i = k then 0 else (ex i j).choose), true, []⟩) (QN (toD := λ (i : Nat) => Qb N (R i)) (out := λ (i : Nat) => Qb N (λ j => if i = k then 0 else (ex i j).choose)) (List.range n) (Qaj (r := ⟨Qz n N R, false, []⟩) rfl rfl) rfl λ i hi => ⟨[none, some (Qb N (R i), false), some (.int k, true), some (.int b, true), some (Qb N (R k), false)], rfl, ⟨Qb N (λ j => if i = k then 0 else (ex i j).choose), true, []⟩, Qt (r := ⟨[Qb N (R i), Qb N (R k), .int k, .int b], false, []⟩) rfl (eT i (Zh.mp hi)) rfl, rfl, rfl⟩) ?_)
   rw [Ql]
   refine run_seq (QpU (n := n) (N := N) (k := k) (p := R k) (g := λ i j => if i = k then 0 else (ex i j).choose) rfl rfl rfl hkn ?_)
   refine run_seq (Qi (r := ⟨.int (R k k), false, []⟩) ((Qcw (Qas (m := N) (f := R k) (i := k) (ra := ⟨Qb N (R k), false, []⟩) (rb := ⟨.int k, true, []⟩) rfl rfl rfl rfl kN)).trans rfl) (Qp ?_))
   rw [QbZ rfl]
   refine ⟨_, _, _, _, _, C.step (R' := λ i j => if i = k then R k j else (λ i j => if i = k then 0 else (ex i j).choose) i j) hkn kN hA pv (λ j _ => by show (if k = k then R k j else _) = _; rw [if_pos rfl]) (λ i j hi ne hj q hq => ?_), rfl⟩
   show (if i = k then R k j else if i = k then 0 else (ex i j).choose) = q
   rw [if_neg ne, if_neg ne]
   exact Zbb C.clr.nz (((ex i j).choose_spec hi ne hj).symm.trans hq)
  ·rintro ρ ⟨m, R, b, j3, j4, C, rfl⟩
   rw [ZG] at C
   exact QE (r := ⟨.tup [Qz n N R, .int b], false, []⟩) rfl ⟨rfl, m, R, b, rfl, C⟩
 obtain ⟨o, h1, h2⟩ := key
 cases o with
 | rt d fr =>
  obtain ⟨rfl, m, R, b, rfl, C⟩ := h2
  exact ⟨m, R, b, by show Option.bind (QeQ dp dt [some (Qz n N (λ i j => A j i), false), none, none, none, none]) outD = _; rw [h1]; rfl, C⟩
 | _ => exact h2.elim
theorem Qg5 (f : Nat -> Int) : ∀ n, sm n f = Qu n f
 | 0 => rfl
 | n + 1 => by rw [Qab, ← Qg5 f n]; rfl
theorem Qnr {m : Nat} {f : Nat -> Int} (h : ∀ i, i < m -> 0 <= f i) : 0 <= Qu m f := by
 have := Qbp (m := m) (f := λ _ => 0) (g := f) h
 rw [Q4] at this
 exact this
theorem Qnj {m k : Nat} {T : Nat -> Nat -> Int} (tp : TP m T) {c : Nat -> Int} (h0 : ∀ l, k < l -> c l = 0) (h : ∀ r, r < m -> r <= k -> Qu m (λ l => c l * T l r) = 0) : ∀ l, l < m -> c l <= 0 := by
 obtain ⟨w, w0, hw⟩ := tp.wt
 have p0 : ∀ l, 0 <= (if 0 < c l then c l else 0) := λ l => by split <;> omega
 have v0 : ∀ r, r < m -> 0 <= Qu m (λ l => (if 0 < c l then c l else 0) * T l r) := λ r hr => by
  by_cases h1 : 0 < c r
  ·have hrk : r <= k := by
    by_cases z : k < r
    ·rw [h0 r z] at h1; omega
    ·omega
   have e : Qu m (λ l => (if 0 < c l then c l else 0) * T l r) = Qu m (λ l => ((if 0 < c l then c l else 0) - c l) * T l r) := by
    have := Qal m (λ l => ((if 0 < c l then c l else 0) - c l) * T l r) (λ l => c l * T l r)
    rw [h r hr hrk, ZaG] at this
    rw [← this]
    exact QC λ l _ => by rw [← ZZ]; congr 1; omega
   rw [e]
   refine Qnr λ l hl => ?_
   by_cases e2 : l = r
   ·subst e2; rw [if_pos h1, Int.sub_self, ZQ]; exact Zah _
   ·refine ZaD ?_ (tp.pos l r hl hr e2)
    split <;> omega
  ·refine Qnr λ l hl => ?_
   by_cases e2 : l = r
   ·subst e2; rw [if_neg h1, ZQ]; exact Zah _
   ·exact ZaD (p0 l) (tp.pos l r hl hr e2)
 have s1 : 0 <= Qu m λ r => Qu m (λ l => (if 0 < c l then c l else 0) * T l r) * w r := by
  have : Qu m (λ _ => (0 : Int)) <= Qu m λ r => Qu m (λ l => (if 0 < c l then c l else 0) * T l r) * w r := Qbp λ r hr => ZaD (v0 r hr) (w0 r)
  rw [Q4] at this
  exact this
 have s2 : (Qu m λ r => Qu m (λ l => (if 0 < c l then c l else 0) * T l r) * w r) = Qu m λ l => (if 0 < c l then c l else 0) * Qu m λ r => T l r * w r := by
  have e1 : (λ r => Qu m (λ l => (if 0 < c l then c l else 0) * T l r) * w r) = λ r => Qu m λ l => (if 0 < c l then c l else 0) * (T l r * w r) := by
   funext r
   rw [Zau, ← Qc1]
   exact QC λ l _ => by rw [Zau (w r), Zas]
  rw [e1, Qqi]
  exact QC λ l _ => by rw [Qc1]
 have s3 : (Qu m λ l => (if 0 < c l then c l else 0) * Qu m λ r => T l r * w r) <= Qu m λ l => - (if 0 < c l then c l else 0) := Qbp λ l hl => by
  have := ZX (hw l hl) (p0 l)
  omega
 rw [Qcy] at s3
 intro l hl
 have big : (if 0 < c l then c l else 0) <= Qu m λ l => (if 0 < c l then c l else 0) := by
  have := QaA (m := m) hl (if 0 < c l then c l else 0) (λ _ => 1)
  have h2 : Qu m (λ i => (if i = l then (if 0 < c l then c l else 0) else 0) * 1) <= Qu m λ l => (if 0 < c l then c l else 0) := Qbp λ i _ => by
   rw [Zbk]
   by_cases e : i = l
   ·subst e; rw [if_pos rfl]; exact Zah _
   ·rw [if_neg e]; exact p0 i
  omega
 by_cases z : 0 < c l
 ·rw [if_pos z] at big; omega
 ·omega
theorem Qnk {m : Nat} {T : Nat -> Nat -> Int} (tp : TP m T) : QgO m λ l r => 0 - T l r := λ k hk c h => by
 have ext : ∀ r, r <= k -> Qu m (λ l => (if l <= k then c l else 0) * T l r) = 0 := λ r hr => by
  have e := h r hr
  rw [← Qg5, QhM (k := k + 1) (by omega)]
  ·have n := QiH (-1) 0 (λ l => c l * (0 - T l r)) (λ _ => 0) (k + 1)
   rw [e] at n
   rw [Qbw (g := λ l => -1 * (c l * (0 - T l r)) + 0 * 0) λ l hl => by rw [if_pos (by omega), Zba, ZaQ]; omega, n]
   omega
  ·intro l h1 h2; rw [if_neg (by omega), ZQ]
 have a := Qnj (k := k) tp (c := λ l => if l <= k then c l else 0) (λ l hl => by show (if l <= k then c l else 0) = 0; rw [if_neg (by omega)]) (λ r _ hr => ext r hr) k hk
 have b := Qnj (k := k) tp (c := λ l => if l <= k then - c l else 0) (λ l hl => by show (if l <= k then - c l else 0) = 0; rw [if_neg (by omega)]) (λ r _ hr => by
  have := ext r hr
  rw [QC (g := λ l => - ((if l <= k then c l else 0) * T l r)) λ l _ => by split <;> simp [Zav], Qcy, this]; rfl) k hk
 have a : (if k <= k then c k else 0) <= 0 := a
 have b : (if k <= k then - c k else 0) <= 0 := b
 rw [if_pos (Zm k)] at a b
 omega
noncomputable def QiE : DS := (Qf (QM (QX (Qak (Qa 0)) (.nm 1) [none, none] Q8 (dOp Qat (dC (.int 0)) (Qa 1)))) Qn)
def QkO (d : Den) : Prop := ∀ (n : Nat) (a : Nat -> Int), d [Qb n a] = some (Qb n λ i => 0 - a i, true)
theorem Qv3 : QkO (Qo 1 QiE) := λ n a => Q7 (QE (r := ⟨Qb n λ i => 0 - a i, true, []⟩) (QN (toD := λ (i : Nat) => .int (a i)) (out := λ (i : Nat) => .int (0 - a i)) (List.range n) (Qaj (r := ⟨Qb n a, false, []⟩) rfl rfl) rfl λ i _ => ⟨[none, some (.int (a i), true)], rfl, ⟨.int (0 - a i), true, []⟩, rfl, rfl, rfl⟩) ⟨rfl, rfl⟩)
noncomputable def Qht (Qaq : Den) (QZ : Den) : DS := (Qf (QM (QX (Qak (Qw 1 QZ [] (Qc (Qa 0) Qg))) (.nm 1) [none, none] Q8 (Qw 1 Qaq [] (Qc (Qa 1) Qg)))) Qn)
def QhZ (d : Den) : Prop := ∀ (m : Nat) (R L : List (Int × Int)), m <= 1000 -> R.length + R.length + L.length <= 1000000 -> (∀ s ∈ R, Good m s) -> (∀ s ∈ L, Good m s) -> d [Qj m R L] = some (Qz m m λ i j => 0 - Qe m (Qd R L) i j, true)
theorem QqM {dop dt : Den} (ho : QkO dop) (ht : Qek dt) : QhZ (Qo 1 (Qht dop dt)) := λ m R L hm hl hR hL => by
 have et := ht m R L hm hl hR hL
 generalize Qe m (Qd R L) = T at *
 exact Q7 (QE (r := ⟨Qz m m λ i j => 0 - T i j, true, []⟩) (QN (toD := λ (i : Nat) => Qb m (T i)) (out := λ (i : Nat) => Qb m λ j => 0 - T i j) (List.range m) (Qaj (Qt (r := ⟨[Qj m R L], false, []⟩) rfl et rfl) rfl) rfl λ i _ => ⟨[none, some (Qb m (T i), false)], rfl, ⟨Qb m λ j => 0 - T i j, true, []⟩, Qt (r := ⟨[Qb m (T i)], false, []⟩) rfl (ho m (T i)) rfl, rfl, rfl⟩) ⟨rfl, rfl⟩)
noncomputable def QfJ : DS := (Qf (Qs 1 (dC (.int 0))) (Qf (Qa1 (Qak (Qa 0)) (.nm 2) (Qf (Qs 3 (QaF (Qa 2))) (Qf (Qb3 (QG (dOp gNe (Qa 3) (dC (.int 0)))) (Qf (Qs 4 (dOp Qau (Qa 1) (Qa 3))) (Qf (Qs 1 (QaF (Qa 3))) (Qf (Qs 3 (QaF (Qa 4))) Qn)))) Qn))) (Qf (QM (dBf QoD (Qc (Qa 1) Qg))) Qn)))
theorem Qst {a b t : Int} : (t ∣ b /\ t ∣ QbC a b) ↔ (t ∣ a /\ t ∣ b) := by
 have e : QbC a b = a - b * Qcp a b := by
  rw [Qhp, show QbC a b = a.fmod b from Qg6 a b, Int.fmod_def]
 rw [e]
 constructor
 ·rintro ⟨h1, h2⟩
  refine ⟨?_, h1⟩
  have := Int.dvd_add h2 (ZbQ (c := Qcp a b) h1)
  rwa [Int.sub_add_cancel] at this
 ·rintro ⟨h1, h2⟩
  exact ⟨h2, Int.dvd_sub h1 (ZbQ h2)⟩
theorem Qt3 {a b : Int} (h : b ≠ 0) : (QbC a b).natAbs < b.natAbs := by
 rw [show QbC a b = a.fmod b from Qg6 a b]
 by_cases hb : 0 < b
 ·have h1 := ZbY a hb
  have h2 := Int.fmod_lt_of_pos a hb
  omega
 ·have hb' : 0 < -b := by omega
  have h1 := ZbY (-a) hb'
  have h2 := Int.fmod_lt_of_pos (-a) hb'
  have h3 := Int.neg_fmod_neg a b
  omega
def Qh4 (d : Den) : Prop := ∀ (xs : List Int), ∃ g : Int, d [Qm xs] = some (.int g, true) /\ 0 <= g /\ ∀ t, t ∣ g ↔ ∀ x ∈ xs, t ∣ x
theorem QpS : Qh4 (Qo 5 QfJ) := λ xs => by
 have key : Run QfJ [some (Qm xs, false), none, none, none, none] λ o => match o with | .rt d fr => fr = true /\ ∃ g, d = .int g /\ 0 <= g /\ ∀ t, t ∣ g ↔ ∀ x ∈ xs, t ∣ x | _ => False := by
  refine run_seq (Qi (r := ⟨.int 0, true, []⟩) rfl ?_)
  rw [Ql]
  refine QT (Qag (toD := D.int) xs (λ k ρ => ∃ g j2 j3 j4, (∀ t, t ∣ g ↔ ∀ x ∈ xs.take k, t ∣ x) /\ ρ = [some (Qm xs, false), some (.int g, true), j2, j3, j4]) (Qaj (r := ⟨Qm xs, false, []⟩) rfl rfl) rfl ⟨0, none, none, none, λ t => by simp, rfl⟩ ?_ ?_)
  ·rintro k x ρ hk ⟨g, j2, j3, j4, hg, rfl⟩
   refine ⟨[some (Qm xs, false), some (.int g, true), some (.int x, true), j3, j4], rfl, ?_⟩
   refine run_seq (Qi (r := ⟨.int x, false, []⟩) rfl ?_)
   rw [QbZ rfl]
   refine Qai (P := λ ρ => ∃ g' j4, (∀ t, t ∣ g' ↔ (t ∣ g /\ t ∣ x)) /\ ρ = [some (Qm xs, false), some (.int g', true), some (.int x, true), some (.int 0, true), j4]) ?_ ?_
   ·refine QgX (λ n ρ => ∃ g' r j4, n = r.natAbs /\ (∀ t, (t ∣ g' /\ t ∣ r) ↔ (t ∣ g /\ t ∣ x)) /\ ρ = [some (Qm xs, false), some (.int g', true), some (.int x, true), some (.int r, true), j4]) ?_ x.natAbs _ ⟨g, x, j4, rfl, λ _ => Iff.rfl, rfl⟩
    rintro n ρ ⟨g', r, j4, rfl, hd, rfl⟩
    refine ⟨!decide (r = 0), QB (QdV (a := r) (b := 0) (ra := ⟨.int r, true, []⟩) rfl rfl rfl rfl) rfl, λ h => ?_, λ h => ?_⟩
    ·have hr : r = 0 := by simpa using h
     subst hr
     exact ⟨g', j4, λ t => by rw [← hd t]; simp, rfl⟩
    ·have hr : r ≠ 0 := by simpa using h
     refine run_seq (Qi (r := ⟨.int (QbC g' r), true, []⟩) (Qae (ra := ⟨.int g', true, []⟩) (rb := ⟨.int r, true, []⟩) rfl rfl (by show (if r ≠ 0 then some (D.int (QbC g' r)) else none) = _; rw [if_pos hr])) ?_)
     rw [Ql]
     refine run_seq (Qi (r := ⟨.int r, false, []⟩) rfl ?_)
     rw [QbZ rfl]
     refine run_seq (Qi (r := ⟨.int (QbC g' r), false, []⟩) rfl (Qp ?_))
     rw [QbZ rfl]
     exact ⟨_, Qt3 hr, r, QbC g' r, _, rfl, λ t => Qst.trans (hd t), rfl⟩
   ·rintro ρ ⟨g', j4, hd, rfl⟩
    refine Qp ⟨g', _, _, _, λ t => ?_, rfl⟩
    rw [hd t, hg t, List.take_succ, hk]
    simp only [ZE, Option.toList_some, ZD]
    exact ⟨λ ⟨a, b⟩ y hy => hy.elim (a y) λ e => e ▸ b, λ a => ⟨λ y hy => a y (.inl hy), a x (.inr rfl)⟩⟩
  ·rintro ρ ⟨g, j2, j3, j4, hg, rfl⟩
   rw [ZaP] at hg
   refine QE (r := ⟨.int (if g < 0 then -g else g), true, []⟩) rfl ⟨rfl, _, rfl, by split <;> omega, λ t => ?_⟩
   rw [← hg t]
   split
   ·exact Int.dvd_neg
   ·exact Iff.rfl
 obtain ⟨o, h1, h2⟩ := key
 cases o with
 | rt d fr =>
  obtain ⟨rfl, g, rfl, g0, hg⟩ := h2
  exact ⟨g, by show Option.bind (QfJ [some (Qm xs, false), none, none, none, none]) outD = _; rw [h1]; rfl, g0, hg⟩
 | _ => exact h2.elim
noncomputable def QeR (Qda : Den) : DS := (Qf (Qs 1 (Qw 1 Qda [] (Qc (Qa 0) Qg))) (Qf (sIf (QG (dOp gEq (Qk (Qa 1) (dC (.int 1))) (dC (.int 0)))) (Qf QF Qn) Qn) (Qf (QM (Qa 1)) Qn)))
def QfN (d : Den) : Prop := ∀ (n N : Nat) (A : Nat -> Nat -> Int), n <= 8 -> n <= N -> (∀ j, j < N -> ∀ r, r < n -> (A j r).natAbs <= 2 ^ 200) -> QgO n A -> ∃ m R b, d [Qz n N (λ i j => A j i)] = some (.tup [Qz n N R, .int b], false) /\ QcS n N n A m R b
theorem QmU {dc : Den} (hc : QgH dc) : QfN (Qo 2 (QeR dc)) := λ n N A n8 hN hA hl => by
 obtain ⟨m, R, b, ec, C⟩ := hc n N A n8 hN hA hl
 refine ⟨m, R, b, Q7 ?_, C⟩
 refine run_seq (Qi (r := ⟨.tup [Qz n N R, .int b], false, []⟩) ((QhY (r := ⟨[Qz n N (λ i j => A j i)], false, []⟩) rfl ec rfl).trans rfl) ?_)
 refine QT (Q0 (b := false) (QB (Qes (a := b) (b := 0) (ra := ⟨.int b, true, []⟩) rfl rfl rfl rfl) (by simp [C.clr.nz])) (λ h => by cases h) (λ _ => Qp ?_))
 exact QE (r := ⟨.tup [Qz n N R, .int b], false, []⟩) rfl ⟨rfl, rfl⟩
noncomputable def Qgg (QdI : Den) (QaW : Den) (QbY : Den) (Qdv : Den) : DS := (Qf (Qs 2 (dBf Qa3 (Qc (Qa 0) Qg))) (Qf (sIf (QG (dOp gNe (dBf Qa3 (Qc (Qa 1) Qg)) (Qa 2))) (Qf QF Qn) Qn) (Qf (Qs 3 (Qw 1 QaW [] (Qc (QX (QaJ (Qw 1 QdI [] (Qc (Qa 0) Qg)) (Qa 1)) (.tp [1, 2]) [none, none, none] Q8 (QH (Qa 1) (QW (Qc (Qa 2) Qg)))) Qg))) (Qf (Qs 4 (Qw 2 QbY [] (Qc (Qk (Qa 3) (dC (.int 0))) (Qc (Qa 2) Qg)))) (Qf (Qs 5 (Qw 1 Qdv [] (Qc (QH (Qa 4) (QW (Qc (Qk (Qa 3) (dC (.int 1))) Qg))) Qg))) (Qf (sIf (QG (dOp gLt (Qk (Qa 3) (dC (.int 1))) (dC (.int 0)))) (Qf (Qs 5 (dOp Qat (dC (.int 0)) (Qa 5))) Qn) Qn) (Qf (QM (Qaz (Qc (QX (Qak (Qa 4)) (.nm 1) [none, none, some 5] Q8 (dOp Qdh (Qa 1) (Qa 2))) (Qc (dOp Qdh (Qk (Qa 3) (dC (.int 1))) (Qa 5)) Qg)))) Qn)))))))
theorem Qmx {fa fb : DE} {ρ : En} {ra : R} {m : Nat} {f : Nat -> Int} {x : Int} (ha : fa ρ = some ra) (ea : ra.d = Qb m f) (hb : fb ρ = some ⟨.int x, true, []⟩) (hm : m <= 1000) : QH fa (QW (Qc fb Qg)) ρ = some ⟨Qb (m + 1) (up f m x), true, []⟩ := by
 have hb : QW (Qc fb Qg) ρ = some ⟨.lst [.int x], true, []⟩ := (Qfq (rs := ⟨[.int x], true, []⟩) (Qr hb (QS _)) (by simp)).trans rfl
 unfold QH
 rw [ha, Za, hb, Za, ea]
 simp only [Qb, Zi, ZG, QfA]
 rw [if_pos (by simp; omega)]
 unfold Qa2
 rw [if_pos (by rw [Qcn, Zg]; exact ⟨Qba (λ _ => rfl) _, rfl⟩)]
 congr 3
 rw [Zbx, ZT]
 congr 1
 ·refine Zs λ i hi => ?_
  rw [QcA, if_neg (by have := Zh.mp hi; omega)]
 ·show _ = [D.int (up f m x m)]
  rw [QcA, if_pos rfl]
theorem QqS (n : Nat) (f : Nat -> Int) : Qb n f = Qm ((List.range n).map f) := by unfold Qb Qm; rw [ZR]; rfl
def Qid (d : Den) : Prop := ∀ (n : Nat) (f : Nat -> Nat -> Int) (row : Nat -> Int), n <= 8 -> (∀ j r, j < n -> r < n -> (f j r).natAbs <= 2 ^ 200) -> (∀ r, r < n -> (row r).natAbs <= 2 ^ 200) -> QgO n f -> ∃ tops q, d [Qz n n f, Qb n row] = some (.tup [Qb n tops, .int q], true) /\ 0 < q /\ q.natAbs < 2 ^ 2000 /\ ∀ r, r < n -> q * row r = sm n λ l => tops l * f l r
theorem Qp4 {dt dc dl dm : Den} (ht : Qh1 dt) (hc : QfN dc) (hl : QfF dl) (hm : Qh4 dm) : Qid (Qo 6 (Qgg dt dc dl dm)) := λ n f row n8 hf hr hL => by
 have hA : ∀ j, j < n + 1 -> ∀ r, r < n -> ((λ j r => if j = n then row r else f j r) j r).natAbs <= 2 ^ 200 := λ j hj r hr' => by
  show (if j = n then row r else f j r).natAbs <= _
  split
  ·exact hr r hr'
  ·exact hf j r (by omega) hr'
 have hL' : QgO n λ j r => if j = n then row r else f j r := λ k hk c h => hL k hk c λ r hr => by
  rw [← h r hr]
  exact Qbw λ l hl => by show c l * f l r = c l * (if l = n then row r else f l r); rw [if_neg (by omega)]
 obtain ⟨m, R, b, ec, C⟩ := hc n (n + 1) _ n8 (by omega) hA hL'
 obtain ⟨sb, _⟩ := C.small n8 hA
 obtain ⟨g, eg, g0, hg⟩ := hm ((List.range (n + 1)).map (up (λ i => R i n) n b))
 have gb : g ∣ b := (hg g).mp ⟨1, by omega⟩ b (ZN.mpr ⟨n, Zh.mpr (by omega), by rw [QcA, if_pos rfl]⟩)
 have gR : ∀ i, i < n -> g ∣ R i n := λ i hi => (hg g).mp ⟨1, by omega⟩ _ (ZN.mpr ⟨i, Zh.mpr (by omega), by rw [QcA, if_neg (by omega)]⟩)
 have bz := C.clr.nz
 have gz : g ≠ 0 := λ z => by rw [z] at gb; obtain ⟨x, hx⟩ := gb; rw [ZQ] at hx; exact bz hx
 obtain ⟨p, hp⟩ : ∃ p, p = if b < 0 then 0 - g else g := ⟨_, rfl⟩
 have pz : p ≠ 0 := by rw [hp]; split <;> omega
 have pd : ∀ x, g ∣ x -> ∃ y, x = p * y := λ x ⟨y, hy⟩ => by
  rw [hp]
  split
  ·exact ⟨-y, by rw [hy, Zba, Int.neg_mul_neg]⟩
  ·exact ⟨y, hy⟩
 obtain ⟨q, hq⟩ := pd b gb
 have tp : ∀ i, ∃ y, i < n -> R i n = p * y := λ i => by
  by_cases h : i < n
  ·obtain ⟨y, hy⟩ := pd _ (gR i h); exact ⟨y, λ _ => hy⟩
  ·exact ⟨0, λ h' => absurd h' h⟩
 have gle : g.natAbs <= b.natAbs := Int.natAbs_dvd_natAbs.mpr gb |> λ h => Nat.le_of_dvd (by omega) h
 have ple : p.natAbs < 2 ^ 2000 := by rw [hp]; split <;> omega
 have q0 : 0 < q := by
  by_cases h : b < 0
  ·rw [if_pos h] at hp
   refine ZH λ z => ?_
   have := Int.mul_nonneg_of_nonpos_of_nonpos (a := p) (b := q) (by omega) (by omega)
   omega
  ·rw [if_neg h] at hp
   refine ZH λ z => ?_
   have := Int.mul_nonpos_of_nonneg_of_nonpos (a := p) (b := q) (by omega) (by omega)
   omega
 have qle : q.natAbs < 2 ^ 2000 := by
  have : q ∣ b := ⟨p, by rw [hq, Zau]⟩
  have := Nat.le_of_dvd (by omega) (Int.natAbs_dvd_natAbs.mpr this)
  omega
 refine ⟨λ i => (tp i).choose, q, Q7 ?_, q0, qle, λ r hr' => ?_⟩
 ·refine run_seq (Qi (Qg3 (n := n) (m := n) (f := f) (r := ⟨Qz n n f, false, []⟩) rfl rfl) ?_)
  rw [Ql]
  refine QT (Q0 (b := false) (QB (b := false) (r := ⟨.bl false, true, []⟩) ((QdV (a := n) (b := n) ((QcT (xs := (List.range n).map λ i => .int (row i)) (r := ⟨Qb n row, false, []⟩) rfl rfl).trans (by rw [Zi, ZG])) rfl (rb := ⟨.int n, true, []⟩) rfl rfl).trans (by simp)) rfl) (λ h => by cases h) (λ _ => Qp ?_))
  have et := ht n f (by omega)
  have eZ : QX (QaJ (Qw 1 dt [] (Qc (Qa 0) Qg)) (Qa 1)) (.tp [1, 2]) [none, none, none] Q8 (QH (Qa 1) (QW (Qc (Qa 2) Qg))) [some (Qz n n f, false), some (Qb n row, false), some (.int n, true), none, none, none] = some ⟨Qz n (n + 1) (λ i j => (λ j r => if j = n then row r else f j r) j i), true, []⟩ := by
   refine (QN (toD := λ (i : Nat) => .tup [Qb n (λ j => f j i), .int (row i)]) (out := λ (i : Nat) => Qb (n + 1) (up (λ j => f j i) n (row i))) (List.range n) (Qcg (f := λ i => Qb n (λ j => f j i)) (g := λ i => .int (row i)) (Qt (r := ⟨[Qz n n f], false, []⟩) rfl et rfl) rfl (rb := ⟨Qb n row, false, []⟩) rfl rfl) rfl λ i hi => ⟨[none, some (Qb n (λ j => f j i), false), some (.int (row i), true)], rfl, ⟨Qb (n + 1) (up (λ j => f j i) n (row i)), true, []⟩, Qmx (m := n) (f := λ j => f j i) (ra := ⟨Qb n (λ j => f j i), false, []⟩) rfl rfl rfl (by omega), rfl, rfl⟩).trans ?_
   have eT : Qz n (n + 1) (λ i j => (λ j r => if j = n then row r else f j r) j i) = .lst ((List.range n).map λ i => Qb (n + 1) (up (λ j => f j i) n (row i))) := by
    unfold Qz
    refine congrArg D.lst (Zs λ i _ => ?_)
    unfold Qb
    exact congrArg D.lst (Zs λ j _ => by rw [QcA])
   rw [eT]
  refine run_seq (Qi (r := ⟨.tup [Qz n (n + 1) R, .int b], false, []⟩) ((QhY (Qr eZ (QS _)) ec rfl).trans rfl) ?_)
  refine run_seq (Qi (Qt (r := ⟨[Qz n (n + 1) R, .int n], false, []⟩) rfl (hl n (n + 1) R n (by omega)) rfl) ?_)
  rw [Ql]
  refine run_seq (Qi (Qt (Qr (Qmx (m := n) (f := λ i => R i n) (x := b) (ra := ⟨Qb n (λ i => R i n), true, [4]⟩) rfl rfl rfl (by omega)) (QS _)) (by show dm [Qb (n + 1) (up (λ i => R i n) n b)] = _; rw [QqS]; exact eg) rfl) ?_)
  rw [Ql]
  refine Qai (P := λ ρ => ρ = [some (Qz n n f, false), some (Qb n row, false), some (.int n, true), some (.tup [Qz n (n + 1) R, .int b], false), some (Qb n (λ i => R i n), true), some (.int p, true)]) ?_ ?_
  ·refine Q0 (b := decide (b < 0)) (QB (Qae (d := .bl (decide (b < 0))) (ra := ⟨.int b, true, []⟩) (rb := ⟨.int 0, true, []⟩) rfl rfl rfl) rfl) (λ h => ?_) (λ h => ?_)
   ·refine run_seq (Qi (r := ⟨.int (0 - g), true, []⟩) rfl (Qp ?_))
    rw [Ql, hp, if_pos (of_decide_eq_true h)]; rfl
   ·refine Qp ?_
    rw [hp, if_neg (of_decide_eq_false h)]; rfl
  ·rintro ρ rfl
   refine QE (r := ⟨.tup [Qb n λ i => (tp i).choose, .int q], true, []⟩) ?_ ⟨rfl, rfl⟩
   unfold Qaz
   refine (congrArg (λ z => Option.bind z _) (Qr (QN (toD := λ (i : Nat) => .int (R i n)) (out := λ (i : Nat) => .int (tp i).choose) (List.range n) (Qaj (r := ⟨Qb n (λ i => R i n), true, [4]⟩) rfl rfl) rfl λ i hi => ⟨[none, some (.int (R i n), true), some (.int p, true)], rfl, ⟨.int (tp i).choose, true, []⟩, Qjs (a := R i n) (b := p) (ra := ⟨.int (R i n), true, []⟩) (rb := ⟨.int p, true, []⟩) rfl rfl rfl rfl pz ple ((tp i).choose_spec (Zh.mp hi)), rfl, rfl⟩) (Qr (Qjs (a := b) (b := p) (q := q) (ra := ⟨.int b, true, []⟩) (rb := ⟨.int p, true, []⟩) rfl rfl rfl rfl pz ple hq) (QS _)))).trans ?_
   rfl
 ·have t := C.clr.tell (j := n) (by omega) hr'
  have t : b * row r = sm n λ l => R l n * m l r := by
   have e : (if n = n then row r else f n r) = row r := if_pos rfl
   rw [← e]; exact t
  rw [Qbw (g := λ l => ((tp l).choose * f l r) * p) λ l hl => by
   rw [C.clr.own l hl]
   show R l n * (if l = n then row r else f l r) = _
   rw [if_neg (by omega), Zau _ p, ← Zas, ← (tp l).choose_spec hl], Qnl, hq] at t
  refine Zbb pz ?_
  rw [← Zas, t, Zau]
noncomputable def Qf6 (Qce : Den) (QbS : Den) : DS := (Qf (Qs 2 (Qw 2 QbS [] (Qc (Qw 1 Qce [] (Qc (Qa 0) Qg)) (Qc (Qa 1) Qg)))) (Qf (QM (QX (Qak (Qk (Qa 2) (dC (.int 0)))) (.nm 1) [none, none, some 2] Q8 (dOp Qdh (Qa 1) (Qk (Qa 2) (dC (.int 1)))))) Qn))
theorem Qnp {fa fb : DE} {ρ : En} {ra rb : R} {a b : Int} (ha : fa ρ = some ra) (ea : ra.d = .int a) (hb : fb ρ = some rb) (eb : rb.d = .int b) (h : 0 < b) (h2 : b.natAbs < 2 ^ 2000) : dOp Qdh fa fb ρ = some ⟨.int (a / b), true, []⟩ := by
 refine Qae ha hb ?_
 rw [ea, eb]
 show (if Qa7 b = true then some (D.int (Qcp a b)) else none) = _
 have : Qa7 b = true := by
  unfold Qa7
  simp only [Zg, decide_eq_true_eq]
  exact ⟨by omega, Zv h2 (ZK (by decide) (by decide))⟩
 rw [if_pos this, QfD _ _ (by omega)]
theorem Qsx {m : Nat} {f : Nat -> Int} {C : Int} (h : ∀ i, i < m -> -C <= f i /\ f i <= C) : -(m * C) <= Qu m f /\ Qu m f <= m * C := by
 induction m with
 | zero => simp [Qu]
 | succ m ih =>
  rw [Qab]
  have h1 := ih λ i hi => h i (by omega)
  have h2 := h m (by omega)
  have e : ((m + 1 : Nat) : Int) * C = m * C + C := by rw [Zcd, ZZ]; simp
  omega
theorem QpI {m : Nat} {T : Nat -> Nat -> Int} (hm : m <= 8) (hT : ∀ i j, i < m -> j < m -> (T i j).natAbs < 2 ^ 64) {f tops : Nat -> Int} {q : Int} (q0 : 0 < q) (h : ∀ r, r < m -> q * f r = sm m λ l => tops l * (0 - T l r)) : ∀ r, r < m -> -(2 ^ 67) <= Qh m T f (λ l => tops l / q) r /\ Qh m T f (λ l => tops l / q) r <= 2 ^ 67 := λ r hr => by
 have e : q * Qh m T f (λ l => tops l / q) r = Qu m λ l => - (tops l % q) * T l r := by
  unfold Qh
  rw [ZaZ, h r hr, Qg5, ← Qc1, ← Qal]
  refine QC λ l _ => ?_
  have := Zbp (tops l) q
  have e2 : q * (tops l / q * T l r) = (q * (tops l / q)) * T l r := by rw [Zas]
  rw [e2, show q * (tops l / q) = tops l - tops l % q by omega, Zba, ZaQ, Int.sub_mul, Zav]
  omega
 have b := Qsx (m := m) (f := λ l => - (tops l % q) * T l r) (C := q * 2 ^ 64) λ l hl => by
  have h1 := Zy (tops l) (by omega : q ≠ 0)
  have h2 := Zq (tops l) q0
  have h3 := hT l r hl hr
  have h4 : tops l % q * (T l r) <= q * 2 ^ 64 /\ -(q * 2 ^ 64) <= tops l % q * (T l r) := by
   have a1 : tops l % q * T l r <= tops l % q * 2 ^ 64 := ZX (by omega) h1
   have a2 : tops l % q * 2 ^ 64 <= q * 2 ^ 64 := Zab (by omega) (by decide)
   have a3 : tops l % q * (-(2 ^ 64)) <= tops l % q * T l r := ZX (by omega) h1
   rw [ZaQ] at a3
   omega
  rw [Zav]
  omega
 rw [← e] at b
 have hm' : (m : Int) * (q * 2 ^ 64) <= 8 * (q * 2 ^ 64) := Zab (by omega) (by omega)
 generalize Qh m T f (λ l => tops l / q) r = x at b ⊢
 constructor
 ·refine ZH λ z => ?_
  have := ZX (show x <= -(2 ^ 67) - 1 by omega) (show 0 <= q by omega)
  rw [Int.mul_sub, ZaQ, Zbk] at this
  omega
 ·refine ZH λ z => ?_
  have := ZX (show (2 ^ 67 + 1 : Int) <= x by omega) (show 0 <= q by omega)
  rw [ZaZ, Zbk] at this
  omega
def Qjm (d : Den) : Prop := ∀ (m : Nat) (R L : List (Int × Int)) (f : Nat -> Int), m <= 8 -> Qan m R L -> (∀ j, j < m -> (f j).natAbs <= 2 ^ 200) -> ∃ c, d [Qj m R L, Qb m f] = some (Qb m c, true) /\ ∀ r, r < m -> -(2 ^ 67) <= Qh m (Qe m (Qd R L)) f c r /\ Qh m (Qe m (Qd R L)) f c r <= 2 ^ 67
theorem Qrd {dt ds : Den} (ht : QhZ dt) (hs : Qid ds) : Qjm (Qo 3 (Qf6 dt ds)) := λ m R L f m8 hw hf => by
 have hg := hw.good
 have tp := hw.tp
 have et := ht m R L (by omega) (by omega) hg.1 hg.2.1
 generalize Qe m (Qd R L) = T at *
 obtain ⟨tops, q, es, q0, q1, hq⟩ := hs m (λ i j => 0 - T i j) f m8 (λ j r hj hr => by have := tp.bnd j r hj hr; have : (2 : Nat) ^ 64 <= 2 ^ 200 := ZK (by decide) (by decide); omega) hf (Qnk tp)
 refine ⟨λ l => tops l / q, Q7 ?_, QpI m8 tp.bnd q0 hq⟩
 refine run_seq (Qi (Qt (Qr (Qt (r := ⟨[Qj m R L], false, []⟩) rfl et rfl) (Qr (r := ⟨Qb m f, false, []⟩) rfl (QS _))) es rfl) ?_)
 rw [Ql]
 refine QE (r := ⟨Qb m λ l => tops l / q, true, []⟩) (QN (toD := λ (i : Nat) => .int (tops i)) (out := λ (i : Nat) => .int (tops i / q)) (List.range m) (Qaj (r := ⟨Qb m tops, true, [2]⟩) rfl rfl) rfl λ i _ => ⟨[none, some (.int (tops i), true), some (.tup [Qb m tops, .int q], false)], rfl, ⟨.int (tops i / q), true, []⟩, Qnp (a := tops i) (b := q) (ra := ⟨.int (tops i), true, []⟩) (rb := ⟨.int q, true, []⟩) rfl rfl rfl rfl q0 q1, rfl, rfl⟩) ⟨rfl, rfl⟩
noncomputable def QeV (QaQ : Den) : DS := (Qf (QM (QX (Qak (Qw 1 QaQ [] (Qc (Qa 0) Qg))) (.nm 1) [none, none] Q8 (Qao (dC (.int 2)) (Qa 1)))) Qn)
def QgE (d : Den) : Prop := ∀ (m : Nat) (R L : List (Int × Int)), m <= 1000 -> R.length + R.length + L.length <= 1000000 -> (∀ s ∈ R, Good m s) -> (∀ s ∈ L, Good m s) -> d [Qj m R L] = some (Qb m λ i => 2 * Qv R L i, true)
theorem Qok {ds : Den} (hs : QiZ ds) : QgE (Qo 1 (QeV ds)) := λ m R L hm hl hR hL =>
 Q7 (QE (r := ⟨Qb m λ i => 2 * Qv R L i, true, []⟩) (QN (toD := λ (i : Nat) => .int (Qv R L i)) (out := λ (i : Nat) => .int (2 * Qv R L i)) (List.range m) (Qaj (Qt (r := ⟨[Qj m R L], false, []⟩) rfl (hs m R L hm hl hR hL) rfl) rfl) rfl λ i _ => ⟨[none, some (.int (Qv R L i), true)], rfl, ⟨.int (2 * Qv R L i), true, []⟩, QaN (a := 2) (b := Qv R L i) rfl rfl (rb := ⟨.int (Qv R L i), true, []⟩) rfl rfl (Qc4 (by decide)), rfl, rfl⟩) ⟨rfl, rfl⟩)
theorem QpX {n N : Nat} {A : Nat -> Nat -> Int} (hN : n <= N) (hA : ∀ j, j < N -> ∀ r, r < n -> (A j r).natAbs <= 2 ^ 200) (hl : QgO n A) : ∀ k, k <= n -> ∃ m R d, QcS n N k A m R d
 | 0, _ => ⟨_, _, _, QcS.start n N A⟩
 | k + 1, hk => by
  obtain ⟨m, R, d, C⟩ := QpX hN hA hl k (by omega)
  have pv := C.QsT (show k < n by omega) (by omega) hl
  have ex : ∀ i j, ∃ q, i < n -> i ≠ k -> j < N -> R k k * R i j - R i k * R k j = d * q := λ i j => by
   by_cases h : i < n /\ i ≠ k /\ j < N
   ·exact ⟨_, λ h1 h2 h3 => C.clr.exact (by omega) (by omega) h1 h3 h2⟩
   ·exact ⟨0, λ h1 h2 h3 => absurd ⟨h1, h2, h3⟩ h⟩
  refine ⟨_, λ i j => if i = k then R k j else (ex i j).choose, _, C.step (by omega) (by omega) hA pv (λ j _ => by rw [if_pos rfl]) λ i j hi ne hj q hq => ?_⟩
  rw [if_neg ne]
  exact Zbb C.clr.nz (((ex i j).choose_spec hi ne hj).symm.trans hq)
theorem Qlh {n N : Nat} (n8 : n <= 8) {A : Nat -> Nat -> Int} {g v : Nat -> Int} (hA : ∀ j, j < n -> ∀ r, r < n -> (A j r).natAbs <= 2 ^ 200) (hl : QgO n A) (hg : ∀ r, r < n -> (g r).natAbs <= 2 ^ 200) (h : ∀ r, r < n -> g r = sm n λ l => v l * A l r) : ∀ l, l < n -> (v l).natAbs < 2 ^ 2000 := λ l hln => by
 obtain ⟨m, R, d, C⟩ := QpX (Zm n) hA hl n (Zm n)
 have e1 : det n (cup A l g) = v l * det n A := by
  have e : det n (cup A l g) = det n (cup A l λ r => sm n λ i => v i * A i r) := by
   refine QdM λ j hj r hr => ?_
   by_cases q : j = l
   ·subst q; rw [QY, QY]; exact h r hr
   ·rw [QO _ _ q, QO _ _ q]
  rw [e, Qg9 hln v A n, Qet (c := l) hln λ i hi ne => by rw [QiG hln hi (Ne.symm ne) (by rw [QY, QO _ _ ne]), Zat], Qcz]
 have e2 : det n A = d := by
  rw [← C.clr.det]
  exact QdM λ j hj r _ => by rw [C.clr.own j hj]
 have b := ZaI (Qha (n := n) (m := cup A l g) λ j hj r hr => by
  by_cases q : j = l
  ·subst q; rw [QY]; exact hg r hr
  ·rw [QO _ _ q]; exact hA j hj r hr) (Qj0 n8)
 rw [e1, e2, Zcg] at b
 have dz := C.clr.nz
 have := Nat.le_mul_of_pos_right (v l).natAbs (show 0 < d.natAbs by omega)
 omega
noncomputable def Qbx (m : Nat) (T : Nat -> Nat -> Int) (v : Nat -> Int) : Nat -> Int := λ j => 2 * (0 - T j j) - Qh m T (λ j => 2 * (0 - T j j)) v j
theorem Qkj {m : Nat} {T : Nat -> Nat -> Int} {v : Nat -> Int} (j : Nat) : Qbx m T v j = - Qu m λ i => v i * T i j := by
 unfold Qbx Qh; show 2 * (0 - T j j) - (2 * (0 - T j j) + _) = _; omega
def Rec (m : Nat) (T : Nat -> Nat -> Int) (v x : Nat -> Int) : Prop := ∃ (y u : Nat -> Int), (∀ j, j < m -> 0 <= y j) /\ Told m T (λ j => y j + Qbx m T v j) u /\ ∀ j, j < m -> x j = Qh m T (λ j => y j + Qbx m T v j) u j
structure Dbl (m : Nat) (T : Nat -> Nat -> Int) (v : Nat -> Int) : Prop where
 told : Told m T (λ j => 2 * (0 - T j j)) v
theorem Dbl.big {m : Nat} {T : Nat -> Nat -> Int} {v : Nat -> Int} (h : Dbl m T v) {j : Nat} (hj : j < m) : (0 - T j j) + 1 <= Qbx m T v j /\ Qbx m T v j <= 2 * (0 - T j j) := by
 have h1 := h.told.stb j hj
 have h2 := h.told.pos j hj
 unfold Qbx
 omega
noncomputable def Qnx (Q5 : Den) (Qbr : Den) (QcJ : Den) (QaE : Den) (Qdt : Den) : DS := (Qf (Qdk (Qw 2 Q5 [] (Qc (Qa 0) (Qc (QW (Qc (Qa 1) Qg)) Qg)))) (Qf (Qs 2 (Qw 2 Qbr [] (Qc (Qa 0) (Qc (Qa 1) Qg)))) (Qf (Qs 3 (Qw 3 QcJ [] (Qc (Qa 0) (Qc (Qa 1) (Qc (Qa 2) Qg))))) (Qf (Qs 4 (Qw 2 Qdt [] (Qc (Qa 0) (Qc (Qw 1 QaE [] (Qc (Qa 0) Qg)) Qg)))) (Qf (Qs 5 (QX (QaJ (Qw 1 QaE [] (Qc (Qa 0) Qg)) (Qk (Qa 4) (dC (.int 0)))) (.tp [1, 2]) [none, none, none] Q8 (dOp Qat (Qa 1) (Qa 2)))) (Qf (Qs 6 (QH (dBf Qf2 (Qc (QH (QW (Qc (dC (.int 0)) Qg)) (QX (QaJ (Qa 3) (Qa 5)) (.tp [1, 2]) [none, none, none] Q8 (dOp Qat (dC (.int 0)) (dOp Qdh (Qa 1) (Qa 2))))) Qg)) (dC (.int 1)))) (Qf (Qs 7 (QX (QaJ (Qa 3) (Qa 5)) (.tp [1, 2]) [none, none, none, some 6] Q8 (QH (Qa 1) (Qao (Qa 3) (Qa 2))))) (Qf (Qs 8 (Qw 2 Qdt [] (Qc (Qa 0) (Qc (Qa 7) Qg)))) (Qf (Qs 9 (QX (Qgb (Qa 2) (Qk (Qa 4) (dC (.int 1))) (Qk (Qa 8) (dC (.int 1)))) (.tp [1, 2, 3]) [none, none, none, none, some 6] Q8 (QH (dOp Qat (Qa 1) (Qao (Qa 4) (Qa 2))) (Qa 3)))) (Qf (QM (Qaz (Qc (Qk (Qa 8) (dC (.int 0))) (Qc (Qa 9) Qg)))) Qn))))))))))
theorem Qw5 {m : Nat} {f g h : Nat -> D} : QeW ((List.range m).map f) ((List.range m).map g) ((List.range m).map h) = (List.range m).map λ i => .tup [f i, g i, h i] := by
 unfold QeW
 refine ZaW λ i => ?_
 by_cases hi : i < m
 ·have a : ∀ (k : Nat -> D), ((List.range m).map k)[i]? = some (k i) := λ k => by rw [Zo, ZO hi]; rfl
  have e1 : (((List.range m).map g).zip ((List.range m).map h))[i]? = some (g i, h i) := Zaw.mpr ⟨a g, a h⟩
  have e2 : (((List.range m).map f).zip (((List.range m).map g).zip ((List.range m).map h)))[i]? = some (f i, (g i, h i)) := Zaw.mpr ⟨a f, e1⟩
  rw [Zo, e2, a]
  rfl
 ·rw [Zx (by simp; omega), Zx (by simp; omega)]
theorem QrC {fa fb fc : DE} {ρ : En} {ra rb rc : R} {m : Nat} {f g h : Nat -> D} (ha : fa ρ = some ra) (ea : ra.d = .lst ((List.range m).map f)) (hb : fb ρ = some rb) (eb : rb.d = .lst ((List.range m).map g)) (hc : fc ρ = some rc) (ec : rc.d = .lst ((List.range m).map h)) : Qgb fa fb fc ρ = some ⟨(List.range m).map λ i => .tup [f i, g i, h i], ra.M ++ (rb.M ++ rc.M)⟩ := by
 unfold Qgb
 rw [ha, Za, hb, Za, hc, Za, ea, eb, ec]
 show (if _ then _ else _) = _
 rw [if_pos (by simp), Qw5]
def Qjr (d : Den) : Prop := ∀ (m : Nat) (R L : List (Int × Int)) (f : Nat -> Int), 0 < m -> m <= 8 -> Qan m R L -> (∀ j, j < m -> (f j).natAbs <= 2 ^ 200) -> ∃ k v, d [Qj m R L, Qb m f] = some (.tup [Qb m (Qh m (Qe m (Qd R L)) f k), Qb m k], true) /\ Dbl m (Qe m (Qd R L)) v /\ Rec m (Qe m (Qd R L)) v (Qh m (Qe m (Qd R L)) f k) /\ Stb m (Qe m (Qd R L)) (Qh m (Qe m (Qd R L)) f k) /\ ∀ j, j < m -> 0 <= Qh m (Qe m (Qd R L)) f k j
set_option maxHeartbeats 0 in
theorem QqV {dn dc da dd ds : Den} (hn : Qfd dn) (hc : Qjm dc) (ha : QgY da) (hd : QgE dd) (hs : Qjd ds) : Qjr (Qo 10 (Qnx dn dc da dd ds)) := λ m R L f m0 m8 hw hf => by
 have hg := hw.good
 have tp := hw.tp
 obtain ⟨c, ec, bc⟩ := hc m R L f m8 hw hf
 have ea := ha m R L f c (by omega) (by omega) hg.1 hg.2.1
 have ed := hd m R L (by omega) (by omega) hg.1 hg.2.1
 have sp : ∀ j, j < m -> Qv R L j = 0 - Qe m (Qd R L) j j := λ j hj => (hw.neg hj).symm
 rw [show (Qb m λ i => 2 * Qv R L i) = Qb m λ i => 2 * (0 - Qe m (Qd R L) i i) from congrArg D.lst (Zs λ i hi => by show D.int (2 * Qv R L i) = D.int (2 * (0 - Qe m (Qd R L) i i)); rw [sp i (Zh.mp hi)])] at ed
 obtain ⟨v, ev, hv⟩ := hs m R L (λ i => 2 * (0 - Qe m (Qd R L) i i)) m0 (by omega) hw λ j hj => by
  have := tp.neg j hj
  have := tp.bnd j j hj hj
  have : (2 : Int) ^ 66 <= 2 ^ 200 := by decide
  omega
 have DD : Dbl m (Qe m (Qd R L)) v := ⟨hv⟩
 have still := hs m R L
 generalize Qe m (Qd R L) = T at *
 generalize hlow : Qh m T f c = low at *
 have big := λ j hj => DD.big (j := j) hj
 have hmo : ∀ j, j < m -> 2 * (0 - T j j) - Qh m T (λ i => 2 * (0 - T i i)) v j = Qbx m T v j := λ j hj => rfl
 generalize hmore : Qbx m T v = mo at *
 have vb : ∀ l, l < m -> (v l).natAbs < 2 ^ 2000 := Qlh (N := m) m8 (A := λ l r => 0 - T l r) (g := mo) (λ j hj r hr => by have := tp.bnd j r hj hr; have : (2 : Nat) ^ 64 <= 2 ^ 200 := ZK (by decide) (by decide); omega) (Qnk tp) (λ r hr => by
  have b := big r hr
  have := tp.neg r hr
  have := tp.bnd r r hr hr
  have : (2 : Nat) ^ 66 <= 2 ^ 200 := ZK (by decide) (by decide)
  omega) λ r hr => by
  rw [← hmore, Qkj, Qg5, ← Qcy]
  exact QC λ i _ => by rw [Zba, ZaQ]
 obtain ⟨top, ⟨i0, hi0, etop⟩, hmax, evmax⟩ := QnY (m := 1 + m) (by omega) (λ i => if i < 1 then 0 else 0 - low (i - 1) / mo (i - 1))
 have top0 : 0 <= top := by have := hmax 0 (by omega); rw [if_pos (by omega)] at this; exact this
 have topj : ∀ j, j < m -> 0 - low j / mo j <= top := λ j hj => by
  have := hmax (j + 1) (by omega)
  rw [if_neg (by omega), Zbj] at this
  exact this
 have mo0 : ∀ j, j < m -> 0 < mo j := λ j hj => by have := big j hj; have := tp.neg j hj; omega
 have mo1 : ∀ j, j < m -> mo j < 2 ^ 66 := λ j hj => by have := big j hj; have := tp.bnd j j hj hj; omega
 have topU : top <= 2 ^ 67 := by
  rw [etop]
  split
  ·decide
  ·rename_i h
   have hj : i0 - 1 < m := by omega
   have b := bc (i0 - 1) hj
   have p := mo0 (i0 - 1) hj
   have : -(2 ^ 67) <= low (i0 - 1) / mo (i0 - 1) := by
    rw [Int.le_ediv_iff_mul_le p]
    have := ZX (show (1 : Int) <= mo (i0 - 1) by omega) (show (0 : Int) <= 2 ^ 67 by decide)
    rw [Zav]
    omega
   omega
 have y0 : ∀ j, j < m -> 0 <= low j + top * mo j := λ j hj => by
  have h1 := Zab (topj j hj) (show 0 <= mo j from Int.le_of_lt (mo0 j hj))
  have h2 := Zbp (low j) (mo j)
  have h3 := Zy (low j) (by have := mo0 j hj; omega : mo j ≠ 0)
  rw [Zba, Zav, Zau (low j / mo j)] at h1
  omega
 have hi : ∀ j, j < m -> 0 <= low j + (top + 1) * mo j /\ low j + (top + 1) * mo j < 2 ^ 200 := λ j hj => by
  have h1 := y0 j hj
  have h2 := mo0 j hj
  have h3 := mo1 j hj
  have h4 := Zcf (show top + 1 <= 2 ^ 67 + 1 by omega) (show mo j <= 2 ^ 66 by omega) (by omega) (by decide)
  have h5 : (2 : Int) ^ 67 + (2 ^ 67 + 1) * 2 ^ 66 < 2 ^ 200 := by decide
  have h6 := (bc j hj).2
  rw [ZZ, Zar] at h4 ⊢
  omega
 obtain ⟨u, eu, hu⟩ := still (λ j => low j + (top + 1) * mo j) m0 (by omega) hw hi
 have key : ∀ j, Qh m T (λ j => low j + (top + 1) * mo j) u j = Qh m T f (λ i => c i - (top + 1) * v i + u i) j := λ j => by
  rw [← hlow, ← hmore]
  unfold Qh
  show f j + Qu m (λ i => c i * T i j) + (top + 1) * Qbx m T v j + Qu m (λ i => u i * T i j) = f j + Qu m λ i => (c i - (top + 1) * v i + u i) * T i j
  rw [Qkj, ZaQ, ← Qc1]
  have : (λ i => (c i - (top + 1) * v i + u i) * T i j) = λ i => (c i * T i j + -((top + 1) * (v i * T i j))) + u i * T i j := by
   funext i; rw [ZZ, Int.sub_mul, Zas]; omega
  rw [this, Qal, Qal, Qcy]
  omega
 have row : Qb m (Qh m T (λ j => low j + (top + 1) * mo j) u) = Qb m (Qh m T f (λ i => c i - (top + 1) * v i + u i)) := congrArg D.lst (Zs λ j _ => by rw [key j])
 refine ⟨λ i => c i - (top + 1) * v i + u i, v, Q7 ?_, DD, ⟨λ j => low j + top * mo j, u, y0, ?_, λ j _ => ?_⟩, λ j hj => ?_, λ j hj => ?_⟩
 ·refine run_seq (QdG (Qt (r := ⟨[Qj m R L, .lst [Qb m f]], false, []⟩) rfl (hn m R L [f]) rfl) ?_)
  refine run_seq (Qi (Qt (r := ⟨[Qj m R L, Qb m f], false, []⟩) rfl ec rfl) ?_)
  rw [Ql]
  refine run_seq (Qi (Qt (r := ⟨[Qj m R L, Qb m f, Qb m c], false, [2]⟩) rfl ea rfl) ?_)
  rw [Ql]
  refine run_seq (Qi (Qt (Qr (r := ⟨Qj m R L, false, []⟩) rfl (Qr (Qt (r := ⟨[Qj m R L], false, []⟩) rfl ed rfl) (QS _))) ev rfl) ?_)
  rw [Ql]
  refine run_seq (Qi (r := ⟨Qb m mo, true, []⟩) (QN (toD := λ (j : Nat) => .tup [.int (2 * (0 - T j j)), .int (Qh m T (λ i => 2 * (0 - T i i)) v j)]) (out := λ (j : Nat) => .int (mo j)) (List.range m) (Qcg (f := λ j => .int (2 * (0 - T j j))) (g := λ j => .int (Qh m T (λ i => 2 * (0 - T i i)) v j)) (Qt (r := ⟨[Qj m R L], false, []⟩) rfl ed rfl) rfl (rb := ⟨Qb m (Qh m T (λ i => 2 * (0 - T i i)) v), true, [4]⟩) rfl rfl) rfl λ j hj => ⟨[none, some (.int (2 * (0 - T j j)), true), some (.int (Qh m T (λ i => 2 * (0 - T i i)) v j), true)], rfl, ⟨.int (2 * (0 - T j j) - Qh m T (λ i => 2 * (0 - T i i)) v j), true, []⟩, rfl, by rw [← hmo j (Zh.mp hj)], rfl⟩) ?_)
  rw [Ql]
  refine run_seq (Qi (r := ⟨.int (top + 1), true, []⟩) (QQ (a := top) (b := 1) (evmax (Qeo (m := 1) (k := m) (f := λ _ => 0) (g := λ j => 0 - low j / mo j) (ra := ⟨Qb 1 λ _ => 0, true, []⟩) rfl rfl (QN (toD := λ (j : Nat) => .tup [.int (low j), .int (mo j)]) (out := λ (j : Nat) => .int (0 - low j / mo j)) (List.range m) (Qcg (f := λ j => .int (low j)) (g := λ j => .int (mo j)) (ra := ⟨Qb m low, true, [3]⟩) rfl rfl (rb := ⟨Qb m mo, true, [5]⟩) rfl rfl) rfl λ j hj => ⟨[none, some (.int (low j), true), some (.int (mo j), true)], rfl, ⟨.int (0 - low j / mo j), true, []⟩, QdO (a := 0) (b := low j / mo j) (ra := ⟨.int 0, true, []⟩) rfl rfl (Qnp (a := low j) (b := mo j) (ra := ⟨.int (low j), true, []⟩) (rb := ⟨.int (mo j), true, []⟩) rfl rfl rfl rfl (mo0 j (Zh.mp hj)) (by have := mo0 j (Zh.mp hj); have := mo1 j (Zh.mp hj); have : (2 : Nat) ^ 66 <= 2 ^ 2000 := ZK (by decide) (by decide); omega)) rfl, rfl, rfl⟩) rfl (by omega)) rfl) rfl rfl rfl) ?_)
  rw [Ql]
  refine run_seq (Qi (r := ⟨Qb m λ j => low j + (top + 1) * mo j, true, []⟩) (QN (toD := λ (j : Nat) => .tup [.int (low j), .int (mo j)]) (out := λ (j : Nat) => .int (low j + (top + 1) * mo j)) (List.range m) (Qcg (f := λ j => .int (low j)) (g := λ j => .int (mo j)) (ra := ⟨Qb m low, true, [3]⟩) rfl rfl (rb := ⟨Qb m mo, true, [5]⟩) rfl rfl) rfl λ j hj => ⟨[none, some (.int (low j), true), some (.int (mo j), true), some (.int (top + 1), true)], rfl, ⟨.int (low j + (top + 1) * mo j), true, []⟩, QQ (a := low j) (b := (top + 1) * mo j) (ra := ⟨.int (low j), true, []⟩) rfl rfl (QaN (a := top + 1) (b := mo j) (ra := ⟨.int (top + 1), true, []⟩) (rb := ⟨.int (mo j), true, []⟩) rfl rfl rfl rfl (Qg2 (Qcr (by have : (2 : Nat) ^ 68 <= 2 ^ 2000 := ZK (by decide) (by decide); omega)) (Qcr (by have := mo0 j (Zh.mp hj); have := mo1 j (Zh.mp hj); have : (2 : Nat) ^ 66 <= 2 ^ 2000 := ZK (by decide) (by decide); omega)))) rfl, rfl, rfl⟩) ?_)
  rw [Ql]
  refine run_seq (Qi (Qt (r := ⟨[Qj m R L, Qb m λ j => low j + (top + 1) * mo j], false, [7]⟩) rfl eu rfl) ?_)
  rw [Ql]
  refine run_seq (Qi (r := ⟨Qb m λ i => c i - (top + 1) * v i + u i, true, []⟩) (QN (toD := λ (i : Nat) => .tup [.int (c i), .int (v i), .int (u i)]) (out := λ (i : Nat) => .int (c i - (top + 1) * v i + u i)) (List.range m) (QrC (f := λ i => .int (c i)) (g := λ i => .int (v i)) (h := λ i => .int (u i)) (ra := ⟨Qb m c, true, [2]⟩) rfl rfl (rb := ⟨Qb m v, true, [4]⟩) rfl rfl (rc := ⟨Qb m u, true, [8]⟩) rfl rfl) rfl λ i hi => ⟨[none, some (.int (c i), true), some (.int (v i), true), some (.int (u i), true), some (.int (top + 1), true)], rfl, ⟨.int (c i - (top + 1) * v i + u i), true, []⟩, QQ (a := c i - (top + 1) * v i) (b := u i) (QdO (a := c i) (b := (top + 1) * v i) (ra := ⟨.int (c i), true, []⟩) rfl rfl (QaN (a := top + 1) (b := v i) (ra := ⟨.int (top + 1), true, []⟩) (rb := ⟨.int (v i), true, []⟩) rfl rfl rfl rfl ?_) rfl) rfl (rb := ⟨.int (u i), true, []⟩) rfl rfl, rfl, rfl⟩) ?_)
  rotate_left
  ·rw [Ql]
   refine QE (r := ⟨.tup [Qb m (Qh m T (λ j => low j + (top + 1) * mo j) u), Qb m λ i => c i - (top + 1) * v i + u i], true, [8, 9]⟩) rfl ⟨by rw [row], rfl⟩
  ·exact Qg2 (Qcr (by have : (2 : Nat) ^ 68 <= 2 ^ 2000 := ZK (by decide) (by decide); omega)) (Qcr (vb i (Zh.mp hi)))
 ·refine ⟨hu.leg.Qoo λ j hj => ?_, λ j hj => ?_, λ j hj => ?_⟩
  ·show _ = low j + top * mo j + Qbx m T v j; rw [hmore, ZZ, Zar]; omega
  ·have := hu.pos j hj
   rw [QaH (g := λ j => low j + top * mo j + Qbx m T v j) j (by show _ = low j + top * mo j + Qbx m T v j; rw [hmore, ZZ, Zar]; omega) λ i _ => rfl] at this
   exact this
  ·have := hu.stb j hj
   rw [QaH (g := λ j => low j + top * mo j + Qbx m T v j) j (by show _ = low j + top * mo j + Qbx m T v j; rw [hmore, ZZ, Zar]; omega) λ i _ => rfl] at this
   exact this
 ·rw [← key j]
  exact QaH j (by show _ = low j + top * mo j + Qbx m T v j; rw [hmore, ZZ, Zar]; omega) λ i _ => rfl
 ·rw [← key j]; exact hu.stb j hj
 ·rw [← key j]; exact hu.pos j hj
theorem Qhh {m : Nat} {T : Nat -> Nat -> Int} {f c d : Nat -> Int} (j : Nat) : Qh m T (Qh m T f c) d j = Qh m T f (λ i => c i + d i) j := by
 unfold Qh
 have : (λ i => (c i + d i) * T i j) = λ i => c i * T i j + d i * T i j := by funext i; rw [ZZ]
 rw [this, Qal]
 omega
theorem Qq5 {fa fb : DE} {ρ : En} {ra rb : R} {a b : Int} (ha : fa ρ = some ra) (ea : ra.d = .int a) (hb : fb ρ = some rb) (eb : rb.d = .int b) : dBf Qfz (Qc fa (Qc fb Qg)) ρ = some ⟨.int (if b < a then b else a), true, []⟩ := by
 unfold dBf
 rw [Qr ha (Qr hb (QS _)), Za]
 simp only [ea, eb, Qfz, ZL]
theorem QrP {fa fb : DE} {ρ : En} {ra rb : R} {a b : Int} (ha : fa ρ = some ra) (ea : ra.d = .int a) (hb : fb ρ = some rb) (eb : rb.d = .int b) : dBf QfR (Qc fa (Qc fb Qg)) ρ = some ⟨.int (if b > a then b else a), true, []⟩ := by
 unfold dBf
 rw [Qr ha (Qr hb (QS _)), Za]
 simp only [ea, eb, QfR, ZL]
theorem Qn1 {m : Nat} {s : Int × Int} (h : Good m s) : Good (m + 1) s := by
 obtain ⟨h1, h2, h3, h4, h5⟩ := h
 exact ⟨h1, h2, by omega, by omega, h5⟩
noncomputable def Qdi (c : Nat -> Int) (s : Int × Int) (j : Nat) : Int := (if s.2 = j then c s.1.toNat - c s.2.toNat else 0) + (if s.1 = j then c s.2.toNat - c s.1.toNat else 0)
theorem Qt4 {m : Nat} {s : Int × Int} (g : Good m s) (c : Nat -> Int) (j : Nat) : QdC (Qch (m + 1) c) s j + QdC (Qch (m + 1) c) s.swap j = Qdi c s j := by
 obtain ⟨g1, g2, g3, g4, g5⟩ := g
 unfold QdC Qch Qdi
 simp only [Zbt, ZbL]
 rw [if_pos (show s.1.toNat < m + 1 by omega), if_pos (show s.2.toNat < m + 1 by omega)]
 by_cases a : s.2 = j
 ·have b : ¬ s.1 = j := by omega
  simp only [if_pos a, if_neg b]; omega
 ·by_cases b : s.1 = j
  ·simp only [if_neg a, if_pos b]; omega
  ·simp only [if_neg a, if_neg b]; omega
theorem Qfu {m : Nat} {R : List (Int × Int)} (hR : ∀ s ∈ R, Good m s) (f c : Nat -> Int) {j : Nat} (hj : j < m + 1) : Qh (m + 1) (Qe (m + 1) (Qd R [])) f c j = f j + (R.map λ s => Qdi c s j).sum := by
 rw [Qtg (λ s hs => Qn1 (hR s hs)) (λ s hs => absurd hs (by simp)) f c hj]
 rw [Zs λ s hs => Qt4 (hR s hs) c j]
 have : Qch (m + 1) f j = f j := by unfold Qch; rw [if_pos hj]
 rw [this]
 simp
theorem Qkk {m : Nat} {R : List (Int × Int)} (hR : ∀ s ∈ R, Good m s) (f c : Nat -> Int) (k : Int) {j : Nat} (hj : j < m + 1) : Qh (m + 1) (Qe (m + 1) (Qd R [])) f (λ i => c i + k) j = Qh (m + 1) (Qe (m + 1) (Qd R [])) f c j := by
 rw [Qfu hR f _ hj, Qfu hR f c hj]
 congr 2
 refine Zs λ s hs => ?_
 unfold Qdi
 dsimp only
 congr 1 <;> split <;> omega
noncomputable def Qiy (QbJ : Den) : DS := (Qf (Qdk (Qw 1 QbJ [] (Qc (Qa 0) Qg))) (Qf (QM (Qaz (Qc (QH (Qk (Qa 0) (dC (.int 0))) (dC (.int 1))) (Qc (Qk (Qa 0) (dC (.int 1))) (Qc (Qk (Qa 0) (dC (.int 2))) Qg))))) Qn))
def Qjn (d : Den) : Prop := ∀ (m : Nat) (R : List (Int × Int)), d [Qj m R []] = some (Qj ((m + 1 : Nat) : Int) R [], false)
theorem QqT {dp : Den} (hp : Qjc dp) : Qjn (Qo 1 (Qiy dp)) := λ m R => by
 refine Q7 ?_
 refine run_seq (QdG (Qt (r := ⟨[Qj m R []], false, []⟩) rfl (hp m R) rfl) ?_)
 exact QE (r := ⟨Qj ((m + 1 : Nat) : Int) R [], false, []⟩) rfl ⟨rfl, rfl⟩
noncomputable def QdR : DS := (Qf (Qs 3 (dList (Qc (Qa 1) Qg))) (Qf (Qa1 (Qak (Qk (Qa 0) (dC (.int 1)))) (.tp [4, 5]) (Qf (QcQ 3 Q1 (Qa 4) (dOp Qat (QH (Qk (Qa 3) (Qa 4)) (Qk (Qa 2) (Qa 5))) (Qk (Qa 2) (Qa 4)))) (Qf (QcQ 3 Q1 (Qa 5) (dOp Qat (QH (Qk (Qa 3) (Qa 5)) (Qk (Qa 2) (Qa 4))) (Qk (Qa 2) (Qa 5)))) Qn))) (Qf (QM (Qa 3)) Qn)))
def Qhi (d : Den) : Prop := ∀ (m : Nat) (R : List (Int × Int)) (f c : Nat -> Int), m <= 100 -> (∀ s ∈ R, Good m s) -> d [Qj m R [], Qb (m + 1) f, Qb (m + 1) c] = some (Qb (m + 1) (Qh (m + 1) (Qe (m + 1) (Qd R [])) f c), true)
theorem QrZ : Qhi (Qo 6 QdR) := λ m R h0 o hm hR => by
 refine Q7 ?_
 have it : ∀ {ρ : En}, ρ[0]? = some (some (Qj m R [], false)) -> Qa 0 ρ = some ⟨Qj m R [], false, []⟩ := λ h => Qa6 h
 refine run_seq (Qi (Qbf (m := m + 1) (f := h0) (rs := ⟨[Qb (m + 1) h0], false, []⟩) rfl rfl) ?_)
 rw [Ql]
 refine Qai (P := λ ρ => ∃ j5 j6, ρ = [some (Qj m R [], false), some (Qb (m + 1) h0, false), some (Qb (m + 1) o, false), some (Qb (m + 1) (λ j => h0 j + (R.map λ s => Qdi o s j).sum), true), j5, j6]) ?_ ?_
 ·refine Qag (toD := pairD) R (λ i ρ => ∃ g j5 j6, (∀ j, g j = h0 j + ((R.take i).map λ s => Qdi o s j).sum) /\ ρ = [some (Qj m R [], false), some (Qb (m + 1) h0, false), some (Qb (m + 1) o, false), some (Qb (m + 1) g, true), j5, j6]) (ir := ⟨R.map pairD, []⟩) (Qaj (QcI (it rfl) rfl).2.1 rfl) rfl ⟨h0, none, none, λ j => by simp, rfl⟩ ?_ ?_
  ·rintro i s ρ hi ⟨g, j5, j6, hg, rfl⟩
   obtain ⟨h1, h2, h3, h4, h5⟩ := hR s (ZJ hi)
   refine ⟨_, rfl, ?_⟩
   refine run_seq (QfU (m := m + 1) (f := g) (i := s.1) (v := g s.1.toNat + o s.2.toNat - o s.1.toNat) rfl rfl rfl (Qae (QQ (a := g s.1.toNat) (b := o s.2.toNat) (QcL (m := m + 1) (f := g) (i := s.1) rfl rfl rfl rfl h1 (by omega)) rfl (QcL (m := m + 1) (f := o) (i := s.2) rfl rfl rfl rfl h2 (by omega)) rfl) (QcL (m := m + 1) (f := o) (i := s.1) rfl rfl rfl rfl h1 (by omega)) rfl) rfl h1 (by omega) ?_)
   refine run_seq (QfU (m := m + 1) (f := up g s.1.toNat (g s.1.toNat + o s.2.toNat - o s.1.toNat)) (i := s.2) (v := up g s.1.toNat (g s.1.toNat + o s.2.toNat - o s.1.toNat) s.2.toNat + o s.1.toNat - o s.2.toNat) rfl rfl rfl (Qae (QQ (a := up g s.1.toNat (g s.1.toNat + o s.2.toNat - o s.1.toNat) s.2.toNat) (b := o s.1.toNat) (QcL (m := m + 1) (f := up g s.1.toNat (g s.1.toNat + o s.2.toNat - o s.1.toNat)) (i := s.2) rfl rfl rfl rfl h2 (by omega)) rfl (QcL (m := m + 1) (f := o) (i := s.1) rfl rfl rfl rfl h1 (by omega)) rfl) (QcL (m := m + 1) (f := o) (i := s.2) rfl rfl rfl rfl h2 (by omega)) rfl) rfl h2 (by omega) (Qp ⟨_, _, _, λ j => ?_, rfl⟩))
   rw [QfP hi, ← Zci, ← hg j]
   unfold Qdi
   simp only [QcA]
   have n1 : ¬ s.1.toNat = s.2.toNat := by omega
   by_cases c1 : j = s.1.toNat
   ·have c2 : ¬ j = s.2.toNat := by omega
    have c3 : s.1 = (j : Int) := by omega
    have c4 : ¬ s.2 = (j : Int) := by omega
    rw [if_neg c2, if_pos c1, if_neg c4, if_pos c3, c1]; omega
   ·have c3 : ¬ s.1 = (j : Int) := by omega
    by_cases c2 : j = s.2.toNat
    ·have c4 : s.2 = (j : Int) := by omega
     rw [if_pos c2, if_neg (λ z => n1 z.symm), if_pos c4, if_neg c3, c2]; omega
    ·have c4 : ¬ s.2 = (j : Int) := by omega
     rw [if_neg c2, if_neg c1, if_neg c4, if_neg c3]; omega
  ·rintro ρ ⟨g, j5, j6, hg, rfl⟩
   rw [ZaP] at hg
   have : g = λ j => h0 j + (R.map λ s => Qdi o s j).sum := funext hg
   subst this
   exact ⟨j5, j6, rfl⟩
 rintro ρ ⟨j5, j6, rfl⟩
 refine QE (r := ⟨Qb (m + 1) (λ j => h0 j + (R.map λ s => Qdi o s j).sum), true, [3]⟩) rfl ⟨?_, rfl⟩
 exact QcK λ j hj => (Qfu hR h0 o hj).symm
theorem QtW {m : Nat} {R : List (Int × Int)} (hR : ∀ s ∈ R, Good m s) {i j : Nat} (hi : i < m) (hj : j < m) : Qe (m + 1) (Qd R []) i j = Qe m (Qd R []) i j := by
 have g : ∀ s ∈ Qd R [], 0 <= s.1 /\ 0 <= s.2 := λ s hs => by
  have := Qa9 hR (λ s hs => absurd hs (by simp)) s hs
  exact ⟨this.1, this.2.1⟩
 rw [Qa0 (by omega) (by omega) g, Qa0 hi hj g]
theorem Qjo {m : Nat} {R : List (Int × Int)} (hR : ∀ s ∈ R, Good m s) (f c : Nat -> Int) (c0 : c m = 0) {j : Nat} (hj : j < m) : Qh (m + 1) (Qe (m + 1) (Qd R [])) f c j = Qh m (Qe m (Qd R [])) f c j := by
 unfold Qh
 rw [Qab, c0, ZQ, ZaG]
 congr 1
 exact QC λ i hi => by rw [QtW hR hi hj]
theorem QtC {m : Nat} {R : List (Int × Int)} (hw : Qan m R []) {p : Nat} (hp : p < m) : (Qu m λ i => Qe m (Qd R []) i p) <= 0 := by
 have hR := hw.good.1
 have e := QnJ (Qg0 hR) (l := List.range m) ZaH (λ o ho => Zh.mp ho) hp
 have e2 : (Qu m λ i => (if i ∈ List.range m then 1 else 0) * Qe m (Qd R []) i p) = Qu m λ i => Qe m (Qd R []) i p := QC λ i hi => by rw [if_pos (Zh.mpr hi), Zar]
 rw [← e2, e, if_pos (Zh.mpr hp), Qe9 hR hp ZaH (λ o ho => Zh.mp ho)]
 have n := hw.neg hp
 have s := Qil hR p
 have l : (R.map (QP p (List.range m))).sum <= (R.map (QP p (List.range (m + 1)))).sum := QfG λ s _ => Qo8 λ x hx => Zh.mpr (by have := Zh.mp hx; omega)
 omega
theorem QuI {m : Nat} (d : Nat -> Int) (h : ∃ i, i < m /\ d i < 0) : ∃ p, p < m /\ d p < 0 /\ ∀ j, j < m -> d p <= d j := by
 induction m with
 | zero => obtain ⟨i, hi, _⟩ := h; omega
 | succ m ih =>
  by_cases q : ∃ i, i < m /\ d i < 0
  ·obtain ⟨p, hp, h0, h1⟩ := ih q
   by_cases z : d m < d p
   ·exact ⟨m, by omega, by omega, λ j hj => by
     by_cases e : j = m
     ·subst e; exact Zah _
     ·have := h1 j (by omega); omega⟩
   ·exact ⟨p, by omega, h0, λ j hj => by
     by_cases e : j = m
     ·subst e; omega
     ·exact h1 j (by omega)⟩
  ·obtain ⟨i, hi, h0⟩ := h
   have e : i = m := ZH λ z => q ⟨i, by omega, h0⟩
   subst e
   exact ⟨i, by omega, h0, λ j hj => by
    by_cases e : j = i
    ·subst e; exact Zah _
    ·have : ¬ d j < 0 := λ z => q ⟨j, by omega, z⟩
     omega⟩
theorem QfK {m : Nat} {R : List (Int × Int)} (hw : Qan m R []) {x d : Nat -> Int} (hb : ∀ i, i < m -> QaS (Qe m (Qd R [])) x m m i ≠ none) (hs : Stb m (Qe m (Qd R [])) (Qh m (Qe m (Qd R [])) x d)) : ∀ i, i < m -> 0 <= d i := by
 have hR := hw.good.1
 have tp := hw.tp
 refine λ i hi => ZH λ hn => ?_
 obtain ⟨p0, hp0, neg, mn⟩ := QuI (m := m) d ⟨i, hi, by omega⟩
 obtain ⟨n, ⟨p, hp, ep, pc⟩, least⟩ := Qmy (P := λ n => ∃ p, p < m /\ d p = d p0 /\ p ∉ QI (Qe m (Qd R [])) x m n) ⟨m, p0, hp0, rfl, λ z => hb p0 hp0 ((Qc7 m p0 hp0).mpr z)⟩
 cases n with
 | zero => exact pc (Zh.mpr hp)
 | succ k =>
  have inC : ∀ q, q < m -> d q = d p0 -> q ∈ QI (Qe m (Qd R [])) x m k := λ q hq e => ZH λ z => least k (by omega) ⟨q, hq, e, z⟩
  have rd : Q9 (Qe m (Qd R [])) p (QI (Qe m (Qd R [])) x m k) <= x p := ZH λ q => pc (Qcm.mpr ⟨inC p hp ep, λ z => q (QbV.mp z).2⟩)
  have ml : ∀ q, q ∈ (List.range m).filter (λ q => decide (d q = d p0)) ↔ q < m /\ d q = d p0 := λ q => by
   rw [ZC, Zh, decide_eq_true_iff]
  have nl : ((List.range m).filter λ q => decide (d q = d p0)).Nodup := ZaH.filter _
  generalize (List.range m).filter (λ q => decide (d q = d p0)) = l at ml nl
  have am := Qd5 tp.pos hp nl (Qb0 (T := Qe m (Qd R [])) (h := x) (m := m) k) (λ o ho => Qcb ho) (λ o ho => inC o ((ml o).mp ho).1 ((ml o).mp ho).2)
  have is := QnJ (Qg0 hR) nl (λ o ho => ((ml o).mp ho).1) hp
  rw [if_pos ((ml p).mpr ⟨hp, ep⟩)] at is
  have le : (Qu m λ i => (d p0 + 1) * Qe m (Qd R []) i p + -((if i ∈ l then 1 else 0) * Qe m (Qd R []) i p)) <= Qu m λ i => d i * Qe m (Qd R []) i p := Qbp λ i hi => by
   show (d p0 + 1) * Qe m (Qd R []) i p + -((if i ∈ l then 1 else 0) * Qe m (Qd R []) i p) <= d i * Qe m (Qd R []) i p
   by_cases e : i ∈ l
   ·rw [if_pos e, ((ml i).mp e).2, ZZ]; omega
   ·have ne : i ≠ p := λ z => e (z ▸ (ml p).mpr ⟨hp, ep⟩)
    have dl : d p0 + 1 <= d i := by
     have h1 := mn i hi
     have h2 : ¬ d i = d p0 := λ z => e ((ml i).mpr ⟨hi, z⟩)
     omega
    have := Zab dl (tp.pos i p hi hp ne)
    rw [if_neg e, ZQ]; omega
  rw [Qal, Qcy, Qc1, is] at le
  have cs := QtC hw hp
  have cm : 0 <= (d p0 + 1) * Qu m λ i => Qe m (Qd R []) i p := by
   have := ZaD (show 0 <= -(d p0 + 1) by omega) (show 0 <= -(Qu m λ i => Qe m (Qd R []) i p) by omega)
   rw [Int.neg_mul_neg] at this
   exact this
  have st := hs p hp
  have ea : Qh m (Qe m (Qd R [])) x d p = x p + Qu m λ i => d i * Qe m (Qd R []) i p := rfl
  omega
theorem Qsh {m : Nat} {R : List (Int × Int)} (hw : Qan m R []) {x x' d : Nat -> Int} (hb : ∀ i, i < m -> QaS (Qe m (Qd R [])) x m m i ≠ none) (hb' : ∀ i, i < m -> QaS (Qe m (Qd R [])) x' m m i ≠ none) (sx : Stb m (Qe m (Qd R [])) x) (sx' : Stb m (Qe m (Qd R [])) x') (e : ∀ j, j < m -> x' j = Qh m (Qe m (Qd R [])) x d j) : ∀ i, i < m -> d i = 0 := λ i hi => by
 have a := QfK hw hb (d := d) (λ p hp => by rw [← e p hp]; exact sx' p hp) i hi
 have b := QfK hw hb' (d := λ i => - d i) (λ p hp => by
  have : Qh m (Qe m (Qd R [])) x' (λ i => - d i) p = x p := by
   have q : Qh m (Qe m (Qd R [])) x' (λ i => - d i) p = Qh m (Qe m (Qd R [])) (Qh m (Qe m (Qd R [])) x d) (λ i => - d i) p := QaH p (e p hp) λ _ _ => rfl
   rw [q, Qhh]
   unfold Qh
   rw [QC (g := λ _ => 0) λ i _ => by show (d i + - d i) * Qe m (Qd R []) i p = 0; rw [Int.add_right_neg, ZQ], Q4]
   omega
  rw [this]; exact sx p hp) i hi
 omega
theorem Qd3 {m : Nat} {R : List (Int × Int)} (hw : Qan m R []) {x y : Nat -> Int} (h : ∀ j, j < m -> x j = y j) (hb : ∀ i, i < m -> QaS (Qe m (Qd R [])) x m m i ≠ none) : ∀ i, i < m -> QaS (Qe m (Qd R [])) y m m i ≠ none := λ i hi z => by
 cases q : QaS (Qe m (Qd R [])) x m m i with
 | none => exact hb i hi q
 | some t =>
  obtain ⟨t', e, _⟩ := Qqt hw.tp.pos (λ j hj => Int.le_of_eq (h j hj)) hi q
  rw [z] at e
  cases e
theorem QoZ {m : Nat} {R : List (Int × Int)} (hw : Qan m R []) {v x : Nat -> Int} (hd : Dbl m (Qe m (Qd R [])) v) (hr : Rec m (Qe m (Qd R [])) v x) : ∀ i, i < m -> QaS (Qe m (Qd R [])) x m m i ≠ none := by
 obtain ⟨y, u, y0, hu, ex⟩ := hr
 refine Qd3 hw (λ j hj => (ex j hj).symm) (Qio hw (λ j hj => ?_) hu)
 have b := hd.big hj
 have := y0 j hj
 have := hw.neg hj
 omega
def Qdy (m : Nat) (R : List (Int × Int)) (g : Nat -> Int) : Prop := (∀ j, j < m -> 0 <= g j /\ g j < Qv R [] j) /\ ∀ i, i < m -> QaS (Qe m (Qd R [])) (λ j => Qv R [] j - 1 - g j) m m i ≠ none
theorem QjB {m : Nat} {R : List (Int × Int)} (hw : Qan m R []) {g g' d : Nat -> Int} (d0 : d m = 0) (h : Qdy m R g) (h' : Qdy m R g') (e : ∀ j, j < m + 1 -> g' j = Qh (m + 1) (Qe (m + 1) (Qd R [])) g d j) : (∀ j, j < m + 1 -> g' j = g j) /\ ∀ i, i < m -> d i = 0 := by
 have hR := hw.good.1
 have z : ∀ i, i < m -> - d i = 0 := Qsh hw (d := λ i => - d i) h.2 h'.2 (λ p hp => by have := h.1 p hp; have := hw.neg hp; show Qv R [] p - 1 - g p < _; omega) (λ p hp => by have := h'.1 p hp; have := hw.neg hp; show Qv R [] p - 1 - g' p < _; omega) (λ j hj => by
  show Qv R [] j - 1 - g' j = _
  rw [e j (by omega), Qjo hR g d d0 hj]
  unfold Qh
  rw [QC (f := λ i => - d i * Qe m (Qd R []) i j) (g := λ i => -(d i * Qe m (Qd R []) i j)) λ i _ => by rw [Zav], Qcy]
  dsimp only
  omega)
 refine ⟨λ j hj => ?_, λ i hi => by have := z i hi; omega⟩
 rw [e j hj]
 have : Qh (m + 1) (Qe (m + 1) (Qd R [])) g d j = Qh (m + 1) (Qe (m + 1) (Qd R [])) g (λ _ => 0) j := QaH j rfl λ i hi => by
  by_cases q : i = m
  ·rw [q, d0]
  ·have := z i (by omega); omega
 rw [this]
 unfold Qh
 rw [QC (g := λ _ => 0) λ i _ => by rw [ZQ], Q4, ZaG]
theorem QqB {fs : DA} {ρ : En} {r : RA} (h : fs ρ = some r) (hl : r.ds.length <= 64) : Qaz fs ρ = some ⟨.tup r.ds, r.fr, r.M⟩ := by
 unfold Qaz; rw [h]; exact if_pos hl
theorem Qum {fa : DE} {ρ : En} {r : R} {a b : D} (h : fa ρ = some r) (e : r.d = .tup [a, b]) : Qk fa (dC (.int 0)) ρ = some (HS.R.norm ⟨a, r.fr, r.M⟩) /\ Qk fa (dC (.int 1)) ρ = some (HS.R.norm ⟨b, r.fr, r.M⟩) := by
 unfold Qk
 rw [h]
 simp only [Za, e, Qgr]
 exact ⟨rfl, rfl⟩
theorem Qm4 {m : Nat} (f g : Nat -> D) : Qdf ((List.range m).map f) ((List.range (m + 1)).map g) = (List.range m).map λ i => .tup [f i, g i] := by
 unfold Qdf
 rw [Zbx, ZT]
 have : ∀ (a b c : List D), a.length = b.length -> a.zip (b ++ c) = a.zip b := λ a b c h => by
  have := List.zip_append (l₁ := a) (r₁ := []) (l₂ := b) (r₂ := c) h
  simpa using this
 rw [this _ _ _ (by simp)]
 exact QiU f g
theorem QsK {fa fb : DE} {ρ : En} {ra rb : R} {m : Nat} {f g : Nat -> D} (ha : fa ρ = some ra) (ea : ra.d = .lst ((List.range m).map f)) (hb : fb ρ = some rb) (eb : rb.d = .lst ((List.range (m + 1)).map g)) : QaJ fa fb ρ = some ⟨(List.range m).map λ i => .tup [f i, g i], ra.M ++ rb.M⟩ := by
 unfold QaJ
 rw [ha, Za, hb, Za, ea, eb]
 show some (IR.mk (Qdf _ _) _) = _
 rw [Qm4]
noncomputable def Qmh (QcO : Den) (Q5 : Den) (QaQ : Den) (Qef : Den) (Qaq : Den) (QcJ : Den) : DS := (Qf (Qs 2 (Qw 1 QcO [] (Qc (Qa 0) Qg))) (Qf (Qdk (Qw 2 Q5 [] (Qc (Qa 2) (Qc (QW (Qc (Qa 1) Qg)) Qg)))) (Qf (Qs 3 (QX (QaJ (Qw 1 QaQ [] (Qc (Qa 0) Qg)) (Qa 1)) (.tp [1, 2]) [none, none, none] Q8 (dOp Qat (dOp Qat (Qa 1) (dC (.int 1))) (Qa 2)))) (Qf (Qs 4 (QH (Qw 1 Qaq [] (Qc (Qk (Qw 2 Qef [] (Qc (Qa 0) (Qc (Qa 3) Qg))) (dC (.int 1))) Qg)) (QW (Qc (dC (.int 0)) Qg)))) (Qf (QM (Qaz (Qc (Qw 3 QcJ [] (Qc (Qa 2) (Qc (Qa 1) (Qc (Qa 4) Qg)))) (Qc (Qa 4) Qg)))) Qn)))))
def Qoe (d : Den) : Prop := ∀ (m : Nat) (R : List (Int × Int)) (f : Nat -> Int), 0 < m -> m <= 8 -> Qan m R [] -> (∀ j, j < m -> (f j).natAbs <= 2 ^ 190) -> ∃ c : Nat -> Int, d [Qj m R [], Qb (m + 1) f] = some (.tup [Qb (m + 1) (Qh (m + 1) (Qe (m + 1) (Qd R [])) f c), Qb (m + 1) c], true) /\ c m = 0 /\ Qdy m R (Qh (m + 1) (Qe (m + 1) (Qd R [])) f c)
theorem QuR {dw dn ds da dop dft : Den} (hw : Qjn dw) (hn : Qfd dn) (hs : QiZ ds) (ha : Qjr da) (ho : QkO dop) (hf : QgY dft) : Qoe (Qo 5 (Qmh dw dn ds da dop dft)) := λ m R f m0 m8 hN hb => by
 have hg := hN.good
 have hR := hg.1
 have sb : ∀ j, j < m -> Qv R [] j <= 2 ^ 66 := λ j hj => by
  have h1 := hN.tp.bnd j j hj hj
  have h2 := hN.neg hj
  omega
 obtain ⟨k, v, ea, dbl, rc, st, nn⟩ := ha m R [] (λ j => Qv R [] j - 1 - f j) m0 m8 hN (λ j hj => by
  have h1 := sb j hj
  have h2 := hN.Qh6 hj
  have h3 := hb j hj
  have h4 : (2 : Nat) ^ 66 <= 2 ^ 190 := ZK (by decide) (by decide)
  have h5 : (2 : Nat) ^ 190 + 2 ^ 190 <= 2 ^ 200 := by decide
  show (Qv R [] j - 1 - f j).natAbs <= _
  omega)
 have c0 : (λ i => if i < m then 0 - k i else (0 : Int)) m = 0 := if_neg (ZS m)
 have row : ∀ j, j < m -> Qh (m + 1) (Qe (m + 1) (Qd R [])) f (λ i => if i < m then 0 - k i else 0) j = Qv R [] j - 1 - Qh m (Qe m (Qd R [])) (λ j => Qv R [] j - 1 - f j) k j := λ j hj => by
  rw [Qjo hR f _ c0 hj]
  unfold Qh
  rw [QC (f := λ i => (if i < m then 0 - k i else (0 : Int)) * Qe m (Qd R []) i j) (g := λ i => -(k i * Qe m (Qd R []) i j)) λ i hi => by rw [if_pos hi, Zba, Zav], Qcy]
  dsimp only
  omega
 refine ⟨λ i => if i < m then 0 - k i else 0, Q7 ?_, c0, λ j hj => ?_, ?_⟩
 ·refine run_seq (Qi (Qsd (r := ⟨[Qj m R []], false, []⟩) rfl (hw m R) rfl) ?_)
  rw [Qqz rfl]
  refine run_seq (QdG (Qt (r := ⟨[Qj ((m + 1 : Nat) : Int) R [], .lst [Qb (m + 1) f]], false, []⟩) rfl (hn (m + 1) R [] [f]) rfl) ?_)
  refine run_seq (Qi (r := ⟨Qb m λ j => Qv R [] j - 1 - f j, true, []⟩) (QN (toD := λ (j : Nat) => .tup [.int (Qv R [] j), .int (f j)]) (out := λ (j : Nat) => .int (Qv R [] j - 1 - f j)) (List.range m) (QsK (f := λ j => .int (Qv R [] j)) (g := λ j => .int (f j)) (Qt (r := ⟨[Qj m R []], false, []⟩) rfl (hs m R [] (by omega) (by simp; omega) hR hg.2.1) rfl) rfl (rb := ⟨Qb (m + 1) f, false, []⟩) rfl rfl) rfl λ j _ => ⟨[none, some (.int (Qv R [] j), true), some (.int (f j), true)], rfl, ⟨.int (Qv R [] j - 1 - f j), true, []⟩, rfl, rfl, rfl⟩) ?_)
  rw [Ql]
  have e1 : (λ i => if i < m then 0 - k i else (λ _ => (0 : Int)) (i - m)) = λ i => if i < m then 0 - k i else 0 := rfl
  refine run_seq (Qi (Qeo (m := m) (k := 1) (f := λ i => 0 - k i) (g := λ _ => 0) (Qt (Qr (Qum (Qt (r := ⟨[Qj m R [], Qb m λ j => Qv R [] j - 1 - f j], false, [3]⟩) rfl ea rfl) rfl).2 (QS _)) (ho m k) rfl) rfl (rb := ⟨Qb 1 λ _ => 0, true, []⟩) rfl rfl (by omega)) ?_)
  rw [Ql, e1]
  refine QE (QqB (Qr (Qt (r := ⟨[Qj ((m + 1 : Nat) : Int) R [], Qb (m + 1) f, Qb (m + 1) λ i => if i < m then 0 - k i else 0], false, [4]⟩) rfl (hf (m + 1) R [] f _ (by omega) (by simp; omega) (λ s hs => Qn1 (hR s hs)) (λ s hs => absurd hs (by simp))) rfl) (Qr (r := ⟨Qb (m + 1) λ i => if i < m then 0 - k i else 0, true, [4]⟩) rfl (QS _))) (Zax rfl)) ⟨rfl, rfl⟩
 ·rw [row j hj]
  have h1 := nn j hj
  have h2 := st j hj
  have h3 := hN.neg hj
  omega
 ·exact Qd3 hN (λ j hj => by show _ = Qv R [] j - 1 - _; rw [row j hj]; omega) (QoZ hN dbl rc)
noncomputable def Qfg : DS := (Qf (Qs 1 (Qao (QW (Qc (dC (.int 0)) Qg)) (QH (Qk (Qa 0) (dC (.int 0))) (dC (.int 1))))) (Qf (Qa1 (Qak (Qk (Qa 0) (dC (.int 1)))) (.tp [2, 3]) (Qf (QcQ 1 Q1 (Qa 2) (QH (Qk (Qa 1) (Qa 2)) (dC (.int 1)))) (Qf (QcQ 1 Q1 (Qa 3) (QH (Qk (Qa 1) (Qa 3)) (dC (.int 1)))) Qn))) (Qf (QM (Qcs (Qa 1) Qdq (QaK (Qk (Qa 0) (dC (.int 0)))))) Qn)))
def QfI (d : Den) : Prop := ∀ (m : Nat) (R : List (Int × Int)), m <= 1000 -> (∀ s ∈ R, Good m s) -> d [Qj m R []] = some (Qb m (Qv R []), true)
theorem Qpd : QfI (Qo 4 Qfg) := λ m R hm hR => by
 refine Q7 ?_
 have it : ∀ {ρ : En}, ρ[0]? = some (some (Qj m R [], false)) -> Qa 0 ρ = some ⟨Qj m R [], false, []⟩ := λ h => Qa6 h
 refine run_seq (Qi (QgK (n := m + 1) (QQ (a := (m : Int)) (b := 1) (QcI (it rfl) rfl).1 rfl rfl rfl) rfl (by omega)) ?_)
 rw [Ql]
 refine Qai (P := λ ρ => ∃ j2 j3, ρ = [some (Qj m R [], false), some (Qb (m + 1) (Qv R []), true), j2, j3]) ?_ ?_
 ·refine Qag (toD := pairD) R (λ i ρ => ∃ f j2 j3, (∀ k, f k = ((R.take i).map λ r => isI k r.1 + isI k r.2).sum) /\ ρ = [some (Qj m R [], false), some (Qb (m + 1) f, true), j2, j3]) (ir := ⟨R.map pairD, []⟩) (Qaj (QcI (it rfl) rfl).2.1 rfl) rfl ⟨λ _ => 0, none, none, λ k => by simp, rfl⟩ ?_ ?_
  ·rintro i s ρ hi ⟨f, j2, j3, hf, rfl⟩
   obtain ⟨h1, h2, h3, h4, h5⟩ := hR s (ZJ hi)
   refine ⟨_, rfl, ?_⟩
   refine run_seq (QnQ (i := s.1) rfl rfl h1 (by omega) ?_)
   refine run_seq (QnQ (i := s.2) rfl rfl h2 (by omega) (Qp ⟨_, _, _, λ k => ?_, rfl⟩))
   rw [QfP hi, ← hf k]
   unfold isI
   simp only [QcA]
   have n1 : ¬ s.1.toNat = s.2.toNat := by omega
   by_cases c1 : k = s.1.toNat
   ·have c2 : ¬ k = s.2.toNat := by omega
    have c3 : s.1 = (k : Int) := by omega
    have c4 : ¬ s.2 = (k : Int) := by omega
    rw [if_neg c2, if_pos c1, if_pos c3, if_neg c4, c1]; omega
   ·have c3 : ¬ s.1 = (k : Int) := by omega
    by_cases c2 : k = s.2.toNat
    ·have c4 : s.2 = (k : Int) := by omega
     rw [if_pos c2, if_neg (λ z => n1 z.symm), if_neg c3, if_pos c4, c2]; omega
    ·have c4 : ¬ s.2 = (k : Int) := by omega
     rw [if_neg c2, if_neg c1, if_neg c3, if_neg c4]; omega
  ·rintro ρ ⟨f, j2, j3, hf, rfl⟩
   rw [ZaP] at hf
   have : f = Qv R [] := funext λ k => by rw [hf k]; unfold Qv; simp
   subst this
   exact ⟨j2, j3, rfl⟩
 rintro ρ ⟨j2, j3, rfl⟩
 exact QE (Qny (m := m + 1) (n := m) (Qa6 (d := Qb (m + 1) (Qv R [])) (b := true) rfl) rfl (QcI (it rfl) rfl).1 rfl (by omega)) ⟨rfl, rfl⟩
theorem Qrq {ρ : En} {A : List Nat} {fs : DA} {rs : RA} (h : fs ρ = some rs) (e : rs.ds = [Qam A]) : dList fs ρ = some ⟨Qam A, true, []⟩ := by
 unfold dList
 rw [h, Za, e]
 simp [Qam, Qa2, QoG]
theorem Qpv {fa : DE} {ρ : En} {ra : R} {l : List Nat} (ha : fa ρ = some ra) (ea : ra.d = Qam l) : QG (dOp gNe fa (QW Qg)) ρ = some (!l.isEmpty) := by
 rw [QhN (ns := l.map λ (p : Nat) => (p : Int)) ha (ea.trans (Qkd l))]
 cases l <;> rfl
theorem Qql {fa : DE} {ρ : En} {ra : R} {l : List Nat} (ha : fa ρ = some ra) (ea : ra.d = Qam l) : dOp gEq fa (QW Qg) ρ = some ⟨.bl l.isEmpty, true, []⟩ := by
 refine Qae (rb := ⟨.lst [], true, []⟩) ha rfl ?_
 rw [ea, Qkd]
 unfold gEq
 have : (D.lst ((l.map λ (p : Nat) => (p : Int)).map .int)).sim 8 = true := QuV 7 _
 rw [this]
 show some (D.bl (deq (.lst ((l.map λ (p : Nat) => (p : Int)).map .int)) (.lst []))) = _
 rw [Qv2]
 cases l <;> rfl
theorem QfM {m : Nat} {T : Nat -> Nat -> Int} (pos : ∀ i j, i < m -> j < m -> i ≠ j -> 0 <= T i j) {h : Nat -> Int} {l : List Nat} (nd : l.Nodup) (hl : ∀ p ∈ l, p < m) (hs : ∀ p ∈ l, h p < Q9 T p l) : ∀ k, ∀ p ∈ l, p ∈ QI T h m k
 | 0, p, hp => Zh.mpr (hl p hp)
 | k + 1, p, hp => Qcm.mpr ⟨QfM pos nd hl hs k p hp, λ z => by
  have h1 := (QbV.mp z).2
  have h2 := hs p hp
  have h3 := Qd5 pos (hl p hp) nd (Qb0 (T := T) (h := h) (m := m) k) (λ o ho => Qcb ho) (QfM pos nd hl hs k)
  omega⟩
noncomputable def QgW : DS := (Qf (Qs 3 (QX (Qbc (Qk (Qa 0) (dC (.int 0)))) (.nm 1) [none, none] Q8 (Qa 1))) (Qf (Qs 4 (dC (.bl true))) (Qf (Qb3 (QdX (QG (Qa 4)) (QG (dOp gNe (Qa 3) (QW Qg)))) (Qf (Qs 4 (dC (.bl false))) (Qf (Qa1 (Qak (dList (Qc (Qa 3) Qg))) (.nm 2) (Qf (Qs 5 (dC (.int 0))) (Qf (Qa1 (Qak (Qk (Qa 0) (dC (.int 1)))) (.tp [6, 7]) (Qf (sIf (bOr (QdX (QG (dOp gEq (Qa 6) (Qa 2))) (QG (dOp (gIn false) (Qa 7) (Qa 3)))) (QdX (QG (dOp gEq (Qa 7) (Qa 2))) (QG (dOp (gIn false) (Qa 6) (Qa 3))))) (Qf (Qs 5 (QH (Qa 5) (dC (.int 1)))) Qn) Qn) Qn)) (Qf (sIf (QG (dOp gGe (Qk (Qa 1) (Qa 2)) (Qa 5))) (Qf (QjW 3 Q1 (Qa 2)) (Qf (Qs 4 (dC (.bl true))) Qn)) Qn) Qn)))) Qn))) (Qf (QM (dOp gEq (Qa 3) (QW Qg))) Qn))))
def QgZ (d : Den) : Prop := ∀ (m : Nat) (R : List (Int × Int)) (h : Nat -> Int), m <= 1000 -> Qan m R [] -> d [Qj m R [], Qb m h] = some (.bl (QI (Qe m (Qd R [])) h m m).isEmpty, true)
structure Pass (m : Nat) (T : Nat -> Nat -> Int) (h : Nat -> Int) (l0 : List Nat) (i : Nat) (l : List Nat) (b : Bool) : Prop where
 nd : l.Nodup
 sub : ∀ p ∈ l, p ∈ l0
 cold : ∀ p ∈ QI T h m m, p ∈ l
 rest : ∀ p ∈ l0.drop i, p ∈ l
 no : b = false -> l = l0 /\ ∀ p ∈ l0.take i, h p < Q9 T p l0
 yes : b = true -> l.length < l0.length
theorem Pass.step {m : Nat} {T : Nat -> Nat -> Int} (pos : ∀ i j, i < m -> j < m -> i ≠ j -> 0 <= T i j) {h : Nat -> Int} {l0 : List Nat} {i : Nat} {l : List Nat} {b : Bool} (n0 : l0.Nodup) (h0 : ∀ p ∈ l0, p < m) (P : Pass m T h l0 i l b) {x : Nat} (hx : l0[i]? = some x) : x ∈ l /\ (Q9 T x l <= h x -> ∀ j, l[j]? = some x -> Pass m T h l0 (i + 1) (l.eraseIdx j) true) /\ (h x < Q9 T x l -> Pass m T h l0 (i + 1) l b) := by
 obtain ⟨hil, hxe⟩ := Zf.mp hx
 have dr : l0.drop i = x :: l0.drop (i + 1) := by rw [Zaj hil, hxe]
 have xl : x ∈ l := P.rest x (by rw [dr]; simp)
 have nx : x ∉ l0.drop (i + 1) := by
  have := n0.sublist (List.drop_sublist i l0)
  rw [dr] at this
  exact (Zad.mp this).1
 refine ⟨xl, λ hr j hj => ?_, λ hr => ⟨P.nd, P.sub, P.cold, λ p hp => P.rest p (by rw [dr]; simp [hp]), λ e => ⟨(P.no e).1, λ p hp => ?_⟩, P.yes⟩⟩
 ·have pm := QhH hj
  have nd2 := pm.nodup_iff.mpr P.nd
  have mem : ∀ p, p ∈ l.eraseIdx j ↔ p ∈ l /\ p ≠ x := λ p => by
   have q := pm.mem_iff (a := p)
   rw [Zr] at q
   have ns := (Zad.mp nd2).1
   exact ⟨λ z => ⟨q.mp (.inr z), λ e => ns (e ▸ z)⟩, λ z => (q.mpr z.1).elim (λ e => absurd e z.2) id⟩
  have len := pm.length_eq
  rw [ZI] at len
  have le : l.length <= l0.length := by
   cases b with
   | false => rw [(P.no rfl).1]; omega
   | true => have := P.yes rfl; omega
  refine ⟨(Zad.mp nd2).2, λ p hp => P.sub p ((mem p).mp hp).1, λ p hp => (mem p).mpr ⟨P.cold p hp, λ e => ?_⟩, λ p hp => (mem p).mpr ⟨P.rest p (by rw [dr]; simp [hp]), λ e => nx (e ▸ hp)⟩, λ e => (nomatch e), λ _ => by omega⟩
  subst e
  have h1 := Qlw hp
  have h2 := Qd5 pos (h0 p (P.sub p xl)) (Qb0 (T := T) (h := h) (m := m) m) P.nd (λ o ho => h0 o (P.sub o ho)) P.cold
  omega
 ·rw [ZbE, hx, ZE] at hp
  rcases hp with hp | hp
  ·exact (P.no e).2 p hp
  ·have : p = x := by simpa using hp
   subst this
   rw [← (P.no e).1]
   exact hr
set_option maxHeartbeats 0 in
theorem QrJ : QgZ (Qo 8 QgW) := λ m R h hm hw => by
 have hR := hw.good.1
 have pos := hw.tp.pos
 refine Q7 ?_
 have ecm := QN (fi := Qbc (Qk (Qa 0) (dC (.int 0)))) (t := .nm 1) (cap := [none, none]) (fe := Qa 1) (ρ := [some (Qj m R [], false), some (Qb m h, false), none, none, none, none, none, none]) (toD := λ (k : Nat) => .int (k : Int)) (out := λ (k : Nat) => .int (k : Int)) (List.range m) (Qcv (n := m) (r := ⟨.int m, true, []⟩) rfl rfl (by omega)) rfl λ k _ => ⟨[none, some (.int k, true)], rfl, ⟨.int k, true, []⟩, rfl, rfl, rfl⟩
 refine run_seq (Qi (r := ⟨Qam (List.range m), true, []⟩) ecm ?_)
 rw [Ql]
 refine run_seq (Qi (r := ⟨.bl true, true, []⟩) rfl ?_)
 rw [Ql]
 refine Qai (P := λ ρ => ∃ l b j2 j5 j6 j7, l.isEmpty = (QI (Qe m (Qd R [])) h m m).isEmpty /\ ρ = [some (Qj m R [], false), some (Qb m h, false), j2, some (Qam l, true), some (.bl b, true), j5, j6, j7]) ?_ ?_
 ·refine QgX (λ n ρ => ∃ l b j2 j5 j6 j7, n = 2 * l.length + (if b = true then 1 else 0) /\ l.Nodup /\ (∀ p ∈ l, p < m) /\ (∀ p ∈ QI (Qe m (Qd R [])) h m m, p ∈ l) /\ (b = false -> ∀ p ∈ l, h p < Q9 (Qe m (Qd R [])) p l) /\ ρ = [some (Qj m R [], false), some (Qb m h, false), j2, some (Qam l, true), some (.bl b, true), j5, j6, j7]) ?_ _ _ ⟨List.range m, true, none, none, none, none, rfl, ZaH, λ p hp => Zh.mp hp, λ p hp => Zh.mpr (Qcb hp), λ e => (nomatch e), rfl⟩
  rintro n ρ ⟨l0, b, j2, j5, j6, j7, rfl, nd, lm, lc, lb, rfl⟩
  refine ⟨b && !l0.isEmpty, Qhf (QB (r := ⟨.bl b, true, []⟩) rfl (by cases b <;> rfl)) (Qpv (l := l0) (ra := ⟨Qam l0, true, [3]⟩) rfl rfl), λ g => ?_, λ g => ?_⟩
  ·refine ⟨l0, b, j2, j5, j6, j7, ?_, rfl⟩
   cases l0 with
   | nil =>
    cases e : QI (Qe m (Qd R [])) h m m with
    | nil => rfl
    | cons a t => have := lc a (by rw [e]; simp); simp at this
   | cons a t =>
    have bf : b = false := by cases b with | false => rfl | true => simp at g
    have := QfM pos nd lm (lb bf) m a (by simp)
    cases e : QI (Qe m (Qd R [])) h m m with
    | nil => rw [e] at this; simp at this
    | cons _ _ => rfl
  ·have bt : b = true := by cases b with | true => rfl | false => simp at g
   subst bt
   refine run_seq (Qi (r := ⟨.bl false, true, []⟩) rfl ?_)
   rw [Ql]
   refine run_seq (Qag (toD := λ (k : Nat) => .int (k : Int)) l0 (λ i ρ => ∃ l b j2 j5 j6 j7, Pass m (Qe m (Qd R [])) h l0 i l b /\ ρ = [some (Qj m R [], false), some (Qb m h, false), j2, some (Qam l, true), some (.bl b, true), j5, j6, j7]) (ir := ⟨l0.map λ (k : Nat) => .int (k : Int), []⟩) (Qaj (Qrq (A := l0) (rs := ⟨[Qam l0], true, [3]⟩) rfl rfl) rfl) rfl ⟨l0, false, j2, j5, j6, j7, ⟨nd, λ p hp => hp, lc, λ p hp => hp, λ _ => ⟨rfl, λ p hp => by simp at hp⟩, λ e => (nomatch e)⟩, rfl⟩ ?_ ?_)
   ·rintro i x ρ hi ⟨l, b, j2, j5, j6, j7, P, rfl⟩
    obtain ⟨xl, P1, P2⟩ := P.step pos nd lm hi
    have xm := lm x (P.sub x xl)
    refine ⟨_, rfl, ?_⟩
    refine run_seq (Qi (r := ⟨.int 0, true, []⟩) rfl ?_)
    rw [Ql]
    refine Qai (P := λ ρ => ∃ j6 j7, ρ = [some (Qj m R [], false), some (Qb m h, false), some (.int x, true), some (Qam l, true), some (.bl b, true), some (.int ((R.map (QP x l)).sum), true), j6, j7]) ?_ ?_
    ·refine Qag (toD := pairD) R (λ i ρ => ∃ v j6 j7, v = ((R.take i).map (QP x l)).sum /\ ρ = [some (Qj m R [], false), some (Qb m h, false), some (.int x, true), some (Qam l, true), some (.bl b, true), some (.int v, true), j6, j7]) (ir := ⟨R.map pairD, []⟩) (Qaj (QcI (m := m) (R := R) (L := []) (Qa6 (d := Qj m R []) (b := false) rfl) rfl).2.1 rfl) rfl ⟨0, j6, j7, by simp, rfl⟩ ?_ ?_
     ·rintro i s ρ hi ⟨v, j6, j7, hv, rfl⟩
      obtain ⟨h1, h2, h3, h4, h5⟩ := hR s (ZJ hi)
      refine ⟨_, rfl, ?_⟩
      have ein : ∀ (y : Int) (k : Nat), 0 <= y -> [some (Qj m R [], false), some (Qb m h, false), some (.int x, true), some (Qam l, true), some (.bl b, true), some (.int v, true), some (.int s.1, true), some (.int s.2, true)][k]? = some (some (.int y, true)) -> dOp (gIn false) (Qa k) (Qa 3) [some (Qj m R [], false), some (Qb m h, false), some (.int x, true), some (Qam l, true), some (.bl b, true), some (.int v, true), some (.int s.1, true), some (.int s.2, true)] = some ⟨.bl (l.contains y.toNat), true, []⟩ := λ y k hy hk => QvU (neg := false) (o := y.toNat) (l := l) (Qep hk) (by rw [Int.toNat_of_nonneg hy]) (rb := ⟨Qam l, true, [3]⟩) rfl rfl
      refine run_seq (Q0 (b := decide ((s.1 = x /\ s.2.toNat ∈ l) ∨ (s.2 = x /\ s.1.toNat ∈ l))) ((QaL (Qhf (QB (Qes (a := s.1) (b := x) rfl rfl rfl rfl) rfl) (QB (ein s.2 7 h2 rfl) rfl)) (Qhf (QB (Qes (a := s.2) (b := x) rfl rfl rfl rfl) rfl) (QB (ein s.1 6 h1 rfl) rfl))).trans ?_) (λ h => ?_) (λ h => ?_))
      ·congr 1
       simp only [List.contains_eq_mem, Bool.decide_or, Bool.decide_and]
      ·have h := of_decide_eq_true h
       refine run_seq (Qi (QQ (a := v) (b := 1) rfl rfl rfl rfl) (Qp (Qp ?_)))
       rw [Ql]
       refine ⟨v + 1, _, _, ?_, rfl⟩
       rw [QfP hi, ← hv]
       unfold QP
       rw [if_pos h]
      ·have h := of_decide_eq_false h
       refine Qp (Qp ⟨v, _, _, ?_, rfl⟩)
       rw [QfP hi, ← hv]
       unfold QP
       rw [if_neg h, ZaG]
     ·rintro ρ ⟨v, j6, j7, hv, rfl⟩
      rw [ZaP] at hv
      subst hv
      exact ⟨_, _, rfl⟩
    rintro ρ ⟨j6, j7, rfl⟩
    rw [← Qe9 hR xm P.nd (λ o ho => lm o (P.sub o ho))]
    refine run_seq (Q0 (b := decide (Q9 (Qe m (Qd R [])) x l <= h x)) (QB (Qae (d := .bl (decide (Q9 (Qe m (Qd R [])) x l <= h x))) (rb := ⟨.int (Q9 (Qe m (Qd R [])) x l), true, []⟩) (Qas (m := m) (f := h) (i := x) (ra := ⟨Qb m h, false, []⟩) (rb := ⟨.int x, true, []⟩) rfl rfl rfl rfl xm) rfl rfl) rfl) (λ g => ?_) (λ g => ?_))
    ·refine run_seq (Qrz (l := l) (p := x) (r := ⟨.int x, true, []⟩) rfl rfl rfl xl λ j hj => ?_)
     refine run_seq (Qi (r := ⟨.bl true, true, []⟩) rfl (Qp (Qp ?_)))
     rw [Ql]
     exact ⟨_, true, _, _, _, _, P1 (of_decide_eq_true g) j hj, rfl⟩
    ·refine Qp (Qp ⟨l, b, _, _, _, _, P2 (by have := of_decide_eq_false g; omega), rfl⟩)
   ·rintro ρ ⟨l, b, j2, j5, j6, j7, P, rfl⟩
    refine Qp ⟨2 * l.length + (if b = true then 1 else 0), ?_, l, b, j2, j5, j6, j7, rfl, P.nd, λ p hp => lm p (P.sub p hp), P.cold, λ e p hp => ?_, rfl⟩
    ·cases b with
     | false => rw [(P.no rfl).1]; simp
     | true => have := P.yes rfl; simp; omega
    ·have q := (P.no e).2
     rw [ZaP] at q
     have e2 := (P.no e).1
     rw [e2] at hp ⊢
     exact q p hp
 rintro ρ ⟨l, b, j2, j5, j6, j7, el, rfl⟩
 rw [← el]
 exact QE (Qql (l := l) (ra := ⟨Qam l, true, [3]⟩) rfl rfl) ⟨rfl, rfl⟩
theorem Qit {m : Nat} {T : Nat -> Nat -> Int} {h : Nat -> Int} : (QI T h m m).isEmpty = true ↔ ∀ i, i < m -> QaS T h m m i ≠ none := by
 rw [List.isEmpty_iff]
 constructor
 ·intro e i hi z
  have := (Qc7 m i hi).mp z
  rw [e] at this
  simp at this
 ·intro hb
  cases e : QI T h m m with
  | nil => rfl
  | cons a t =>
   have ha : a ∈ QI T h m m := by rw [e]; simp
   exact absurd ((Qc7 m a (Qcb ha)).mpr ha) (hb a (Qcb ha))
theorem Qoy {fa : DE} {ρ : En} {ra : R} {m : Nat} {f : Nat -> Int} (ha : fa ρ = some ra) (ea : ra.d = Qb (m + 1) f) : Qk fa (QgN (dC (.int 1))) ρ = some ⟨.int (f m), true, []⟩ := by
 unfold Qk
 rw [ha, Za, show QgN (dC (.int 1)) ρ = some ⟨.int (-1), true, []⟩ from rfl, Za, ea]
 show ((Qb (m + 1) f).items).bind _ = _
 unfold Qb D.items
 rw [Za]
 have : atI ((List.range (m + 1)).map λ i => D.int (f i)) (-1) = some (.int (f m)) := by
  unfold atI ixN
  simp only [Zi, ZG]
  rw [if_neg (by omega), if_pos (by omega)]
  have e : ((-1 : Int) + ((m + 1 : Nat) : Int)).toNat = m := by omega
  rw [e]
  show ((List.range (m + 1)).map λ i => D.int (f i))[m]? = _
  rw [Zo, ZO (ZaO m)]
  rfl
 rw [this]
 rfl
noncomputable def Qgf (Qco : Den) (QU : Den) : DS := (Qf (sIf (bOr (QbK (QG (Qe6 "list" (Qa 2)))) (bOr (QbK (QG (Qe6 "list" (Qa 3)))) (QbK (QG (Qw 2 Qco [] (Qc (Qa 3) (Qc (Qa 3) Qg))))))) (Qf (QM (dC (.bl false))) Qn) Qn) (Qf (sIf (bOr (QG (dOp gNe (dBf Qa3 (Qc (Qa 3) Qg)) (QH (Qk (Qa 0) (dC (.int 0))) (dC (.int 1))))) (QG (dOp gNe (Qk (Qa 3) (QgN (dC (.int 1)))) (dC (.int 0))))) (Qf (QM (dC (.bl false))) Qn) Qn) (Qf (QM (Qw 2 Qco [] (Qc (Qa 2) (Qc (Qw 3 QU [] (Qc (Qa 0) (Qc (Qa 1) (Qc (Qa 3) Qg)))) Qg)))) Qn)))
def Qji (d : Den) : Prop := ∀ (m : Nat) (R : List (Int × Int)) (f c : Nat -> Int), m <= 100 -> (∀ s ∈ R, Good m s) -> c m = 0 -> d [Qj m R [], Qb (m + 1) f, Qb (m + 1) (Qh (m + 1) (Qe (m + 1) (Qd R [])) f c), Qb (m + 1) c] = some (.bl true, true)
theorem Qq4 {di db : Den} (hi : Qiw di) (hb : Qhi db) : Qji (Qo 4 (Qgf di db)) := λ m R f c hm hR c0 => by
 have eb := hb m R f c hm hR
 generalize Qh (m + 1) (Qe (m + 1) (Qd R [])) f c = a at *
 refine Q7 ?_
 refine QT (Q0 (b := false) (QaL (a := false) (b := false) (Qbg (b := true) (QB (b := true) rfl rfl)) (QaL (a := false) (b := false) (Qbg (b := true) (QB (b := true) rfl rfl)) (Qbg (b := true) (QB (b := true) (Qt (r := ⟨[Qb (m + 1) c, Qb (m + 1) c], false, []⟩) rfl (QmB hi (m + 1) c) rfl) rfl)))) (λ h => by cases h) (λ _ => Qp ?_))
 refine QT (Q0 (b := false) (QaL (a := false) (b := false) (QB (b := false) (r := ⟨.bl false, true, []⟩) ?_ rfl) (QB (b := false) (r := ⟨.bl false, true, []⟩) ?_ rfl)) (λ h => by cases h) (λ _ => Qp ?_))
 ·refine (QdV (a := ((m + 1 : Nat) : Int)) (b := (m : Int) + 1) (Qtp (m := m + 1) (f := c) (r := ⟨Qb (m + 1) c, false, []⟩) rfl rfl) rfl (QQ (a := (m : Int)) (b := 1) (ra := ⟨.int m, true, []⟩) rfl rfl rfl rfl) rfl).trans ?_
  simp
 ·refine (QdV (a := c m) (b := 0) (Qoy (ra := ⟨Qb (m + 1) c, false, []⟩) rfl rfl) rfl (rb := ⟨.int 0, true, []⟩) rfl rfl).trans ?_
  rw [c0]; simp
 exact QE (Qt (Qr (r := ⟨Qb (m + 1) a, false, []⟩) rfl (Qr (Qt (r := ⟨[Qj m R [], Qb (m + 1) f, Qb (m + 1) c], false, []⟩) rfl eb rfl) (QS _))) (QmB hi (m + 1) a) rfl) ⟨rfl, rfl⟩
noncomputable def QdP (QaG : Den) (QaD : Den) : DS := (Qf (Qs 2 (QW Qg)) (Qf (Qa1 (Qem (Qw 1 QaG [] (Qc (Qa 0) Qg))) (.tp [3, 4]) (Qf (sIf (bOr (QG (dOp gLt (Qk (Qa 1) (Qa 3)) (dC (.int 0)))) (QG (dOp gGe (Qk (Qa 1) (Qa 3)) (Qa 4)))) (Qf (QM (dC (.bl false))) Qn) Qn) (Qf (Qdj 2 Q1 (dOp Qat (dOp Qat (Qa 4) (dC (.int 1))) (Qk (Qa 1) (Qa 3)))) Qn))) (Qf (QM (Qw 2 QaD [] (Qc (Qa 0) (Qc (Qa 2) Qg)))) Qn)))
def QlZ (d : Den) : Prop := ∀ (m : Nat) (R : List (Int × Int)) (g : Nat -> Int), m <= 100 -> Qan m R [] -> Qdy m R g -> d [Qj m R [], Qb (m + 1) g] = some (.bl true, true)
theorem QtF {ds db : Den} (hs : QfI ds) (hb : QgZ db) : QlZ (Qo 5 (QdP ds db)) := λ m R g hm hw hl => by
 have es := hs m R (by omega) hw.good.1
 have eb := hb m R (λ j => Qv R [] j - 1 - g j) (by omega) hw
 rw [Qit.mpr hl.2] at eb
 have h1 := hl.1
 generalize Qv R [] = sp at *
 refine Q7 ?_
 refine run_seq (Qi (r := ⟨Qb 0 λ j => sp j - 1 - g j, true, []⟩) rfl ?_)
 rw [Ql]
 refine QT (Qag (toD := λ (j : Nat) => .tup [.int (j : Int), .int (sp j)]) (List.range m) (λ i ρ => ∃ j3 j4, ρ = [some (Qj m R [], false), some (Qb (m + 1) g, false), some (Qb i λ j => sp j - 1 - g j, true), j3, j4]) (ir := ⟨(List.range m).map λ (i : Nat) => .tup [.int (i : Int), .int (sp i)], []⟩) ?_ rfl ⟨none, none, rfl⟩ ?_ ?_)
 ·unfold Qem
  refine (congrArg (λ z => Option.bind z _) (Qt (r := ⟨[Qj m R []], false, []⟩) (d := Qb m sp) rfl es rfl)).trans ?_
  show some (IR.mk (Qdp _) _) = _
  rw [QfQ (α := Int) m λ i => .int (sp i)]
 ·rintro i i' ρ hi' ⟨j3, j4, rfl⟩
  have hi'' : i < m /\ i = i' := by
   obtain ⟨h1, h2⟩ := Zf.mp hi'
   simp at h1 h2; exact ⟨h1, h2⟩
  obtain ⟨him, rfl⟩ := hi''
  have p1 := h1 i him
  refine ⟨_, rfl, ?_⟩
  refine QT (Q0 (b := false) (QaL (a := false) (b := false) (QB (b := false) (Qae (d := .bl false) (rb := ⟨.int 0, true, []⟩) (Qas (m := m + 1) (f := g) (i := i) (ra := ⟨Qb (m + 1) g, false, []⟩) (rb := ⟨.int i, true, []⟩) rfl rfl rfl rfl (by omega)) rfl ?_) rfl) (QB (b := false) (Qae (d := .bl false) (rb := ⟨.int (sp i), true, []⟩) (Qas (m := m + 1) (f := g) (i := i) (ra := ⟨Qb (m + 1) g, false, []⟩) (rb := ⟨.int i, true, []⟩) rfl rfl rfl rfl (by omega)) rfl ?_) rfl)) (λ h => by cases h) (λ _ => Qp ?_))
  ·show some (D.bl (decide (g i < 0))) = _
   rw [decide_eq_false (by omega)]
  ·show some (D.bl (decide (sp i <= g i))) = _
   rw [decide_eq_false (by omega)]
  refine run_seq (Qq7 (i := i) (g := λ j => sp j - 1 - g j) (v := sp i - 1 - g i) rfl (QdO (a := sp i - 1) (b := g i) (QdO (a := sp i) (b := 1) (ra := ⟨.int (sp i), true, []⟩) (rb := ⟨.int 1, true, []⟩) rfl rfl rfl rfl) rfl (Qas (m := m + 1) (f := g) (i := i) (ra := ⟨Qb (m + 1) g, false, []⟩) (rb := ⟨.int i, true, []⟩) rfl rfl rfl rfl (by omega)) rfl) rfl (by omega) (Qp ⟨some (.int i, true), some (.int (sp i), true), ?_⟩))
  have e : Qb (i + 1) (up (λ j => sp j - 1 - g j) i (sp i - 1 - g i)) = Qb (i + 1) λ j => sp j - 1 - g j := QcK λ j _ => by
   rw [QcA]; split
   ·rename_i z; rw [z]
   ·rfl
  rw [e]
  rfl
 ·rintro ρ ⟨j3, j4, rfl⟩
  rw [ZG]
  exact QE (Qt (r := ⟨[Qj m R [], Qb m λ j => sp j - 1 - g j], false, [2]⟩) rfl eb rfl) ⟨rfl, rfl⟩
theorem Qnn {m : Nat} {R : List (Int × Int)} (hR : ∀ s ∈ R, Good m s) (hl : R.length <= 200) {f c : Nat -> Int} {A B : Nat} (hf : ∀ j, j < m + 1 -> (f j).natAbs <= A) (hc : ∀ j, j < m + 1 -> (c j).natAbs <= B) {j : Nat} (hj : j < m + 1) : (Qh (m + 1) (Qe (m + 1) (Qd R [])) f c j).natAbs <= A + 800 * B := by
 rw [Qfu hR f c hj]
 have key : ∀ S : List (Int × Int), (∀ s ∈ S, Good m s) -> ((S.map λ s => Qdi c s j).sum).natAbs <= S.length * (4 * B) := λ S => by
  induction S with
  | nil => intro _; simp
  | cons s S ih =>
   intro h
   have h1 := ih λ x hx => h x (by simp [hx])
   obtain ⟨g1, g2, g3, g4, g5⟩ := h s (by simp)
   have b1 := hc s.1.toNat (by omega)
   have b2 := hc s.2.toNat (by omega)
   have b3 : (Qdi c s j).natAbs <= 4 * B := by unfold Qdi; split <;> split <;> omega
   rw [Zn, ZM, ZI, ZbS]
   omega
 have k := key R hR
 have := Nat.mul_le_mul_right (4 * B) hl
 have := hf j hj
 omega
theorem QlM {x : Nat} {fi fa : DE} {ρ : En} {ri r : R} {A : List (Int × Int)} {p : Int × Int} {i : Int} {Q : Out -> Prop} (hx : ρ[x]? = some (some (QJ A, true))) (hi : fi ρ = some ri) (ei : ri.d = .int i) (ha : fa ρ = some r) (hf : r.d = pairD p) (h0 : 0 <= i) (h1 : i < 2 ^ 62) (hl : A.length < 16777216)
  (q : Q (.nx (ρ.set x (some (QJ (Qah A (min i.toNat A.length) p), true))))) : Run (QgT x Q1 fi fa) ρ Q := by
 refine ⟨_, ?_, q⟩
 unfold QgT
 rw [hx]
 simp only [Q1, Za, hi, ha, Qa8, QJ, ei, hf, Zi, QfA]
 rw [if_pos ⟨rfl, h0, h1, hl⟩]
 simp only [QaI, Qnu]
theorem QnX (W : List (Int × Int × Bool)) (k : Nat) (w : Int × Int × Bool) : Qah (prs W) (min k (prs W).length) (Qbi w) = prs (Qah W (min k W.length) w) := by
 unfold prs
 rw [Qnu, Zi]
noncomputable def QdY : DS := (Qf (Qs 2 (QkS (Qa 1))) (Qf (Qs 3 (QW Qg)) (Qf (Qs 4 (QW Qg)) (Qf (Qa1 (Qbc (Qa 1)) (.nm 5) (Qf (QcX (.tp [6, 7]) (dDm (Qc (Qk (Qa 0) (Qa 5)) (Qc (dBf Qa3 (Qc (Qa 2) Qg)) Qg)))) (Qf (QcX (.tp [6, 8]) (dDm (Qc (Qa 6) (Qc (QH (Qa 5) (dC (.int 1))) Qg)))) (Qf (Qs 9 (QaF (Qa 1))) (Qf (sIf (QG (dOp gLt (Qa 8) (Qa 5))) (Qf (Qs 9 (QaF (Qk (Qa 3) (Qa 8)))) Qn) Qn) (Qf (Qed 3 2 (Qa 7)) (Qf (QgT 4 Q1 (dOp Qau (Qa 6) (QH (Qa 5) (dC (.int 1)))) (Qaz (Qc (Qk (Qa 3) (Qa 5)) (Qc (Qa 9) Qg)))) Qn))))))) (Qf (QM (Qa 4)) Qn)))))
def Qju (d : Den) : Prop := ∀ (m : Nat) (cs : List Int), 0 < m -> m <= 1000 -> m <= cs.length -> (∀ c ∈ cs, 0 <= c /\ c < B40) -> ∃ W, d [Qm cs, .int m] = some (QJ (prs W), true) /\ W.length = m /\ (∀ w ∈ W, GoodW m w) /\ Esc m W
theorem Qsm : Qju (Qo 10 QdY) := λ m cs m0 hm hcl hcs => by
 have key : Run QdY (Qax 10 [Qm cs, .int m]) (Rt λ d fr => ∃ W, d = QJ (prs W) /\ fr = true /\ W.length = m /\ (∀ w ∈ W, GoodW m w) /\ Esc m W) := by
  refine run_seq (Qi (r := ⟨Qm ((List.range m).map λ (k : Nat) => (k : Int)), true, []⟩) ?_ ?_)
  ·show (if 0 <= (m : Int) /\ (m : Int) <= 1000000 then some (HS.R.mk (.lst ((List.range (m : Int).toNat).map λ (k : Nat) => .int (k : Int))) true []) else none) = _
   rw [if_pos ⟨by omega, by omega⟩]
   unfold Qm
   rw [ZR]; rfl
  rw [Ql]
  refine run_seq (Qi (r := ⟨Qm [], true, []⟩) rfl ?_)
  rw [Ql]
  refine run_seq (Qi (r := ⟨QJ (prs []), true, []⟩) rfl ?_)
  rw [Ql]
  refine run_seq (Qag (List.range m) (λ k ρ => ∃ (Rs O : List Int) (W : List (Int × Int × Bool)) (j6 j7 j8 j9 j10 : Option (D × Bool)), O.length = k /\ (O ++ Rs).Perm ((List.range m).map λ (k : Nat) => (k : Int)) /\ W.length = k /\ (∀ w ∈ W, ∃ j, Qge m O w j) /\ (∀ j, j < k -> ∃ w ∈ W, Qge m O w j) ∧
    ρ = [some (Qm cs, false), some (.int m, true), some (Qm Rs, true), some (Qm O, true), some (QJ (prs W), true), j6, j7, j8, j9, j10]) (Qcv (n := m) (r := ⟨.int m, true, []⟩) rfl rfl (by omega)) rfl ⟨_, [], [], none, none, none, none, none, rfl, by simp, rfl, by simp, λ j hj => absurd hj (by omega), rfl⟩ ?_ ?_)
  ·rintro k k' ρ hk ⟨Rs, O, W, j6, j7, j8, j9, j10, hO, hP, hWl, hW1, hW2, rfl⟩
   have hk' : k < m /\ k = k' := by
    obtain ⟨h1, h2⟩ := Zf.mp hk
    simp at h1 h2; exact ⟨h1, h2⟩
   obtain ⟨hkm, rfl⟩ := hk'
   have hRl : Rs.length = m - k := by have := hP.length_eq; simp at this; omega
   obtain ⟨c, hc⟩ : ∃ c, cs[k]? = some c := ⟨cs[k]'(by omega), ZU (by omega)⟩
   have hc0 := (hcs c (ZJ hc))
   refine ⟨_, rfl, ?_⟩
   have elen : dBf Qa3 (Qc (Qa 2) Qg) [some (Qm cs, false), some (.int m, true), some (Qm Rs, true), some (Qm O, true), some (QJ (prs W), true), some (.int k, true), j7, j8, j9, j10] = some ⟨.int Rs.length, true, []⟩ := by
    rw [QcT (r := ⟨Qm Rs, true, [2]⟩) (xs := Rs.map D.int) rfl rfl, Zi]
   refine run_seq (Qev (a := c) (b := Rs.length) (Qbs (ns := cs) (i := k) rfl rfl rfl rfl (by omega) (by simpa using hc)) rfl elen rfl (by omega) (by omega) ?_)
   have a1 := Zy c (by omega : (Rs.length : Int) ≠ 0)
   have a2 := Zq c (by omega : (0 : Int) < Rs.length)
   have a3 : 0 <= c / Rs.length := ZaN hc0.1 (by omega)
   generalize c % (Rs.length : Int) = at' at a1 a2
   generalize c / (Rs.length : Int) = nb at a3
   refine run_seq (Qev (a := nb) (b := (k : Int) + 1) rfl rfl (QQ (a := (k : Int)) (b := 1) rfl rfl rfl rfl) rfl (by omega) (by omega) ?_)
   have b1 := Zy nb (by omega : (k : Int) + 1 ≠ 0)
   have b2 := Zq nb (by omega : (0 : Int) < (k : Int) + 1)
   have b3 : 0 <= nb / ((k : Int) + 1) := ZaN a3 (by omega)
   generalize nb % ((k : Int) + 1) = to at b1 b2
   generalize nb / ((k : Int) + 1) = nc at b3
   refine run_seq (Qi (r := ⟨.int m, false, []⟩) rfl ?_)
   rw [QbZ rfl]
   refine Qai (P := λ ρ => ∃ e : Int, (e = m ∨ ∃ i, i < k /\ O[i]? = some e) /\ ρ = [some (Qm cs, false), some (.int m, true), some (Qm Rs, true), some (Qm O, true), some (QJ (prs W), true), some (.int k, true), some (.int nc, true), some (.int at', true), some (.int to, true), some (.int e, true)]) ?_ ?_
   ·refine Q0 (b := decide (to < k)) (QB (b := decide (to < k)) rfl rfl) (λ h => ?_) (λ _ => Qp ⟨m, .inl rfl, rfl⟩)
    have h := of_decide_eq_true h
    obtain ⟨e, he⟩ : ∃ e, O[to.toNat]? = some e := ⟨O[to.toNat]'(by omega), ZU (by omega)⟩
    exact run_seq (Qi (Qcw (Qbs (ns := O) (i := to) (ra := ⟨Qm O, true, [3]⟩) rfl rfl rfl rfl b1 he)) (Qp ⟨e, .inr ⟨to.toNat, by omega, he⟩, by rw [QbZ rfl]; rfl⟩))
   rintro ρ ⟨e, he, rfl⟩
   obtain ⟨b, hb⟩ : ∃ b, Rs[at'.toNat]? = some b := ⟨Rs[at'.toNat]'(by omega), ZU (by omega)⟩
   refine run_seq (Qn4 (A := O) (B := Rs) (i := at') (b := b) rfl rfl rfl rfl (by decide) a1 (by omega) hb (by omega) ?_)
   have c1 := Zy (nc) (by omega : (k : Int) + 1 ≠ 0)
   have c2 := Zq (nc) (by omega : (0 : Int) < (k : Int) + 1)
   have hOb : (O ++ [b])[k]? = some b := by rw [ZaX (by omega)]; simp [hO]
   have eidx := Qbs (fa := Qa 3) (fb := Qa 5) (ns := O ++ [b]) (i := k) (v := b) (ra := ⟨Qm (O ++ [b]), true, [3]⟩) (ρ := [some (Qm cs, false), some (.int m, true), some (Qm (Rs.eraseIdx at'.toNat), true), some (Qm (O ++ [b]), true), some (QJ (prs W), true), some (.int k, true), some (.int nc, true), some (.int at', true), some (.int to, true), some (.int e, true)]) rfl rfl rfl rfl (by omega) (by simpa using hOb)
   have ew : Qaz (Qc (Qk (Qa 3) (Qa 5)) (Qc (Qa 9) Qg)) [some (Qm cs, false), some (.int m, true), some (Qm (Rs.eraseIdx at'.toNat), true), some (Qm (O ++ [b]), true), some (QJ (prs W), true), some (.int k, true), some (.int nc, true), some (.int at', true), some (.int to, true), some (.int e, true)] = some ⟨pairD (Qbi (b, e, false)), true, []⟩ := by
    unfold Qaz
    rw [Qr eidx (Qr (r := ⟨.int e, true, []⟩) rfl (QS _))]
    rfl
   have fr : Qge m (O ++ [b]) (b, e, false) k := by
    refine ⟨hOb, ?_⟩
    rcases he with he | ⟨i, hi, he⟩
    ·exact .inl he
    ·exact .inr ⟨i, hi, by rw [Zai (by omega)]; exact he⟩
   refine run_seq (QlM (A := prs W) (p := Qbi (b, e, false)) rfl (Qap (a := nc) (b := (k : Int) + 1) rfl rfl (QQ (a := (k : Int)) (b := 1) rfl rfl rfl rfl) rfl (by omega)) rfl ew rfl c1 (by omega) (by unfold prs; rw [Zi]; omega) (Qp ⟨Rs.eraseIdx at'.toNat, O ++ [b], Qah W (min (nc % ((k : Int) + 1)).toNat W.length) (b, e, false), some (.int k, true), some (.int nc, true), some (.int at', true), some (.int to, true), some (.int e, true), by simp [hO], ?_, by rw [Qnh, hWl], ?_, ?_, by rw [QnX]; rfl⟩))
   ·refine List.Perm.trans ?_ hP
    rw [ZaU]
    refine List.Perm.append_left O ?_
    exact QiA Rs _ b hb
   ·intro w hw
    rcases Qfr.mp hw with rfl | hw
    ·exact ⟨k, fr⟩
    ·obtain ⟨j, hj⟩ := hW1 w hw; exact ⟨j, hj.app⟩
   ·intro j hj
    by_cases hjk : j = k
    ·subst hjk; exact ⟨_, Qfr.mpr (.inl rfl), fr⟩
    ·obtain ⟨w, hw, hf⟩ := hW2 j (by omega); exact ⟨w, Qfr.mpr (.inr hw), hf.app⟩
  ·rintro ρ ⟨Rs, O, W, j6, j7, j8, j9, j10, hO, hP, hWl, hW1, hW2, rfl⟩
   rw [ZG] at *
   have hR0 : Rs = [] := by have := hP.length_eq; simp at this; exact Zac (by omega)
   subst hR0
   rw [ZaF] at hP
   have nd : O.Nodup := hP.nodup_iff.mpr (by
    rw [ZbD, List.pairwise_map]
    exact List.Pairwise.imp (λ h z => h (by omega)) ZaH)
   have mem : ∀ x ∈ O, 0 <= x /\ x < m := λ x hx => by
    obtain ⟨k, hk, rfl⟩ := ZN.mp (hP.mem_iff.mp hx)
    have := Zh.mp hk
    omega
   exact QE (r := ⟨QJ (prs W), true, [4]⟩) rfl ⟨W, rfl, rfl, hWl, λ w hw => let ⟨j, hj⟩ := hW1 w hw; QpZ nd mem hj, QuH hP hW2⟩
 obtain ⟨o, h1, h2⟩ := key
 cases o with
 | rt d fr =>
  obtain ⟨W, rfl, rfl, h3, h4, h5⟩ := h2
  exact ⟨W, by unfold Qo; rw [h1]; rfl, h3, h4, h5⟩
 | _ => exact h2.elim
noncomputable def Qdz (Qcd : Den) : DS := (Qf (Qs 1 (QH (dC (.int 1)) (dOp Qau (Qk (Qa 0) (dC (.int 0))) (dC (.int 5))))) (Qf (Qs 2 (dC (.int 11))) (Qf (sIf (QG (dOp gEq (dOp Qau (dOp Qdh (Qk (Qa 0) (dC (.int 0))) (dC (.int 5))) (dC (.int 8))) (dC (.int 3)))) (Qf (Qs 1 (QH (dC (.int 6)) (dOp Qau (dOp Qdh (Qk (Qa 0) (dC (.int 0))) (dC (.int 40))) (dC (.int 3))))) (Qf (Qs 2 (dC (.int 3))) Qn)) Qn) (Qf (Qs 3 (Qw 2 Qcd [] (Qc (Qcs (Qa 0) (QaK (dC (.int 2))) (QaK (dC (.int 10)))) (Qc (Qa 1) Qg)))) (Qf (Qa1 (Qak (Qcs (Qa 0) (QaK (dC (.int 10))) (QaK (QH (dC (.int 10)) (dOp Qau (Qk (Qa 0) (dC (.int 1))) (Qa 2)))))) (.nm 4) (Qf (QcX (.tp [5, 6]) (dDm (Qc (Qa 4) (Qc (QH (Qa 1) (dC (.int 1))) Qg)))) (Qf (QcX (.tp [5, 7]) (dDm (Qc (Qa 5) (Qc (Qa 1) Qg)))) (Qf (QgT 3 Q1 (dOp Qau (Qa 5) (QH (dBf Qa3 (Qc (Qa 3) Qg)) (dC (.int 1)))) (Qaz (Qc (Qa 6) (Qc (dOp Qau (QH (QH (Qa 6) (dC (.int 1))) (Qa 7)) (QH (Qa 1) (dC (.int 1)))) Qg)))) Qn)))) (Qf (QM (Qaz (Qc (Qa 1) (Qc (QX (Qak (Qa 3)) (.tp [1, 2]) [none, none, none] Q8 (Qaz (Qc (dBf Qfz (Qc (Qa 1) (Qc (Qa 2) Qg))) (Qc (dBf QfR (Qc (Qa 1) (Qc (Qa 2) Qg))) Qg)))) (Qc (QW Qg) Qg))))) Qn))))))
def QjM (d : Den) : Prop := ∀ cs : List Int, cs.length = 85 -> (∀ c ∈ cs, 0 <= c /\ c < B40) -> ∃ (m : Nat) (R : List (Int × Int)), d [Qm cs] = some (Qj m R [], true) /\ 0 < m /\ m <= 8 /\ Qan m R []
set_option maxHeartbeats 0 in
theorem Qq6 {db : Den} (hb : Qju db) : QjM (Qo 8 (Qdz db)) := λ cs hl hcs => by
 have cell : ∀ k : Nat, k < 85 -> ∃ c, cs[k]? = some c /\ 0 <= c /\ c < B40 := λ k hk => ⟨cs[k]'(by omega), ZU (by omega), hcs _ (ZbP _)⟩
 obtain ⟨c0, e0, p0, _⟩ := cell 0 (by decide)
 obtain ⟨c2, e2, p2, _⟩ := cell 1 (by decide)
 have b1 := Zy c0 (by decide : (5 : Int) ≠ 0)
 have b2 := Zq c0 (by decide : (0 : Int) < 5)
 have b3 := Zy (c0 / 40) (by decide : (3 : Int) ≠ 0)
 have b4 := Zq (c0 / 40) (by decide : (0 : Int) < 3)
 have key : Run (Qdz db) (Qax 8 [Qm cs]) (Rt λ d fr => ∃ (m : Nat) (R : List (Int × Int)), d = Qj m R [] /\ fr = true /\ 0 < m /\ m <= 8 /\ Qan m R []) := by
  have idx : ∀ {ρ : En} (k : Nat) (c : Int), ρ[0]? = some (some (Qm cs, false)) -> cs[k]? = some c -> Qk (Qa 0) (dC (.int k)) ρ = some ⟨.int c, true, []⟩ := λ {ρ} k c h0 hc => Qbs (ns := cs) (i := k) (Qa6 h0) rfl (Qgr _ _) rfl (by omega) (by simpa using hc)
  refine run_seq (Qi (QQ (a := 1) rfl rfl (Qap (b := 5) (idx 0 c0 rfl e0) rfl rfl rfl (by decide)) rfl) ?_)
  rw [Ql]
  refine run_seq (Qi (r := ⟨.int 11, true, []⟩) rfl ?_)
  rw [Ql]
  refine Qai (P := λ ρ => ∃ (m mo : Nat), 0 < m /\ m <= 8 /\ 0 < mo /\ mo <= 11 /\ ρ = [some (Qm cs, false), some (.int m, true), some (.int mo, true), none, none, none, none, none]) ?_ ?_
  ·refine Q0 (QB (Qes (b := 3) (Qap (a := c0 / 5) (b := 8) (QpB (b := 5) (idx 0 c0 rfl e0) rfl rfl rfl (by decide) (by decide)) rfl rfl rfl (by decide)) rfl rfl rfl) rfl) (λ _ => ?_) (λ _ => ?_)
   ·refine run_seq (Qi (QQ (a := 6) (b := c0 / 40 % 3) rfl rfl (Qap (a := c0 / 40) (b := 3) (QpB (b := 40) (idx 0 c0 rfl e0) rfl rfl rfl (by decide) (by decide)) rfl rfl rfl (by decide)) rfl) ?_)
    rw [Ql]
    refine run_seq (Qi (r := ⟨.int 3, true, []⟩) rfl (Qp ?_))
    rw [Ql]
    refine ⟨(6 + c0 / 40 % 3).toNat, 3, by omega, by omega, by omega, by omega, ?_⟩
    rw [show (((6 + c0 / 40 % 3).toNat : Nat) : Int) = 6 + c0 / 40 % 3 by omega]
    rfl
   ·refine Qp ⟨(1 + c0 % 5).toNat, 11, by omega, by omega, by omega, by omega, ?_⟩
    rw [show (((1 + c0 % 5).toNat : Nat) : Int) = 1 + c0 % 5 by omega]
    rfl
  clear b1 b2 b3 b4
  rintro ρ ⟨m, mo, m0, m8, mo0, mo1, rfl⟩
  obtain ⟨W0, hbase, lW0, gW0, esc0⟩ := hb m ((cs.drop (min 2 cs.length)).take (min 10 cs.length - min 2 cs.length)) (by omega) (by omega) (by rw [Zao, Zaz]; omega) λ c hc => hcs c (Qnw hc)
  refine run_seq (Qi (Qt (Qr (Qhj (cs := cs) (a := 2) (b := 10) (ra := ⟨Qm cs, false, []⟩) rfl rfl rfl rfl rfl rfl) (Qr (r := ⟨.int m, true, []⟩) rfl (QS _))) hbase rfl) ?_)
  rw [Ql]
  have d1 := Zy c2 (by omega : (mo : Int) ≠ 0)
  have d2 := Zq c2 (by omega : 0 < (mo : Int))
  obtain ⟨q, eq⟩ : ∃ q : Nat, (q : Int) = 10 + c2 % mo := ⟨(10 + c2 % mo).toNat, by omega⟩
  have eh : QH (dC (.int 10)) (dOp Qau (Qk (Qa 0) (dC (.int 1))) (Qa 2)) [some (Qm cs, false), some (.int m, true), some (.int mo, true), some (QJ (prs W0), true), none, none, none, none] = some ⟨.int q, true, []⟩ := by
   rw [eq]
   exact QQ (a := 10) rfl rfl (Qap (a := c2) (b := mo) (idx 1 c2 rfl e2) rfl (rb := ⟨.int mo, true, []⟩) rfl rfl (by omega)) rfl
  have esl := Qhj (cs := cs) (a := 10) (b := q) (fa := Qa 0) (fl := dC (.int 10)) (ρ := [some (Qm cs, false), some (.int m, true), some (.int mo, true), some (QJ (prs W0), true), none, none, none, none]) (ra := ⟨Qm cs, false, []⟩) rfl rfl rfl rfl eh rfl
  generalize efu : (cs.drop (min 10 cs.length)).take (min q cs.length - min 10 cs.length) = fu at esl
  have hfu : ∀ c ∈ fu, 0 <= c /\ c < B40 := λ c hc => hcs c (by rw [← efu] at hc; exact Qnw hc)
  have lfu : fu.length <= 85 := by rw [← efu, Zao, Zaz]; omega
  refine Qai (P := λ ρ => ∃ (W : List (Int × Int × Bool)) (j4 j5 j6 j7 : Option (D × Bool)), W.length <= 100 /\ (∀ w ∈ W, GoodW m w) /\ (∀ w ∈ W0, w ∈ W) /\ ρ = [some (Qm cs, false), some (.int m, true), some (.int mo, true), some (QJ (prs W), true), j4, j5, j6, j7]) ?_ ?_
  ·refine Qag (toD := D.int) fu (λ i ρ => ∃ (W : List (Int × Int × Bool)) (j4 j5 j6 j7 : Option (D × Bool)), W.length <= W0.length + i /\ (∀ w ∈ W, GoodW m w) /\ (∀ w ∈ W0, w ∈ W) /\ ρ = [some (Qm cs, false), some (.int m, true), some (.int mo, true), some (QJ (prs W), true), j4, j5, j6, j7]) (Qaj esl rfl) rfl ⟨W0, none, none, none, none, by omega, gW0, λ w hw => hw, rfl⟩ ?_ ?_
   ·rintro i c ρ hi ⟨W, j4, j5, j6, j7, hw1, hw2, hw3, rfl⟩
    have hil : i < fu.length := (Zf.mp hi).1
    have hc := hfu c (ZJ hi)
    refine ⟨_, rfl, ?_⟩
    refine run_seq (Qev (a := c) (b := (m : Int) + 1) rfl rfl (QQ (a := (m : Int)) (b := 1) rfl rfl rfl rfl) rfl (by omega) (by omega) ?_)
    have a1 := Zy c (by omega : (m : Int) + 1 ≠ 0)
    have a2 := Zq c (by omega : (0 : Int) < (m : Int) + 1)
    have a3 : 0 <= c / ((m : Int) + 1) := ZaN hc.1 (by omega)
    generalize c % ((m : Int) + 1) = st at a1 a2
    generalize c / ((m : Int) + 1) = nb at a3
    refine run_seq (Qev (a := nb) (b := m) rfl rfl rfl rfl (by omega) (by omega) ?_)
    have b1 := Zy nb (by omega : (m : Int) ≠ 0)
    have b2 := Zq nb (by omega : (0 : Int) < (m : Int))
    have b3 : 0 <= nb / (m : Int) := ZaN a3 (by omega)
    generalize nb % (m : Int) = sp at b1 b2
    generalize nb / (m : Int) = nc at b3
    have gw := Qsj (m := m) (a := st) (s := sp) (ln := false) a1 (by omega) b1 b2 (λ z => by cases z)
    have elen : ∀ {ρ : En}, ρ[3]? = some (some (QJ (prs W), true)) -> dBf Qa3 (Qc (Qa 3) Qg) ρ = some ⟨.int W.length, true, []⟩ := λ {ρ} h => by
     rw [QcT (xs := (prs W).map pairD) (Qa6 h) rfl, Zi]
     unfold prs
     rw [Zi]
    have c1 := Zy nc (by omega : (W.length : Int) + 1 ≠ 0)
    have c2 := Zq nc (by omega : (0 : Int) < (W.length : Int) + 1)
    refine run_seq (QlM (A := prs W) (p := Qbi (st, (st + 1 + sp) % ((m : Int) + 1), false)) (i := nc % ((W.length : Int) + 1)) (r := ⟨pairD (Qbi (st, (st + 1 + sp) % ((m : Int) + 1), false)), true, []⟩) rfl (Qap (a := nc) (b := (W.length : Int) + 1) rfl rfl (QQ (a := (W.length : Int)) (b := 1) (elen rfl) rfl rfl rfl) rfl (by omega)) rfl ?_ rfl c1 (by omega) (by unfold prs; rw [Zi]; omega) (Qp ⟨Qah W (min (nc % ((W.length : Int) + 1)).toNat W.length) (st, (st + 1 + sp) % ((m : Int) + 1), false), some (.int c, true), some (.int nc, true), some (.int st, true), some (.int sp, true), by rw [Qnh]; omega, λ w hw => ?_, λ w hw => Qfr.mpr (.inr (hw3 w hw)), by rw [QnX]; rfl⟩))
    ·unfold Qaz
     refine (congrArg (λ z => Option.bind z _) (Qr (r := ⟨.int st, true, []⟩) rfl (Qr (Qap (a := st + 1 + sp) (b := (m : Int) + 1) (QQ (QQ (a := st) (b := 1) rfl rfl rfl rfl) rfl rfl rfl) rfl (QQ (a := (m : Int)) (b := 1) rfl rfl rfl rfl) rfl (by omega)) (QS _)))).trans ?_
     rfl
    ·rcases Qfr.mp hw with rfl | h
     ·exact gw
     ·exact hw2 w h
   ·rintro ρ ⟨W, j4, j5, j6, j7, hw1, hw2, hw3, rfl⟩
    exact ⟨W, _, _, _, _, by omega, hw2, hw3, rfl⟩
  rintro ρ ⟨W, j4, j5, j6, j7, hw1, hw2, hw3, rfl⟩
  have er := QN (fi := Qak (Qa 3)) (t := .tp [1, 2]) (cap := [none, none, none]) (fe := Qaz (Qc (dBf Qfz (Qc (Qa 1) (Qc (Qa 2) Qg))) (Qc (dBf QfR (Qc (Qa 1) (Qc (Qa 2) Qg))) Qg))) (ρ := [some (Qm cs, false), some (.int m, true), some (.int mo, true), some (QJ (prs W), true), j4, j5, j6, j7])
   (toD := λ w => pairD (Qbi w)) (out := λ w => pairD (Qb1 w)) W (Qaj (r := ⟨QJ (prs W), true, [3]⟩) rfl rfl) (by show List.map pairD (W.map Qbi) = _; rw [ZR]; rfl) λ w _ => ⟨[none, some (.int (Qbi w).1, true), some (.int (Qbi w).2, true)], rfl, ⟨pairD (Qb1 w), true, []⟩, by
    unfold Qaz
    refine (congrArg (λ z => Option.bind z _) (Qr (Qq5 (a := (Qbi w).1) (b := (Qbi w).2) rfl rfl rfl rfl) (Qr (QrP (a := (Qbi w).1) (b := (Qbi w).2) rfl rfl rfl rfl) (QS _)))).trans ?_
    rfl, rfl, rfl⟩
  refine QE (r := ⟨Qj m (W.map Qb1) [], true, []⟩) ?_ ⟨m, W.map Qb1, rfl, rfl, m0, m8, QqG (esc0.mono hw3) hw2 (by omega)⟩
  unfold Qaz
  refine (congrArg (λ z => Option.bind z _) (Qr (r := ⟨.int m, true, []⟩) rfl (Qr er (Qr (r := ⟨.lst [], true, []⟩) rfl (QS _))))).trans ?_
  show some _ = some _
  congr 2
  unfold Qj QJ
  rw [ZR]
  rfl
 obtain ⟨o, h1, h2⟩ := key
 cases o with
 | rt d fr =>
  obtain ⟨m, R, rfl, rfl, h3⟩ := h2
  exact ⟨m, R, by unfold Qo; rw [h1]; rfl, h3⟩
 | _ => exact h2.elim
noncomputable def Qc0 : DS := (Qf (Qs 3 (Qao (QW (Qc (dC (.int 0)) Qg)) (QH (Qa 1) (dC (.int 1))))) (Qf (Qa1 (Qak (Qa 0)) (.nm 4) (Qf (QcX (.tp [5, 6]) (dDm (Qc (Qa 4) (Qc (QH (Qa 1) (dC (.int 1))) Qg)))) (Qf (QcQ 3 Q1 (Qa 6) (dOp Qat (QH (Qk (Qa 3) (Qa 6)) (dOp Qau (Qa 5) (QH (Qao (dC (.int 2)) (Qa 2)) (dC (.int 1))))) (Qa 2))) Qn))) (Qf (QM (Qa 3)) Qn)))
def QgA (d : Den) : Prop := ∀ (cs : List Int) (m : Nat), m <= 8 -> cs.length <= 63 -> ∃ c : Nat -> Int, d [Qm cs, .int m, .int (10 ^ 12)] = some (Qb (m + 1) c, true) /\ ∀ j, (c j).natAbs <= 63 * 10 ^ 12
theorem QoV : QgA (Qo 7 Qc0) := λ cs m m8 hl => by
 have key : Run Qc0 (Qax 7 [Qm cs, .int m, .int (10 ^ 12)]) (Rt λ d fr => ∃ c : Nat -> Int, d = Qb (m + 1) c /\ fr = true /\ ∀ j, (c j).natAbs <= 63 * 10 ^ 12) := by
  refine run_seq (Qi (QgK (n := m + 1) (QQ (a := (m : Int)) (b := 1) (ra := ⟨.int m, true, []⟩) rfl rfl rfl rfl) rfl (by omega)) ?_)
  rw [Ql]
  refine Qai (P := λ ρ => ∃ (c : Nat -> Int) (j4 j5 j6 : Option (D × Bool)), (∀ j, (c j).natAbs <= 63 * 10 ^ 12) /\ ρ = [some (Qm cs, false), some (.int m, true), some (.int (10 ^ 12), true), some (Qb (m + 1) c, true), j4, j5, j6]) ?_ ?_
  ·refine Qag (toD := D.int) cs (λ i ρ => ∃ (c : Nat -> Int) (j4 j5 j6 : Option (D × Bool)), (∀ j, (c j).natAbs <= i * 10 ^ 12) /\ ρ = [some (Qm cs, false), some (.int m, true), some (.int (10 ^ 12), true), some (Qb (m + 1) c, true), j4, j5, j6]) (Qaj (xs := cs.map D.int) (r := ⟨Qm cs, false, []⟩) rfl rfl) rfl ⟨λ _ => 0, none, none, none, λ j => by simp, rfl⟩ ?_ ?_
   ·rintro i x ρ hi ⟨c, j4, j5, j6, hc, rfl⟩
    refine ⟨_, rfl, ?_⟩
    refine run_seq (Qev (a := x) (b := (m : Int) + 1) rfl rfl (QQ (a := (m : Int)) (b := 1) rfl rfl rfl rfl) rfl (by omega) (by omega) ?_)
    have p1 := Zy x (by omega : (m : Int) + 1 ≠ 0)
    have p2 := Zq x (by omega : (0 : Int) < (m : Int) + 1)
    generalize x % ((m : Int) + 1) = p at p1 p2
    generalize x / ((m : Int) + 1) = n
    have o1 := Zy n (by decide : (2 * 10 ^ 12 + 1 : Int) ≠ 0)
    have o2 := Zq n (by decide : (0 : Int) < 2 * 10 ^ 12 + 1)
    refine run_seq (QfU (m := m + 1) (f := c) (i := p) (v := c p.toNat + n % (2 * 10 ^ 12 + 1) - 10 ^ 12) rfl rfl rfl (QdO (a := c p.toNat + n % (2 * 10 ^ 12 + 1)) (b := 10 ^ 12) (QQ (a := c p.toNat) (b := n % (2 * 10 ^ 12 + 1)) (QcL (m := m + 1) (f := c) (i := p) (ra := ⟨Qb (m + 1) c, true, [3]⟩) (rb := ⟨.int p, true, []⟩) rfl rfl rfl rfl p1 (by omega)) rfl (Qap (a := n) (b := 2 * 10 ^ 12 + 1) rfl rfl (QQ (a := 2 * 10 ^ 12) (b := 1) (QaN (a := 2) (b := 10 ^ 12) rfl rfl rfl rfl (Qc4 (by decide))) rfl rfl rfl) rfl (by decide)) rfl) rfl rfl rfl) rfl p1 (by omega) (Qp ⟨_, _, _, _, λ j => ?_, rfl⟩))
    have ob : (n % (2 * 10 ^ 12 + 1) - 10 ^ 12).natAbs <= 10 ^ 12 := by omega
    clear o1 o2
    rw [QcA, Int.add_sub_assoc]
    generalize n % (2 * 10 ^ 12 + 1) - 10 ^ 12 = o at ob ⊢
    have h1 := hc j
    have h2 := hc p.toNat
    have e : (i + 1) * 10 ^ 12 = i * 10 ^ 12 + 10 ^ 12 := ZbS _ _
    rw [e]
    generalize i * 10 ^ 12 = y at h1 h2 ⊢
    generalize (10 : Nat) ^ 12 = z at ob ⊢
    split <;> omega
   ·rintro ρ ⟨c, j4, j5, j6, hc, rfl⟩
    exact ⟨c, j4, j5, j6, λ j => ZF (hc j) (Nat.mul_le_mul_right _ hl), rfl⟩
  rintro ρ ⟨c, j4, j5, j6, hc, rfl⟩
  exact QE (r := ⟨Qb (m + 1) c, true, [3]⟩) rfl ⟨c, rfl, rfl, hc⟩
 obtain ⟨o, h1, h2⟩ := key
 cases o with
 | rt d fr =>
  obtain ⟨c, rfl, rfl, h3⟩ := h2
  exact ⟨c, by unfold Qo; rw [h1]; rfl, h3⟩
 | _ => exact h2.elim
noncomputable def Qf3 : DS := (Qf (Qs 2 (QaF (Qk (QW (Qc (dC (.int 3)) (Qc (dC (.int 3)) (Qc (dOp Qdu (dC (.int 10)) (dC (.int 15))) Qg)))) (dOp Qau (Qk (Qa 0) (dC (.int 20))) (dC (.int 3)))))) (Qf (QM (QX (Qbc (QH (Qa 1) (dC (.int 1)))) (.nm 1) [none, none, some 0, some 2] Q8 (dOp Qau (Qk (Qa 2) (QH (dC (.int 21)) (Qa 1))) (QH (Qa 3) (dC (.int 1)))))) Qn))
def QhR (d : Den) : Prop := ∀ (cs : List Int) (m : Nat), cs.length = 85 -> m <= 8 -> ∃ f : Nat -> Int, d [Qm cs, .int m] = some (Qb (m + 1) f, true) /\ ∀ j, j < m + 1 -> 0 <= f j /\ f j <= 10 ^ 15
theorem Qo1 : QhR (Qo 3 Qf3) := λ cs m hl m8 => by
 have cell : ∀ k : Nat, k < 85 -> ∃ c, cs[k]? = some c := λ k hk => ⟨cs[k]'(by omega), ZU (by omega)⟩
 obtain ⟨c0, e0⟩ := cell 20 (by decide)
 have b3 := Zy c0 (by decide : (3 : Int) ≠ 0)
 have b4 := Zq c0 (by decide : (0 : Int) < 3)
 have ep : ∀ ρ : En, dOp Qdu (dC (.int 10)) (dC (.int 15)) ρ = some ⟨.int (10 ^ 15), true, []⟩ := λ ρ => Qjf (a := 10) (k := 15) (by decide) (by decide)
 obtain ⟨w, ew, w0, w1⟩ : ∃ w : Int, [(3 : Int), 3, 10 ^ 15][(c0 % 3).toNat]? = some w /\ 0 <= w /\ w <= 10 ^ 15 := by
  have : c0 % 3 = 0 ∨ c0 % 3 = 1 ∨ c0 % 3 = 2 := by omega
  rcases this with h | h | h <;> rw [h]
  ·exact ⟨3, rfl, by decide, by decide⟩
  ·exact ⟨3, rfl, by decide, by decide⟩
  ·exact ⟨10 ^ 15, rfl, by decide, by decide⟩
 have el : ∀ ρ : En, QW (Qc (dC (.int 3)) (Qc (dC (.int 3)) (Qc (dOp Qdu (dC (.int 10)) (dC (.int 15))) Qg))) ρ = some ⟨.lst ([(3 : Int), 3, 10 ^ 15].map .int), true, []⟩ := λ ρ => (Qfq (Qr (r := ⟨.int 3, true, []⟩) rfl (Qr (r := ⟨.int 3, true, []⟩) rfl (Qr (ep ρ) (QS _)))) (Zax rfl)).trans rfl
 refine ⟨λ k => cs.getD (21 + k) 0 % (w + 1), Q7 ?_, λ j hj => ?_⟩
 ·refine run_seq (Qi (Qcw (Qbs (ns := [3, 3, 10 ^ 15]) (i := c0 % 3) (v := w) (el _) rfl (Qap (a := c0) (b := 3) (Qbs (ns := cs) (i := 20) (v := c0) (ra := ⟨Qm cs, false, []⟩) (rb := ⟨.int 20, true, []⟩) rfl rfl rfl rfl (by decide) e0) rfl rfl rfl (by decide)) rfl b3 ew)) ?_)
  rw [QbZ rfl]
  refine QE (r := ⟨Qb (m + 1) λ k => cs.getD (21 + k) 0 % (w + 1), true, []⟩) (QN (toD := λ (k : Nat) => .int (k : Int)) (out := λ (k : Nat) => .int (cs.getD (21 + k) 0 % (w + 1))) (List.range (m + 1)) (Qcv (n := m + 1) (QQ (a := m) (b := 1) rfl rfl rfl rfl) rfl (by omega)) rfl λ k hk => ⟨[none, some (.int k, true), some (Qm cs, false), some (.int w, true)], rfl, ⟨.int (cs.getD (21 + k) 0 % (w + 1)), true, []⟩, ?_, rfl, rfl⟩) ⟨rfl, rfl⟩
  have hk := Zh.mp hk
  obtain ⟨c, ec⟩ := cell (21 + k) (by omega)
  have eg : cs.getD (21 + k) 0 = c := by rw [ZaJ, ec]; rfl
  have e21 : ((21 : Int) + (k : Int)).toNat = 21 + k := by omega
  rw [eg]
  exact Qap (a := c) (b := w + 1) (Qbs (ns := cs) (i := 21 + k) (v := c) (ra := ⟨Qm cs, false, []⟩) rfl rfl (QQ (a := 21) (b := k) (ra := ⟨.int 21, true, []⟩) (rb := ⟨.int k, true, []⟩) rfl rfl rfl rfl) rfl (by omega) (by rw [e21]; exact ec)) rfl (QQ (a := w) (b := 1) (ra := ⟨.int w, true, []⟩) (rb := ⟨.int 1, true, []⟩) rfl rfl rfl rfl) rfl (by omega)
 ·have h1 := Zy (cs.getD (21 + j) 0) (by omega : w + 1 ≠ 0)
  have h2 := Zq (cs.getD (21 + j) 0) (by omega : 0 < w + 1)
  show 0 <= cs.getD (21 + j) 0 % (w + 1) /\ cs.getD (21 + j) 0 % (w + 1) <= 10 ^ 15
  omega
theorem QrM {fa fb : DE} {ρ : En} {ra rb : R} {m n : Nat} {f : Nat -> Int} (ha : fa ρ = some ra) (ea : ra.d = Qb m f) (hb : fb ρ = some rb) (eb : rb.d = .int n) (h : n <= m) : Qcs fa (QaK fb) Qdq ρ = some ⟨Qb (m - n) λ i => f (n + i), true, []⟩ := by
 have cut : cutD ((List.range m).map λ i => D.int (f i)) (some (n : Int)) none = (List.range (m - n)).map λ i => D.int (f (n + i)) := by
  unfold cutD
  simp only [Zi, ZG, HT.QkZ, HT.Qjp]
  rw [Zcc h, ← Zch, ← ZbK]
  have e : ((List.range m).drop n).take (m - n) = (List.range (m - n)).map λ i => n + i := by
   rw [ZbU (by simp)]
   refine ZaW λ i => ?_
   rw [List.getElem?_drop, Zo]
   by_cases hi : i < m - n
   ·rw [ZO (by omega), ZO hi]; rfl
   ·rw [Zx (by simp; omega), Zx (by simp; omega)]; rfl
  rw [e, ZR]
  rfl
 unfold Qcs Qdq QaK
 simp only [ha, hb, Za, ea, eb, Qb, cut, Qa2]
 have : QK ((List.range (m - n)).map λ i => D.int (f (n + i))) = true := by
  have := Qf1 ((List.range (m - n)).map λ i => f (n + i))
  rw [ZR] at this
  exact this
 rw [if_pos this]
theorem Qq2 {ρ : En} {b : Bool} {m p : Nat} {h : Nat -> Int} (h3 : ρ[3]? = some (some (Qb m h, b))) (h5 : ρ[5]? = some (some (.int p, true))) (hp : p < m) (hm : m <= 8) : QH (QH (Qcs (Qa 3) Qdq (QaK (Qa 5))) (QW (Qc (dOp Qat (Qk (Qa 3) (Qa 5)) (dC (.int 1))) Qg))) (Qcs (Qa 3) (QaK (QH (Qa 5) (dC (.int 1)))) Qdq) ρ = some ⟨Qb m (up h p (h p - 1)), true, []⟩ := by
 have v3 := Qa6 h3
 have e3 : ∀ r : HS.R, r = (if b = true then ⟨Qb m h, true, [3]⟩ else ⟨Qb m h, false, []⟩) -> r.d = Qb m h := λ r z => by rw [z]; cases b <;> rfl
 have s1 := Qny (m := m) (n := p) (f := h) (Qa6 h3) (by cases b <;> rfl) (Qep h5) rfl (by omega)
 have s2 : QW (Qc (dOp Qat (Qk (Qa 3) (Qa 5)) (dC (.int 1))) Qg) ρ = some ⟨Qb 1 λ _ => h p - 1, true, []⟩ := (Qfq (Qr (QdO (a := h p) (b := 1) (Qas (m := m) (f := h) (i := p) (Qa6 h3) (by cases b <;> rfl) (Qep h5) rfl hp) rfl (Qgr _ _) rfl) (QS _)) (Zax rfl)).trans rfl
 have s3 := QrM (m := m) (n := p + 1) (f := h) (fb := QH (Qa 5) (dC (.int 1))) (Qa6 h3) (by cases b <;> rfl) (QQ (a := (p : Int)) (b := 1) (Qep h5) rfl (Qgr _ _) rfl) rfl (by omega)
 have s4 := Qeo (Qeo s1 rfl s2 rfl (by omega)) rfl s3 rfl (by omega)
 rw [s4]
 have e : Qb (p + 1 + (m - (p + 1))) (λ i => if i < p + 1 then (λ i => if i < p then h i else (λ _ => h p - 1) (i - p)) i else (λ i => h (p + 1 + i)) (i - (p + 1))) = Qb m (up h p (h p - 1)) := by
  rw [show p + 1 + (m - (p + 1)) = m by omega]
  refine QcK λ i hi => ?_
  rw [QcA]
  dsimp only
  by_cases q : i < p + 1
  ·rw [if_pos q]
   by_cases q2 : i < p
   ·rw [if_pos q2, if_neg (by omega)]
   ·rw [if_neg q2, if_pos (by omega)]
  ·rw [if_neg q, if_neg (by omega)]
   congr 1
   omega
 rw [e]
noncomputable def QdE (QaG : Den) (QaD : Den) : DS := (Qf (Qs 2 (Qw 1 QaG [] (Qc (Qa 1) Qg))) (Qf (Qs 3 (QX (Qak (Qa 2)) (.nm 1) [none, none] Q8 (dOp Qat (Qa 1) (dC (.int 1))))) (Qf (Qa1 (Qak (Qcs (Qa 0) (QaK (dC (.int 31))) (QaK (QH (dC (.int 31)) (dOp Qau (Qk (Qa 0) (dC (.int 30))) (dC (.int 13))))))) (.nm 4) (Qf (Qs 5 (dOp Qau (Qa 4) (Qk (Qa 1) (dC (.int 0))))) (Qf (Qs 6 (QH (QH (Qcs (Qa 3) Qdq (QaK (Qa 5))) (QW (Qc (dOp Qat (Qk (Qa 3) (Qa 5)) (dC (.int 1))) Qg))) (Qcs (Qa 3) (QaK (QH (Qa 5) (dC (.int 1)))) Qdq))) (Qf (sIf (QdX (QG (dOp gGt (Qk (Qa 3) (Qa 5)) (dC (.int 0)))) (QG (Qw 2 QaD [] (Qc (Qa 1) (Qc (Qa 6) Qg))))) (Qf (Qs 3 (QaF (Qa 6))) Qn) Qn) Qn)))) (Qf (QcX (.tp [7, 8]) (dDm (Qc (Qk (Qa 0) (dC (.int 43))) (Qc (dC (.int 2)) Qg)))) (Qf (Qs 9 (dOp Qat (QgN (dC (.int 1))) (Qk (QW (Qc (dOp Qau (Qa 7) (dC (.int 3))) (Qc (dOp Qau (Qa 7) (dOp Qdu (dC (.int 10)) (dC (.int 9)))) Qg))) (Qa 8)))) (Qf (QM (QH (QX (QaJ (Qa 2) (Qa 3)) (.tp [1, 2]) [none, none, none] Q8 (dOp Qat (dOp Qat (Qa 1) (dC (.int 1))) (Qa 2))) (QW (Qc (Qa 9) Qg)))) Qn))))))
def QkX (d : Den) : Prop := ∀ (cs : List Int) (m : Nat) (R : List (Int × Int)), cs.length = 85 -> (∀ c ∈ cs, 0 <= c /\ c < B40) -> 0 < m -> m <= 8 -> Qan m R [] -> ∃ g : Nat -> Int, d [Qm cs, Qj m R []] = some (Qb (m + 1) g, true) /\ Qdy m R g /\ g m < 0 /\ (g m).natAbs <= 10 ^ 15
set_option maxHeartbeats 0 in
theorem Qtw {ds db : Den} (hs : QfI ds) (hb : QgZ db) : QkX (Qo 10 (QdE ds db)) := λ cs m R hl hcs m0 m8 hw => by
 have cell : ∀ k : Nat, k < 85 -> ∃ c, cs[k]? = some c /\ 0 <= c /\ c < B40 := λ k hk => ⟨cs[k]'(by omega), ZU (by omega), hcs _ (ZbP _)⟩
 obtain ⟨c0, e0, p0, _⟩ := cell 30 (by decide)
 obtain ⟨c1, e1, p1, _⟩ := cell 43 (by decide)
 have hsp := hs m R (by omega) hw.good.1
 have full : ∀ i, i < m -> QaS (Qe m (Qd R [])) (λ j => Qv R [] j - 1) m m i ≠ none := by
  have z : ∀ j, Qh m (Qe m (Qd R [])) (λ j => Qv R [] j - 1) (λ _ => 0) j = Qv R [] j - 1 := λ j => by
   unfold Qh
   rw [QC (g := λ _ => 0) λ i _ => by rw [ZQ], Q4, ZaG]
  refine Qd3 hw (λ j _ => z j) (Qio hw (λ j _ => Zah _) ⟨.nil, λ j hj => ?_, λ j hj => ?_⟩)
  ·rw [z j]; have := hw.Qh6 hj; omega
  ·rw [z j]; have := hw.neg hj; omega
 have key : Run (QdE ds db) (Qax 10 [Qm cs, Qj m R []]) (Rt λ d fr => ∃ g : Nat -> Int, d = Qb (m + 1) g /\ fr = true /\ Qdy m R g /\ g m < 0 /\ (g m).natAbs <= 10 ^ 15) := by
  have idx : ∀ {ρ : En} (k : Nat) (c : Int), ρ[0]? = some (some (Qm cs, false)) -> cs[k]? = some c -> Qk (Qa 0) (dC (.int k)) ρ = some ⟨.int c, true, []⟩ := λ {ρ} k c h0 hc => Qbs (ns := cs) (i := k) (Qa6 h0) rfl (Qgr _ _) rfl (by omega) (by simpa using hc)
  refine run_seq (Qi (Qt (r := ⟨[Qj m R []], false, []⟩) rfl hsp rfl) ?_)
  rw [Ql]
  refine run_seq (Qi (r := ⟨Qb m λ j => Qv R [] j - 1, true, []⟩) (QN (toD := λ (j : Nat) => .int (Qv R [] j)) (out := λ (j : Nat) => .int (Qv R [] j - 1)) (List.range m) (Qaj (r := ⟨Qb m (Qv R []), true, [2]⟩) rfl rfl) rfl λ j _ => ⟨[none, some (.int (Qv R [] j), true)], rfl, ⟨.int (Qv R [] j - 1), true, []⟩, rfl, rfl, rfl⟩) ?_)
  rw [Ql]
  have d1 := Zy c0 (by decide : (13 : Int) ≠ 0)
  have d2 := Zq c0 (by decide : (0 : Int) < 13)
  obtain ⟨q, eq⟩ : ∃ q : Nat, (q : Int) = 31 + c0 % 13 := ⟨(31 + c0 % 13).toNat, by omega⟩
  have eh : QH (dC (.int 31)) (dOp Qau (Qk (Qa 0) (dC (.int 30))) (dC (.int 13))) [some (Qm cs, false), some (Qj m R [], false), some (Qb m (Qv R []), true), some (Qb m λ j => Qv R [] j - 1, true), none, none, none, none, none, none] = some ⟨.int q, true, []⟩ := by
   rw [eq]
   exact QQ (a := 31) rfl rfl (Qap (a := c0) (b := 13) (idx 30 c0 rfl e0) rfl (rb := ⟨.int 13, true, []⟩) rfl rfl (by decide)) rfl
  have esl := Qhj (cs := cs) (a := 31) (b := q) (fa := Qa 0) (fl := dC (.int 31)) (ρ := [some (Qm cs, false), some (Qj m R [], false), some (Qb m (Qv R []), true), some (Qb m λ j => Qv R [] j - 1, true), none, none, none, none, none, none]) (ra := ⟨Qm cs, false, []⟩) rfl rfl rfl rfl eh rfl
  generalize (cs.drop (min 31 cs.length)).take (min q cs.length - min 31 cs.length) = fu at esl
  refine Qai (P := λ ρ => ∃ (h : Nat -> Int) (b : Bool) (j4 j5 j6 : Option (D × Bool)), (∀ j, j < m -> 0 <= h j /\ h j < Qv R [] j) /\ (∀ i, i < m -> QaS (Qe m (Qd R [])) h m m i ≠ none) /\ ρ = [some (Qm cs, false), some (Qj m R [], false), some (Qb m (Qv R []), true), some (Qb m h, b), j4, j5, j6, none, none, none]) ?_ ?_
  ·refine Qag (toD := D.int) fu (λ i ρ => ∃ (h : Nat -> Int) (b : Bool) (j4 j5 j6 : Option (D × Bool)), (∀ j, j < m -> 0 <= h j /\ h j < Qv R [] j) /\ (∀ i, i < m -> QaS (Qe m (Qd R [])) h m m i ≠ none) /\ ρ = [some (Qm cs, false), some (Qj m R [], false), some (Qb m (Qv R []), true), some (Qb m h, b), j4, j5, j6, none, none, none]) (Qaj esl rfl) rfl ⟨_, true, none, none, none, λ j hj => by have := hw.Qh6 hj; show 0 <= Qv R [] j - 1 /\ Qv R [] j - 1 < Qv R [] j; omega, full, rfl⟩ ?_ ?_
   ·rintro i c ρ hi ⟨h, b, j4, j5, j6, hh, hf, rfl⟩
    have a1 := Zy c (by omega : (m : Int) ≠ 0)
    have a2 := Zq c (by omega : (0 : Int) < (m : Int))
    obtain ⟨p, ep⟩ : ∃ p : Nat, (p : Int) = c % m := ⟨(c % m).toNat, by omega⟩
    have hp : p < m := by omega
    refine ⟨_, rfl, ?_⟩
    refine run_seq (Qi (Qap (a := c) (b := m) rfl rfl (rb := ⟨.int m, true, []⟩) rfl rfl (by omega)) ?_)
    rw [Ql, ← ep]
    refine run_seq (Qi (Qq2 (m := m) (p := p) (h := h) (b := b) rfl rfl hp m8) ?_)
    rw [Ql]
    have eb := hb m R (up h p (h p - 1)) (by omega) hw
    refine run_seq (Q0 (b := decide (0 < h p) && (QI (Qe m (Qd R [])) (up h p (h p - 1)) m m).isEmpty) (Qhf (QB (Qae (d := .bl (decide (0 < h p))) (rb := ⟨.int 0, true, []⟩) (Qas (m := m) (f := h) (i := p) (Qa6 rfl) (by cases b <;> rfl) (rb := ⟨.int p, true, []⟩) rfl rfl hp) rfl rfl) rfl) (QB (Qt (r := ⟨[Qj m R [], Qb m (up h p (h p - 1))], false, [6]⟩) rfl eb rfl) rfl)) (λ g => ?_) (λ g => ?_))
    ·rw [Zg] at g
     have g1 := of_decide_eq_true g.1
     refine run_seq (Qi (Qcw (r := ⟨Qb m (up h p (h p - 1)), true, [6]⟩) rfl) (Qp (Qp ?_)))
     rw [Qp8 rfl]
     refine ⟨up h p (h p - 1), false, _, _, _, λ j hj => ?_, Qit.mp g.2, rfl⟩
     have := hh j hj
     rw [QcA]
     split
     ·rename_i z; subst z; omega
     ·exact this
    ·exact Qp (Qp ⟨h, b, _, _, _, hh, hf, rfl⟩)
   ·rintro ρ h
    exact h
  rintro ρ ⟨h, b, j4, j5, j6, hh, hf, rfl⟩
  refine run_seq (Qev (a := c1) (b := 2) (idx 43 c1 rfl e1) rfl (rb := ⟨.int 2, true, []⟩) rfl rfl (by decide) (by decide) ?_)
  have n0 : 0 <= c1 / 2 := ZaN p1 (by decide)
  have f1 := Zy c1 (by decide : (2 : Int) ≠ 0)
  have f2 := Zq c1 (by decide : (0 : Int) < 2)
  generalize c1 / 2 = n at n0
  generalize c1 % 2 = fr at f1 f2
  have u1 := Zy n (by decide : (3 : Int) ≠ 0)
  have u2 := Zq n (by decide : (0 : Int) < 3)
  have u3 := Zy n (by decide : (10 ^ 9 : Int) ≠ 0)
  have u4 := Zq n (by decide : (0 : Int) < 10 ^ 9)
  obtain ⟨w, ew, w0, w1⟩ : ∃ w : Int, [n % 3, n % 10 ^ 9][fr.toNat]? = some w /\ 0 <= w /\ w <= 10 ^ 9 := by
   have : fr = 0 ∨ fr = 1 := by omega
   rcases this with z | z <;> rw [z]
   ·exact ⟨_, rfl, u1, by omega⟩
   ·exact ⟨_, rfl, u3, by omega⟩
  have el : ∀ ρ : En, ρ[7]? = some (some (.int n, true)) -> QW (Qc (dOp Qau (Qa 7) (dC (.int 3))) (Qc (dOp Qau (Qa 7) (dOp Qdu (dC (.int 10)) (dC (.int 9)))) Qg)) ρ = some ⟨.lst ([n % 3, n % 10 ^ 9].map .int), true, []⟩ := λ ρ h7 => (Qfq (Qr (Qap (a := n) (b := 3) (Qep h7) rfl (Qgr _ _) rfl (by decide)) (Qr (Qap (a := n) (b := 10 ^ 9) (Qep h7) rfl (Qjf (a := 10) (k := 9) (by decide) (by decide)) rfl (by decide)) (QS _))) (Zax rfl)).trans rfl
  refine run_seq (Qi (QdO (a := -1) (b := w) (ra := ⟨.int (-1), true, []⟩) rfl rfl (Qbs (ns := [n % 3, n % 10 ^ 9]) (i := fr) (v := w) (el _ rfl) rfl (rb := ⟨.int fr, true, []⟩) rfl rfl f1 ew) rfl) ?_)
  rw [Ql]
  refine QE (Qeo (m := m) (k := 1) (f := λ j => Qv R [] j - 1 - h j) (g := λ _ => -1 - w) (QN (toD := λ (j : Nat) => .tup [.int (Qv R [] j), .int (h j)]) (out := λ (j : Nat) => .int (Qv R [] j - 1 - h j)) (List.range m) (Qcg (f := λ j => .int (Qv R [] j)) (g := λ j => .int (h j)) (ra := ⟨Qb m (Qv R []), true, [2]⟩) rfl rfl (Qa6 rfl) (by cases b <;> rfl)) rfl λ j _ => ⟨[none, some (.int (Qv R [] j), true), some (.int (h j), true)], rfl, ⟨.int (Qv R [] j - 1 - h j), true, []⟩, rfl, rfl, rfl⟩) rfl (rb := ⟨Qb 1 λ _ => -1 - w, true, []⟩) rfl rfl (by omega)) ⟨_, rfl, rfl, ⟨λ j hj => ?_, ?_⟩, ?_, ?_⟩
  ·have := hh j hj
   dsimp only
   rw [if_pos hj]
   omega
  ·exact Qd3 hw (λ j hj => by show h j = Qv R [] j - 1 - (if j < m then _ else _); rw [if_pos hj]; omega) hf
  ·show (if m < m then _ else -1 - w) < 0
   rw [if_neg (ZS m)]
   omega
  ·show (if m < m then _ else -1 - w : Int).natAbs <= 10 ^ 15
   rw [if_neg (ZS m)]
   omega
 obtain ⟨o, h1, h2⟩ := key
 cases o with
 | rt d fr =>
  obtain ⟨c, rfl, rfl, h3⟩ := h2
  exact ⟨c, by unfold Qo; rw [h1]; rfl, h3⟩
 | _ => exact h2.elim
noncomputable def QhC (QdD : Den) : DS := (Qf (Qs 2 (Qw 2 QdD [] (Qc (Qa 0) (Qc (Qa 1) Qg)))) (Qf (QM (Qi2 (dOp gGe (Qk (Qk (Qa 2) (dC (.int 0))) (Qk (Qa 0) (dC (.int 0)))) (dC (.int 0))) 2)) Qn))
def QjX (d : Den) : Prop := ∀ (m : Nat) (R : List (Int × Int)) (f : Nat -> Int), 0 < m -> m <= 8 -> Qan m R [] -> (∀ j, j < m -> (f j).natAbs <= 2 ^ 190) -> ∃ c : Nat -> Int, d [Qj m R [], Qb (m + 1) f] = some (.tup [.bl (decide (0 <= Qh (m + 1) (Qe (m + 1) (Qd R [])) f c m)), Qb (m + 1) (Qh (m + 1) (Qe (m + 1) (Qd R [])) f c), Qb (m + 1) c], true) /\ c m = 0 /\ Qdy m R (Qh (m + 1) (Qe (m + 1) (Qd R [])) f c)
theorem QqU {dl : Den} (hl : Qoe dl) : QjX (Qo 3 (QhC dl)) := λ m R f m0 m8 hw hf => by
 obtain ⟨c, ec, c0, lf⟩ := hl m R f m0 m8 hw hf
 refine ⟨c, ?_, c0, lf⟩
 generalize Qh (m + 1) (Qe (m + 1) (Qd R [])) f c = g at *
 refine Q7 ?_
 refine run_seq (Qi (Qt (r := ⟨[Qj m R [], Qb (m + 1) f], false, []⟩) rfl ec rfl) ?_)
 rw [Ql]
 refine QE (r := ⟨.tup [.bl (decide (0 <= g m)), Qb (m + 1) g, Qb (m + 1) c], true, [2]⟩) ?_ ⟨rfl, rfl⟩
 unfold Qi2
 refine (congrArg (λ z => Option.bind z _) (Qae (d := .bl (decide (0 <= g m))) (rb := ⟨.int 0, true, []⟩) (Qas (m := m + 1) (f := g) (i := m) (ra := ⟨Qb (m + 1) g, true, [2]⟩) (rb := ⟨.int m, true, []⟩) rfl rfl rfl rfl (by omega)) rfl rfl)).trans ?_
 rfl
noncomputable def QeX (QbE : Den) (Qay : Den) : DS := (Qf (sIf (bOr (QbK (QG (Qe6 "tuple" (Qa 2)))) (bOr (QG (dOp gNe (dBf Qa3 (Qc (Qa 2) Qg)) (dC (.int 3)))) (bOr (QbK (QG (Qe6 "bool" (Qk (Qa 2) (dC (.int 0)))))) (QG (dOp gNe (Qk (Qa 2) (dC (.int 0))) (Qa 3)))))) (Qf (QM (dC (.bl false))) Qn) Qn) (Qf (sIf (bOr (QbK (QG (Qw 4 QbE [] (Qc (Qa 0) (Qc (Qa 1) (Qc (Qk (Qa 2) (dC (.int 1))) (Qc (Qk (Qa 2) (dC (.int 2))) Qg))))))) (QbK (QG (Qw 2 Qay [] (Qc (Qa 0) (Qc (Qk (Qa 2) (dC (.int 1))) Qg)))))) (Qf (QM (dC (.bl false))) Qn) Qn) (Qf (QM (dOp gEq (dOp gGe (dBf QfX (Qc (Qk (Qa 2) (dC (.int 1))) Qg)) (dC (.int 0))) (Qa 3))) Qn)))
def QhT (d : Den) : Prop := ∀ (m : Nat) (R : List (Int × Int)) (f c : Nat -> Int), m <= 100 -> Qan m R [] -> c m = 0 -> Qdy m R (Qh (m + 1) (Qe (m + 1) (Qd R [])) f c) -> d [Qj m R [], Qb (m + 1) f, .tup [.bl (decide (0 <= Qh (m + 1) (Qe (m + 1) (Qd R [])) f c m)), Qb (m + 1) (Qh (m + 1) (Qe (m + 1) (Qd R [])) f c), Qb (m + 1) c], .bl (decide (0 <= Qh (m + 1) (Qe (m + 1) (Qd R [])) f c m))] = some (.bl true, true)
theorem Qpq {dl dw : Den} (hl : Qji dl) (hw : QlZ dw) : QhT (Qo 4 (QeX dl dw)) := λ m R f c hm hN c0 h => by
 have e1 := hl m R f c hm hN.good.1 c0
 have e2 := hw m R _ hm hN h
 have nn := h.1
 generalize Qh (m + 1) (Qe (m + 1) (Qd R [])) f c = a at *
 obtain ⟨v, ⟨q, hq, ev⟩, hmin, hv⟩ := QnO (m := m + 1) (by omega) a
 have ed : decide (0 <= v) = decide (0 <= a m) := by
  have h1 := hmin m (by omega)
  by_cases z : 0 <= a m
  ·rw [decide_eq_true z, decide_eq_true]
   rw [ev]
   by_cases e : q = m
   ·rw [e]; exact z
   ·exact (nn q (by omega)).1
  ·rw [decide_eq_false z, decide_eq_false (by omega)]
 generalize decide (0 <= a m) = t at *
 refine Q7 ?_
 refine QT (Q0 (b := false) (QaL (a := false) (b := false) (Qbg (b := true) (QB (b := true) rfl rfl)) (QaL (a := false) (b := false) (QB (b := false) (r := ⟨.bl false, true, []⟩) rfl rfl) (QaL (a := false) (b := false) (Qbg (b := true) (QB (b := true) (r := ⟨.bl true, true, []⟩) rfl rfl)) (QB (b := false) (Qfj (d := .bl t) (ra := ⟨.bl t, true, []⟩) (rb := ⟨.bl t, true, []⟩) rfl rfl rfl rfl rfl) rfl)))) (λ h => by cases h) (λ _ => Qp ?_))
 refine QT (Q0 (b := false) (QaL (a := false) (b := false) (Qbg (b := true) (QB (b := true) (Qt (r := ⟨[Qj m R [], Qb (m + 1) f, Qb (m + 1) a, Qb (m + 1) c], false, []⟩) rfl e1 rfl) rfl)) (Qbg (b := true) (QB (b := true) (Qt (r := ⟨[Qj m R [], Qb (m + 1) a], false, []⟩) rfl e2 rfl) rfl))) (λ h => by cases h) (λ _ => Qp ?_))
 exact QE (QnM (d := .bl t) (Qae (d := .bl (decide (0 <= v))) (rb := ⟨.int 0, true, []⟩) (hv (r := ⟨Qb (m + 1) a, false, []⟩) rfl rfl) rfl rfl) (by rw [ed]) (rb := ⟨.bl t, true, []⟩) rfl rfl rfl) ⟨rfl, rfl⟩
noncomputable def Qki (QbP : Den) (QcH : Den) (Qbo : Den) (Qbb : Den) (QbF : Den) (QU : Den) (QaC : Den) (QaB : Den) : DS := (Qf (Qs 1 (Qw 2 QbP [] (Qc (Qa 0) (Qc (dC (.int 85)) Qg)))) (Qf (Qs 2 (Qw 1 QcH [] (Qc (Qa 1) Qg))) (Qf (Qs 3 (Qw 2 Qbo [] (Qc (Qa 1) (Qc (Qk (Qa 2) (dC (.int 0))) Qg)))) (Qf (Qs 4 (Qw 2 Qbb [] (Qc (Qa 1) (Qc (Qa 2) Qg)))) (Qf (Qs 5 (Qw 3 QbF [] (Qc (Qcs (Qa 1) (QaK (dC (.int 45))) (QaK (QH (dC (.int 45)) (dOp Qau (Qk (Qa 1) (dC (.int 44))) (dC (.int 41)))))) (Qc (Qk (Qa 2) (dC (.int 0))) (Qc (dOp Qdu (dC (.int 10)) (dC (.int 12))) Qg))))) (Qf (Qs 6 (QW (Qc (Qw 3 QU [] (Qc (Qa 2) (Qc (Qa 3) (Qc (Qa 5) Qg)))) (Qc (Qw 3 QU [] (Qc (Qa 2) (Qc (Qa 4) (Qc (Qa 5) Qg)))) Qg)))) (Qf (Qs 7 (QW (Qc (Qaz (Qc (Qk (Qa 2) (dC (.int 0))) (Qc (dList (Qc (Qk (Qa 2) (dC (.int 1))) Qg)) (Qc (QW Qg) Qg)))) (Qc (dList (Qc (Qk (Qa 6) (dC (.int 0))) Qg)) Qg)))) (Qf (Qs 8 (Qw 2 QaC [] (Qc (Qk (Qa 7) (dC (.int 0))) (Qc (Qk (Qa 7) (dC (.int 1))) Qg)))) (Qf (sIf (bOr (QbK (QG (Qw 4 QaB [] (Qc (Qa 2) (Qc (Qk (Qa 6) (dC (.int 0))) (Qc (Qa 8) (Qc (dC (.bl true)) Qg))))))) (QG (dOp gNe (Qa 7) (QW (Qc (Qa 2) (Qc (Qk (Qa 6) (dC (.int 0))) Qg)))))) (Qf (QM (dC (.bl false))) Qn) Qn) (Qf (Qs 9 (Qaz (Qc (dC (.bl true)) (Qc (dList (Qc (Qk (Qa 8) (dC (.int 1))) Qg)) (Qc (dList (Qc (Qk (Qa 8) (dC (.int 2))) Qg)) Qg))))) (Qf (QfT 7 (QcY Q1 (dC (.int 1)))) (Qf (Qs 10 (Qw 2 QaC [] (Qc (Qa 2) (Qc (dList (Qc (Qk (Qa 6) (dC (.int 1))) Qg)) Qg)))) (Qf (sIf (bOr (QbK (QG (Qw 4 QaB [] (Qc (Qa 2) (Qc (Qk (Qa 6) (dC (.int 1))) (Qc (Qa 10) (Qc (dC (.bl false)) Qg))))))) (QG (dOp gNe (Qk (Qa 10) (dC (.int 1))) (Qa 4)))) (Qf (QM (dC (.bl false))) Qn) Qn) (Qf (Qs 11 (Qw 2 QaC [] (Qc (Qa 2) (Qc (dList (Qc (Qa 3) Qg)) Qg)))) (Qf (sIf (bOr (QbK (QG (Qw 4 QaB [] (Qc (Qa 2) (Qc (Qa 3) (Qc (Qa 11) (Qc (dC (.bl true)) Qg))))))) (QG (dOp gNe (Qk (Qa 11) (dC (.int 1))) (Qk (Qa 9) (dC (.int 1)))))) (Qf (QM (dC (.bl false))) Qn) Qn) (Qf (QfT 11 (QcY Q1 (dC (.int 1)))) (Qf (Qdj 11 (QcY Q1 (dC (.int 2))) (dC (.int 0))) (Qf (Qs 12 (Qw 2 QaC [] (Qc (Qa 2) (Qc (dList (Qc (Qa 4) Qg)) Qg)))) (Qf (sIf (bOr (QbK (QG (Qw 4 QaB [] (Qc (Qa 2) (Qc (Qa 4) (Qc (Qa 12) (Qc (dC (.bl false)) Qg))))))) (bOr (QG (dOp gNe (Qk (Qa 12) (dC (.int 1))) (Qa 4))) (QG (dOp gNe (Qa 8) (Qa 9))))) (Qf (QM (dC (.bl false))) Qn) Qn) (Qf (Qs 13 (Qw 2 QaC [] (Qc (Qa 2) (Qc (dList (Qc (Qa 3) Qg)) Qg)))) (Qf (QM (QlP (Qw 4 QaB [] (Qc (Qa 2) (Qc (Qa 3) (Qc (Qa 13) (Qc (dC (.bl true)) Qg))))) (dOp gEq (Qk (Qa 13) (dC (.int 1))) (Qk (Qa 9) (dC (.int 1)))))) Qn)))))))))))))))))))))
theorem QoH {m : Nat} {R : List (Int × Int)} (hw : Qan m R []) {f c c1 c2 : Nat -> Int} (z1 : c1 m = 0) (z2 : c2 m = 0) (h1 : Qdy m R (Qh (m + 1) (Qe (m + 1) (Qd R [])) f c1)) (h2 : Qdy m R (Qh (m + 1) (Qe (m + 1) (Qd R [])) (Qh (m + 1) (Qe (m + 1) (Qd R [])) f c) c2)) : ∀ j, j < m + 1 -> Qh (m + 1) (Qe (m + 1) (Qd R [])) (Qh (m + 1) (Qe (m + 1) (Qd R [])) f c) c2 j = Qh (m + 1) (Qe (m + 1) (Qd R [])) f c1 j := by
 refine (QjB hw (d := λ i => c i + c2 i - c m - c1 i) (by show c m + c2 m - c m - c1 m = 0; omega) h1 h2 λ j hj => ?_).1
 rw [Qhh, Qhh, ← Qkk hw.good.1 f (λ i => c i + c2 i) (- c m) hj]
 exact QaH j rfl λ i _ => by show _ = c1 i + (c i + c2 i - c m - c1 i); omega
theorem Qr9 {m : Nat} {R : List (Int × Int)} (hw : Qan m R []) {g c c2 : Nat -> Int} (z2 : c2 m = 0) (h1 : Qdy m R g) (h2 : Qdy m R (Qh (m + 1) (Qe (m + 1) (Qd R [])) (Qh (m + 1) (Qe (m + 1) (Qd R [])) g c) c2)) : ∀ j, j < m + 1 -> Qh (m + 1) (Qe (m + 1) (Qd R [])) (Qh (m + 1) (Qe (m + 1) (Qd R [])) g c) c2 j = g j := by
 refine (QjB hw (d := λ i => c i + c2 i - c m) (by show c m + c2 m - c m = 0; omega) h1 h2 λ j hj => ?_).1
 rw [Qhh, ← Qkk hw.good.1 g (λ i => c i + c2 i) (- c m) hj]
 exact QaH j rfl λ i _ => by show c i + c2 i + - c m = c i + c2 i - c m; omega
theorem QrG {m : Nat} {R : List (Int × Int)} (hw : Qan m R []) {f c : Nat -> Int} (f0 : ∀ j, j < m + 1 -> 0 <= f j) (z : c m = 0) (h : Qdy m R (Qh (m + 1) (Qe (m + 1) (Qd R [])) f c)) : 0 <= Qh (m + 1) (Qe (m + 1) (Qd R [])) f c m := by
 have hR := hw.good.1
 have cn : ∀ i, i < m -> 0 <= c i := QfK hw h.2 λ p hp => by
  have e : Qh m (Qe m (Qd R [])) (λ j => Qv R [] j - 1 - Qh (m + 1) (Qe (m + 1) (Qd R [])) f c j) c p = Qv R [] p - 1 - f p := by
   have e1 := Qjo hR f c z hp
   have e2 : Qh m (Qe m (Qd R [])) (λ j => Qv R [] j - 1 - Qh (m + 1) (Qe (m + 1) (Qd R [])) f c j) c p = Qv R [] p - 1 - Qh (m + 1) (Qe (m + 1) (Qd R [])) f c p + Qu m λ i => c i * Qe m (Qd R []) i p := rfl
   have e3 : Qh m (Qe m (Qd R [])) f c p = f p + Qu m λ i => c i * Qe m (Qd R []) i p := rfl
   omega
  rw [e]
  have := f0 p (by omega)
  have := hw.neg hp
  omega
 rw [Qfu hR f c (ZaO m)]
 have h1 := f0 m (by omega)
 have h2 : 0 <= (R.map λ s => Qdi c s m).sum := Qd6 R λ s hs => by
  obtain ⟨g1, g2, g3, g4, g5⟩ := hR s hs
  unfold Qdi
  by_cases a : s.2 = m
  ·have b : ¬ s.1 = m := by omega
   rw [if_pos a, if_neg b]
   have e : s.2.toNat = m := by omega
   rw [e, z]
   have := cn s.1.toNat (by omega)
   omega
  ·by_cases b : s.1 = m
   ·rw [if_neg a, if_pos b]
    have e : s.1.toNat = m := by omega
    rw [e, z]
    have := cn s.2.toNat (by omega)
    omega
   ·rw [if_neg a, if_neg b]; decide
 omega
theorem QoQ {x m : Nat} {f : Nat -> Int} {a b : D} {ρ : En} {Q : Out -> Prop} (hx : ρ[x]? = some (some (.tup [a, Qb m f, b], true))) (q : Q (.nx (ρ.set x (some (.tup [a, .lst [], b], true))))) : Run (QfT x (QcY Q1 (dC (.int 1)))) ρ Q := by
 refine ⟨_, ?_, q⟩
 unfold QfT
 rw [hx]
 rfl
theorem QoE {x m : Nat} {f : Nat -> Int} {a b : D} {ρ : En} {Q : Out -> Prop} (hx : ρ[x]? = some (some (.tup [a, b, Qb m f], true))) (hm : m <= 1000) (q : ∀ d, Q (.nx (ρ.set x (some (d, true))))) : Run (Qdj x (QcY Q1 (dC (.int 2))) (dC (.int 0))) ρ Q := by
 refine ⟨_, ?_, q (.tup [a, b, .lst (((List.range m).map λ i => .int (f i)) ++ [.int 0])])⟩
 unfold Qdj
 rw [hx]
 have hl : ((List.range m).map λ i => D.int (f i)).length < sizeLine := by
  rw [Zi, ZG]
  exact ZaI hm (by decide)
 show (if QiT ⟨.int 0, true, []⟩ x && decide (((List.range m).map λ i => D.int (f i)).length < sizeLine) then _ else none) = _
 rw [decide_eq_true hl]
 rfl
theorem Qwk {m : Nat} {t : Bool} {f g : Nat -> Int} : (D.tup [.bl t, Qb m f, Qb m g]).sim 8 = true := by
 simp only [D.sim, Zcj, List.all_nil, Zck, Zg]
 exact ⟨trivial, QjI 6 m f, QjI 6 m g⟩
set_option maxHeartbeats 0 in
theorem Qv1 {dcl dn dp dl dm db dg dt : Den} (hcl : CellsOk dcl) (hn : QjM dn) (hp : QhR dp) (hl : QkX dl) (hm : QgA dm) (hb : Qhi db) (hg : QjX dg) (ht : QhT dt) (ns : List Int) (hns : ns.length <= 63) : Qo 14 (Qki dcl dn dp dl dm db dg dt) [.lst (ns.map .int)] = some (.bl true, true) := by
 obtain ⟨cs, ecs, lcs, bcs⟩ := hcl ns 85 hns (by decide)
 obtain ⟨m, R, en, m0, m8, hw⟩ := hn cs lcs bcs
 have hR := hw.good.1
 have hRl : R.length <= 200 := hw.good.2.2.1
 obtain ⟨f, ef, bf⟩ := hp cs m lcs m8
 obtain ⟨g, eg, lg, gn, gb⟩ := hl cs m R lcs bcs m0 m8 hw
 obtain ⟨k, ek⟩ : ∃ k, cs[44]? = some k := ⟨cs[44]'(by omega), ZU (by omega)⟩
 have k1 := Zy k (by decide : (41 : Int) ≠ 0)
 have k2 := Zq k (by decide : (0 : Int) < 41)
 obtain ⟨q, eq⟩ : ∃ q : Nat, (q : Int) = 45 + k % 41 := ⟨(45 + k % 41).toNat, by omega⟩
 have eh : QH (dC (.int 45)) (dOp Qau (Qk (Qa 1) (dC (.int 44))) (dC (.int 41))) [some (.lst (ns.map .int), false), some (Qm cs, true), some (Qj m R [], true), some (Qb (m + 1) f, true), some (Qb (m + 1) g, true), none, none, none, none, none, none, none, none, none] = some ⟨.int q, true, []⟩ := by
  rw [eq]
  exact QQ (a := 45) rfl rfl (Qap (a := k) (b := 41) (Qbs (ns := cs) (i := 44) (v := k) (ra := ⟨Qm cs, true, [1]⟩) (rb := ⟨.int 44, true, []⟩) rfl rfl rfl rfl (by decide) ek) rfl (rb := ⟨.int 41, true, []⟩) rfl rfl (by decide)) rfl
 have esl := Qhj (cs := cs) (a := 45) (b := q) (fa := Qa 1) (fl := dC (.int 45)) (ρ := [some (.lst (ns.map .int), false), some (Qm cs, true), some (Qj m R [], true), some (Qb (m + 1) f, true), some (Qb (m + 1) g, true), none, none, none, none, none, none, none, none, none]) (ra := ⟨Qm cs, true, [1]⟩) rfl rfl rfl rfl eh rfl
 have lfu : ((cs.drop (min 45 cs.length)).take (min q cs.length - min 45 cs.length)).length <= 63 := by rw [Zao, Zaz]; omega
 generalize (cs.drop (min 45 cs.length)).take (min q cs.length - min 45 cs.length) = fu at esl lfu
 obtain ⟨c, ec, bc⟩ := hm fu m m8 lfu
 have eo := hb m R f c (by omega) hR
 have eo2 := hb m R g c (by omega) hR
 have sp : ∀ j, j < m -> Qv R [] j <= 2 ^ 64 := λ j hj => by
  have h2 := hw.tp.bnd j j hj hj
  have h3 := hw.neg hj
  omega
 have bg : ∀ j, j < m + 1 -> (g j).natAbs <= 2 ^ 64 := λ j hj => by
  by_cases e : j = m
  ·rw [e]; exact ZF gb (by decide)
  ·have h1 := lg.1 j (by omega)
   have h2 := sp j (by omega)
   omega
 have bf' : ∀ j, j < m + 1 -> (f j).natAbs <= 2 ^ 64 := λ j hj => by
  have h1 := bf j hj
  have : (10 : Int) ^ 15 <= 2 ^ 64 := by decide
  omega
 have big : 2 ^ 64 + 800 * (63 * 10 ^ 12) <= 2 ^ 190 := by decide
 have big2 : 2 ^ 64 <= 2 ^ 190 := by decide
 obtain ⟨c1, e1, z1, l1⟩ := hg m R (Qh (m + 1) (Qe (m + 1) (Qd R [])) f c) m0 m8 hw λ j hj => ZF (Qnn hR hRl bf' (λ j _ => bc j) (by omega)) big
 obtain ⟨c2, e2, z2, l2⟩ := hg m R (Qh (m + 1) (Qe (m + 1) (Qd R [])) g c) m0 m8 hw λ j hj => ZF (Qnn hR hRl bg (λ j _ => bc j) (by omega)) big
 obtain ⟨c3, e3, z3, l3⟩ := hg m R f m0 m8 hw λ j hj => ZF (bf' j (by omega)) big2
 obtain ⟨c4, e4, z4, l4⟩ := hg m R g m0 m8 hw λ j hj => ZF (bg j (by omega)) big2
 have s1 := QoH hw z3 z1 l3 l1
 have s2 := Qr9 hw z2 lg l2
 have s4 := (QjB hw z4 lg l4 λ j _ => rfl).1
 have p3 := QrG hw (λ j hj => (bf j hj).1) z3 l3
 have t1 := ht m R (Qh (m + 1) (Qe (m + 1) (Qd R [])) f c) c1 (by omega) hw z1 l1
 have t2 := ht m R (Qh (m + 1) (Qe (m + 1) (Qd R [])) g c) c2 (by omega) hw z2 l2
 have t3 := ht m R f c3 (by omega) hw z3 l3
 have t4 := ht m R g c4 (by omega) hw z4 l4
 rw [s1 m (by omega), QcK s1, decide_eq_true p3] at e1 t1
 rw [decide_eq_true p3] at e3 t3
 rw [s2 m (by omega), QcK s2, decide_eq_false (by omega)] at e2 t2
 rw [s4 m (by omega), QcK s4, decide_eq_false (by omega)] at e4 t4
 clear s1 s2 s4 p3 l1 l2 l3 l4
 generalize Qh (m + 1) (Qe (m + 1) (Qd R [])) f c3 = a at *
 generalize Qh (m + 1) (Qe (m + 1) (Qd R [])) f c = o at *
 generalize Qh (m + 1) (Qe (m + 1) (Qd R [])) g c = o2 at *
 have it : ∀ {ρ : En} {b : Bool}, ρ[2]? = some (some (Qj m R [], b)) -> Qk (Qa 2) (dC (.int 0)) ρ = some ⟨.int m, true, []⟩ := λ {ρ b} h => (QcI (m := m) (R := R) (L := []) (Qa6 h) (by cases b <;> rfl)).1
 have sRow : ∀ (k : Nat) g, (Qb (m + 1) g).sim (k + 1) = true := λ k g => QjI k (m + 1) g
 have sH : (D.lst [Qj m R [], Qb (m + 1) o]).sim 8 = true := by
  simp only [D.sim, Zcj, List.all_nil, Zck, Zg]
  refine ⟨?_, sRow 6 _⟩
  unfold Qj
  simp only [D.sim, Zcj, List.all_nil, Zck, Bool.true_and, Zg]
  exact ⟨Qj4 4 R, Qj4 4 []⟩
 refine Q7 ?_
 refine run_seq (Qi (Qt (r := ⟨[.lst (ns.map .int), .int 85], false, []⟩) rfl ecs rfl) ?_)
 rw [Ql]
 refine run_seq (Qi (Qt (r := ⟨[Qm cs], true, [1]⟩) rfl en rfl) ?_)
 rw [Ql]
 refine run_seq (Qi (Qt (Qr (r := ⟨Qm cs, true, [1]⟩) rfl (Qr (it rfl) (QS _))) ef rfl) ?_)
 rw [Ql]
 refine run_seq (Qi (Qt (r := ⟨[Qm cs, Qj m R []], true, [1, 2]⟩) rfl eg rfl) ?_)
 rw [Ql]
 refine run_seq (Qi (Qt (Qr esl (Qr (it rfl) (Qr (Qjf (a := 10) (k := 12) (by decide) (by decide)) (QS _)))) ec rfl) ?_)
 rw [Ql]
 refine run_seq (Qi (r := ⟨.lst [Qb (m + 1) o, Qb (m + 1) o2], true, []⟩) (Qfq (Qr (Qt (r := ⟨[Qj m R [], Qb (m + 1) f, Qb (m + 1) c], true, [2, 3, 5]⟩) rfl eo rfl) (Qr (Qt (r := ⟨[Qj m R [], Qb (m + 1) g, Qb (m + 1) c], true, [2, 4, 5]⟩) rfl eo2 rfl) (QS _))) (Zax rfl)) ?_)
 rw [Ql]
 refine run_seq (Qi (r := ⟨.lst [Qj m R [], Qb (m + 1) o], true, []⟩) ?_ ?_)
 ·refine (Qfq (rs := ⟨[Qj m R [], Qb (m + 1) o], true, []⟩) ?_ (by simp)).trans rfl
  exact Qr (Qov (r := ⟨Qj m R [], true, [2]⟩) rfl rfl) (Qr (Qbf (m := m + 1) (f := o) (rs := ⟨[Qb (m + 1) o], true, [6]⟩) rfl rfl) (QS _))
 rw [Ql]
 refine run_seq (Qi (Qt (r := ⟨[Qj m R [], Qb (m + 1) o], true, [7, 7]⟩) rfl e1 rfl) ?_)
 rw [Ql]
 change Nx _ (.nx [some (.lst (ns.map .int), false), some (Qm cs, true), some (Qj m R [], true), some (Qb (m + 1) f, true), some (Qb (m + 1) g, true), some (Qb (m + 1) c, true), some (.lst [Qb (m + 1) o, Qb (m + 1) o2], true), some (.lst [Qj m R [], Qb (m + 1) o], true), some (.tup [.bl true, Qb (m + 1) a, Qb (m + 1) c1], true), none, none, none, none, none])
 refine QT (Q0 (b := false) (QaL (a := false) (b := false) (Qbg (b := true) (QB (b := true) (Qt (r := ⟨[Qj m R [], Qb (m + 1) o, .tup [.bl true, Qb (m + 1) a, Qb (m + 1) c1], .bl true], true, [2, 6, 8]⟩) rfl t1 rfl) rfl)) (QB (b := false) (Qfj (d := .lst [Qj m R [], Qb (m + 1) o]) (ra := ⟨.lst [Qj m R [], Qb (m + 1) o], true, [7]⟩) (rb := ⟨.lst [Qj m R [], Qb (m + 1) o], true, [2, 6]⟩) rfl rfl rfl rfl sH) rfl)) (λ h => by cases h) (λ _ => Qp ?_))
 refine run_seq (Qi (r := ⟨.tup [.bl true, Qb (m + 1) a, Qb (m + 1) c1], true, []⟩) (QqB (Qr (r := ⟨.bl true, true, []⟩) rfl (Qr (Qbf (m := m + 1) (f := a) (rs := ⟨[Qb (m + 1) a], true, [8]⟩) rfl rfl) (Qr (Qbf (m := m + 1) (f := c1) (rs := ⟨[Qb (m + 1) c1], true, [8]⟩) rfl rfl) (QS _)))) (Zax rfl)) ?_)
 rw [Ql]
 change Nx _ (.nx [some (.lst (ns.map .int), false), some (Qm cs, true), some (Qj m R [], true), some (Qb (m + 1) f, true), some (Qb (m + 1) g, true), some (Qb (m + 1) c, true), some (.lst [Qb (m + 1) o, Qb (m + 1) o2], true), some (.lst [Qj m R [], Qb (m + 1) o], true), some (.tup [.bl true, Qb (m + 1) a, Qb (m + 1) c1], true), some (.tup [.bl true, Qb (m + 1) a, Qb (m + 1) c1], true), none, none, none, none])
 refine run_seq (Qr0 (a := Qj m R []) (xs := (List.range (m + 1)).map λ i => .int (o i)) rfl ?_)
 change Nx _ (.nx [some (.lst (ns.map .int), false), some (Qm cs, true), some (Qj m R [], true), some (Qb (m + 1) f, true), some (Qb (m + 1) g, true), some (Qb (m + 1) c, true), some (.lst [Qb (m + 1) o, Qb (m + 1) o2], true), some (.lst [Qj m R [], .lst []], true), some (.tup [.bl true, Qb (m + 1) a, Qb (m + 1) c1], true), some (.tup [.bl true, Qb (m + 1) a, Qb (m + 1) c1], true), none, none, none, none])
 refine run_seq (Qi (Qt (Qr (r := ⟨Qj m R [], true, [2]⟩) rfl (Qr (Qbf (m := m + 1) (f := o2) (rs := ⟨[Qb (m + 1) o2], true, [6]⟩) rfl rfl) (QS _))) e2 rfl) ?_)
 rw [Ql]
 change Nx _ (.nx [some (.lst (ns.map .int), false), some (Qm cs, true), some (Qj m R [], true), some (Qb (m + 1) f, true), some (Qb (m + 1) g, true), some (Qb (m + 1) c, true), some (.lst [Qb (m + 1) o, Qb (m + 1) o2], true), some (.lst [Qj m R [], .lst []], true), some (.tup [.bl true, Qb (m + 1) a, Qb (m + 1) c1], true), some (.tup [.bl true, Qb (m + 1) a, Qb (m + 1) c1], true), some (.tup [.bl false, Qb (m + 1) g, Qb (m + 1) c2], true), none, none, none])
 refine QT (Q0 (b := false) (QaL (a := false) (b := false) (Qbg (b := true) (QB (b := true) (Qt (r := ⟨[Qj m R [], Qb (m + 1) o2, .tup [.bl false, Qb (m + 1) g, Qb (m + 1) c2], .bl false], true, [2, 6, 10]⟩) rfl t2 rfl) rfl)) (QB (b := false) (Qfj (d := Qb (m + 1) g) (ra := ⟨Qb (m + 1) g, true, [10]⟩) (rb := ⟨Qb (m + 1) g, true, [4]⟩) rfl rfl rfl rfl (sRow 7 _)) rfl)) (λ h => by cases h) (λ _ => Qp ?_))
 refine run_seq (Qi (Qt (Qr (r := ⟨Qj m R [], true, [2]⟩) rfl (Qr (Qbf (m := m + 1) (f := f) (rs := ⟨[Qb (m + 1) f], true, [3]⟩) rfl rfl) (QS _))) e3 rfl) ?_)
 rw [Ql]
 change Nx _ (.nx [some (.lst (ns.map .int), false), some (Qm cs, true), some (Qj m R [], true), some (Qb (m + 1) f, true), some (Qb (m + 1) g, true), some (Qb (m + 1) c, true), some (.lst [Qb (m + 1) o, Qb (m + 1) o2], true), some (.lst [Qj m R [], .lst []], true), some (.tup [.bl true, Qb (m + 1) a, Qb (m + 1) c1], true), some (.tup [.bl true, Qb (m + 1) a, Qb (m + 1) c1], true), some (.tup [.bl false, Qb (m + 1) g, Qb (m + 1) c2], true), some (.tup [.bl true, Qb (m + 1) a, Qb (m + 1) c3], true), none, none])
 refine QT (Q0 (b := false) (QaL (a := false) (b := false) (Qbg (b := true) (QB (b := true) (Qt (r := ⟨[Qj m R [], Qb (m + 1) f, .tup [.bl true, Qb (m + 1) a, Qb (m + 1) c3], .bl true], true, [2, 3, 11]⟩) rfl t3 rfl) rfl)) (QB (b := false) (Qfj (d := Qb (m + 1) a) (ra := ⟨Qb (m + 1) a, true, [11]⟩) (rb := ⟨Qb (m + 1) a, true, [9]⟩) rfl rfl rfl rfl (sRow 7 _)) rfl)) (λ h => by cases h) (λ _ => Qp ?_))
 refine run_seq (QoQ (m := m + 1) (f := a) (a := .bl true) (b := Qb (m + 1) c3) rfl ?_)
 refine run_seq (QoE (m := m + 1) (f := c3) (a := .bl true) (b := .lst []) rfl (by omega) λ d11 => ?_)
 change Nx _ (.nx [some (.lst (ns.map .int), false), some (Qm cs, true), some (Qj m R [], true), some (Qb (m + 1) f, true), some (Qb (m + 1) g, true), some (Qb (m + 1) c, true), some (.lst [Qb (m + 1) o, Qb (m + 1) o2], true), some (.lst [Qj m R [], .lst []], true), some (.tup [.bl true, Qb (m + 1) a, Qb (m + 1) c1], true), some (.tup [.bl true, Qb (m + 1) a, Qb (m + 1) c1], true), some (.tup [.bl false, Qb (m + 1) g, Qb (m + 1) c2], true), some (d11, true), none, none])
 refine run_seq (Qi (Qt (Qr (r := ⟨Qj m R [], true, [2]⟩) rfl (Qr (Qbf (m := m + 1) (f := g) (rs := ⟨[Qb (m + 1) g], true, [4]⟩) rfl rfl) (QS _))) e4 rfl) ?_)
 rw [Ql]
 change Nx _ (.nx [some (.lst (ns.map .int), false), some (Qm cs, true), some (Qj m R [], true), some (Qb (m + 1) f, true), some (Qb (m + 1) g, true), some (Qb (m + 1) c, true), some (.lst [Qb (m + 1) o, Qb (m + 1) o2], true), some (.lst [Qj m R [], .lst []], true), some (.tup [.bl true, Qb (m + 1) a, Qb (m + 1) c1], true), some (.tup [.bl true, Qb (m + 1) a, Qb (m + 1) c1], true), some (.tup [.bl false, Qb (m + 1) g, Qb (m + 1) c2], true), some (d11, true), some (.tup [.bl false, Qb (m + 1) g, Qb (m + 1) c4], true), none])
 refine QT (Q0 (b := false) (QaL (a := false) (b := false) (Qbg (b := true) (QB (b := true) (Qt (r := ⟨[Qj m R [], Qb (m + 1) g, .tup [.bl false, Qb (m + 1) g, Qb (m + 1) c4], .bl false], true, [2, 4, 12]⟩) rfl t4 rfl) rfl)) (QaL (a := false) (b := false) (QB (b := false) (Qfj (d := Qb (m + 1) g) (ra := ⟨Qb (m + 1) g, true, [12]⟩) (rb := ⟨Qb (m + 1) g, true, [4]⟩) rfl rfl rfl rfl (sRow 7 _)) rfl) (QB (b := false) (Qfj (d := .tup [.bl true, Qb (m + 1) a, Qb (m + 1) c1]) (ra := ⟨.tup [.bl true, Qb (m + 1) a, Qb (m + 1) c1], true, [8]⟩) (rb := ⟨.tup [.bl true, Qb (m + 1) a, Qb (m + 1) c1], true, [9]⟩) rfl rfl rfl rfl Qwk) rfl))) (λ h => by cases h) (λ _ => Qp ?_))
 refine run_seq (Qi (Qt (Qr (r := ⟨Qj m R [], true, [2]⟩) rfl (Qr (Qbf (m := m + 1) (f := f) (rs := ⟨[Qb (m + 1) f], true, [3]⟩) rfl rfl) (QS _))) e3 rfl) ?_)
 rw [Ql]
 change Nx _ (.nx [some (.lst (ns.map .int), false), some (Qm cs, true), some (Qj m R [], true), some (Qb (m + 1) f, true), some (Qb (m + 1) g, true), some (Qb (m + 1) c, true), some (.lst [Qb (m + 1) o, Qb (m + 1) o2], true), some (.lst [Qj m R [], .lst []], true), some (.tup [.bl true, Qb (m + 1) a, Qb (m + 1) c1], true), some (.tup [.bl true, Qb (m + 1) a, Qb (m + 1) c1], true), some (.tup [.bl false, Qb (m + 1) g, Qb (m + 1) c2], true), some (d11, true), some (.tup [.bl false, Qb (m + 1) g, Qb (m + 1) c4], true), some (.tup [.bl true, Qb (m + 1) a, Qb (m + 1) c3], true)])
 exact QE (Qww (a := true) (b := true) (Qt (r := ⟨[Qj m R [], Qb (m + 1) f, .tup [.bl true, Qb (m + 1) a, Qb (m + 1) c3], .bl true], true, [2, 3, 13]⟩) rfl t3 rfl) (QnM (d := Qb (m + 1) a) (ra := ⟨Qb (m + 1) a, true, [13]⟩) (rb := ⟨Qb (m + 1) a, true, [9]⟩) rfl rfl rfl rfl (sRow 7 _))) ⟨rfl, rfl⟩
end HS
theorem HS.some_of {α : Type} {x : Option α} {d : α} (h : x.isSome = true) : x = some (x.getD d) := by cases x with | none => cases h | some a => rfl
namespace Law
open PySem L2 HS
noncomputable section
def top (i : Nat) : Stmt := PySem.Challenge.pw_heapstill_k63_whole_made_good.main.body.getD i (.Pass ⟨0, 0, 0, 0⟩)
abbrev cst : List (Str × Int) := []
abbrev Sc (s : Stmt) (P : List Str) : Prop := Qc8 (namesOf (QD s)) P (QD s)
theorem scM {s : Stmt} {P : List Str} (h1 : (QD s).kind = .function) (h2 : (QD s).isCoroutine = false) (h3 : (QD s).isGenerator = false) (h4 : (namesOf (QD s)).Nodup /\ (namesOf (QD s)).take P.length = P /\ (∀ x ∈ P, (QD s).names.lookup x = some .local ∨ (QD s).names.lookup x = some .cell) /\ ∀ y ∈ (QD s).names, y.2 ≠ .free) : Sc s P := ⟨h1, h2, h3, h4.1, h4.2.1, h4.2.2.1, h4.2.2.2⟩
noncomputable abbrev Cp (s : Stmt) (Γ : List (Str × FnR)) : Option DS := Qbe 60 (QlY s Γ cst) (QbM s)
noncomputable abbrev Dn (s : Stmt) (g : DS) : Den := Qo (namesOf (QD s)).length g
noncomputable abbrev Gc (x : Str) (n : Nat) (d : Den) (Γ : List (Str × FnR)) : List (Str × FnR) := (x, ⟨n, [], d⟩) :: Γ
abbrev Qb9 := top 7
theorem QlW : Sc Qb9 ["net", "rows"] := scM rfl rfl rfl (by decide +kernel)
theorem Qm7 : Qx "need_rows" Qb9 ["net", "rows"] := λ | _, _, _, _, _, _, [_, _], _ => rfl
def QhJ := (Cp Qb9 []).getD QF
theorem QmP : Cp Qb9 [] = some QhJ := some_of (by decide +kernel)
abbrev Q5 := Dn Qb9 QhJ
abbrev Qe1 := Gc "need_rows" 2 Q5 []
abbrev QbH := top 8
theorem QkG : Sc QbH ["net", "heaps"] := scM rfl rfl rfl (by decide +kernel)
theorem Ql7 : Qx "need_heaps" QbH ["net", "heaps"] := λ | _, _, _, _, _, _, [_, _], _ => rfl
def QgL := (Cp QbH Qe1).getD QF
theorem Qln : Cp QbH Qe1 = some QgL := some_of (by decide +kernel)
abbrev QbO := Dn QbH QgL
abbrev QeA := Gc "need_heaps" 2 QbO Qe1
abbrev Qec := top 10
theorem Qrn : Sc Qec ["roads", "lanes"] := scM rfl rfl rfl (by decide +kernel)
theorem Qtz : Qx "steps" Qec ["roads", "lanes"] := λ | _, _, _, _, _, _, [_, _], _ => rfl
def QnC := (Cp Qec QeA).getD QF
theorem QtU : Cp Qec QeA = some QnC := some_of (by decide +kernel)
abbrev Qc5 := Dn Qec QnC
abbrev Qjb := Gc "steps" 2 Qc5 QeA
abbrev Qby := top 11
theorem QkD : Sc Qby ["net"] := scM rfl rfl rfl (by decide +kernel)
theorem Qk5 : Qx "toll_table" Qby ["net"] := λ | _, _, _, _, _, _, [_], _ => rfl
def QgC := (Cp Qby Qjb).getD QF
theorem QlV : Cp Qby Qjb = some QgC := some_of (by decide +kernel)
abbrev QZ := Dn Qby QgC
abbrev QeF := Gc "toll_table" 1 QZ Qjb
abbrev Qca := top 12
theorem Qlp : Sc Qca ["net"] := scM rfl rfl rfl (by decide +kernel)
theorem Qm0 : Qx "span_list" Qca ["net"] := λ | _, _, _, _, _, _, [_], _ => rfl
def Qhx := (Cp Qca QeF).getD QF
theorem QmT : Cp Qca QeF = some Qhx := some_of (by decide +kernel)
abbrev QaQ := Dn Qca Qhx
abbrev Qe2 := Gc "span_list" 1 QaQ QeF
abbrev Qea := top 13
theorem Qrk : Sc Qea ["net", "row", "counts"] := scM rfl rfl rfl (by decide +kernel)
theorem Quu : Qx "after" Qea ["net", "row", "counts"] := λ | _, _, _, _, _, _, [_, _, _], _ => rfl
def Qno := (Cp Qea Qe2).getD QF
theorem Qs7 : Cp Qea Qe2 = some Qno := some_of (by decide +kernel)
abbrev QcJ := Dn Qea Qno
abbrev Qja := Gc "after" 3 QcJ Qe2
abbrev QcC := top 15
theorem Qna : Sc QcC ["net"] := scM rfl rfl rfl (by decide +kernel)
theorem Qob : Qx "is_plain" QcC ["net"] := λ | _, _, _, _, _, _, [_], _ => rfl
def QiY := (Cp QcC Qja).getD QF
theorem Qn9 : Cp QcC Qja = some QiY := some_of (by decide +kernel)
abbrev QcD := Dn QcC QiY
abbrev Qf0 := Gc "is_plain" 1 QcD Qja
abbrev QbL := top 16
theorem QkA : Sc QbL ["net"] := scM rfl rfl rfl (by decide +kernel)
theorem QlF : Qx "need_plain" QbL ["net"] := λ | _, _, _, _, _, _, [_], _ => rfl
def Qgn := (Cp QbL Qf0).getD QF
theorem Qme : Cp QbL Qf0 = some Qgn := some_of (by decide +kernel)
abbrev QbJ := Dn QbL Qgn
abbrev Qew := Gc "need_plain" 1 QbJ Qf0
abbrev QdF := top 18
theorem QpM : Sc QdF ["table", "at"] := scM rfl rfl rfl (by decide +kernel)
theorem QrX : Qx "column" QdF ["table", "at"] := λ | _, _, _, _, _, _, [_, _], _ => rfl
def QlI := (Cp QdF Qew).getD QF
theorem QrU : Cp QdF Qew = some QlI := some_of (by decide +kernel)
abbrev QbY := Dn QdF QlI
abbrev QhW := Gc "column" 2 QbY Qew
abbrev QdL := top 19
theorem Qpt : Sc QdL ["table"] := scM rfl rfl rfl (by decide +kernel)
theorem Qso : Qx "turned" QdL ["table"] := λ | _, _, _, _, _, _, [_], _ => rfl
def Qlj := (Cp QdL QhW).getD QF
theorem Qrw : Cp QdL QhW = some Qlj := some_of (by decide +kernel)
abbrev QdI := Dn QdL Qlj
abbrev QhQ := Gc "turned" 1 QdI QhW
abbrev QcM := top 20
theorem Qm3 : Sc QcM ["line"] := scM rfl rfl rfl (by decide +kernel)
theorem Qol : Qx "opposite" QcM ["line"] := λ | _, _, _, _, _, _, [_], _ => rfl
def QiI := (Cp QcM QhQ).getD QF
theorem QoA : Cp QcM QhQ = some QiI := some_of (by decide +kernel)
abbrev Qaq := Dn QcM QiI
abbrev Qfw := Gc "opposite" 1 Qaq QhQ
abbrev QdB := top 21
theorem Qqs : Sc QdB ["numbers"] := scM rfl rfl rfl (by decide +kernel)
theorem QrK : Qx "common" QdB ["numbers"] := λ | _, _, _, _, _, _, [_], _ => rfl
def Qk8 := (Cp QdB Qfw).getD QF
theorem QsB : Cp QdB Qfw = some Qk8 := some_of (by decide +kernel)
abbrev Qdv := Dn QdB Qk8
abbrev Qh8 := Gc "common" 1 Qdv Qfw
abbrev Qbz := top 23
theorem QkE : Sc Qbz ["lines", "at"] := scM rfl rfl rfl (by decide +kernel)
theorem QlB : Qx "with_pivot" Qbz ["lines", "at"] := λ | _, _, _, _, _, _, [_, _], _ => rfl
def Qgp := (Cp Qbz Qh8).getD QF
theorem Qlb : Cp Qbz Qh8 = some Qgp := some_of (by decide +kernel)
abbrev QbG := Dn Qbz Qgp
abbrev QeE := Gc "with_pivot" 2 QbG Qh8
abbrev Qcc := top 24
theorem Qk9 : Sc Qcc ["line", "pivot_line", "at", "before"] := scM rfl rfl rfl (by decide +kernel)
theorem QmJ : Qx "taken_off" Qcc ["line", "pivot_line", "at", "before"] := λ | _, _, _, _, _, _, [_, _, _, _], _ => rfl
def QhB := (Cp Qcc QeE).getD QF
theorem QmH : Cp Qcc QeE = some QhB := some_of (by decide +kernel)
abbrev Qb5 := Dn Qcc QhB
abbrev Qe4 := Gc "taken_off" 4 Qb5 QeE
abbrev Qc6 := top 22
theorem Qop : Sc Qc6 ["lines"] := scM rfl rfl rfl (by decide +kernel)
theorem QpJ : Qx "cleared" Qc6 ["lines"] := λ | _, _, _, _, _, _, [_], _ => rfl
def Qkr := (Cp Qc6 Qe4).getD QF
theorem Qqa : Cp Qc6 Qe4 = some Qkr := some_of (by decide +kernel)
abbrev Qda := Dn Qc6 Qkr
abbrev Qgh := Gc "cleared" 1 Qda Qe4
abbrev QaX := top 25
theorem Qia : Sc QaX ["lines"] := scM rfl rfl rfl (by decide +kernel)
theorem QiK : Qx "cleared_whole" QaX ["lines"] := λ | _, _, _, _, _, _, [_], _ => rfl
def QeO := (Cp QaX Qgh).getD QF
theorem QiX : Cp QaX Qgh = some QeO := some_of (by decide +kernel)
abbrev QaW := Dn QaX QeO
abbrev Qde := Gc "cleared_whole" 1 QaW Qgh
abbrev QbB := top 26
theorem Qkz : Sc QbB ["table", "row"] := scM rfl rfl rfl (by decide +kernel)
theorem Qlu : Qx "shared_out" QbB ["table", "row"] := λ | _, _, _, _, _, _, [_, _], _ => rfl
def Qgm := (Cp QbB Qde).getD QF
theorem Ql4 : Cp QbB Qde = some Qgm := some_of (by decide +kernel)
abbrev QbS := Dn QbB Qgm
abbrev Qeu := Gc "shared_out" 2 QbS Qde
abbrev Qb8 := top 28
theorem Qlr : Sc Qb8 ["net"] := scM rfl rfl rfl (by decide +kernel)
theorem Qm8 : Qx "net_table" Qb8 ["net"] := λ | _, _, _, _, _, _, [_], _ => rfl
def QhD := (Cp Qb8 Qeu).getD QF
theorem QmV : Cp Qb8 Qeu = some QhD := some_of (by decide +kernel)
abbrev Qce := Dn Qb8 QhD
abbrev Qe7 := Gc "net_table" 1 Qce Qeu
abbrev Qdc := top 31
theorem Qn7 : Sc Qdc ["tolls", "heap", "counts"] := scM rfl rfl rfl (by decide +kernel)
theorem Qo3 : Qx "settled" Qdc ["tolls", "heap", "counts"] := λ | _, _, _, _, _, _, [_, _, _], _ => rfl
def Qkq := (Cp Qdc Qe7).getD QF
theorem Qqj : Cp Qdc Qe7 = some Qkq := some_of (by decide +kernel)
abbrev Qdb := Dn Qdc Qkq
abbrev Qgk := Gc "settled" 3 Qdb Qe7
abbrev Qeg := top 30
theorem QrF : Sc Qeg ["net", "heap"] := scM rfl rfl rfl (by decide +kernel)
theorem Qta : Qx "still" Qeg ["net", "heap"] := λ | _, _, _, _, _, _, [_, _], _ => rfl
def QnP := (Cp Qeg Qgk).getD QF
theorem Qup : Cp Qeg Qgk = some QnP := some_of (by decide +kernel)
abbrev Qdt := Dn Qeg QnP
abbrev QjP := Gc "still" 2 Qdt Qgk
abbrev Qbq := top 34
theorem QjV : Sc Qbq ["net", "row"] := scM rfl rfl rfl (by decide +kernel)
theorem QkC : Qx "near_counts" Qbq ["net", "row"] := λ | _, _, _, _, _, _, [_, _], _ => rfl
def Qf7 := (Cp Qbq QjP).getD QF
theorem QkF : Cp Qbq QjP = some Qf7 := some_of (by decide +kernel)
abbrev Qbr := Dn Qbq Qf7
abbrev Qd0 := Gc "near_counts" 2 Qbr QjP
abbrev QaV := top 35
theorem QhX : Sc QaV ["net"] := scM rfl rfl rfl (by decide +kernel)
theorem Qif : Qx "doubled_spans" QaV ["net"] := λ | _, _, _, _, _, _, [_], _ => rfl
def QeS := (Cp QaV Qd0).getD QF
theorem QiP : Cp QaV Qd0 = some QeS := some_of (by decide +kernel)
abbrev QaE := Dn QaV QeS
abbrev Qdr := Gc "doubled_spans" 1 QaE Qd0
abbrev s_again := top 33
theorem QsI : Sc s_again ["net", "row"] := scM rfl rfl rfl (by decide +kernel)
theorem Qtm : Qx "again" s_again ["net", "row"] := λ | _, _, _, _, _, _, [_, _], _ => rfl
def Qnm := (Cp s_again Qdr).getD QF
theorem QtV : Cp s_again Qdr = some Qnm := some_of (by decide +kernel)
abbrev Qef := Dn s_again Qnm
abbrev QjF := Gc "again" 2 Qef Qdr
abbrev QcN := top 37
theorem QmO : Sc QcN ["net"] := scM rfl rfl rfl (by decide +kernel)
theorem Qom : Qx "with_pit" QcN ["net"] := λ | _, _, _, _, _, _, [_], _ => rfl
def Qir := (Cp QcN QjF).getD QF
theorem QoU : Cp QcN QjF = some Qir := some_of (by decide +kernel)
abbrev QcO := Dn QcN Qir
abbrev QfE := Gc "with_pit" 1 QcO QjF
abbrev QdH := top 38
theorem Qp9 : Sc QdH ["net", "full"] := scM rfl rfl rfl (by decide +kernel)
theorem Qrx : Qx "lowest" QdH ["net", "full"] := λ | _, _, _, _, _, _, [_, _], _ => rfl
def QlX := (Cp QdH QfE).getD QF
theorem QrA : Cp QdH QfE = some QlX := some_of (by decide +kernel)
abbrev QdD := Dn QdH QlX
abbrev Qh9 := Gc "lowest" 2 QdD QfE
abbrev Qb7 := top 39
theorem Qmw : Sc Qb7 ["net", "full"] := scM rfl rfl rfl (by decide +kernel)
theorem QmK : Qx "made_good" Qb7 ["net", "full"] := λ | _, _, _, _, _, _, [_, _], _ => rfl
def Qhy := (Cp Qb7 Qh9).getD QF
theorem QmF : Cp Qb7 Qh9 = some Qhy := some_of (by decide +kernel)
abbrev QaC := Dn Qb7 Qhy
abbrev Qe0 := Gc "made_good" 2 QaC Qh9
abbrev QbQ := top 41
theorem Qkt : Sc QbQ ["_law_script", "_law_many"] := scM rfl rfl rfl (by decide +kernel)
theorem Qk1 : Qx "_law_cells" QbQ ["_law_script", "_law_many"] := λ | _, _, _, _, _, _, [_, _], _ => rfl
def QgR := (Cp QbQ Qe0).getD QF
theorem Ql1 : Cp QbQ Qe0 = some QgR := some_of (by decide +kernel)
abbrev QbP := Dn QbQ QgR
abbrev Qen := Gc "_law_cells" 2 QbP Qe0
abbrev Qcf := top 42
theorem QlC : Sc Qcf ["_law_cells_here", "_law_many"] := scM rfl rfl rfl (by decide +kernel)
theorem Qm6 : Qx "_law_base" Qcf ["_law_cells_here", "_law_many"] := λ | _, _, _, _, _, _, [_, _], _ => rfl
def Qhr := (Cp Qcf Qen).getD QF
theorem QmR : Cp Qcf Qen = some Qhr := some_of (by decide +kernel)
abbrev Qcd := Dn Qcf Qhr
abbrev QeY := Gc "_law_base" 2 Qcd Qen
abbrev QbT := top 43
theorem Qkw : Sc QbT ["_law_net_here"] := scM rfl rfl rfl (by decide +kernel)
theorem Qma : Qx "_law_spans" QbT ["_law_net_here"] := λ | _, _, _, _, _, _, [_], _ => rfl
def Qgt := (Cp QbT QeY).getD QF
theorem QlU : Cp QbT QeY = some Qgt := some_of (by decide +kernel)
abbrev QaG := Dn QbT Qgt
abbrev QeI := Gc "_law_spans" 1 QaG QeY
abbrev QcP := top 44
theorem QmM : Sc QcP ["_law_cells_here"] := scM rfl rfl rfl (by decide +kernel)
theorem Qod : Qx "_law_net" QcP ["_law_cells_here"] := λ | _, _, _, _, _, _, [_], _ => rfl
def Qih := (Cp QcP QeI).getD QF
theorem Qoz : Cp QcP QeI = some Qih := some_of (by decide +kernel)
abbrev QcH := Dn QcP Qih
abbrev Qfv := Gc "_law_net" 1 QcH QeI
abbrev Qc3 := top 45
theorem QoI : Sc Qc3 ["_law_found", "_law_due"] := scM rfl rfl rfl (by decide +kernel)
theorem QpE : Qx "_law_is" Qc3 ["_law_found", "_law_due"] := λ | _, _, _, _, _, _, [_, _], _ => rfl
def Qj5 := (Cp Qc3 Qfv).getD QF
theorem Qqy : Cp Qc3 Qfv = some Qj5 := some_of (by decide +kernel)
abbrev Qco := Dn Qc3 Qj5
abbrev QgU := Gc "_law_is" 2 Qco Qfv
abbrev Qaw := top 46
theorem Qf9 : Sc Qaw ["_law_net_here", "_law_full", "_law_counts"] := scM rfl rfl rfl (by decide +kernel)
theorem QgI : Qx "_law_full_behind" Qaw ["_law_net_here", "_law_full", "_law_counts"] := λ | _, _, _, _, _, _, [_, _, _], _ => rfl
def QdS := (Cp Qaw QgU).getD QF
theorem QgS : Cp Qaw QgU = some QdS := some_of (by decide +kernel)
abbrev QU := Dn Qaw QdS
abbrev Qct := Gc "_law_full_behind" 3 QU QgU
abbrev QbI := top 47
theorem QkI : Sc QbI ["_law_net_here", "_law_heap"] := scM rfl rfl rfl (by decide +kernel)
theorem Qmt : Qx "_law_burns" QbI ["_law_net_here", "_law_heap"] := λ | _, _, _, _, _, _, [_, _], _ => rfl
def Qgs := (Cp QbI Qct).getD QF
theorem Ql9 : Cp QbI Qct = some Qgs := some_of (by decide +kernel)
abbrev QaD := Dn QbI Qgs
abbrev QeB := Gc "_law_burns" 2 QaD Qct
abbrev QbR := top 48
theorem Qky : Sc QbR ["_law_cells_here", "_law_many", "_law_most"] := scM rfl rfl rfl (by decide +kernel)
theorem QlN : Qx "_law_moves" QbR ["_law_cells_here", "_law_many", "_law_most"] := λ | _, _, _, _, _, _, [_, _, _], _ => rfl
def QgQ := (Cp QbR QeB).getD QF
theorem Qk7 : Cp QbR QeB = some QgQ := some_of (by decide +kernel)
abbrev QbF := Dn QbR QgQ
abbrev Qeq := Gc "_law_moves" 3 QbF QeB
abbrev QbD := top 49
theorem Qkx : Sc QbD ["_law_net_here", "_law_full", "_law_row", "_law_counts"] := scM rfl rfl rfl (by decide +kernel)
theorem QmC : Qx "_law_lists" QbD ["_law_net_here", "_law_full", "_law_row", "_law_counts"] := λ | _, _, _, _, _, _, [_, _, _, _], _ => rfl
def Qgy := (Cp QbD Qeq).getD QF
theorem Qll : Cp QbD Qeq = some Qgy := some_of (by decide +kernel)
abbrev QbE := Dn QbD Qgy
abbrev Qel := Gc "_law_lists" 4 QbE Qeq
abbrev Qav := top 50
theorem Qf8 : Sc Qav ["_law_net_here", "_law_row"] := scM rfl rfl rfl (by decide +kernel)
theorem Qgl : Qx "_law_lowest_form" Qav ["_law_net_here", "_law_row"] := λ | _, _, _, _, _, _, [_, _], _ => rfl
def QdT := (Cp Qav Qel).getD QF
theorem Qgi : Cp Qav Qel = some QdT := some_of (by decide +kernel)
abbrev Qay := Dn Qav QdT
abbrev Qcx := Gc "_law_lowest_form" 2 Qay Qel
abbrev Qbn := top 51
theorem QjJ : Sc Qbn ["_law_cells_here", "_law_many"] := scM rfl rfl rfl (by decide +kernel)
theorem Qkv : Qx "_law_plenty" Qbn ["_law_cells_here", "_law_many"] := λ | _, _, _, _, _, _, [_, _], _ => rfl
def Qf4 := (Cp Qbn Qcx).getD QF
theorem QkJ : Cp Qbn Qcx = some Qf4 := some_of (by decide +kernel)
abbrev Qbo := Dn Qbn Qf4
abbrev QdW := Gc "_law_plenty" 2 Qbo Qcx
abbrev Qbd := top 52
theorem QiQ : Sc Qbd ["_law_cells_here", "_law_net_here"] := scM rfl rfl rfl (by decide +kernel)
theorem Qjv : Qx "_law_lacking" Qbd ["_law_cells_here", "_law_net_here"] := λ | _, _, _, _, _, _, [_, _], _ => rfl
def Qfp := (Cp Qbd QdW).getD QF
theorem Qjw : Cp Qbd QdW = some Qfp := some_of (by decide +kernel)
abbrev Qbb := Dn Qbd Qfp
abbrev Qdx := Gc "_law_lacking" 2 Qbb QdW
abbrev Qb6 := top 53
theorem QlH : Sc Qb6 ["_law_net_here", "_law_full", "_law_found", "_law_truth"] := scM rfl rfl rfl (by decide +kernel)
theorem Qnc : Qx "_law_told" Qb6 ["_law_net_here", "_law_full", "_law_found", "_law_truth"] := λ | _, _, _, _, _, _, [_, _, _, _], _ => rfl
def Qhz := (Cp Qb6 Qdx).getD QF
theorem QmQ : Cp Qb6 Qdx = some Qhz := some_of (by decide +kernel)
abbrev QaB := Dn Qb6 Qhz
abbrev Qhv := Gc "_law_told" 4 QaB Qdx
abbrev Qhc := top 54
theorem QvX : Sc Qhc ["_law_script"] := scM rfl rfl rfl (by decide +kernel)
theorem QwB : Qx "law" Qhc ["_law_script"] := λ | _, _, _, _, _, _, [_], _ => rfl
def QsU := (Cp Qhc Qhv).getD QF
theorem Qxw : Cp Qhc Qhv = some QsU := some_of (by decide +kernel)
abbrev Qow := Dn Qhc QsU
theorem Qnb : Q5 = Qo 3 (HS.Qfa) := by kernel_rfl
theorem Qlv : QbO = Qo 3 (HS.QeL Q5) := by kernel_rfl
theorem Qug : Qc5 = Qo 4 (HS.Qjq) := by kernel_rfl
theorem QlG : QZ = Qo 5 (HS.QeD Qc5) := by kernel_rfl
theorem QmI : QaQ = Qo 1 (HS.Qe5 QZ) := by kernel_rfl
theorem Quj : QcJ = Qo 6 (HS.QnN Q5 QZ) := by kernel_rfl
theorem Qox : QcD = Qo 1 (HS.Qiu) := by kernel_rfl
theorem Qmv : QbJ = Qo 1 (HS.QeK QcD) := by kernel_rfl
theorem QrT : QbY = Qo 2 (HS.Qlt) := by kernel_rfl
theorem QrE : QdI = Qo 1 (HS.Qly QbY) := by kernel_rfl
theorem Qn3 : Qaq = Qo 1 (HS.QiE) := by kernel_rfl
theorem QqP : Qdv = Qo 5 (HS.QfJ) := by kernel_rfl
theorem Ql8 : QbG = Qo 4 (HS.QgM Qaq) := by kernel_rfl
theorem QmL : Qb5 = Qo 4 (HS.QhG) := by kernel_rfl
theorem Qp3 : Qda = Qo 5 (HS.QeQ QbG Qb5) := by kernel_rfl
theorem QiL : QaW = Qo 2 (HS.QeR Qda) := by kernel_rfl
theorem Qlm : QbS = Qo 6 (HS.Qgg QdI QaW QbY Qdv) := by kernel_rfl
theorem QmY : Qce = Qo 1 (HS.Qht Qaq QZ) := by kernel_rfl
theorem QqE : Qdb = Qo 9 (HS.QgF) := by kernel_rfl
theorem Qua : Qdt = Qo 8 (HS.Qjy QbO QZ Qdb) := by kernel_rfl
theorem QkH : Qbr = Qo 3 (HS.Qf6 Qce QbS) := by kernel_rfl
theorem Qip : QaE = Qo 1 (HS.QeV QaQ) := by kernel_rfl
theorem Qti : Qef = Qo 10 (HS.Qnx Q5 Qbr QcJ QaE Qdt) := by kernel_rfl
theorem QoO : QcO = Qo 1 (HS.Qiy QbJ) := by kernel_rfl
theorem Qr3 : QdD = Qo 5 (HS.Qmh QcO Q5 QaQ Qef Qaq QcJ) := by kernel_rfl
theorem QmZ : QaC = Qo 3 (HS.QhC QdD) := by kernel_rfl
theorem Qmo : QbP = Qo 9 (HS.QeG) := by kernel_rfl
theorem QmE : Qcd = Qo 10 (HS.QdY) := by kernel_rfl
theorem Qk3 : QaG = Qo 4 (HS.Qfg) := by kernel_rfl
theorem Qoq : QcH = Qo 8 (HS.Qdz Qcd) := by kernel_rfl
theorem QqC : Qco = Qo 4 (HS.QhF) := by kernel_rfl
theorem QgD : QU = Qo 6 (HS.QdR) := by kernel_rfl
theorem Qmm : QaD = Qo 8 (HS.QgW) := by kernel_rfl
theorem QlD : QbF = Qo 7 (HS.Qc0) := by kernel_rfl
theorem Qlk : QbE = Qo 4 (HS.Qgf Qco QU) := by kernel_rfl
theorem Qgd : Qay = Qo 5 (HS.QdP QaG QaD) := by kernel_rfl
theorem Qku : Qbo = Qo 3 (HS.Qf3) := by kernel_rfl
theorem QjC : Qbb = Qo 10 (HS.QdE QaG QaD) := by kernel_rfl
theorem QmN : QaB = Qo 4 (HS.QeX QbE Qay) := by kernel_rfl
theorem Qxc : Qow = Qo 14 (HS.Qki QbP QcH Qbo Qbb QbF QU QaC QaB) := by kernel_rfl
end
end Law
namespace HS
open PySem PySem.Spec L2
noncomputable def Qsg (mg : Str -> Option Value) : List Str -> Prop
 | [] => True
 | x :: r => mg x = none /\ Qsg mg r
theorem Qlx {mg : Str -> Option Value} : ∀ {l : List Str}, Qsg mg l -> ∀ x ∈ l, mg x = none
 | [], _, x, h => by simp at h
 | y :: r, h, x, hx => by
  rcases Zr.mp hx with rfl | hx
  ·exact h.1
  ·exact Qlx h.2 x hx
noncomputable def QrV (mg : Str -> Option Value) : List (Str × Int) -> Prop
 | [] => True
 | (x, i) :: r => (∃ t, mg x = some (.int i t)) /\ QrV mg r
theorem Qml {mg : Str -> Option Value} : ∀ {l : List (Str × Int)}, QrV mg l -> ∀ x i, look x l = some i -> ∃ t, mg x = some (.int i t)
 | [], _, x, i, h => by cases h
 | (y, j) :: r, h, x, i, hx => by
  unfold look at hx
  split at hx
  ·rename_i e; cases hx; subst e; exact h.1
  ·exact Qml h.2 x i hx
theorem Qvd {mg : Str -> Option Value} {cs : List (Str × Int)} (b : Qsg mg QlR) (c : QrV mg cs) : Qg1 mg cs := ⟨Qlx b, Qml c⟩
end HS
namespace Law
open HS
theorem QkW : Qek QZ := by rw [QlG, Qug]; exact Qt1
theorem QkN : Qfd Q5 := by rw [Qnb]; exact QuB
theorem QvL : Qjx QbO := by rw [Qlv]; exact QsL QkN
theorem QsC : Qga Qdb := by rw [QqE]; exact QoC
theorem Qv5 : Qjd Qdt := by rw [Qua]; exact Qq3 QvL QkW QsC
theorem Qpa : QgY QcJ := by rw [Quj]; exact QsJ QkN QkW
theorem QpW : QiZ QaQ := by rw [QmI]; exact QtK QkW
theorem QrB : QgE QaE := by rw [Qip]; exact Qok QpW
theorem Qwc : QkO Qaq := by rw [Qn3]; exact Qv3
theorem QtR : QhZ Qce := by rw [QmY]; exact QqM Qwc QkW
theorem QnG : QfF QbY := by rw [QrT]; exact Qqm
theorem Quf : Qh1 QdI := by rw [QrE]; exact QpH QnG
theorem QtY : Qh4 Qdv := by rw [QqP]; exact QpS
theorem Qwg : QjU QbG := by rw [Ql8]; exact Qr8
theorem Qwh : Qjk Qb5 := by rw [QmL]; exact QrH
theorem QrQ : QgH Qda := by rw [Qp3]; exact Qn5 Qwg Qwh
theorem Qpz : QfN QaW := by rw [QiL]; exact QmU QrQ
theorem QtZ : Qid QbS := by rw [Qlm]; exact Qp4 Quf Qpz QnG QtY
theorem QwJ : Qjm Qbr := by rw [QkH]; exact Qrd QtR QtZ
theorem Qvh : Qjr Qef := by rw [Qti]; exact QqV QkN QwJ Qpa QrB Qv5
theorem QvZ : Qjj QcD := by rw [Qox]; exact Qrs
theorem Qvj : Qjc QbJ := by rw [Qmv]; exact Qsf QvZ
theorem Qu3 : Qjn QcO := by rw [QoO]; exact QqT Qvj
theorem QxZ : Qoe QdD := by rw [Qr3]; exact QuR Qu3 QkN QpW Qvh Qwc Qpa
theorem QvC : QjX QaC := by rw [QmZ]; exact QqU QxZ
theorem QuN : CellsOk QbP := by rw [Qmo]; exact Qsw
theorem Qw8 : Qju Qcd := by rw [QmE]; exact Qsm
theorem QxS : QjM QcH := by rw [Qoq]; exact Qq6 Qw8
theorem hIs : Qiw Qco := by rw [QqC]; exact Qxr
theorem Qpu : QfI QaG := by rw [Qk3]; exact Qpd
theorem Qpw : QgZ QaD := by rw [Qmm]; exact QrJ
theorem Qph : Qhi QU := by rw [QgD]; exact QrZ
theorem QuS : QgA QbF := by rw [QlD]; exact QoV
theorem QuM : Qji QbE := by rw [Qlk]; exact Qq4 hIs Qph
theorem Qwz : QlZ Qay := by rw [Qgd]; exact QtF Qpu Qpw
theorem QtG : QhR Qbo := by rw [Qku]; exact Qo1
theorem QwL : QkX Qbb := by rw [QjC]; exact Qtw Qpu Qpw
theorem Qw4 : QhT QaB := by rw [QmN]; exact Qpq QuM Qwz
theorem QvO (ns : List Int) (h : ns.length <= 63) : ∃ fr, Qow [.lst (ns.map .int)] = some (.bl true, fr) := by
 rw [Qxc]
 exact ⟨true, Qv1 QuN QxS QtG QwL QuS Qph QvC Qw4 ns h⟩
end Law
namespace PySem.W.Fast
def tw6955531427058341669 := 0
def tw2917987923587565095 := 0
def tw10385860847260204000 := 0
def tw7314442263793406607 := 0
def tw2771983747835963490 := 0
def tw2875254532760772000 := 0
def tw3177663994249971201 := 0
def tw1841678817158861559 := 0
def tw17967255744225553537 := 0
def tw218728292503513687 := 0
def tw16526197257508510443 := 0
def tw13491887058641216424 := 0
def tw10902793451710233585 := 0
def tw3373222585077969115 := 0
def tw15460596974876917849 := 0
def tw5731354924175057834 := 0
def tw5390740896017580697 := 0
def tw11741112696763997522 := 0
def tw15742335297263261513 := 0
def tw10664158002408783102 := 0
def tw15974703314132828883 := 0
def tw8177660819009730473 := 0
def tw13828514132946883463 := 0
def tw5617141987782295913 := 0
def tw13303265492540044021 := 0
def tw6807901838743147288 := 0
def tw3238469893345791442 := 0
def tw11199278039451464420 := 0
def tw211076922205942512 := 0
def tw10364381600359226109 := 0
def tw832416111002626465 := 0
def tw2590442921064767774 := 0
def tw6691210499446518932 := 0
def tw5947407232415559577 := 0
def tw9380672761814800666 := 0
def tw2466759103148872771 := 0
def tw10000041039267220235 := 0
def tw2400532540589520319 := 0
def tw11583653565205570444 := 0
def tw15750628132632612548 := 0
def tw13197960614867266736 := 0
def tw7216447614610521635 := 0
def tw653618039531546214 := 0
def tw9323141326661658334 := 0
def tw389496752435774211 := 0
def tw3203422786649939424 := 0
def tw8474494152048355602 := 0
def tw10389772214338446618 := 0
def tw12358653934927832227 := 0
def tw10694966408905073917 := 0
def tw13284499514141060509 := 0
def tw12595045618483312753 := 0
def tw17315295509173231349 := 0
def tw6261576391943348322 := 0
def tw6385699675856090731 := 0
def tw11672199369598509976 := 0
def tw4478441591982778695 := 0
def tw13082395217686181285 := 0
def tw13226100708892926780 := 0
def tw17627487844146832589 := 0
def tw13159741570992655510 := 0
def tw12666442994837936858 := 0
def tw4711025442696305385 := 0
def tw15640581498535563288 := 0
def tw6864963404095488742 := 0
def tw13487150799162601636 := 0
def tw12975059135110519007 := 0
def tw12699324623374281656 := 0
def tw15369795710217887934 := 0
def tw8829084071616652926 := 0
def tw15538915358449153891 := 0
def tw15027219167985618160 := 0
def tw13811747595431792007 := 0
def tw7430596132755337098 := 0
def tw12587211511329604797 := 0
def tw3312492249334227312 := 0
def tw12132752202793951028 := 0
def tw12675532772586599934 := 0
def tw15567930157288558868 := 0
def tw2355943274633423733 := 0
def tw15651291760268997872 := 0
def tw9971164661285607542 := 0
def tw5243503367290183081 := 0
def tw17324910012560079627 := 0
def tw2360383523801342807 := 0
def tw603007854951449014 := 0
def tw3640966465501000934 := 0
def tw17842683168107382186 := 0
def tw2948921772111462913 := 0
def tw15542823497407433094 := 0
def tw9802611359680232557 := 0
def tw14447791538680779047 := 0
def tw18206077486174020463 := 0
def tw15751064654579439206 := 0
def tw13963244089499638853 := 0
def tw17426830942156569595 := 0
def tw7661218330874093140 := 0
def tw16626196400557616833 := 0
def tw3141728576026205886 := 0
def tw17183941891296126458 := 0
def tw16015213456702724546 := 0
def tw5429761888421950128 := 0
def tw13577748953995996558 := 0
def tw13031604547795606159 := 0
def tw7271159757124183072 := 0
def tw17396995789418740856 := 0
def tw11098082539909963223 := 0
def tw12127597559539291385 := 0
def tw15744295091959152181 := 0
def tw15706812264225003721 := 0
def tw18020850703780113851 := 0
def tw2211522064611818509 := 0
def tw17163295457364783433 := 0
def tw2533538321857602401 := 0
def tw16126025756006597950 := 0
def tw15892712829960116094 := 0
def tw13930635519250931361 := 0
end PySem.W.Fast
open PySem PySem.W PyProof.Rows HS
set_option maxRecDepth 100000 in
set_option maxHeartbeats 0 in
theorem PySem.Challenge.cw_heapstill_k63_whole_made_good_holds : PySem.Challenge.rw_heapstill_k63_whole_made_good.Holds := by
 w_on; o_law; k_head; (case hw => w_witness2)
 k_fill
 refine HS.Qsy (l := PySem.Challenge.rw_heapstill_k63_whole_made_good) (k := 40) (x := "_law_script") (den := Law.Qow) rfl rfl ⟨rfl, by decide, by decide⟩ (λ w h Y => PySem.W.kIn_of Y) Law.QvO ?F
 case F =>
  intro w mg fa h KX G hmg
  obtain ⟨f_need_rows, f_need_heaps, f_steps, f_toll_table, f_span_list, f_after, f_is_plain, f_need_plain, f_column, f_turned, f_opposite, f_common, f_with_pivot, f_taken_off, f_cleared, f_cleared_whole, f_shared_out, f_net_table, f_settled, f_still, f_near_counts, f_doubled_spans, f_again, f_with_pit, f_lowest, f_made_good, f__law_cells, f__law_base, f__law_spans, f__law_net, f__law_is, f__law_full_behind, f__law_burns, f__law_moves, f__law_lists, f__law_lowest_form, f__law_plenty, f__law_lacking, f__law_told, f_law⟩ : HS.Fact (L2.KOf KX) "need_rows" Law.Qb9 /\ HS.Fact (L2.KOf KX) "need_heaps" Law.QbH /\ HS.Fact (L2.KOf KX) "steps" Law.Qec /\ HS.Fact (L2.KOf KX) "toll_table" Law.Qby /\ HS.Fact (L2.KOf KX) "span_list" Law.Qca /\ HS.Fact (L2.KOf KX) "after" Law.Qea /\ HS.Fact (L2.KOf KX) "is_plain" Law.QcC /\ HS.Fact (L2.KOf KX) "need_plain" Law.QbL /\ HS.Fact (L2.KOf KX) "column" Law.QdF /\ HS.Fact (L2.KOf KX) "turned" Law.QdL /\ HS.Fact (L2.KOf KX) "opposite" Law.QcM /\ HS.Fact (L2.KOf KX) "common" Law.QdB /\ HS.Fact (L2.KOf KX) "with_pivot" Law.Qbz /\ HS.Fact (L2.KOf KX) "taken_off" Law.Qcc /\ HS.Fact (L2.KOf KX) "cleared" Law.Qc6 /\ HS.Fact (L2.KOf KX) "cleared_whole" Law.QaX /\ HS.Fact (L2.KOf KX) "shared_out" Law.QbB /\ HS.Fact (L2.KOf KX) "net_table" Law.Qb8 /\ HS.Fact (L2.KOf KX) "settled" Law.Qdc /\ HS.Fact (L2.KOf KX) "still" Law.Qeg /\ HS.Fact (L2.KOf KX) "near_counts" Law.Qbq /\ HS.Fact (L2.KOf KX) "doubled_spans" Law.QaV /\ HS.Fact (L2.KOf KX) "again" Law.s_again /\ HS.Fact (L2.KOf KX) "with_pit" Law.QcN /\ HS.Fact (L2.KOf KX) "lowest" Law.QdH /\ HS.Fact (L2.KOf KX) "made_good" Law.Qb7 /\ HS.Fact (L2.KOf KX) "_law_cells" Law.QbQ /\ HS.Fact (L2.KOf KX) "_law_base" Law.Qcf /\ HS.Fact (L2.KOf KX) "_law_spans" Law.QbT /\ HS.Fact (L2.KOf KX) "_law_net" Law.QcP /\ HS.Fact (L2.KOf KX) "_law_is" Law.Qc3 /\ HS.Fact (L2.KOf KX) "_law_full_behind" Law.Qaw /\ HS.Fact (L2.KOf KX) "_law_burns" Law.QbI /\ HS.Fact (L2.KOf KX) "_law_moves" Law.QbR /\ HS.Fact (L2.KOf KX) "_law_lists" Law.QbD /\ HS.Fact (L2.KOf KX) "_law_lowest_form" Law.Qav /\ HS.Fact (L2.KOf KX) "_law_plenty" Law.Qbn /\ HS.Fact (L2.KOf KX) "_law_lacking" Law.Qbd /\ HS.Fact (L2.KOf KX) "_law_told" Law.Qb6 /\ HS.Fact (L2.KOf KX) "law" Law.Qhc := by
   refine ⟨?_, ?_, ?_, ?_, ?_, ?_, ?_, ?_, ?_, ?_, ?_, ?_, ?_, ?_, ?_, ?_, ?_, ?_, ?_, ?_, ?_, ?_, ?_, ?_, ?_, ?_, ?_, ?_, ?_, ?_, ?_, ?_, ?_, ?_, ?_, ?_, ?_, ?_, ?_, ?_⟩ <;> (dsimp only [L2.KOf]; refine' HS.fact_mk ?a ?l ?c ?k; (case a => k_is); (case l => k_is); (case c => k_is); (case k => k_is))
  have M : HS.Qg1 mg Law.cst := by
   obtain ⟨n_range, n_enumerate, n_zip, n_len, n_list, n_min, n_max, n_sum, n_abs, n_isinstance, n_int, n_bool, n_tuple, n_str, n_divmod, n_sorted, n_any, n_all⟩ : PySem.W.nsIn (L2.KOf KX) mainGlobals "range" = some none /\ PySem.W.nsIn (L2.KOf KX) mainGlobals "enumerate" = some none /\ PySem.W.nsIn (L2.KOf KX) mainGlobals "zip" = some none /\ PySem.W.nsIn (L2.KOf KX) mainGlobals "len" = some none /\ PySem.W.nsIn (L2.KOf KX) mainGlobals "list" = some none /\ PySem.W.nsIn (L2.KOf KX) mainGlobals "min" = some none /\ PySem.W.nsIn (L2.KOf KX) mainGlobals "max" = some none /\ PySem.W.nsIn (L2.KOf KX) mainGlobals "sum" = some none /\ PySem.W.nsIn (L2.KOf KX) mainGlobals "abs" = some none /\ PySem.W.nsIn (L2.KOf KX) mainGlobals "isinstance" = some none /\ PySem.W.nsIn (L2.KOf KX) mainGlobals "int" = some none /\ PySem.W.nsIn (L2.KOf KX) mainGlobals "bool" = some none /\ PySem.W.nsIn (L2.KOf KX) mainGlobals "tuple" = some none /\ PySem.W.nsIn (L2.KOf KX) mainGlobals "str" = some none /\ PySem.W.nsIn (L2.KOf KX) mainGlobals "divmod" = some none /\ PySem.W.nsIn (L2.KOf KX) mainGlobals "sorted" = some none /\ PySem.W.nsIn (L2.KOf KX) mainGlobals "any" = some none /\ PySem.W.nsIn (L2.KOf KX) mainGlobals "all" = some none := by refine ⟨?_, ?_, ?_, ?_, ?_, ?_, ?_, ?_, ?_, ?_, ?_, ?_, ?_, ?_, ?_, ?_, ?_, ?_⟩ <;> (dsimp only [L2.KOf]; k_is)
   exact HS.Qvd ⟨PySem.W.mg_none_of KX G n_range, PySem.W.mg_none_of KX G n_enumerate, PySem.W.mg_none_of KX G n_zip, PySem.W.mg_none_of KX G n_len, PySem.W.mg_none_of KX G n_list, PySem.W.mg_none_of KX G n_min, PySem.W.mg_none_of KX G n_max, PySem.W.mg_none_of KX G n_sum, PySem.W.mg_none_of KX G n_abs, PySem.W.mg_none_of KX G n_isinstance, PySem.W.mg_none_of KX G n_int, PySem.W.mg_none_of KX G n_bool, PySem.W.mg_none_of KX G n_tuple, PySem.W.mg_none_of KX G n_str, PySem.W.mg_none_of KX G n_divmod, PySem.W.mg_none_of KX G n_sorted, PySem.W.mg_none_of KX G n_any, PySem.W.mg_none_of KX G n_all, True.intro⟩ True.intro
  have t0 : ∀ base : Heap, HS.Qdm (PySem.Challenge.rw_heapstill_k63_whole_made_good).prog w (L2.KOf KX) mg base 0 [] := λ _ => HS.Qdm.nil
  have t_need_rows := λ b => (t0 b).cons (HS.QA KX G f_need_rows Law.QlW Law.Qm7 M (t0 b) Law.QmP)
  have t_need_heaps := λ b => (t_need_rows b).cons (HS.QA KX G f_need_heaps Law.QkG Law.Ql7 M (t_need_rows b) Law.Qln)
  have t_steps := λ b => (t_need_heaps b).cons (HS.QA KX G f_steps Law.Qrn Law.Qtz M (t_need_heaps b) Law.QtU)
  have t_toll_table := λ b => (t_steps b).cons (HS.QA KX G f_toll_table Law.QkD Law.Qk5 M (t_steps b) Law.QlV)
  have t_span_list := λ b => (t_toll_table b).cons (HS.QA KX G f_span_list Law.Qlp Law.Qm0 M (t_toll_table b) Law.QmT)
  have t_after := λ b => (t_span_list b).cons (HS.QA KX G f_after Law.Qrk Law.Quu M (t_span_list b) Law.Qs7)
  have t_is_plain := λ b => (t_after b).cons (HS.QA KX G f_is_plain Law.Qna Law.Qob M (t_after b) Law.Qn9)
  have t_need_plain := λ b => (t_is_plain b).cons (HS.QA KX G f_need_plain Law.QkA Law.QlF M (t_is_plain b) Law.Qme)
  have t_column := λ b => (t_need_plain b).cons (HS.QA KX G f_column Law.QpM Law.QrX M (t_need_plain b) Law.QrU)
  have t_turned := λ b => (t_column b).cons (HS.QA KX G f_turned Law.Qpt Law.Qso M (t_column b) Law.Qrw)
  have t_opposite := λ b => (t_turned b).cons (HS.QA KX G f_opposite Law.Qm3 Law.Qol M (t_turned b) Law.QoA)
  have t_common := λ b => (t_opposite b).cons (HS.QA KX G f_common Law.Qqs Law.QrK M (t_opposite b) Law.QsB)
  have t_with_pivot := λ b => (t_common b).cons (HS.QA KX G f_with_pivot Law.QkE Law.QlB M (t_common b) Law.Qlb)
  have t_taken_off := λ b => (t_with_pivot b).cons (HS.QA KX G f_taken_off Law.Qk9 Law.QmJ M (t_with_pivot b) Law.QmH)
  have t_cleared := λ b => (t_taken_off b).cons (HS.QA KX G f_cleared Law.Qop Law.QpJ M (t_taken_off b) Law.Qqa)
  have t_cleared_whole := λ b => (t_cleared b).cons (HS.QA KX G f_cleared_whole Law.Qia Law.QiK M (t_cleared b) Law.QiX)
  have t_shared_out := λ b => (t_cleared_whole b).cons (HS.QA KX G f_shared_out Law.Qkz Law.Qlu M (t_cleared_whole b) Law.Ql4)
  have t_net_table := λ b => (t_shared_out b).cons (HS.QA KX G f_net_table Law.Qlr Law.Qm8 M (t_shared_out b) Law.QmV)
  have t_settled := λ b => (t_net_table b).cons (HS.QA KX G f_settled Law.Qn7 Law.Qo3 M (t_net_table b) Law.Qqj)
  have t_still := λ b => (t_settled b).cons (HS.QA KX G f_still Law.QrF Law.Qta M (t_settled b) Law.Qup)
  have t_near_counts := λ b => (t_still b).cons (HS.QA KX G f_near_counts Law.QjV Law.QkC M (t_still b) Law.QkF)
  have t_doubled_spans := λ b => (t_near_counts b).cons (HS.QA KX G f_doubled_spans Law.QhX Law.Qif M (t_near_counts b) Law.QiP)
  have t_again := λ b => (t_doubled_spans b).cons (HS.QA KX G f_again Law.QsI Law.Qtm M (t_doubled_spans b) Law.QtV)
  have t_with_pit := λ b => (t_again b).cons (HS.QA KX G f_with_pit Law.QmO Law.Qom M (t_again b) Law.QoU)
  have t_lowest := λ b => (t_with_pit b).cons (HS.QA KX G f_lowest Law.Qp9 Law.Qrx M (t_with_pit b) Law.QrA)
  have t_made_good := λ b => (t_lowest b).cons (HS.QA KX G f_made_good Law.Qmw Law.QmK M (t_lowest b) Law.QmF)
  have t__law_cells := λ b => (t_made_good b).cons (HS.QA KX G f__law_cells Law.Qkt Law.Qk1 M (t_made_good b) Law.Ql1)
  have t__law_base := λ b => (t__law_cells b).cons (HS.QA KX G f__law_base Law.QlC Law.Qm6 M (t__law_cells b) Law.QmR)
  have t__law_spans := λ b => (t__law_base b).cons (HS.QA KX G f__law_spans Law.Qkw Law.Qma M (t__law_base b) Law.QlU)
  have t__law_net := λ b => (t__law_spans b).cons (HS.QA KX G f__law_net Law.QmM Law.Qod M (t__law_spans b) Law.Qoz)
  have t__law_is := λ b => (t__law_net b).cons (HS.QA KX G f__law_is Law.QoI Law.QpE M (t__law_net b) Law.Qqy)
  have t__law_full_behind := λ b => (t__law_is b).cons (HS.QA KX G f__law_full_behind Law.Qf9 Law.QgI M (t__law_is b) Law.QgS)
  have t__law_burns := λ b => (t__law_full_behind b).cons (HS.QA KX G f__law_burns Law.QkI Law.Qmt M (t__law_full_behind b) Law.Ql9)
  have t__law_moves := λ b => (t__law_burns b).cons (HS.QA KX G f__law_moves Law.Qky Law.QlN M (t__law_burns b) Law.Qk7)
  have t__law_lists := λ b => (t__law_moves b).cons (HS.QA KX G f__law_lists Law.Qkx Law.QmC M (t__law_moves b) Law.Qll)
  have t__law_lowest_form := λ b => (t__law_lists b).cons (HS.QA KX G f__law_lowest_form Law.Qf8 Law.Qgl M (t__law_lists b) Law.Qgi)
  have t__law_plenty := λ b => (t__law_lowest_form b).cons (HS.QA KX G f__law_plenty Law.QjJ Law.Qkv M (t__law_lowest_form b) Law.QkJ)
  have t__law_lacking := λ b => (t__law_plenty b).cons (HS.QA KX G f__law_lacking Law.QiQ Law.Qjv M (t__law_plenty b) Law.Qjw)
  have t__law_told := λ b => (t__law_lacking b).cons (HS.QA KX G f__law_told Law.QlH Law.Qnc M (t__law_lacking b) Law.QmQ)
  exact HS.QwT KX G hmg f_law Law.QvX Law.QwB M (λ base => t__law_told base) Law.Qxw
