import PyProof.Rows.All
import Wide.All
import OpenK.AllK
import Wide.FinOn
import Lean
import PyProof.EqAt
import PyProof.EqKinds
import PyProof.TupleCall
import PyProof.ZipIter
import PyProof.EnumMake
import PyProof.Rows.FactsT2
import PyProof.Rows.EnumRows
import PyProof.P3In
import PyProof.NeData
import PyProof.Rows.SumAny
import PyProof.Rows.MinMaxN
import PyProof.Rows.ListRangeD
import PyProof.Rows.Range3
import PyProof.Rows.RuleM_int
import PyProof.Rows.SortShell
import PySem.Challenge.RW_heapstill_k42_whole_alike_or_parted
set_option Elab.async false
set_option linter.all false
set_option maxRecDepth 100000
def Za := @Option.bind_some
def Zb := @Option.map_eq_some_iff
def Zc := @List.mem_append_right
def Zd := @List.getElem?_eq_some_iff
def Ze := @List.mem_cons_of_mem
def Zf := @Bool.and_eq_true
def Zg := @List.getElem?_set_ne
def Zh := @List.mem_append_left
def Zi := @Nat.le_refl
def Zj := @List.length_map
def Zk := @List.size_toArray
def Zl := @List.length_append
def Zm := @List.getElem?_map
def Zn := @List.mem_cons_self
def Zo := @List.lookup_cons
def Zp := @PySem.Heap.get?_push_of_some
def Zq := @Nat.lt_of_lt_of_le
def Zr := @List.getElem?_eq_none
def Zs := @List.getElem?_set_self
def Zt := @PySem.Heap.lt_size
def Zu := @Nat.le_trans
def Zv := @List.mem_singleton
def Zw := @List.mem_cons
def Zx := @List.length_range
def Zy := @List.mem_append
def Zz := @List.mem_range
def ZA := @List.map_cons
def ZC := @Int.emod_lt_of_pos
def ZD := @List.length_cons
def ZE := @PySem.Heap.get?_push_size
def ZF := @List.getElem?_range
def ZG := @List.mem_of_getElem?
def ZH := @Int.emod_nonneg
def ZI := @List.count_eq_zero
def ZJ := @Int.mul_comm
def ZK := @Int.mul_assoc
def ZL := @Nat.ne_of_lt
def ZM := @List.getElem?_eq_getElem
def ZN := @PyProof.Rows.callWith_type1
def ZO := @List.map_congr_left
def ZP := @Nat.lt_irrefl
def ZQ := @List.mem_map
def ZR := @List.take_of_length_le
def ZS := @PySem.mem_of_lookup
def ZT := @List.replicate_succ
def ZU := @Int.zero_mul
def ZV := @Int.mul_zero
def ZW := @Nat.zero_le
def ZX := @Option.map_some
def ZY := @List.getElem?_append_left
def ZZ := @Classical.byContradiction
def Zaa := @List.flatten_cons
def Zab := @List.count_append
def Zac := @List.nodup_nil
def Zad := @List.map_map
def Zae := @Bool.false_ne_true
def Zaf := @List.length_take
def Zag := @Int.add_mul
def Zah := @List.getD_eq_getElem?_getD
def Zai := @List.mem_filter
def Zaj := @Nat.min_eq_left
def Zak := @List.drop_eq_getElem_cons
def Zal := @List.count_pos_iff
def Zam := @List.sum_cons
def Zan := @List.nodup_iff_count
def Zao := @Bool.not_eq_true'
def Zap := @PySem.F.plainAttrs_list
def Zaq := @List.length_drop
def Zar := @List.all_eq_true
def Zas := @Nat.lt_of_le_of_lt
def Zat := @List.take_append_drop
def Zau := @List.set_eq_take_append_cons_drop
def Zav := @Int.eq_of_mul_eq_mul_left
def Zaw := @List.nodup_cons
def Zax := @List.map_append
def Zay := @List.count_cons
def Zaz := @Int.toNat_natCast
def ZaA := @List.append_assoc
def ZaB := @Nat.pow_le_pow_right
def ZaC := @Int.mul_neg
def ZaD := @List.eraseIdx_cons_succ
def ZaE := @Int.mul_nonneg
def ZaF := @Int.neg_mul
def ZaG := @PySem.W.kia_one
def ZaH := @List.map_take
def ZaI := @List.length_singleton
def ZaJ := @Int.natAbs_dvd_natAbs
def ZaK := @List.ext_getElem?
def ZaL := @Int.mul_one
def ZaM := @PySem.Heap.size_push
def ZaN := @List.getElem?_append_right
def ZaO := @Int.one_mul
def ZaP := @Int.natAbs_mul
def ZaQ := @List.append_nil
def ZaR := @List.length_set
def ZaS := @List.nil_append
def ZaT := @List.mem_filterMap
def ZaU := @Int.le_refl
def ZaV := @Nat.lt_succ_of_lt
def ZaW := @List.nodup_append
def ZaX := @List.drop_zero
def ZaY := @List.range_succ_eq_map
def ZaZ := @List.contains_iff_mem
def Zba := @Nat.lt_succ_self
def Zbb := @List.cons_append
def Zbc := @List.mem_flatten
def Zbd := @Nat.min_le_right
def Zbe := @Int.mul_le_mul_of_nonneg_right
def Zbf := @Nat.le_succ
def Zbg := @Nat.add_le_add_right
def Zbh := @List.eq_nil_of_length_eq_zero
def Zbi := @Int.mul_add
def Zbj := @Int.mul_le_mul_of_nonneg_left
def Zbk := @Int.ediv_nonneg
def Zbl := @Int.natCast_add
def Zbm := @List.filterMap_cons
def Zbn := @List.take_succ_cons
def Zbo := @List.sum_append_int
def Zbp := @Nat.sub_zero
def Zbq := @Int.add_zero
def Zbr := @List.nodup_iff_pairwise_ne
def Zbs := @Nat.add_sub_cancel
def Zbt := @List.getElem?_eq_none_iff
def Zbu := @Int.mul_left_comm
def Zbv := @Int.neg_neg
def Zbw := @Option.isSome_iff_exists
def Zbx := @PyProof.noPylong_of_log2
def Zby := @PySem.F.slot_list_append
def Zbz := @PySem.F.type_list_append
def ZbA := @List.map_drop
def ZbB := @Nat.le_of_dvd
def ZbC := @List.getElem?_replicate
def ZbD := @List.foldlM_cons
def ZbE := @List.take_length
def ZbF := @Int.dvd_mul_of_dvd_left
def ZbG := @PySem.W.cellsFrom_some
def ZbH := @PyProof.Rows.boot_list
def ZbI := @List.append_eq_nil_iff
def ZbJ := @List.drop_of_length_le
def ZbK := @Int.zero_sub
def ZbL := @Int.fmod_nonneg_of_pos
def ZbM := @List.of_mem_zip
def ZbN := @Nat.log2_lt
def ZbO := @Nat.mul_le_mul
def ZbP := @PySem.W.mg_of
def ZbQ := @Bool.and_true
namespace L2
open PySem PySem.Spec PyProof.Rows
noncomputable abbrev Key := Sum Int Str
noncomputable def Qpz : Key -> Value -> Bool
 | .inl k, v => Value.isInt k v
 | .inr x, v => Value.isStrOf x v
noncomputable def QtW (w : World) : Key -> Int
 | .inl k => hashInt k
 | .inr x => hashStr w x
theorem Qaz : ∀ {k : Key} {v : Value}, Qpz k v = true -> (∃ i t, k = Sum.inl i /\ v = Value.int i t) ∨ (∃ x t, k = Sum.inr x /\ v = Value.str x t)
 | .inl i, v, h => by
  obtain ⟨t, e⟩ := Value.isInt_shape (k := i) (v := v) h
  exact .inl ⟨i, t, rfl, e⟩
 | .inr x, v, h => by
  obtain ⟨t, e⟩ := Value.isStrOf_shape (x := x) (v := v) h
  exact .inr ⟨x, t, rfl, e⟩
theorem QsE (a b : Int) : decide ((Sum.inl a : Key) = Sum.inl b) = (a == b) := by
 by_cases e : a = b
 ·subst e; simp
 ·have h : ¬ (Sum.inl a : Key) = Sum.inl b := λ q => e (Sum.inl.inj q)
  rw [decide_eq_false h]
  exact (beq_eq_false_iff_ne.mpr e).symm
theorem Qrl (a b : Str) : decide ((Sum.inr a : Key) = Sum.inr b) = decide (a = b) := by
 by_cases e : a = b
 ·subst e; simp
 ·have h : ¬ (Sum.inr a : Key) = Sum.inr b := λ q => e (Sum.inr.inj q)
  rw [decide_eq_false h, decide_eq_false e]
theorem Qsz (a : Int) (b : Str) : decide ((Sum.inl a : Key) = Sum.inr b) = false := decide_eq_false (λ q => nomatch q)
theorem Qry (a : Str) (b : Int) : decide ((Sum.inr a : Key) = Sum.inl b) = false := decide_eq_false (λ q => nomatch q)
noncomputable def QhD (prog : Program) (w : World) : PySem.KeyKind prog w Key where
 is := Qpz
 hash := QtW w
 inj := λ v a b ha hb => by
  rcases Qaz ha with ⟨i, t, rfl, rfl⟩ | ⟨x, t, rfl, rfl⟩
  ·rcases Qaz hb with ⟨j, u, rfl, e⟩ | ⟨y, u, rfl, e⟩
   ·injection e with e1 _; rw [e1]
   ·exact nomatch e
  ·rcases Qaz hb with ⟨j, u, rfl, e⟩ | ⟨y, u, rfl, e⟩
   ·exact nomatch e
   ·injection e with e1 _; rw [e1]
 byValue := λ k v h => by
  rcases Qaz h with ⟨i, t, rfl, rfl⟩ | ⟨x, t, rfl, rfl⟩ <;> rfl
 pyHash := λ hv h => by
  rcases Qaz hv with ⟨i, t, rfl, rfl⟩ | ⟨x, t, rfl, rfl⟩
  ·exact wpAny_pyHash_int h
  ·exact wpAny_pyHash_str h
 eqBool := λ hu hv h => by
  rcases Qaz hu with ⟨i, t, rfl, rfl⟩ | ⟨x, t, rfl, rfl⟩
  ·rcases Qaz hv with ⟨j, u, rfl, rfl⟩ | ⟨y, u, rfl, rfl⟩
   ·rw [QsE] at h; exact wpAny_eqBool_int h
   ·rw [Qsz] at h; exact SeqAt.EqAt.int_str i t y u _ _ _ _ h
  ·rcases Qaz hv with ⟨j, u, rfl, rfl⟩ | ⟨y, u, rfl, rfl⟩
   ·rw [Qry] at h; exact SeqAt.EqAt.str_int x t j u _ _ _ _ h
   ·rw [Qrl] at h; exact wpAny_eqBool_str h
 «strs» := λ k x t v h => by
  rcases Qaz h with ⟨i, u, rfl, e⟩ | ⟨y, u, rfl, e⟩
  ·exact nomatch e
  ·injection e with e1 _
   subst e1
   cases v <;> rfl
end L2
namespace L2
open PySem PySem.Spec PyProof.Rows
inductive V where
 | non | bl (b : Bool) | int (i : Int) | str (x : Str) | byt (b : Array UInt8) | flt (b : UInt64) | ref (a : Addr) | ty (n : String)
 deriving DecidableEq
noncomputable def RelV : V -> Value -> Prop
 | .non, u => u = Value.none
 | .bl b, u => u = Value.bool b
 | .int i, u => ∃ t, u = Value.int i t
 | .str x, u => ∃ t, u = Value.str x t
 | .byt b, u => ∃ t, u = Value.bytes b t
 | .flt b, u => ∃ t, u = Value.float b t
 | .ref a, u => u = Value.ref a
 | .ty n, u => u = Value.type n
noncomputable abbrev Qt : List V -> List Value -> Prop := Paired RelV
theorem Qt.length {xs : List V} {us : List Value} (r : Qt xs us) : xs.length = us.length := Paired.length r
theorem Qt.get : ∀ {xs : List V} {us : List Value} {i : Nat} {x : V}, Qt xs us -> xs[i]? = some x -> ∃ u, us[i]? = some u /\ RelV x u
 | _, _, _, _, .nil, e => by simp at e
 | _, _, 0, _, .cons r _, e => by simp at e; subst e; exact ⟨_, rfl, r⟩
 | _, _, i + 1, x, .cons _ t, e => by
  obtain ⟨u, h1, h2⟩ := Qt.get (i := i) (x := x) t (by simpa using e)
  exact ⟨u, by simpa using h1, h2⟩
theorem Qt.set {x : V} {u : Value} (r : RelV x u) : ∀ {xs : List V} {us : List Value} (i : Nat), Qt xs us -> Qt (xs.set i x) (us.set i u)
 | _, _, _, .nil => .nil
 | _, _, 0, .cons _ t => .cons r t
 | _, _, i + 1, .cons q t => .cons q (Qt.set r i t)
theorem Qt.append : ∀ {xs ys : List V} {us ws : List Value}, Qt xs us -> Qt ys ws -> Qt (xs ++ ys) (us ++ ws)
 | _, _, _, _, .nil, s => s
 | _, _, _, _, .cons r t, s => .cons r (Qt.append t s)
theorem Qt.take : ∀ {xs : List V} {us : List Value} (n : Nat), Qt xs us -> Qt (xs.take n) (us.take n)
 | _, _, 0, _ => .nil
 | _, _, _ + 1, .nil => .nil
 | _, _, n + 1, .cons r t => .cons r (Qt.take n t)
theorem Qt.drop : ∀ {xs : List V} {us : List Value} (n : Nat), Qt xs us -> Qt (xs.drop n) (us.drop n)
 | _, _, 0, r => r
 | _, _, _ + 1, .nil => .nil
 | _, _, n + 1, .cons _ t => Qt.drop n t
theorem Qt.none_of : ∀ {xs : List V} {us : List Value} {i : Nat}, Qt xs us -> xs[i]? = none -> us[i]? = none := λ {xs us i} r e => by
 have h1 := r.length
 have h2 : xs.length <= i := Zbt.mp e
 exact Zbt.mpr (by omega)
noncomputable def Qh1 : Option V -> Option Value -> Prop
 | some v, some u => RelV v u
 | none, none => True
 | _, _ => False
noncomputable def KV {κ : Type} : List (κ × V) -> List (κ × Value) -> Prop := Paired λ (p : κ × V) (q : κ × Value) => p.1 = q.1 /\ RelV p.2 q.2
noncomputable def kV : Key -> V
 | .inl i => .int i
 | .inr x => .str x
inductive HO where
 | lst (xs : List V)
 | tup (xs : List V)
 | dK (kvs : List (Key × V)) | dT (kvs : List (List Key × V))
 | set (S : Int -> Bool) (n : Nat)
 | ins (C dx : Addr) (fs : List (Str × V))
 | own (x : Addr)
 | xd (fs : List (Str × V))
 | met (f x : Addr)
 | rng (lo hi : Int)
 | frz (o : Obj) (u : HO)
 | tbl (ps : Array Value)
 | ext (φ : Heap -> Prop)
noncomputable abbrev Hp := Addr -> Option HO
noncomputable def upd (H : Hp) (a : Addr) (o : HO) : Hp := λ b => if b = a then some o else H b
theorem Qaj {H : Hp} {a : Addr} {o : HO} : upd H a o a = some o := by unfold upd; rw [if_pos rfl]
theorem QP {H : Hp} {a b : Addr} {o : HO} (h : b ≠ a) : upd H a o b = H b := by unfold upd; rw [if_neg h]
theorem Ql0 {H : Hp} {a b : Addr} {o u : HO} (h : H a = some o) (h' : H b = some u) (d : o ≠ u) : a ≠ b := by
 intro e; subst e; rw [h] at h'; exact d (Option.some.inj h')
theorem Qba {H : Hp} {a b : Addr} {o : HO} (h : H a = some o) (h' : H b = none) : a ≠ b := by
 intro e; subst e; rw [h] at h'; cases h'
section
variable (P : Program) (w : World)
noncomputable def Qb9 (H : Hp) (h : Heap) (a : Addr) : HO -> Prop
 | .lst xs => xs.length <= sizeLine /\ ∃ (its : List Value) (n : Nat), Qt xs its /\ h.get? a = some { cls := .type "list", data := .seq its.toArray n }
 | .tup xs => xs.length <= sizeLine /\ ∃ its : List Value, Qt xs its /\ IsTup h a its.toArray
 | .dK kvs => kvs.length <= sizeLine /\ (a == sysModules) = false /\ ∃ vs, KV kvs vs /\ h.DictOf (QhD P w) a vs
 | .dT kvs => kvs.length <= sizeLine /\ (a == sysModules) = false /\ ∃ xs : List (List Key × Addr × Value),
   Paired (λ (p : List Key × V) (q : List Key × Addr × Value) => p.1 = q.1 /\ H q.2.1 = some (.tup (p.1.map kV)) /\ RelV p.2 q.2.2) kvs xs ∧
   ∃ o es ep, h.get? a = some o /\ o.ExactDict /\ o.data = .dict es ep /\ es.toList = xs.map (entryOfKey (tupleKind (QhD P w))) /\ (xs.map (·.1)).Nodup
 | .set S n => h.SetOf (intKind P w) a S n
 | .ins C dx fs => H dx = some (.own a) /\ fs.length <= 1000 /\ dx ≠ a /\ h.get? a = some (PySem.W.instObj C dx) ∧
   ∃ mA, h.Ns1 dx mA /\ (∀ f, Qh1 (fs.lookup f) (mA f)) /\ PySem.Within mA (fs.map (·.1))
 | .own _ => ∃ o, h.get? a = some o
 | .xd fs => ∃ mA, h.Ns1 a mA /\ ∀ f, Qh1 (fs.lookup f) (mA f)
 | .rng lo hi => ∃ t u v, h.get? a = some { cls := .type "range", data := .fields #[.int lo t, .int hi u, .int 1 v] }
 | .frz o u => h.get? a = some o /\ Qb9 H h a u
 | .tbl ps => h.get? a = some { cls := .none, data := .fields ps }
 | .met f x => h.get? a = some (PySem.W.methodObj (.ref f) (.ref x))
 | .ext φ => φ h /\ (∃ o, h.get? a = some o) /\ ∀ h1 h2 : Heap, φ h1 -> (∀ o, h1.get? a = some o -> h2.get? a = some o) -> φ h2
def HOk (H : Hp) (h : Heap) : Prop := ∀ a o, H a = some o -> Qb9 P w H h a o
end
section
variable {P : Program} {w : World} {H H' : Hp} {h h' : Heap} {a : Addr} {o : HO}
theorem Qb9.lt (x : Qb9 P w H h a o) : a < h.objs.size := by
 cases o with
 | lst xs => obtain ⟨_, _, _, _, e⟩ := x; exact Zt e
 | tup xs => obtain ⟨_, _, _, p⟩ := x; exact p.lt
 | dK kvs => obtain ⟨_, _, _, _, o, _, _, e, _⟩ := x; exact Zt e
 | dT kvs => obtain ⟨_, _, _, _, o, _, _, e, _⟩ := x; exact Zt e
 | set S n => obtain ⟨o, _, _, _, e, _⟩ := x; exact Zt e
 | ins C dx fs => obtain ⟨_, _, _, e, _⟩ := x; exact Zt e
 | own y => obtain ⟨_, e⟩ := x; exact Zt e
 | xd fs => obtain ⟨_, ⟨_, _, _, e, _⟩, _⟩ := x; exact Zt e
 | rng lo hi => obtain ⟨_, _, _, e⟩ := x; exact Zt e
 | frz ob u => obtain ⟨e, _⟩ := x; exact Zt e
 | tbl ps => exact Zt (show h.get? a = some _ from x)
 | met f y => exact Zt (show h.get? a = some _ from x)
 | ext φ => obtain ⟨_, ⟨_, e⟩, _⟩ := x; exact Zt e
theorem Paired.QrD {α β : Type} {F G : α -> β -> Prop} : ∀ {l₁ : List α} {l₂ : List β}, Paired F l₁ l₂ -> (∀ a b, F a b -> G a b) -> Paired G l₁ l₂
 | _, _, .nil, _ => .nil
 | _, _, .cons r t, f => .cons (f _ _ r) (Paired.QrD t f)
theorem Qb9.QgL (x : Qb9 P w H h a o) (k : ∀ b u, (b = a ∨ H b = some (.own a)) -> h.get? b = some u -> h'.get? b = some u)
  (ho : ∀ b, H b = some (.own a) -> H' b = some (.own a)) (ht : ∀ b xs, H b = some (.tup xs) -> H' b = some (.tup xs)) : Qb9 P w H' h' a o := by
 induction o with
 | lst xs => obtain ⟨z, its, n, r, e⟩ := x; exact ⟨z, its, n, r, k _ _ (.inl rfl) e⟩
 | tup xs => obtain ⟨z, its, r, ob, e, c⟩ := x; exact ⟨z, its, r, ob, k _ _ (.inl rfl) e, c⟩
 | dK kvs => obtain ⟨z, y, vs, r, ob, es, ep, e, c⟩ := x; exact ⟨z, y, vs, r, ob, es, ep, k _ _ (.inl rfl) e, c⟩
 | dT kvs =>
  obtain ⟨z, y, xs, r, ob, es, ep, e, c⟩ := x
  exact ⟨z, y, xs, Paired.QrD r λ p q z => ⟨z.1, ht _ _ z.2.1, z.2.2⟩, ob, es, ep, k _ _ (.inl rfl) e, c⟩
 | set S n => obtain ⟨ob, es, ep, t, e, c⟩ := x; exact ⟨ob, es, ep, t, k _ _ (.inl rfl) e, c⟩
 | ins C dx fs =>
  obtain ⟨d, z, ne, e, mA, ⟨od, es, ep, e2, c⟩, r⟩ := x
  exact ⟨ho _ d, z, ne, k _ _ (.inl rfl) e, mA, ⟨od, es, ep, k _ _ (.inr d) e2, c⟩, r⟩
 | own y => obtain ⟨ob, e⟩ := x; exact ⟨ob, k _ _ (.inl rfl) e⟩
 | xd fs => obtain ⟨mA, ⟨od, es, ep, e, c⟩, r⟩ := x; exact ⟨mA, ⟨od, es, ep, k _ _ (.inl rfl) e, c⟩, r⟩
 | rng lo hi => obtain ⟨t, u, v, e⟩ := x; exact ⟨t, u, v, k _ _ (.inl rfl) e⟩
 | frz ob u ih => obtain ⟨e, q⟩ := x; exact ⟨k _ _ (.inl rfl) e, ih q⟩
 | tbl ps =>
  have e : h.get? a = some { cls := .none, data := .fields ps } := x
  show h'.get? a = some { cls := .none, data := .fields ps }
  exact k a _ (.inl rfl) e
 | met f y =>
  have e : h.get? a = some (PySem.W.methodObj (.ref f) (.ref y)) := x
  show h'.get? a = some (PySem.W.methodObj (.ref f) (.ref y))
  exact k a _ (.inl rfl) e
 | ext φ => obtain ⟨p, ⟨o, e⟩, st⟩ := x; exact ⟨st _ _ p λ o q => k _ _ (.inl rfl) q, ⟨o, k _ _ (.inl rfl) e⟩, st⟩
theorem HOk.lt (x : HOk P w H h) (e : H a = some o) : a < h.objs.size := (x a o e).lt
theorem HOk.fresh (x : HOk P w H h) (e : h.objs.size <= a) : H a = none := by
 cases q : H a with
 | none => rfl
 | some u => exact absurd (Zq (x.lt q) e) (ZP _)
theorem HOk.kept (x : HOk P w H h) (k : ∀ b u, h.get? b = some u -> h'.get? b = some u) : HOk P w H h' := λ a o e =>
 (x a o e).QgL (λ b u _ q => k b u q) (λ _ q => q) λ _ _ q => q
theorem HOk.laid (x : HOk P w H h) (k : ∀ b u, h.get? b = some u -> h'.get? b = some u) (hp : h.objs.size <= a) (new : Qb9 P w (upd H a o) h' a o) : HOk P w (upd H a o) h' := λ b u e => by
 have hn := x.fresh hp
 by_cases hb : b = a
 ·subst hb; rw [Qaj] at e; cases e; exact new
 ·rw [QP hb] at e
  exact (x b u e).QgL (λ c v _ q => k c v q) (λ c q => by rw [QP (Qba q hn)]; exact q) λ c xs q => by rw [QP (Qba q hn)]; exact q
end
def Rd (H : Hp) (a : Addr) (u : HO) : Prop := H a = some u ∨ ∃ o, H a = some (.frz o u)
theorem Rd.of {H : Hp} {a : Addr} {u : HO} (h : H a = some u) : Rd H a u := .inl h
theorem Rd.ok {P : Program} {w : World} {H : Hp} {h : Heap} {a : Addr} {u : HO} (r : Rd H a u) (x : HOk P w H h) : Qb9 P w H h a u := by
 rcases r with r | ⟨o, r⟩
 ·exact x a u r
 ·obtain ⟨_, q⟩ := x a _ r
  exact q
noncomputable def Mut : Option HO -> Prop
 | some (.lst _) => True
 | some (.dK _) => True
 | some (.dT _) => True
 | some (.set _ _) => True
 | some (.ins _ _ _) => True
 | some (.ext _) => True
 | _ => False
section
variable {P : Program} {w : World} {H : Hp} {h h' : Heap} {x e : Addr} {o' : HO}
theorem HOk.write (ok : HOk P w H h) (mu : Mut (H x)) (he : e = x ∨ H e = some (.own x)) (k : ∀ b u, b ≠ e -> h.get? b = some u -> h'.get? b = some u) (heo : ∃ u, h'.get? e = some u)
  (new : Qb9 P w (upd H x o') h' x o') : HOk P w (upd H x o') h' := λ b u q => by
 have nown : ∀ c y, H c = some (.own y) -> c ≠ x := λ c y r z => by subst z; rw [r] at mu; exact mu
 have ntup : ∀ c xs, H c = some (.tup xs) -> c ≠ x := λ c xs r z => by subst z; rw [r] at mu; exact mu
 by_cases hb : b = x
 ·subst hb; rw [Qaj] at q; cases q; exact new
 ·rw [QP hb] at q
  by_cases hbe : b = e
  ·have q' : H b = some (.own x) := by
    rcases he with z | z
    ·exact absurd (hbe.trans z) hb
    ·rw [hbe]; exact z
   rw [q] at q'; cases q'
   obtain ⟨v, hv⟩ := heo
   exact ⟨v, by rw [hbe]; exact hv⟩
  ·refine (ok b u q).QgL (λ c v hc r => k c v ?_ r) (λ c r => by rw [QP (nown c b r)]; exact r) λ c xs r => by rw [QP (ntup c xs r)]; exact r
   rcases hc with rfl | hc
   ·exact hbe
   ·rintro rfl
    rcases he with z | z
    ·exact nown c b hc z
    ·rw [hc] at z; cases z; exact hb rfl
end
structure Un (fs ex : List Addr) (H H' : Hp) (h h' : Heap) : Prop where
 keep : ∀ b o, h.get? b = some o -> H b = none -> b ∉ fs -> b ∉ ex -> h'.get? b = some o
 slot : ∀ b o, h.get? b = some o -> H b = none -> b ∈ fs -> b ∉ ex -> ∃ sl, h'.get? b = some { o with slots := sl }
 free : ∀ b o, h.get? b = some o -> H b = none -> b ∉ ex -> H' b = none
 there : ∀ b o, h.get? b = some o -> b ∉ ex -> ∃ o', h'.get? b = some o'
 tups : ∀ b xs, H b = some (.tup xs) -> H' b = some (.tup xs)
 frzs : ∀ b o u, H b = some (.frz o u) -> H' b = some (.frz o u)
 tbls : ∀ b ps, H b = some (.tbl ps) -> ∃ more, H' b = some (.tbl (ps ++ more))
section
variable {fs fs' ex ex' : List Addr} {H H1 H2 : Hp} {h h1 h2 h' : Heap} {a x e : Addr} {o : HO}
theorem Un.any (u : Un fs ex H H1 h h1) {b : Addr} {ob : Obj} (q : h.get? b = some ob) (n : H b = none) (hx : b ∉ ex) : ∃ sl, h1.get? b = some { ob with slots := sl } := by
 by_cases hb : b ∈ fs
 ·exact u.slot b ob q n hb hx
 ·exact ⟨ob.slots, u.keep b ob q n hb hx⟩
theorem Un.trans (a : Un fs ex H H1 h h1) (b : Un fs ex H1 H2 h1 h2) : Un fs ex H H2 h h2 where
 keep := λ c ob q n hc hx => b.keep c ob (a.keep c ob q n hc hx) (a.free c ob q n hx) hc hx
 slot := λ c ob q n hc hx => by
  obtain ⟨sl, e1⟩ := a.slot c ob q n hc hx
  obtain ⟨sl', e2⟩ := b.slot c _ e1 (a.free c ob q n hx) hc hx
  exact ⟨sl', e2⟩
 free := λ c ob q n hx => by
  obtain ⟨o', e1⟩ := a.there c ob q hx
  exact b.free c o' e1 (a.free c ob q n hx) hx
 there := λ c ob q hx => by
  obtain ⟨o', e1⟩ := a.there c ob q hx
  exact b.there c o' e1 hx
 tups := λ c xs q => b.tups c xs (a.tups c xs q)
 frzs := λ c ob xs q => b.frzs c ob xs (a.frzs c ob xs q)
 tbls := λ c ps q => by
  obtain ⟨m1, e1⟩ := a.tbls c ps q
  obtain ⟨m2, e2⟩ := b.tbls c _ e1
  exact ⟨m1 ++ m2, by rw [e2, Array.append_assoc]⟩
theorem Un.kept (k : ∀ b u, h.get? b = some u -> h'.get? b = some u) : Un fs ex H H h h' :=
 ⟨λ b ob q _ _ _ => k b ob q, λ b ob q _ _ _ => ⟨ob.slots, k b ob q⟩, λ _ _ _ n _ => n, λ b ob q _ => ⟨ob, k b ob q⟩, λ _ _ q => q, λ _ _ _ q => q, λ _ ps q => ⟨#[], by rw [q]; simp⟩⟩
theorem Un.refl : Un fs ex H H h h := Un.kept λ _ _ q => q
theorem Un.laid (k : ∀ b u, h.get? b = some u -> h'.get? b = some u) (hp : h.objs.size <= a) (hn : H a = none) : Un fs ex H (upd H a o) h h' where
 keep := λ b u q _ _ _ => k b u q
 slot := λ b u q _ _ _ => ⟨u.slots, k b u q⟩
 free := λ b u q n _ => by rw [QP (ZL (Zq (Zt q) hp))]; exact n
 there := λ b u q _ => ⟨u, k b u q⟩
 tups := λ b xs q => by rw [QP (Qba q hn)]; exact q
 frzs := λ b u xs q => by rw [QP (Qba q hn)]; exact q
 tbls := λ b ps q => ⟨#[], by rw [QP (Qba q hn), q]; simp⟩
theorem Un.write (mu : Mut (H x)) (he : e = x ∨ H e = some (.own x)) (k : ∀ b u, b ≠ e -> h.get? b = some u -> h'.get? b = some u) (heo : ∃ u, h'.get? e = some u) : Un fs ex H (upd H x o) h h' := by
 have hx : ∀ b, H b = none -> b ≠ x := λ b n z => by subst z; rw [n] at mu; exact mu
 have hb : ∀ b, H b = none -> b ≠ e := λ b n z => by
  subst z
  rcases he with r | r
  ·exact hx b n r
  ·rw [n] at r; cases r
 have hm : ∀ b u, H b = some u -> ¬ Mut (some u) -> b ≠ x := λ b u q nm z => by subst z; rw [q] at mu; exact nm mu
 refine ⟨λ b u q n _ _ => k b u (hb b n) q, λ b u q n _ _ => ⟨u.slots, k b u (hb b n) q⟩, λ b u q n _ => by rw [QP (hx b n)]; exact n, λ b u q _ => ?_,
  λ b xs q => by rw [QP (hm b _ q λ z => z)]; exact q, λ b u xs q => by rw [QP (hm b _ q λ z => z)]; exact q, λ b ps q => ⟨#[], by rw [QP (hm b _ q λ z => z), q]; simp⟩⟩
 by_cases hbe : b = e
 ·subst hbe; exact heo
 ·exact ⟨u, k b u hbe q⟩
theorem Un.mono (u : Un fs ex H H1 h h1) (hs : ∀ b ∈ fs, b ∈ fs') (hx : ∀ b ∈ ex, b ∈ ex') : Un fs' ex' H H1 h h1 :=
 ⟨λ b ob q n hb he => u.keep b ob q n (λ z => hb (hs b z)) λ z => he (hx b z), λ _ _ q n _ he => u.any q n λ z => he (hx _ z), λ b ob q n he => u.free b ob q n λ z => he (hx b z), λ b ob q he => u.there b ob q λ z => he (hx b z), u.tups, u.frzs, u.tbls⟩
end
noncomputable def trk (h : Heap) (H : Hp) : List Addr := (List.range h.objs.size).filter λ a => (H a).isSome
noncomputable def Qfa (h : Heap) (H : Hp) : Heap := PySem.W.hideAll h (trk h H)
theorem QmT (h : Heap) (H : Hp) : (Qfa h H).objs.size = h.objs.size := PySem.W.hideAll_size _ _
theorem Qoz {h : Heap} {H : Hp} {b : Addr} {o : Obj} (e : h.get? b = some o) (n : H b = none) : (Qfa h H).get? b = some o :=
 PySem.W.hideAll_get _ e λ hm => by
  have q : (H b).isSome = true := (Zai.mp hm).2
  rw [n] at q; simp at q
theorem QpU {h : Heap} {H : Hp} {b : Addr} {o : Obj} (e : (Qfa h H).get? b = some o) : h.get? b = some o /\ H b = none := by
 have e' : h.get? b = some o := PySem.W.of_hideAll (trk h H) e
 refine ⟨e', ?_⟩
 cases q : H b with
 | none => rfl
 | some x =>
  have hm : b ∈ trk h H := Zai.mpr ⟨Zz.mpr (Zt e'), by simp [q]⟩
  have z : (Qfa h H).get? b = none := PySem.W.hideAll_none (trk h H) hm
  rw [z] at e; cases e
noncomputable def QqB (g h : Heap) (L : Addr) : List (Addr × Obj) := (List.range h.objs.size).filterMap λ a => if a = L ∨ (g.get? a).isSome = true then none else (h.get? a).map λ o => (a, o)
noncomputable def rest (g h : Heap) (L d : Addr) : List (Addr × Obj) := (QqB g h L).filter λ p => decide (p.1 ≠ d)
end L2
namespace L2
open PySem PySem.Spec PyProof.Rows
structure Mod (K : PySem.W.Frag) (mg : Str -> Option Value) (base : Heap) : Prop where
 kin : K.In base
 glob : base.Ns mainGlobals mg
 blt : ∃ mb, base.Ns builtinsNs mb /\ ∀ x : Str, x ≠ "__name__" -> mb x = bootBuiltins x
 nolimit : base.NoLimit
structure Cx where
 prog : Program
 w : World
 K : PySem.W.Frag
 mg : Str -> Option Value
 base : Heap
 A : Around
 N : List Str
 s₀ : Shared
 H₀ : Hp
 env : Env
 outer : List Env
 stack : List Env
 ex : List Addr
 fn : Str -> Bool
 calm : Bool
 pn : List (Addr × Obj)
 xe : Value -> Shared -> Prop
noncomputable def frs (l : List Env) : List Addr := l.filterMap (·.frame)
noncomputable abbrev Cx.fs (X : Cx) : List Addr := frs X.outer
def Vis (sc : Scope) (x : Str) : Prop := sc.names.lookup x = some .local ∨ sc.names.lookup x = some .cell ∨ sc.names.lookup x = some .free
def Loc (sc : Scope) (x : Str) : Prop := sc.names.lookup x = some .local ∨ sc.names.lookup x = some .cell
def Look (env : Env) (h : Heap) (m : Str -> Option Value) (x : Str) (u : Value) : Prop :=
 (env.kindOf x = some .local /\ m x = some u) ∨ ((env.kindOf x = some .cell ∨ env.kindOf x = some .free) /\ ∃ c, env.cells.lookup x = some c /\ h.IsCell c (some u))
structure Cx.Ok (X : Cx) : Prop where
 mod : Mod X.K X.mg X.base
 kind : X.env.scope.kind = .function
 glob : X.env.globals = mainGlobals
 blt : X.env.builtins = builtinsNs
 above : X.s₀.heap.objs.size <= X.env.locals
 inj : ∀ x y c, X.env.cells.lookup x = some c -> X.env.cells.lookup y = some c -> x = y
 has : ∀ x, (X.env.kindOf x = some .cell ∨ X.env.kindOf x = some .free) -> ∃ c, X.env.cells.lookup x = some c
 cab : ∀ x c, X.fn x = true -> X.env.cells.lookup x = some c -> X.s₀.heap.objs.size <= c
 hd : X.calm = true -> X.A.handled = none
 frames : X.A.frames = some X.stack
 stk : X.stack = X.outer ∨ (X.stack = X.env :: X.outer /\ X.env.frame = some X.env.locals)
 exf : ∀ b ∈ X.ex, b ≠ X.env.locals /\ ∀ x c, X.env.cells.lookup x = some c -> c ≠ b
 bs : ∀ b o, X.base.get? b = some o -> X.s₀.heap.get? b = some o /\ X.H₀ b = none
 bsz : X.base.objs.size <= X.s₀.heap.objs.size
 noex : ∀ b o, X.base.get? b = some o -> b ∉ X.ex
 exfs : ∀ b ∈ X.ex, b ∉ X.fs
 Qc6 : X.s₀.heap.FunFrames X.base X.outer
 frf : ∀ b ∈ X.fs, X.H₀ b = none
structure Inv (X : Cx) (pins : List (Addr × Obj)) (σ : List (Option V)) (H : Hp) (s : Shared) : Prop where
 ok : X.Ok
 os : s.os = X.s₀.os
 bare : AllBare s.gens
 base : Un X.fs X.ex X.H₀ H X.s₀.heap s.heap
 loc : ∃ m, s.heap.Ns X.env.locals m /\ ∀ (i : Nat) (x : Str) (v : V), X.N[i]? = some x -> σ[i]? = some (some v) -> Vis X.env.scope x -> ∃ u, RelV v u /\ Look X.env s.heap m x u
 cell : ∀ x c, X.env.cells.lookup x = some c -> ∃ v, s.heap.IsCell c v
 free : H X.env.locals = none
 freeC : ∀ x c, X.env.cells.lookup x = some c -> H c = none
 pin : ∀ p ∈ X.pn ++ pins, s.heap.get? p.1 = some p.2 /\ H p.1 = none /\ p.1 ≠ X.env.locals /\ p.1 ∉ X.fs /\ ∀ v, p.2.data ≠ .cell v
 hok : HOk X.prog X.w H s.heap
 len : σ.length = X.N.length
section
variable {X : Cx} {pins : List (Addr × Obj)} {σ : List (Option V)} {H H' : Hp} {s : Shared} {h' : Heap}
theorem Cx.Ok.QtP (ok : X.Ok) {b : Addr} {o : Obj} (e : X.base.get? b = some o) : b ∉ X.fs := λ hb => by
 have := (ok.Qc6.mem hb).1
 rw [e] at this; cases this
theorem Inv.bs (I : Inv X pins σ H s) : ∀ b o, X.base.get? b = some o -> s.heap.get? b = some o /\ H b = none := λ b o e =>
 ⟨I.base.keep b o (I.ok.bs b o e).1 (I.ok.bs b o e).2 (I.ok.QtP e) (I.ok.noex b o e), I.base.free b o (I.ok.bs b o e).1 (I.ok.bs b o e).2 (I.ok.noex b o e)⟩
theorem Inv.bk (I : Inv X pins σ H s) : ∀ b o, X.base.get? b = some o -> s.heap.get? b = some o := λ b o e => (I.bs b o e).1
theorem Inv.mod (I : Inv X pins σ H s) : Mod X.K X.mg X.base := I.ok.mod
theorem Inv.kIn (I : Inv X pins σ H s) : X.K.In s.heap := I.ok.mod.kin.keeps I.bk
theorem Inv.nolimit (I : Inv X pins σ H s) : s.heap.NoLimit := I.ok.mod.nolimit.keeps I.bk
theorem Inv.fr (I : Inv X pins σ H s) : ∃ m, Fr X.base X.env.locals s.heap m :=
 let ⟨m, hn, _⟩ := I.loc
 ⟨m, hn, I.bk, Zu I.ok.bsz I.ok.above⟩
theorem Inv.lt (I : Inv X pins σ H s) : X.env.locals < s.heap.objs.size := let ⟨_, hn, _⟩ := I.loc; hn.lt
theorem Inv.sz (I : Inv X pins σ H s) : X.s₀.heap.objs.size <= s.heap.objs.size := Zu I.ok.above (Nat.le_of_lt I.lt)
theorem Inv.Qt5 (I : Inv X pins σ H s) {a : Addr} (h : s.heap.objs.size <= a) : a ∉ X.fs := λ hb => by
 obtain ⟨_, o, ho, _⟩ := I.ok.Qc6.mem hb
 exact absurd (Zq (Zt ho) (Zu I.sz h)) (ZP _)
theorem Inv.cne (I : Inv X pins σ H s) : ∀ x c, X.env.cells.lookup x = some c -> c ≠ X.env.locals := λ x c e z => by
 obtain ⟨v, o, ho, hd⟩ := I.cell x c e
 obtain ⟨m, ⟨o', es, ep, ho', hd', _⟩, _⟩ := I.loc
 rw [z, ho'] at ho; cases ho; rw [hd'] at hd; cases hd
theorem Inv.Qc6 (I : Inv X pins σ H s) : s.heap.FunFrames X.base X.outer := by
 have all : ∀ (l : List Env), (∀ b ∈ frs l, b ∈ X.fs) -> X.s₀.heap.FunFrames X.base l -> s.heap.FunFrames X.base l := by
  intro l
  induction l with
  | nil => intro _ _; trivial
  | cons env r ih =>
   intro hs hl
   obtain ⟨hk, ⟨L, o, hf, hn, ho, hd⟩, hr⟩ := hl
   have hL : L ∈ X.fs := hs L (by unfold frs; rw [Zbm, hf]; exact Zn)
   obtain ⟨sl, e⟩ := I.base.slot L o ho (I.ok.frf L hL) hL λ z => I.ok.exfs L z hL
   exact ⟨hk, ⟨L, _, hf, hn, e, hd⟩, ih (λ b hb => hs b (by unfold frs; rw [Zbm, hf]; exact Ze _ hb)) hr⟩
 exact all X.outer (λ _ hb => hb) I.ok.Qc6
theorem Inv.stack (I : Inv X pins σ H s) : s.heap.FunFrames X.base X.stack := by
 rcases I.ok.stk with e | ⟨e, hf⟩
 ·rw [e]; exact I.Qc6
 ·rw [e]
  obtain ⟨m, hn, _⟩ := I.loc
  refine .cons (by rw [I.ok.kind]; decide) hf hn ?_ I.Qc6
  exact Heap.get?_none_of_le (Zu I.ok.bsz I.ok.above)
theorem Inv.QhB (I : Inv X pins σ H s) : ∀ b ∈ frs X.stack, b ∈ X.env.locals :: X.fs := λ b hb => by
 rcases I.ok.stk with e | ⟨e, hf⟩
 ·rw [e] at hb; exact Ze _ hb
 ·rw [e] at hb
  unfold frs at hb
  rw [Zbm, hf] at hb
  exact hb
theorem Inv.Qli (I : Inv X pins σ H s) : ∀ b ∈ frs X.stack, H b = none := λ b hb => by
 rcases Zw.mp (I.QhB b hb) with e | hb
 ·rw [e]; exact I.free
 ·obtain ⟨_, o, ho, _⟩ := I.ok.Qc6.mem hb
  exact I.base.free b o ho (I.ok.frf b hb) λ z => I.ok.exfs b z hb
theorem Inv.step {g' : Array GenState} {t' : Nat} {d' : Drawn} {ch : List Addr} (I : Inv X pins σ H s)
  (hch : ∀ b ∈ ch, (b ∈ X.ex ∨ X.s₀.heap.objs.size <= b) /\ b ≠ X.env.locals /\ (∀ x c, X.env.cells.lookup x = some c -> c ≠ b) /\ ∀ p ∈ X.pn ++ pins, p.1 ≠ b)
  (keep : ∀ b o, b ≠ X.env.locals -> b ∉ X.fs -> b ∉ ch -> s.heap.get? b = some o -> H b = none -> h'.get? b = some o)
  (slot : ∀ b o, b ≠ X.env.locals -> b ∈ X.fs -> b ∉ ch -> s.heap.get? b = some o -> H b = none -> ∃ sl, h'.get? b = some { o with slots := sl }) (free : ∀ b o, b ∉ ch -> s.heap.get? b = some o -> H b = none -> H' b = none)
  (there : ∀ b o, b ∉ ch -> s.heap.get? b = some o -> ∃ o', h'.get? b = some o')
  (tups : ∀ b xs, H b = some (.tup xs) -> H' b = some (.tup xs)) (frzs : ∀ b o u, H b = some (.frz o u) -> H' b = some (.frz o u)) (tbls : ∀ b ps, H b = some (.tbl ps) -> ∃ more, H' b = some (.tbl (ps ++ more)))
  (ns : ∀ m, s.heap.Ns X.env.locals m -> h'.Ns X.env.locals m) (hok : HOk X.prog X.w H' h') (hg : AllBare g') :
  Inv X pins σ H' { s with heap := h', gens := g', drawn := d', toks := t' } := by
 have neL : ∀ b o, X.s₀.heap.get? b = some o -> b ≠ X.env.locals := λ b o e => ZL (Zq (Zt e) I.ok.above)
 have neC : ∀ b o, X.s₀.heap.get? b = some o -> b ∉ X.ex -> b ∉ ch := λ b o e hx hb => by
  rcases (hch b hb).1 with z | z
  ·exact hx z
  ·exact absurd (Zq (Zt e) z) (ZP _)
 have cellK : ∀ x c, X.env.cells.lookup x = some c -> ∀ v, s.heap.IsCell c v -> h'.IsCell c v := λ x c e v ⟨o, ho, hd⟩ => by
  have nch : c ∉ ch := λ z => (hch c z).2.2.1 x c e rfl
  by_cases hc : c ∈ X.fs
  ·obtain ⟨sl, q⟩ := slot c o (I.cne x c e) hc nch ho (I.freeC x c e)
   exact ⟨_, q, hd⟩
  ·exact ⟨o, keep c o (I.cne x c e) hc nch ho (I.freeC x c e), hd⟩
 refine ⟨I.ok, I.os, hg, ⟨λ b o e n hb hx => ?_, λ b o e n hb hx => ?_, λ b o e n hx => ?_, λ b o e hx => ?_, λ b xs e => tups b xs (I.base.tups b xs e), λ b o xs e => frzs b o xs (I.base.frzs b o xs e), λ b ps e => ?_⟩, ?_, λ x c e => ?_, ?_, λ x c e => ?_, λ p hp => ?_, hok, I.len⟩
 ·exact keep b o (neL b o e) hb (neC b o e hx) (I.base.keep b o e n hb hx) (I.base.free b o e n hx)
 ·obtain ⟨sl, e1⟩ := I.base.slot b o e n hb hx
  obtain ⟨sl', e2⟩ := slot b _ (neL b o e) hb (neC b o e hx) e1 (I.base.free b o e n hx)
  exact ⟨sl', e2⟩
 ·obtain ⟨o', e1⟩ := I.base.there b o e hx
  exact free b o' (neC b o e hx) e1 (I.base.free b o e n hx)
 ·obtain ⟨o', e1⟩ := I.base.there b o e hx
  exact there b o' (neC b o e hx) e1
 ·obtain ⟨m1, e1⟩ := I.base.tbls b ps e
  obtain ⟨m2, e2⟩ := tbls b _ e1
  exact ⟨m1 ++ m2, by rw [e2, Array.append_assoc]⟩
 ·obtain ⟨m, hn, hl⟩ := I.loc
  refine ⟨m, ns m hn, λ i x v e1 e2 e3 => ?_⟩
  obtain ⟨u, r, l⟩ := hl i x v e1 e2 e3
  refine ⟨u, r, ?_⟩
  rcases l with l | ⟨k, c, e, z⟩
  ·exact .inl l
  ·exact .inr ⟨k, c, e, cellK x c e _ z⟩
 ·obtain ⟨v, z⟩ := I.cell x c e
  exact ⟨v, cellK x c e v z⟩
 ·obtain ⟨m, ⟨o, _, _, ho, _⟩, _⟩ := I.loc
  exact free _ o (λ z => (hch _ z).2.1 rfl) ho I.free
 ·obtain ⟨v, o, ho, hd⟩ := I.cell x c e
  exact free c o (λ z => (hch c z).2.2.1 x c e rfl) ho (I.freeC x c e)
 ·obtain ⟨e, n, ne, nf, d⟩ := I.pin p hp
  have nch : p.1 ∉ ch := λ z => (hch p.1 z).2.2.2 p hp rfl
  exact ⟨keep p.1 p.2 ne nf nch e n, free p.1 p.2 nch e n, ne, nf, d⟩
theorem Inv.un {t' : Nat} (I : Inv X pins σ H s) (u : Un X.fs [] H H' s.heap h') (hok : HOk X.prog X.w H' h') : Inv X pins σ H' { s with heap := h', toks := t' } := by
 obtain ⟨m, ⟨o, es, ep, ho, r⟩, _⟩ := id I.loc
 obtain ⟨sl, hL⟩ := u.any ho I.free (by simp)
 exact I.step (g' := s.gens) (d' := s.drawn) (ch := []) (λ _ z => nomatch z) (λ b o _ hb _ e n => u.keep b o e n hb (by simp)) (λ b o _ hb _ e n => u.slot b o e n hb (by simp)) (λ b o _ e n => u.free b o e n (by simp)) (λ b o _ e => u.there b o e (by simp)) u.tups u.frzs u.tbls (λ m' hm => by
  obtain ⟨o', es', ep', ho', r'⟩ := hm
  rw [ho] at ho'; cases ho'
  exact ⟨_, es', ep', hL, r'⟩) hok I.bare
theorem Inv.call {g' : Array GenState} {t' : Nat} {d' : Drawn} {ch : List Addr} (I : Inv X pins σ H s) (u : Un (frs X.stack) ch H H' s.heap h') (hok : HOk X.prog X.w H' h') (hg : AllBare g')
  (hch : ∀ b ∈ ch, (b ∈ X.ex ∨ X.s₀.heap.objs.size <= b) /\ b ≠ X.env.locals /\ (∀ x c, X.env.cells.lookup x = some c -> c ≠ b) /\ ∀ p ∈ X.pn ++ pins, p.1 ≠ b) :
  Inv X pins σ H' { s with heap := h', gens := g', drawn := d', toks := t' } := by
 obtain ⟨m, ⟨o, es, ep, ho, r⟩, _⟩ := id I.loc
 obtain ⟨sl, hL⟩ := u.any ho I.free λ z => (hch _ z).2.1 rfl
 exact I.step (ch := ch) hch (λ b o hL hb hc e n => u.keep b o e n (λ z => (Zw.mp (I.QhB b z)).elim hL hb) hc) (λ b o _ _ hc e n => u.any e n hc) (λ b o hc e n => u.free b o e n hc) (λ b o hc e => u.there b o e hc) u.tups u.frzs u.tbls (λ m' hm => by
  obtain ⟨o', es', ep', ho', r'⟩ := hm
  rw [ho] at ho'; cases ho'
  exact ⟨_, es', ep', hL, r'⟩) hok hg
theorem Inv.turned {t' : Nat} {it : Addr} (I : Inv X pins σ H s) (k : ∀ b o, b ≠ it -> s.heap.get? b = some o -> h'.get? b = some o) (hn : H it = none) (hL : it ≠ X.env.locals)
  (h1 : it ∈ X.ex ∨ X.s₀.heap.objs.size <= it) (h2 : ∀ x c, X.env.cells.lookup x = some c -> c ≠ it) (h3 : ∀ p ∈ X.pn ++ pins, p.1 ≠ it) : Inv X pins σ H { s with heap := h', toks := t' } := by
 have nit : ∀ b u, H b = some u -> b ≠ it := λ b u e z => by rw [z, hn] at e; cases e
 refine I.step (g' := s.gens) (d' := s.drawn) (ch := [it]) (λ b hb => ?_) (λ b o _ _ hc e _ => k b o (λ z => hc (by simp [z])) e) (λ b o _ _ hc e _ => ⟨o.slots, k b o (λ z => hc (by simp [z])) e⟩) (λ _ _ _ _ n => n)
  (λ b o hc e => ⟨o, k b o (λ z => hc (by simp [z])) e⟩) (λ _ _ e => e) (λ _ _ _ e => e) (λ b ps e => ⟨#[], by rw [e]; simp⟩) (λ m hm => ?_) (λ b u e => ?_) I.bare
 ·have e : b = it := by simpa using hb
  subst e
  exact ⟨h1, hL, h2, h3⟩
 ·obtain ⟨o, es, ep, ho, r⟩ := hm
  exact ⟨o, es, ep, k _ o (Ne.symm hL) ho, r⟩
 ·refine (I.hok b u e).QgL (λ c v hc q => k c v ?_ q) (λ _ q => q) λ _ _ q => q
  rcases hc with z | z
  ·rw [z]; exact nit b u e
  ·exact nit c _ z
theorem Inv.tok (I : Inv X pins σ H s) (t : Nat) : Inv X pins σ H { s with toks := t } := I.un (h' := s.heap) (t' := t) Un.refl I.hok
theorem Inv.kept {t' : Nat} (I : Inv X pins σ H s) (k : ∀ b u, s.heap.get? b = some u -> h'.get? b = some u) : Inv X pins σ H { s with heap := h', toks := t' } := I.un (Un.kept k) (I.hok.kept k)
theorem Inv.laid {a : Addr} {o : HO} {t' : Nat} (I : Inv X pins σ H s) (k : ∀ b u, s.heap.get? b = some u -> h'.get? b = some u) (hp : s.heap.objs.size <= a) (new : Qb9 X.prog X.w (upd H a o) h' a o) :
  Inv X pins σ (upd H a o) { s with heap := h', toks := t' } := I.un (Un.laid k hp (I.hok.fresh hp)) (I.hok.laid k hp new)
theorem Inv.write {x e : Addr} {o : HO} {t' : Nat} (I : Inv X pins σ H s) (mu : Mut (H x)) (he : e = x ∨ H e = some (.own x)) (k : ∀ b u, b ≠ e -> s.heap.get? b = some u -> h'.get? b = some u) (heo : ∃ u, h'.get? e = some u)
  (new : Qb9 X.prog X.w (upd H x o) h' x o) : Inv X pins σ (upd H x o) { s with heap := h', toks := t' } := I.un (Un.write mu he k heo) (I.hok.write mu he k heo new)
theorem Inv.weak {σ' : List (Option V)} (I : Inv X pins σ H s) (hl : σ'.length = σ.length) (w : ∀ (i : Nat) v, σ'[i]? = some (some v) -> σ[i]? = some (some v)) : Inv X pins σ' H s :=
 ⟨I.ok, I.os, I.bare, I.base, let ⟨m, hn, hl'⟩ := I.loc; ⟨m, hn, λ i x v e1 e2 e3 => hl' i x v e1 (w i v e2) e3⟩, I.cell, I.free, I.freeC, I.pin, I.hok, hl.trans I.len⟩
theorem Inv.Qlp {pins' : List (Addr × Obj)} (I : Inv X pins σ H s) (h : ∀ p ∈ pins', s.heap.get? p.1 = some p.2 /\ H p.1 = none /\ p.1 ≠ X.env.locals /\ p.1 ∉ X.fs /\ ∀ v, p.2.data ≠ .cell v) : Inv X pins' σ H s :=
 ⟨I.ok, I.os, I.bare, I.base, I.loc, I.cell, I.free, I.freeC, λ p hp => (Zy.mp hp).elim (λ z => I.pin p (Zh _ z)) (h p), I.hok, I.len⟩
theorem Qjz {N : List Str} (hN : N.Nodup) {i j : Nat} {x : Str} (a : N[i]? = some x) (b : N[j]? = some x) : i = j := by
 obtain ⟨h1, e1⟩ := Zd.mp a
 obtain ⟨h2, e2⟩ := Zd.mp b
 exact (List.getElem_inj hN).mp (e1.trans e2.symm)
theorem Qih {M : Model} {A : Around} {E : Value -> Shared -> Prop} {i : Nat} {x : Str} {v : V} {u : Value} {Q : Unit -> Shared -> Prop} (I : Inv X pins σ H s) (hN : X.N.Nodup) (hi : X.N[i]? = some x) (hx : Loc X.env.scope x) (r : RelV v u)
  (h : ∀ s', Inv X pins (σ.set i (some v)) H s' -> (∃ a, Heap.SameBut a s.heap s'.heap /\ (a = X.env.locals ∨ X.env.cells.lookup x = some a)) -> Q () s') (hf : X.fn x = true ∨ X.env.scope.names.lookup x = some .local := by first | exact .inl rfl | exact .inr rfl | assumption) : wpAny M A (storeName X.env x u) Q E s := by
 obtain ⟨m, hn, hl⟩ := id I.loc
 have hcls : (X.env.scope.kind == .class || (X.env.scope.kind == .module && X.env.locals != X.env.globals)) = false := by rw [I.ok.kind]; rfl
 have hiσ : i < σ.length := by rw [I.len]; exact (Zd.mp hi).1
 have cne := I.cne
 have tracked : ∀ {a : Addr} {h' : Heap}, (∃ o, s.heap.get? a = some o /\ H a = none) -> Heap.SameBut a s.heap h' -> HOk X.prog X.w H h' := λ {a h'} ha hs b ob e => by
  obtain ⟨_, _, hfree⟩ := ha
  refine (I.hok b ob e).QgL (λ c w' hc q => (hs.2 c ?_).trans q) (λ _ q => q) λ _ _ q => q
  rintro rfl
  rcases hc with rfl | hc
  ·rw [hfree] at e; cases e
  ·rw [hfree] at hc; cases hc
 rcases hx with hk | hk
 ·refine wpAny_storeName_local hk hn (λ h' hn' hs => ?_) hcls
  obtain ⟨oL, _, _, hoL, _⟩ := id hn
  refine h _ ⟨I.ok, I.os, I.bare, ⟨λ b o e n hb hx => ?_, λ b o e n hb hx => ?_, I.base.free, λ b o e hx => ?_, I.base.tups, I.base.frzs, I.base.tbls⟩, ⟨_, hn', λ j y v' e1 e2 e3 => ?_⟩, λ y c e => ?_, I.free, I.freeC, λ p hp => ?_, tracked ⟨oL, hoL, I.free⟩ hs, by simpa using I.len⟩ ⟨_, hs, .inl rfl⟩
  ·exact (hs.2 b (ZL (Zq (Zt e) I.ok.above))).trans (I.base.keep b o e n hb hx)
  ·obtain ⟨sl, e1⟩ := I.base.slot b o e n hb hx
   exact ⟨sl, (hs.2 b (ZL (Zq (Zt e) I.ok.above))).trans e1⟩
  ·obtain ⟨o', e1⟩ := I.base.there b o e hx
   exact ⟨o', (hs.2 b (ZL (Zq (Zt e) I.ok.above))).trans e1⟩
  ·by_cases hj : j = i
   ·subst hj
    rw [hi] at e1; cases e1
    rw [Zs hiσ] at e2
    cases e2
    exact ⟨u, r, .inl ⟨hk, by simp⟩⟩
   ·rw [Zg (Ne.symm hj)] at e2
    obtain ⟨u', r', q⟩ := hl j y v' e1 e2 e3
    refine ⟨u', r', ?_⟩
    rcases q with ⟨k, e⟩ | ⟨k, c, e, z⟩
    ·refine .inl ⟨k, ?_⟩
     have : y ≠ x := λ e => hj (Qjz hN e1 (e ▸ hi))
     simp [this, e]
    ·exact .inr ⟨k, c, e, z.sameBut hs (cne y c e)⟩
  ·obtain ⟨w', z⟩ := I.cell y c e
   exact ⟨w', z.sameBut hs (cne y c e)⟩
  ·obtain ⟨e, n, ne, nf, d⟩ := I.pin p hp
   exact ⟨(hs.2 p.1 ne).trans e, n, ne, nf, d⟩
 ·have hfn : X.fn x = true := by
   rcases hf with z | z
   ·exact z
   ·rw [z] at hk; cases hk
  obtain ⟨c, hc⟩ := I.ok.has x (.inl hk)
  obtain ⟨w', z⟩ := I.cell x c hc
  refine wpAny_storeName_cell I.ok.kind hk hc z (λ h' hc' hs => ?_)
  obtain ⟨oc, hoc, hocd⟩ := id z
  refine h { s with heap := h' } ⟨I.ok, I.os, I.bare, ⟨λ b o e n hb hx => ?_, λ b o e n hb hx => ?_, I.base.free, λ b o e hx => ?_, I.base.tups, I.base.frzs, I.base.tbls⟩, ⟨m, hn.sameBut hs (Ne.symm (cne x c hc)), λ j y v' e1 e2 e3 => ?_⟩, λ y c' e => ?_, I.free, I.freeC, λ p hp => ?_, tracked ⟨oc, hoc, I.freeC x c hc⟩ hs, by simpa using I.len⟩ ⟨c, hs, .inr hc⟩
  ·exact (hs.2 b (ZL (Zq (Zt e) (I.ok.cab x c hfn hc)))).trans (I.base.keep b o e n hb hx)
  ·obtain ⟨sl, e1⟩ := I.base.slot b o e n hb hx
   exact ⟨sl, (hs.2 b (ZL (Zq (Zt e) (I.ok.cab x c hfn hc)))).trans e1⟩
  ·obtain ⟨o', e1⟩ := I.base.there b o e hx
   exact ⟨o', (hs.2 b (ZL (Zq (Zt e) (I.ok.cab x c hfn hc)))).trans e1⟩
  ·by_cases hj : j = i
   ·subst hj
    rw [hi] at e1; cases e1
    rw [Zs hiσ] at e2
    cases e2
    exact ⟨u, r, .inr ⟨.inl hk, c, hc, hc'⟩⟩
   ·rw [Zg (Ne.symm hj)] at e2
    obtain ⟨u', r', q⟩ := hl j y v' e1 e2 e3
    refine ⟨u', r', ?_⟩
    rcases q with q | ⟨k, c', e, z'⟩
    ·exact .inl q
    ·refine .inr ⟨k, c', e, z'.sameBut hs ?_⟩
     rintro rfl
     exact hj (Qjz hN e1 (I.ok.inj _ _ _ e hc ▸ hi))
  ·by_cases hcc : c' = c
   ·subst hcc; exact ⟨_, hc'⟩
   ·obtain ⟨w2, z2⟩ := I.cell y c' e
    exact ⟨w2, z2.sameBut hs hcc⟩
  ·obtain ⟨e, n, ne, nf, d⟩ := I.pin p hp
   refine ⟨(hs.2 p.1 ?_).trans e, n, ne, nf, d⟩
   intro q
   rw [q, hoc] at e
   have q' : oc = p.2 := Option.some.inj e
   exact d w' (by rw [← q']; exact hocd)
theorem Qi8 {M : Model} {A : Around} {E : Value -> Shared -> Prop} {i : Nat} {x : Str} {v : V} {u : Value} {Q : Unit -> Shared -> Prop} (I : Inv X pins σ H s) (hN : X.N.Nodup) (hi : X.N[i]? = some x) (hx : Loc X.env.scope x) (r : RelV v u)
  (h : ∀ s', Inv X pins (σ.set i (some v)) H s' -> Q () s') (hf : X.fn x = true ∨ X.env.scope.names.lookup x = some .local := by first | exact .inl rfl | exact .inr rfl | assumption) : wpAny M A (storeName X.env x u) Q E s :=
 Qih I hN hi hx r (λ s' I' _ => h s' I') hf
theorem Inv.Qtl {s' : Shared} {ch : List Addr} (I : Inv X pins σ H s) (ho : s'.os = s.os) (u : Un (frs X.stack) ch H H' s.heap s'.heap) (hok : HOk X.prog X.w H' s'.heap) (hg : AllBare s'.gens)
  (hch : ∀ b ∈ ch, (b ∈ X.ex ∨ X.s₀.heap.objs.size <= b) /\ b ≠ X.env.locals /\ (∀ x c, X.env.cells.lookup x = some c -> c ≠ b) /\ ∀ p ∈ X.pn ++ pins, p.1 ≠ b) : Inv X pins σ H' s' := by
 obtain ⟨h', g', d', t', o'⟩ := s'
 have e : o' = s.os := ho
 subst e
 exact I.call (g' := g') (t' := t') (d' := d') u hok hg hch
end
noncomputable abbrev XK := Value -> Option Addr -> Hp -> Prop
noncomputable abbrev St := List (Option V)
noncomputable abbrev VK := V -> Hp -> Prop
noncomputable abbrev TE := St -> Hp -> VK -> Prop
noncomputable abbrev TT := St -> Hp -> (Bool -> Hp -> Prop) -> Prop
noncomputable abbrev TA := St -> Hp -> (List V -> Hp -> Prop) -> Prop
structure Ends where
 nx : St -> Hp -> Prop
 rt : VK
 bk : St -> Hp -> Prop := λ _ _ => False
 ct : St -> Hp -> Prop := λ _ _ => False
noncomputable abbrev TS := Ends -> St -> Hp -> Prop
def EP (X : Cx) (pins : List (Addr × Obj)) (σ : St) (Q : VK) (u : Value) (s' : Shared) : Prop := ∃ v H', Inv X pins σ H' s' /\ RelV v u /\ Q v H'
def TP (X : Cx) (pins : List (Addr × Obj)) (σ : St) (Q : Bool -> Hp -> Prop) (b : Bool) (s' : Shared) : Prop := ∃ H', Inv X pins σ H' s' /\ Q b H'
def AP (X : Cx) (pins : List (Addr × Obj)) (σ : St) (Q : List V -> Hp -> Prop) (us : List Value) (s' : Shared) : Prop := ∃ vs H', Inv X pins σ H' s' /\ Qt vs us /\ Q vs H'
def SP (X : Cx) (pins : List (Addr × Obj)) (D : Ends) (f : Flow) (s' : Shared) : Prop :=
 match f with
 | .next => ∃ σ' H', Inv X pins σ' H' s' /\ D.nx σ' H'
 | .brk => ∃ σ' H', Inv X pins σ' H' s' /\ D.bk σ' H'
 | .cont => ∃ σ' H', Inv X pins σ' H' s' /\ D.ct σ' H'
 | .ret u => ∃ v σ' H', Inv X pins σ' H' s' /\ RelV v u /\ D.rt v H'
def PE (X : Cx) (e : Expr) (t : TE) : Prop :=
 ∀ (pins : List (Addr × Obj)) (s : Shared) (σ : St) (H : Hp) (Q : VK), Inv X pins σ H s -> t σ H Q -> wpAny (model X.prog X.w) X.A (eval e X.env) (EP X pins σ Q) X.xe s
def PT (X : Cx) (e : Expr) (t : TT) : Prop :=
 ∀ (pins : List (Addr × Obj)) (s : Shared) (σ : St) (H : Hp) (Q : Bool -> Hp -> Prop), Inv X pins σ H s -> t σ H Q -> wpAny (model X.prog X.w) X.A (isTrue e X.env (eval e X.env)) (TP X pins σ Q) X.xe s
def PW (X : Cx) (e : Expr) (t : TT) : Prop :=
 ∀ (whole : Sem Value) (pins : List (Addr × Obj)) (s : Shared) (σ : St) (H : Hp) (Q : Bool -> Hp -> Prop), Inv X pins σ H s -> t σ H Q -> wpAny (model X.prog X.w) X.A (isTrue e X.env whole) (TP X pins σ Q) X.xe s
theorem PW.pt {X : Cx} {e : Expr} {t : TT} (h : PW X e t) : PT X e t := h _
def PA (X : Cx) (es : List Expr) (t : TA) : Prop :=
 ∀ (pos : Pos) (pins : List (Addr × Obj)) (s : Shared) (σ : St) (H : Hp) (Q : List V -> Hp -> Prop), Inv X pins σ H s -> t σ H Q -> wpAny (model X.prog X.w) X.A (spliced (backTo pos (starEach es X.env))) (AP X pins σ Q) X.xe s
def PS (X : Cx) (st : Stmt) (t : TS) : Prop :=
 ∀ (pins : List (Addr × Obj)) (s : Shared) (σ : St) (H : Hp) (D : Ends), Inv X pins σ H s -> t D σ H -> wpAny (model X.prog X.w) X.A (exec st X.env) (SP X pins D) X.xe s
def PSs (X : Cx) (st : List Stmt) (t : TS) : Prop :=
 ∀ (pins : List (Addr × Obj)) (s : Shared) (σ : St) (H : Hp) (D : Ends), Inv X pins σ H s -> t D σ H -> wpAny (model X.prog X.w) X.A (execs st X.env) (SP X pins D) X.xe s
theorem thn {α : Type} {t : Sem α} {Q Q' : α -> Shared -> Prop} {M : Model} {A : Around} {E : Value -> Shared -> Prop} {s : Shared} (h : wpAny M A t Q E s) (hQ : ∀ a s, Q a s -> Q' a s) : wpAny M A t Q' E s := wpAny_mono h hQ λ _ _ x => x
end L2
namespace L2
open PySem PySem.Spec PyProof.Rows
section
variable {X : Cx}
noncomputable def Qks (i : Nat) : TE := λ σ H Q => ∃ v, σ[i]? = some (some v) /\ Q v H
noncomputable def tC (v : V) : TE := λ _ H Q => Q v H
theorem QmX {i : Nat} {x : Str} {pos : Pos} (hN : X.N[i]? = some x) (hv : Vis X.env.scope x) (hd : (x == ("__debug__" : Str)) = false := by decide) (hcd : (x == ("__classdict__" : Str)) = false := by decide) : PE X (.Name x pos) (Qks i) := by
 intro pins s σ H Q I h
 obtain ⟨v, e, h⟩ := h
 obtain ⟨m, hn, hl⟩ := I.loc
 obtain ⟨u, r, l⟩ := hl i x v hN e hv
 have fin : EP X pins σ Q u s := ⟨v, H, I, r, h⟩
 rcases l with ⟨hk, hm⟩ | ⟨hk, c, hc, hcell⟩
 ·exact wpAny_Name (wpAny_loadName_local I.ok.kind hk hn hm fin) hd
 ·rcases hk with hk | hk
  ·exact wpAny_Name (wpAny_loadName_cell I.ok.kind hk hc hcell fin) hd
  ·exact wpAny_Name (wpAny_loadName_free I.ok.kind hk hc hcell fin hcd) hd
theorem Qr4 {i j pos} : PE X (.Constant (.int i) j pos) (tC (.int i)) := λ _ _ _ H _ I h => wpAny_Constant_int ⟨.int i, H, I.tok _, ⟨_, rfl⟩, h⟩
theorem Qtm {b j pos} : PE X (.Constant (.bool b) j pos) (tC (.bl b)) := λ _ _ _ H _ I h => Constant_bool ⟨.bl b, H, I, rfl, h⟩
theorem Qsw {j pos} : PE X (.Constant .none j pos) (tC .non) := λ _ _ _ H _ I h => Constant_none ⟨.non, H, I, rfl, h⟩
theorem Qq2 {x j pos} : PE X (.Constant (.str x) j pos) (tC (.str x)) := λ _ _ _ H _ I h => Calls.Constant_str ⟨.str x, H, I.tok _, ⟨_, rfl⟩, h⟩
def Gl (X : Cx) (x : Str) : Prop := X.env.kindOf x = some .globalImplicit
theorem QhE {E : Value -> Shared -> Prop} {pins : List (Addr × Obj)} {s : Shared} {σ : St} {H : Hp} {x : Str} {u : Value} {pos : Pos} {Q : Value -> Shared -> Prop} (I : Inv X pins σ H s) (hg : Gl X x) (hm : X.mg x = some u) (h : Q u s)
  (hd : (x == ("__debug__" : Str)) = false := by decide) : wpAny (model X.prog X.w) X.A (eval (.Name x pos) X.env) Q E s :=
 Calls.Name_function_global I.ok.kind hg (Calls.loadGlobal_global (by rw [I.ok.glob]; exact I.mod.glob.keeps I.bk) hm h) hd
theorem QcV {E : Value -> Shared -> Prop} {pins : List (Addr × Obj)} {s : Shared} {σ : St} {H : Hp} {x : Str} {u : Value} {pos : Pos} {Q : Value -> Shared -> Prop} (I : Inv X pins σ H s) (hg : Gl X x) (hm : X.mg x = none) (hv : bootBuiltins x = some u) (h : Q u s)
  (hn : x ≠ "__name__" := by decide) (hd : (x == ("__debug__" : Str)) = false := by decide) : wpAny (model X.prog X.w) X.A (eval (.Name x pos) X.env) Q E s := by
 obtain ⟨mb, h1, h2⟩ := I.mod.blt
 exact Calls.Name_function_global I.ok.kind hg (Calls.loadGlobal_builtin (by rw [I.ok.glob]; exact I.mod.glob.keeps I.bk) hm (by rw [I.ok.blt]; exact h1.keeps I.bk) ((h2 x hn).trans hv) h) hd
theorem QpP {x : Str} {v : V} {u : Value} {pos : Pos} (hg : Gl X x) (hm : X.mg x = some u) (r : RelV v u) (hd : (x == ("__debug__" : Str)) = false := by decide) : PE X (.Name x pos) (tC v) :=
 λ _ _ _ H _ I h => QhE I hg hm ⟨v, H, I, r, h⟩ hd
theorem QeC {x : Str} {v : V} {u : Value} {pos : Pos} (hg : Gl X x) (hm : X.mg x = none) (hv : bootBuiltins x = some u) (r : RelV v u) (hn : x ≠ "__name__" := by decide) (hd : (x == ("__debug__" : Str)) = false := by decide) : PE X (.Name x pos) (tC v) :=
 λ _ _ _ H _ I h => QcV I hg hm hv ⟨v, H, I, r, h⟩ hn hd
variable {a b : Expr} {ta tb : TE} {pos : Pos}
variable {tA tB' : TT} {rest : List Expr}
noncomputable def QtY (t u : TT) : TT := λ σ H Q => t σ H λ c H1 => if c = true then u σ H1 Q else Q false H1
noncomputable def tOr (t u : TT) : TT := λ σ H Q => t σ H λ c H1 => if c = true then Q true H1 else u σ H1 Q
noncomputable def Quh (t : TT) : TT := λ σ H Q => t σ H λ c H1 => Q (!c) H1
theorem Qp7 (ha : PT X a tA) : PW X (.BoolOp .And [a] pos) tA := by
 intro wh pins s σ H Q I h
 refine isTrue_and (thn (ha pins s σ H Q I h) λ c s1 e => ?_)
 cases c with
 | true => exact isTrue_and_nil e
 | false => exact e
theorem QsA (ha : PT X a tA) : PW X (.BoolOp .Or [a] pos) tA := by
 intro wh pins s σ H Q I h
 refine isTrue_or (thn (ha pins s σ H Q I h) λ c s1 e => ?_)
 cases c with
 | false => exact isTrue_or_nil e
 | true => exact e
theorem Qq1 (ha : PT X a tA) (hb : PW X (.BoolOp .And (b :: rest) pos) tB') : PW X (.BoolOp .And (a :: b :: rest) pos) (QtY tA tB') := by
 intro wh pins s σ H Q I h
 refine isTrue_and (thn (ha pins s σ H _ I h) λ c s1 ⟨H1, I1, q1⟩ => ?_)
 cases c with
 | true => exact hb wh pins s1 σ H1 Q I1 q1
 | false => exact ⟨H1, I1, q1⟩
theorem QsL (ha : PT X a tA) (hb : PW X (.BoolOp .Or (b :: rest) pos) tB') : PW X (.BoolOp .Or (a :: b :: rest) pos) (tOr tA tB') := by
 intro wh pins s σ H Q I h
 refine isTrue_or (thn (ha pins s σ H _ I h) λ c s1 ⟨H1, I1, q1⟩ => ?_)
 cases c with
 | true => exact ⟨H1, I1, q1⟩
 | false => exact hb wh pins s1 σ H1 Q I1 q1
theorem Qru (ha : PT X a tA) : PT X (.UnaryOp .Not a pos) (Quh tA) := by
 intro pins s σ H Q I h
 exact isTrue_not (ha pins s σ H (λ c H1 => Q (!c) H1) I h)
theorem Qsf {op} {t : TE} (h : PE X a t) : PE X (.BoolOp op [a] pos) t := λ pins s σ H Q I hw => BoolOp_one (h pins s σ H Q I hw)
noncomputable def tIf (t : TT) (ta tb : TE) : TE := λ σ H Q => t σ H λ c H1 => if c = true then ta σ H1 Q else tb σ H1 Q
theorem QnH {c : Expr} (hc : PT X c tA) (ha : PE X a ta) (hb : PE X b tb) : PE X (.IfExp c a b pos) (tIf tA ta tb) := by
 intro pins s σ H Q I h
 refine wpAny_IfExp (thn (hc pins s σ H _ I h) λ d s1 ⟨H1, I1, q1⟩ => ?_)
 cases d with
 | true => exact ha pins s1 σ H1 Q I1 q1
 | false => exact hb pins s1 σ H1 Q I1 q1
end
end L2
namespace L2
open PySem PySem.Spec PyProof.Rows
def SqL (K : PySem.W.Frag) (H : Hp) (a : Addr) (xs : List V) : Prop :=
 Rd H a (.lst xs) ∨
  ∃ (o : Obj) (its : Array Value) (n : Nat), K.lookup a = some o /\ o.cls = .type "list" /\ o.dict = none /\ o.data = .seq its n /\ its.size <= sizeLine /\ Qt xs its.toList
def SqT (K : PySem.W.Frag) (H : Hp) (a : Addr) (xs : List V) : Prop :=
 Rd H a (.tup xs) ∨
  ∃ (o : Obj) (its : Array Value) (n : Nat), K.lookup a = some o /\ o.cls = .type "tuple" /\ o.data = .seq its n /\ its.size <= sizeLine /\ Qt xs its.toList
noncomputable def Qt9 : Value -> Option V
 | .none => some .non
 | .bool b => some (.bl b)
 | .int i _ => some (.int i)
 | .str x _ => some (.str x)
 | .bytes b _ => some (.byt b)
 | .float b _ => some (.flt b)
 | .ref a => some (.ref a)
 | .type n => some (.ty n)
 | _ => none
theorem RelV.abs {x : V} {u : Value} (r : RelV x u) : Qt9 u = some x := by
 cases x with
 | non => cases r; rfl
 | bl _ => cases r; rfl
 | int _ => obtain ⟨t, rfl⟩ := r; rfl
 | str _ => obtain ⟨t, rfl⟩ := r; rfl
 | byt _ => obtain ⟨t, rfl⟩ := r; rfl
 | flt _ => obtain ⟨t, rfl⟩ := r; rfl
 | ref _ => cases r; rfl
 | ty _ => cases r; rfl
theorem RelV.inj {x y : V} {u : Value} (r : RelV x u) (q : RelV y u) : x = y := Option.some.inj (r.abs.symm.trans q.abs)
theorem Qt.inj : ∀ {xs ys : List V} {us : List Value}, Qt xs us -> Qt ys us -> xs = ys
 | _, _, _, .nil, .nil => rfl
 | _, _, _, .cons r t, .cons r' t' => by rw [r.inj r', Qt.inj t t']
section
variable {X : Cx} {pins : List (Addr × Obj)} {σ : St} {H : Hp} {s : Shared} {a : Addr} {xs ys : List V}
theorem SqL.of {K : PySem.W.Frag} (h : H a = some (.lst xs)) : SqL K H a xs := .inl (.inl h)
theorem SqT.of {K : PySem.W.Frag} (h : H a = some (.tup xs)) : SqT K H a xs := .inl (.inl h)
theorem Inv.list (I : Inv X pins σ H s) (h : SqL X.K H a xs) : ∃ its : List Value, Qt xs its /\ PlainL s.heap a its.toArray /\ xs.length <= sizeLine := by
 rcases h with h | ⟨o, its, n, hk, hc, hd, hs, hz, r⟩
 ·obtain ⟨z, its, n, r, e⟩ := h.ok I.hok
  exact ⟨its, r, ⟨_, n, e, rfl, rfl, rfl⟩, z⟩
 ·refine ⟨its.toList, r, ⟨o, n, I.kIn a o hk, hc, hd, by simpa using hs⟩, ?_⟩
  have e := r.length
  simp only [Array.length_toList] at e
  omega
theorem Inv.tuple (I : Inv X pins σ H s) (h : SqT X.K H a xs) : ∃ its : List Value, Qt xs its /\ IsTup s.heap a its.toArray /\ xs.length <= sizeLine := by
 rcases h with h | ⟨o, its, n, hk, hc, hs, hz, r⟩
 ·obtain ⟨z, its, r, p⟩ := h.ok I.hok
  exact ⟨its, r, p, z⟩
 ·refine ⟨its.toList, r, ⟨o, I.kIn a o hk, hc, n, by simpa using hs⟩, ?_⟩
  have e := r.length
  simp only [Array.length_toList] at e
  omega
theorem Inv.QeU (I : Inv X pins σ H s) (h : SqL X.K H a xs) (h' : SqL X.K H a ys) : xs = ys := by
 obtain ⟨its, r, ⟨o, n, e, _, _, d⟩, _⟩ := I.list h
 obtain ⟨its', r', ⟨o', n', e', _, _, d'⟩, _⟩ := I.list h'
 rw [e] at e'; cases e'
 rw [d] at d'
 injection d' with d1 _
 have : its = its' := by simpa using congrArg Array.toList d1
 subst this
 exact r.inj r'
theorem Inv.Qmj (I : Inv X pins σ H s) (h : SqT X.K H a xs) (h' : SqT X.K H a ys) : xs = ys := by
 obtain ⟨its, r, ⟨o, e, _, n, d⟩, _⟩ := I.tuple h
 obtain ⟨its', r', ⟨o', e', _, n', d'⟩, _⟩ := I.tuple h'
 rw [e] at e'; cases e'
 rw [d] at d'
 injection d' with d1 _
 have : its = its' := by simpa using congrArg Array.toList d1
 subst this
 exact r.inj r'
end
noncomputable abbrev Cx.Qdn (X : Cx) (E : Value -> Shared -> Prop) : Cx := { X with xe := E }
noncomputable abbrev Cx.nox (X : Cx) : Cx := X.Qdn λ _ _ => False
theorem Cx.Ok.Qdn {X : Cx} (ok : X.Ok) (E : Value -> Shared -> Prop) : (X.Qdn E).Ok :=
 ⟨ok.mod, ok.kind, ok.glob, ok.blt, ok.above, ok.inj, ok.has, ok.cab, ok.hd, ok.frames, ok.stk, ok.exf, ok.bs, ok.bsz, ok.noex, ok.exfs, ok.Qc6, ok.frf⟩
theorem Cx.Ok.Qcz {X : Cx} {E : Value -> Shared -> Prop} (ok : (X.Qdn E).Ok) : X.Ok :=
 ⟨ok.mod, ok.kind, ok.glob, ok.blt, ok.above, ok.inj, ok.has, ok.cab, ok.hd, ok.frames, ok.stk, ok.exf, ok.bs, ok.bsz, ok.noex, ok.exfs, ok.Qc6, ok.frf⟩
section
variable {X : Cx} {pins : List (Addr × Obj)} {σ : St} {H : Hp} {s : Shared} {E : Value -> Shared -> Prop}
theorem Inv.Qdn (I : Inv X pins σ H s) (E : Value -> Shared -> Prop) : Inv (X.Qdn E) pins σ H s := ⟨I.ok.Qdn E, I.os, I.bare, I.base, I.loc, I.cell, I.free, I.freeC, I.pin, I.hok, I.len⟩
theorem Inv.Qcz (I : Inv (X.Qdn E) pins σ H s) : Inv X pins σ H s := ⟨I.ok.Qcz, I.os, I.bare, I.base, I.loc, I.cell, I.free, I.freeC, I.pin, I.hok, I.len⟩
theorem SP.Qcz {D : Ends} {f : Flow} {s' : Shared} (h : SP (X.Qdn E) pins D f s') : SP X pins D f s' := by
 cases f with
 | next => obtain ⟨σ', H', I, q⟩ := h; exact ⟨σ', H', I.Qcz, q⟩
 | brk => obtain ⟨σ', H', I, q⟩ := h; exact ⟨σ', H', I.Qcz, q⟩
 | cont => obtain ⟨σ', H', I, q⟩ := h; exact ⟨σ', H', I.Qcz, q⟩
 | ret u => obtain ⟨v, σ', H', I, r, q⟩ := h; exact ⟨v, σ', H', I.Qcz, r, q⟩
theorem PE.nox {e : Expr} {t : TE} (h : PE X.nox e t) : PE X e t := λ pins s σ H Q I hw =>
 wpAny_mono (h pins s σ H Q (I.Qdn _) hw) (λ _ _ ⟨v, H', I', r, q⟩ => ⟨v, H', I'.Qcz, r, q⟩) λ _ _ z => False.elim z
theorem PT.nox {e : Expr} {t : TT} (h : PT X.nox e t) : PT X e t := λ pins s σ H Q I hw =>
 wpAny_mono (h pins s σ H Q (I.Qdn _) hw) (λ _ _ ⟨H', I', q⟩ => ⟨H', I'.Qcz, q⟩) λ _ _ z => False.elim z
theorem PSs.nox {st : List Stmt} {t : TS} (h : PSs X.nox st t) : PSs X st t := λ pins s σ H D I hw =>
 wpAny_mono (h pins s σ H D (I.Qdn _) hw) (λ _ _ q => q.Qcz) λ _ _ z => False.elim z
end
section
variable {X : Cx} {st : Stmt} {rest : List Stmt} {t u : TS} {e : Expr} {te : TE} {pos : Pos}
noncomputable def QlD : TS := λ D σ H => D.nx σ H
noncomputable def Qug (t u : TS) : TS := λ D σ H => t { D with nx := u D } σ H
theorem Qqc : PSs X [] QlD := λ _ _ σ H _ I h => wpAny_execs_nil ⟨σ, H, I, h⟩
theorem Qoq (h1 : PS X st t) (h2 : PSs X rest u) : PSs X (st :: rest) (Qug t u) := by
 intro pins s σ H D I h
 refine wpAny_execs_cons (thn (h1 pins s σ H { D with nx := u D } I h) λ f s1 q => ?_)
 cases f with
 | next =>
  obtain ⟨σ', H', I', q⟩ := q
  exact h2 pins s1 σ' H' D I' q
 | ret v => exact q
 | brk => exact q
 | cont => exact q
noncomputable def QrY : TS := λ D σ H => D.bk σ H
noncomputable def QsH : TS := λ D σ H => D.ct σ H
theorem Qqt : PS X (.Pass pos) QlD := λ _ _ σ H _ I h => wpAny_Pass ⟨σ, H, I, h⟩
theorem Qoi : PS X (.Break pos) QrY := λ _ _ σ H _ I h => wpAny_Break ⟨σ, H, I, h⟩
theorem QkW : PS X (.Continue pos) QsH := λ _ _ σ H _ I h => wpAny_Continue ⟨σ, H, I, h⟩
theorem Inv.quiet {pins : List (Addr × Obj)} {σ : St} {H : Hp} {s : Shared} (I : Inv X pins σ H s) : interactive X.env = false := by simp [interactive, I.ok.kind]
theorem QrG {x j pos pos'} : PS X (.Expr (.Constant (.str x) j pos) pos') QlD := λ _ s σ H _ I h => wpAny_Expr (Calls.Constant_str (show SP X _ _ .next { s with toks := s.toks + 1 } from ⟨σ, H, I.tok _, h⟩)) I.quiet
noncomputable def QfZ (te : TE) : TS := λ D σ H => te σ H λ _ H1 => D.nx σ H1
theorem QeJ (he : PE X e te) (hs : swapsWith e none pos.line X.env = pure false := by rfl) : PS X (.Expr e pos) (QfZ te) := by
 intro pins s σ H D I h
 exact wpAny_Expr_any (thn (he pins s σ H _ I h) λ v s1 ⟨x, H1, I1, r1, q1⟩ => ⟨σ, H1, I1, q1⟩) I.quiet hs
noncomputable def Qt6 (te : TE) : TS := λ D σ H => te σ H D.rt
theorem QrO (he : PE X e te) : PS X (.Return (some e) pos) (Qt6 te) := by
 intro pins s σ H D I h
 exact wpAny_Return_some (thn (he pins s σ H _ I h) λ v s1 ⟨x, H1, I1, r1, q1⟩ => ⟨x, σ, H1, I1, r1, q1⟩)
noncomputable def Qts : TS := λ D _ H => D.rt .non H
theorem Qqw : PS X (.Return none pos) Qts := λ _ _ σ H _ I h => wpAny_Return_none ⟨.non, σ, H, I, rfl, h⟩
noncomputable def QtK (c : TT) (t u : TS) : TS := λ D σ H => c σ H λ b H1 => if b = true then t D σ H1 else u D σ H1
theorem QsV {c : Expr} {a b : List Stmt} {tc : TT} (hc : PT X c tc) (ha : PSs X a t) (hb : PSs X b u) : PS X (.If c a b pos) (QtK tc t u) := by
 intro pins s σ H D I h
 refine wpAny_If (thn (hc pins s σ H _ I h) λ d s1 ⟨H1, I1, q1⟩ => ?_)
 cases d with
 | true => exact ha pins s1 σ H1 D I1 q1
 | false => exact hb pins s1 σ H1 D I1 q1
noncomputable def Qrm : TS := λ _ _ _ => False
theorem QoT : PS X st Qrm := λ _ _ _ _ _ _ h => h.elim
end
noncomputable abbrev TG := V -> St -> Hp -> (St -> Hp -> Prop) -> Prop
noncomputable abbrev TGs := List V -> St -> Hp -> (St -> Hp -> Prop) -> Prop
def PG (X : Cx) (target : Expr) (t : TG) : Prop :=
 ∀ (pins : List (Addr × Obj)) (s : Shared) (σ : St) (H : Hp) (v : V) (u : Value) (Q : St -> Hp -> Prop), Inv X pins σ H s -> RelV v u -> t v σ H Q →
  wpAny (model X.prog X.w) X.A (assign target X.env u) (λ _ s' => ∃ σ' H', Inv X pins σ' H' s' /\ Q σ' H') X.xe s
def PGs (X : Cx) (ts : List Expr) (t : TGs) : Prop :=
 ∀ (pins : List (Addr × Obj)) (s : Shared) (σ : St) (H : Hp) (vs : List V) (us : List Value) (Q : St -> Hp -> Prop), Inv X pins σ H s -> Qt vs us -> t vs σ H Q →
  wpAny (model X.prog X.w) X.A (assignInOrder ((assignEach ts X.env).map (·.2)) us) (λ _ s' => ∃ σ' H', Inv X pins σ' H' s' /\ Q σ' H') X.xe s
noncomputable abbrev QiZ := V -> V -> V -> Hp -> (Hp -> Prop) -> Prop
def Qpc (X : Cx) (t : QiZ) : Prop :=
 ∀ (pins : List (Addr × Obj)) (s : Shared) (σ : St) (H : Hp) (o i v : V) (ov iv u : Value) (Q : Hp -> Prop), Inv X pins σ H s -> RelV o ov -> RelV i iv -> RelV v u -> t o i v H Q →
  wpAny (model X.prog X.w) X.A (setItem ov iv u) (λ _ s' => ∃ H', Inv X pins σ H' s' /\ Q H') X.xe s
noncomputable abbrev TIp := V -> V -> Hp -> VK -> Prop
def PIp (X : Cx) (op : Operator) (t : TIp) : Prop :=
 ∀ (pins : List (Addr × Obj)) (s : Shared) (σ : St) (H : Hp) (x y : V) (v u : Value) (Q : VK), Inv X pins σ H s -> RelV x v -> RelV y u -> t x y H Q →
  wpAny (model X.prog X.w) X.A (inplaceOp op v u) (EP X pins σ Q) X.xe s
section
variable {X : Cx} {pos : Pos}
noncomputable def QfQ (i : Nat) : TG := λ v σ H Q => Q (σ.set i (some v)) H
theorem Qk6 {i : Nat} {x : Str} (hN : X.N.Nodup) (hi : X.N[i]? = some x) (hx : Loc X.env.scope x) (hf : X.fn x = true ∨ X.env.scope.names.lookup x = some .local := by first | exact .inl rfl | exact .inr rfl | assumption) : PG X (.Name x pos) (QfQ i) := by
 intro pins s σ H v u Q I r h
 exact wpAny_assign_Name (Qi8 I hN hi hx r (λ s' I' => ⟨_, H, I', h⟩) hf)
noncomputable def Qsx : TGs := λ vs σ H Q => vs = [] /\ Q σ H
noncomputable def Qpx (t : TG) (u : TGs) : TGs := λ vs σ H Q => ∃ v r, vs = v :: r /\ t v σ H λ σ' H' => u r σ' H' Q
theorem QqW : PGs X [] Qsx := by
 intro pins s σ H vs us Q I r h
 obtain ⟨e, h⟩ := h
 subst e
 cases r
 exact assignInOrder_nil ⟨σ, H, I, h⟩
theorem QnR {e : Expr} {es : List Expr} {t : TG} {u : TGs} (h1 : PG X e t) (h2 : PGs X es u)
  (hs : (assignEach (e :: es) X.env).map (·.2) = assign e X.env :: (assignEach es X.env).map (·.2) := by rfl) : PGs X (e :: es) (Qpx t u) := by
 intro pins s σ H vs us Q I r h
 obtain ⟨v, vr, e1, h⟩ := h
 subst e1
 cases r with
 | cons r rr =>
  rw [hs]
  refine assignInOrder_cons (thn (h1 pins s σ H _ _ _ I r h) λ _ s1 ⟨σ1, H1, I1, q1⟩ => ?_)
  exact h2 pins s1 σ1 H1 _ _ Q I1 rr q1
noncomputable def QtX (K : PySem.W.Frag) (n : Nat) (t : TGs) : TG := λ v σ H Q => ∃ a xs, v = .ref a /\ SqT K H a xs /\ xs.length = n /\ t xs σ H Q
theorem Qss {es : List Expr} {k : Nat} {t : TGs} {n : Nat} (hc : X.calm = true) (h : PGs X es t)
  (hn : (assignEach es X.env).length = n := by rfl) (hst : (assignEach es X.env).findIdx? (·.1) = none := by rfl) : PG X (.Tuple es k pos) (QtX X.K n t) := by
 intro pins s σ H v u Q I r hw
 obtain ⟨a, xs, e1, hq, hl, hw⟩ := hw
 subst e1
 cases r
 obtain ⟨its, rv, ht, hz⟩ := I.tuple hq
 refine assign_Tuple_tuple (I.ok.hd hc) ht (by simp [hn, ← hl, rv.length]) hst λ h' hx => ?_
 have I1 : Inv X pins σ H { s with heap := h' } := I.kept (t' := s.toks) λ b o e => hx b o (ZL (Zt e)) e
 exact h pins _ σ H xs _ Q I1 (by simpa using rv) hw
noncomputable def Qb7 (to ti : TE) (t : QiZ) : TG := λ v σ H Q => to σ H λ o H1 => ti σ H1 λ i H2 => t o i v H2 λ H3 => Q σ H3
theorem Qrg {o i : Expr} {to ti : TE} {t : QiZ} (ho : PE X o to) (hi : PE X i ti) (hs : Qpc X t)
  (ha : ∀ v, assign (.Subscript o i pos) X.env v = (do
   let ov ← holding [v] (eval o X.env)
   let iv ← holding [v, ov] (eval i X.env)
   standAt pos
   holding [v, ov, iv] (setItem ov iv v)
   release [v, ov, iv] []) := by intro _; rfl) : PG X (.Subscript o i pos) (Qb7 to ti t) := by
 intro pins s σ H v u Q I r h
 rw [ha]
 refine wpAny_bind (wpAny_holding (thn (ho pins s σ H _ I h) λ ov s1 ⟨x, H1, I1, r1, q1⟩ => ?_))
 refine wpAny_bind (wpAny_holding (thn (hi pins s1 σ H1 _ I1 q1) λ iv s2 ⟨y, H2, I2, r2, q2⟩ => ?_))
 refine wpAny_bind (wpAny_standAt (wpAny_bind (wpAny_holding (thn (hs pins s2 σ H2 x y v ov iv u _ I2 r1 r2 r q2) λ _ s3 ⟨H3, I3, q3⟩ => ?_))))
 exact wpAny_release ⟨σ, H3, I3, q3⟩
noncomputable def QjU (te : TE) (g : TG) : TS := λ D σ H => te σ H λ x H1 => g x σ H1 D.nx
theorem Qnd {tg e : Expr} {te : TE} {g : TG} (he : PE X e te) (hg : PG X tg g) (hs : swapsWithSole [tg] e pos.line X.env = pure false := by rfl) (hw : swappedStores [tg] e X.env = pure none := by rfl)
  (h1 : (assignEach [tg] X.env).map (·.2) = [assign tg X.env] := by rfl) : PS X (.Assign [tg] e pos) (QjU te g) := by
 intro pins s σ H D I h
 refine wpAny_Assign_stores (thn (he pins s σ H _ I h) λ v s1 ⟨x, H1, I1, r1, q1⟩ => ?_) hs hw
 rw [h1]
 exact thn (hg pins s1 σ H1 x v _ I1 r1 q1) λ _ s2 q => q
theorem Qkk {i : Nat} {x : Str} {e : Expr} {te : TE} {pos' : Pos} (hN : X.N.Nodup) (hi : X.N[i]? = some x) (hx : Loc X.env.scope x) (he : PE X e te) (hs : swapsWith e (some (.Name x pos')) pos.line X.env = pure false := by rfl) (hf : X.fn x = true ∨ X.env.scope.names.lookup x = some .local := by first | exact .inl rfl | exact .inr rfl | assumption) :
  PS X (.Assign [.Name x pos'] e pos) (QjU te (QfQ i)) := by
 intro pins s σ H D I h
 refine wpAny_Assign_Name (thn (he pins s σ H _ I h) λ v s1 ⟨y, H1, I1, r1, q1⟩ => ?_) hs
 exact Qi8 I1 hN hi hx r1 (λ s2 I2 => ⟨_, H1, I2, q1⟩) hf
noncomputable def QsK (to ti te : TE) (tget : V -> V -> Hp -> VK -> Prop) (tip : TIp) (tset : QiZ) : TS := λ D σ H => to σ H λ o H1 => ti σ H1 λ i H2 => tget o i H2 λ x H3 => te σ H3 λ y H4 => tip x y H4 λ z H5 => tset o i z H5 λ H6 => D.nx σ H6
def Qsj (X : Cx) (t : V -> V -> Hp -> VK -> Prop) : Prop :=
 ∀ (pins : List (Addr × Obj)) (s : Shared) (σ : St) (H : Hp) (o i : V) (ov iv : Value) (Q : VK), Inv X pins σ H s -> RelV o ov -> RelV i iv -> t o i H Q →
  wpAny (model X.prog X.w) X.A (getItem ov iv) (EP X pins σ Q) X.xe s
theorem Qqz {o i e : Expr} {to ti te : TE} {tget : V -> V -> Hp -> VK -> Prop} {tip : TIp} {tset : QiZ} {op : Operator} {tpos : Pos} (ho : PE X o to) (hi : PE X i ti) (hg : Qsj X tget) (he : PE X e te) (hp : PIp X op tip) (hs : Qpc X tset)
  (ha : ∀ ov iv new, augStore i ov iv new = (do holding [new, ov, iv] (setItem ov iv new); release [new, ov, iv] []; pure .next) := by intros; rfl) : PS X (.AugAssign (.Subscript o i tpos) op e pos) (QsK to ti te tget tip tset) := by
 intro pins s σ H D I h
 refine wpAny_AugAssign_SubscriptAny (thn (ho pins s σ H _ I h) λ ov s1 ⟨x1, H1, I1, r1, q1⟩ => ?_) ha
 refine thn (hi pins s1 σ H1 _ I1 q1) λ iv s2 ⟨x2, H2, I2, r2, q2⟩ => ?_
 refine thn (hg pins s2 σ H2 x1 x2 ov iv _ I2 r1 r2 q2) λ old s3 ⟨x3, H3, I3, r3, q3⟩ => ?_
 refine thn (he pins s3 σ H3 _ I3 q3) λ v s4 ⟨x4, H4, I4, r4, q4⟩ => ?_
 refine thn (hp pins s4 σ H4 x3 x4 old v _ I4 r3 r4 q4) λ new s5 ⟨x5, H5, I5, r5, q5⟩ => ?_
 exact thn (hs pins s5 σ H5 x1 x2 x5 ov iv new _ I5 r1 r2 r5 q5) λ _ s6 ⟨H6, I6, q6⟩ => ⟨σ, H6, I6, q6⟩
end
section
variable {X : Cx} {pos : Pos}
noncomputable def Qr0 (c : TT) (tb : TS) : TS := λ D σ H => ∃ W : Nat -> St -> Hp -> Prop, (∃ m, W m σ H) /\ ∀ m σ H, W m σ H →
 c σ H λ b H1 => if b = true then ∃ N : St -> Hp -> Prop, (∀ σ' H', N σ' H' -> ∃ m', m' < m /\ W m' σ' H') /\ tb { D with nx := N, ct := N, bk := D.nx } σ H1 else D.nx σ H1
theorem QoR {c : Expr} {body : List Stmt} {tc : TT} {tb : TS} (hp : PassesOwn (model X.prog X.w) X.A X.env X.xe) (hc : PT X c tc) (hb : PSs X body tb) : PS X (.While c body [] pos) (Qr0 tc tb) := by
 intro pins s σ H D I h
 obtain ⟨W, ⟨m0, w0⟩, turn⟩ := h
 refine wpAny_While (codeAny_whileLoop (λ n s' => ∃ σ' H', Inv X pins σ' H' s' /\ W n σ' H') ?_ m0 ⟨σ, H, I, w0⟩)
 rintro n s1 ⟨σ1, H1, I1, w1⟩
 refine wpAny_passesOwn hp (thn (hc pins s1 σ1 H1 _ I1 (turn n σ1 H1 w1)) λ b s2 ⟨H2, I2, q2⟩ => ?_)
 cases b with
 | true =>
  obtain ⟨N, hN, q2⟩ := q2
  rw [if_pos rfl]
  refine wpAny_passesOwn hp (thn (hb pins s2 σ1 H2 _ I2 q2) λ f s3 q3 => ?_)
  cases f with
  | next =>
   obtain ⟨σ3, H3, I3, n3⟩ := q3
   obtain ⟨m', hm, w3⟩ := hN σ3 H3 n3
   exact ⟨m', hm, σ3, H3, I3, w3⟩
  | cont =>
   obtain ⟨σ3, H3, I3, n3⟩ := q3
   obtain ⟨m', hm, w3⟩ := hN σ3 H3 n3
   exact ⟨m', hm, σ3, H3, I3, w3⟩
  | brk => exact q3
  | ret v => exact q3
 | false =>
  rw [if_neg Zae]
  exact wpAny_execs_nil ⟨σ1, H2, I2, q2⟩
end
structure It where
 go : Nat -> Hp -> Prop
 yld : Nat -> Hp -> V -> Hp -> Prop
 stop : Nat -> Hp -> Prop
def Qde (X : Cx) (pins : List (Addr × Obj)) (H : Hp) (b : Addr) : Prop :=
 H b = none /\ b ≠ X.env.locals /\ b ∉ X.fs /\ (b ∈ X.ex ∨ X.s₀.heap.objs.size <= b) /\ (∀ x c, X.env.cells.lookup x = some c -> c ≠ b) /\ ∀ p ∈ X.pn ++ pins, p.1 ≠ b
theorem Inv.Qj3 {X : Cx} {pins : List (Addr × Obj)} {σ : St} {H H' : Hp} {s : Shared} {b : Addr} (I : Inv X pins σ H s) (hb : s.heap.objs.size <= b) (hn : H' b = none) : Qde X pins H' b := by
 refine ⟨hn, Nat.ne_of_gt (Zq I.lt hb), I.Qt5 hb, .inr (Zu I.sz hb), λ x c e z => ?_, λ p hp z => ?_⟩
 ·obtain ⟨v, q⟩ := I.cell x c e
  exact absurd (Zq q.lt (by rw [z]; exact hb)) (ZP _)
 ·exact absurd (Zq (Zt (I.pin p hp).1) (by rw [z]; exact hb)) (ZP _)
structure Turn (P : Program) (w : World) (K : PySem.W.Frag) (tg : Expr) (J : It) (fp : List Addr) (it : Addr) (tn : Nat -> Heap -> Prop) : Prop where
 mem : it ∈ fp
 obj : ∀ i h, tn i h -> ∀ b ∈ fp, ∃ o, h.get? b = some o /\ ∀ v, o.data ≠ .cell v
 keep : ∀ i h h', tn i h -> (∀ b ∈ fp, ∀ o, h.get? b = some o -> h'.get? b = some o) -> tn i h'
 item : ∀ (X : Cx), X.prog = P -> X.w = w -> X.K = K -> X.calm = true -> ∀ (i : Nat) (pins : List (Addr × Obj)) (s : Shared) (σ : St) (H : Hp) (E : Value -> Shared -> Prop), Inv X pins σ H s -> (∀ b ∈ fp, Qde X pins H b) -> tn i s.heap -> J.go i H →
  wpAny (model P w) X.A (pyNext (.ref it)) (λ r s1 => ∃ u, r = some u ∧
   wpAny (model P w) X.A (letOwnedTupleGo tg (.ref it) u) (λ _ s2 => ∃ x H', Inv X pins σ H' s2 /\ RelV x u /\ J.yld i H x H' /\ tn (i + 1) s2.heap /\ ∀ b ∈ fp, H' b = none) E s1) E s
 done : ∀ (X : Cx), X.prog = P -> X.w = w -> X.K = K -> X.calm = true -> ∀ (i : Nat) (pins : List (Addr × Obj)) (s : Shared) (σ : St) (H : Hp) (E : Value -> Shared -> Prop), Inv X pins σ H s -> (∀ b ∈ fp, Qde X pins H b) -> tn i s.heap -> J.stop i H →
  wpAny (model P w) X.A (pyNext (.ref it)) (λ r s1 => r = none /\ Inv X pins σ H s1) E s
 self : ∀ (A : Around) (i : Nat) (s : Shared) (Q : Value -> Shared -> Prop) (E : Value -> Shared -> Prop), tn i s.heap -> Q (.ref it) s -> wpAny (model P w) A (pyIter (.ref it)) Q E s
noncomputable abbrev TI := St -> Hp -> (It -> Hp -> Prop) -> Prop
def PIE (X : Cx) (pins : List (Addr × Obj)) (σ : St) (tg : Expr) (R : It -> Hp -> Prop) (itv : Value) (s2 : Shared) : Prop :=
 ∃ (it : Addr) (fp : List Addr) (tn : Nat -> Heap -> Prop) (J : It) (H' : Hp), itv = .ref it /\ Inv X pins σ H' s2 /\ Turn X.prog X.w X.K tg J fp it tn /\ tn 0 s2.heap /\ (∀ b ∈ fp, Qde X pins H' b) /\ R J H'
def PI (X : Cx) (tg iter : Expr) (wi : TI) : Prop :=
 ∀ (pins : List (Addr × Obj)) (s : Shared) (σ : St) (H : Hp) (R : It -> Hp -> Prop), Inv X pins σ H s -> wi σ H R →
  wpAny (model X.prog X.w) X.A (eval iter X.env) (λ v s1 => wpAny (model X.prog X.w) X.A (pyIter v) (PIE X pins σ tg R) X.xe s1) X.xe s
theorem Qmb {M : Model} {A : Around} {E : Value -> Shared -> Prop} {s : Shared} {tg : Expr} {it : Addr} {u : Value} {o : Obj} {n : String} {vs : Array Value} {Q : Unit -> Shared -> Prop} (ho : s.heap.get? it = some o) (hc : o.cls = .type n) (hd : o.data = .fields vs)
    (hn : ["enumerate", "zip", "dict_itemiterator", "dict_reverseitemiterator", "odict_iterator", "itertools.zip_longest", "itertools.pairwise"].contains n = false) (hQ : Q () s) : wpAny M A (letOwnedTupleGo tg (.ref it) u) Q E s := by
  unfold letOwnedTupleGo
  cases tg <;> first
    | exact wpAny_pure hQ
    | (cases u <;> first
        | exact wpAny_pure hQ
        | (refine wpAny_bind (wpAny_load ho ?_)
           rw [hc, hd]
           show wpAny M A (if (["enumerate", "zip", "dict_itemiterator", "dict_reverseitemiterator", "odict_iterator", "itertools.zip_longest", "itertools.pairwise"].contains n && vs[0]? == some (rawInt _)) = true then _ else _) Q E s
           rw [if_neg (by intro h; rw [hn, Bool.false_and] at h; cases h)]
           exact wpAny_pure hQ))
noncomputable def Itl (K : PySem.W.Frag) (a : Addr) : It :=
 ⟨λ i H => ∃ xs x, SqL K H a xs /\ xs[i]? = some x, λ i H x H' => H' = H /\ ∀ xs, SqL K H a xs -> xs[i]? = some x, λ i H => ∃ xs, SqL K H a xs /\ xs.length <= i⟩
noncomputable def Itt (K : PySem.W.Frag) (a : Addr) : It :=
 ⟨λ i H => ∃ xs x, SqT K H a xs /\ xs[i]? = some x, λ i H x H' => H' = H /\ ∀ xs, SqT K H a xs -> xs[i]? = some x, λ i H => ∃ xs, SqT K H a xs /\ xs.length <= i⟩
noncomputable def Itr (lo : Int) (n : Nat) : It := ⟨λ i _ => i < n, λ i H x H' => H' = H /\ x = .int (lo + i), λ i _ => n <= i⟩
theorem QmY {P : Program} {w : World} {K : PySem.W.Frag} {tg : Expr} (a it : Addr) : Turn P w K tg (Itl K a) [it] it (λ i h => h.IsListIter it a i) where
 mem := by simp
 obj := λ i h st b hb => by
  have e : b = it := by simpa using hb
  subst e
  obtain ⟨o, e, c, d⟩ := st
  exact ⟨o, e, λ v z => by rw [d] at z; cases z⟩
 keep := λ i h h' st k => st.at λ o e => k it (by simp) o e
 item := by
  intro X hP hw hK hc i pins s σ H E I hf st hg
  subst hP hw hK
  obtain ⟨xs, x, hq, hx⟩ := hg
  obtain ⟨its, rv, p, hz⟩ := I.list hq
  obtain ⟨u, hu, ru⟩ := rv.get hx
  obtain ⟨f0, f1, f2, f3, f4, f5⟩ := hf it (by simp)
  refine wpAny_pyNext_list_item st p.isList (x := u) (by simpa using hu) λ h' st' sb => ?_
  have I1 : Inv X pins σ H { s with heap := h' } := I.turned (t' := s.toks) (λ b o hb e => (sb.2 b hb).trans e) f0 f1 f3 f4 f5
  obtain ⟨o, e, c, d⟩ := id st'
  exact ⟨u, rfl, Qmb (s := { s with heap := h' }) e c d (by decide) ⟨x, H, I1, ru, ⟨rfl, λ ys hy => by rw [I.QeU hy hq]; exact hx⟩, st', λ b hb => (hf b hb).1⟩⟩
 done := by
  intro X hP hw hK hc i pins s σ H E I hf st hg
  subst hP hw hK
  obtain ⟨xs, hq, hx⟩ := hg
  obtain ⟨its, rv, p, hz⟩ := I.list hq
  obtain ⟨f0, f1, f2, f3, f4, f5⟩ := hf it (by simp)
  have hl := rv.length
  exact wpAny_pyNext_list_end (I.ok.hd hc) st p.isList (by simp; omega) λ h' eb => ⟨rfl, I.turned (t' := s.toks) (λ b o hb e => eb b o hb e) f0 f1 f3 f4 f5⟩
 self := λ _ _ _ _ _ st h => wpAny_pyIter_listiter st h
theorem Qly {P : Program} {w : World} {K : PySem.W.Frag} {tg : Expr} (a it : Addr) : Turn P w K tg (Itt K a) [it] it (λ i h => h.IsTupleIter it a i) where
 mem := by simp
 obj := λ i h st b hb => by
  have e : b = it := by simpa using hb
  subst e
  obtain ⟨o, e, c, d⟩ := st
  exact ⟨o, e, λ v z => by rw [d] at z; cases z⟩
 keep := λ i h h' st k => st.at λ o e => k it (by simp) o e
 item := by
  intro X hP hw hK hc i pins s σ H E I hf st hg
  subst hP hw hK
  obtain ⟨xs, x, hq, hx⟩ := hg
  obtain ⟨its, rv, p, hz⟩ := I.tuple hq
  obtain ⟨u, hu, ru⟩ := rv.get hx
  obtain ⟨f0, f1, f2, f3, f4, f5⟩ := hf it (by simp)
  refine wpAny_pyNext_tuple_item st (show s.heap.IsTuple a its.toArray from p) (x := u) (by simpa using hu) λ h' st' sb => ?_
  have I1 : Inv X pins σ H { s with heap := h' } := I.turned (t' := s.toks) (λ b o hb e => (sb.2 b hb).trans e) f0 f1 f3 f4 f5
  obtain ⟨o, e, c, d⟩ := id st'
  exact ⟨u, rfl, Qmb (s := { s with heap := h' }) e c d (by decide) ⟨x, H, I1, ru, ⟨rfl, λ ys hy => by rw [I.Qmj hy hq]; exact hx⟩, st', λ b hb => (hf b hb).1⟩⟩
 done := by
  intro X hP hw hK hc i pins s σ H E I hf st hg
  subst hP hw hK
  obtain ⟨xs, hq, hx⟩ := hg
  obtain ⟨its, rv, p, hz⟩ := I.tuple hq
  obtain ⟨f0, f1, f2, f3, f4, f5⟩ := hf it (by simp)
  have hl := rv.length
  exact wpAny_pyNext_tuple_end (I.ok.hd hc) st (show s.heap.IsTuple a its.toArray from p) (by simp; omega) λ h' eb => ⟨rfl, I.turned (t' := s.toks) (λ b o hb e => eb b o hb e) f0 f1 f3 f4 f5⟩
 self := λ _ _ _ _ _ st h => wpAny_pyIter_tupleiter st h
theorem Ql3 {P : Program} {w : World} {K : PySem.W.Frag} {tg : Expr} (it : Addr) (lo : Int) (n : Nat) : Turn P w K tg (Itr lo n) [it] it (λ i h => IsRangeIter h it (lo + (i : Nat) * 1) ((n : Int) - (i : Nat)) 1) where
 mem := by simp
 obj := λ i h st b hb => by
  have e : b = it := by simpa using hb
  subst e
  exact ⟨_, st, λ v z => by
   have z' : Data.fields _ = Data.cell v := z
   cases z'⟩
 keep := λ i h h' st k => k it (by simp) _ st
 item := by
  intro X hP hw hK hc i pins s σ H E I hf st hg
  subst hP hw hK
  obtain ⟨f0, f1, f2, f3, f4, f5⟩ := hf it (by simp)
  have W := Walks.range (prog := X.prog) (w := X.w) (I.ok.hd hc) it lo 1 n
  refine W.item i s _ _ hg st λ v h' tk hv st' kk => ?_
  obtain ⟨t, rfl⟩ := hv
  have I1 : Inv X pins σ H { s with heap := h', toks := tk } := I.turned (λ b o hb e => kk b o (by simpa using hb) e) f0 f1 f3 f4 f5
  refine ⟨_, rfl, Qmb (s := { s with heap := h', toks := tk }) (n := "range_iterator") st' rfl rfl (by decide) ⟨.int (lo + i), H, I1, ⟨t, ?_⟩, ⟨rfl, rfl⟩, st', λ b hb => (hf b hb).1⟩⟩
  rw [ZaL]
 done := by
  intro X hP hw hK hc i pins s σ H E I hf st hg
  subst hP hw hK
  obtain ⟨f0, f1, f2, f3, f4, f5⟩ := hf it (by simp)
  exact wpAny_pyNext_range_end (I.ok.hd hc) st (by have : n <= i := hg; omega) λ h' eb => ⟨rfl, I.turned (t' := s.toks) (λ b o hb e => eb b o hb e) f0 f1 f3 f4 f5⟩
 self := λ _ _ _ _ _ st h => wpAny_pyIter_rangeiter st h
end L2
namespace L2
open PySem PySem.Spec PyProof.Rows
section
variable {X : Cx} {tg : Expr}
theorem Qjd {pins : List (Addr × Obj)} {σ : St} {H : Hp} {s : Shared} {R : It -> Hp -> Prop} {E : Value -> Shared -> Prop} {lo hi : Int} {t u v : Tok} {tk : Nat} (I : Inv X pins σ H s) (h1 : -(2 ^ 62) <= lo) (h2 : lo < 2 ^ 62) (h3 : -(2 ^ 62) <= hi) (h4 : hi < 2 ^ 62)
  (q : R (Itr lo (hi - lo).toNat) H) : wpAny (model X.prog X.w) X.A (pyIter (.ref s.heap.objs.size)) (PIE X pins σ tg R) E { s with heap := s.heap.push { cls := .type "range", data := .fields #[.int lo t, .int hi u, .int 1 v] }, toks := tk } := by
 refine wpAny_pyIter_range (IsRange.new ..) (small_one h1 h2 h3 h4) ?_
 have I1 : Inv X pins σ H { s with heap := s.heap.push { cls := .type "range", data := .fields #[.int lo t, .int hi u, .int 1 v] }, toks := tk } := I.kept λ b o e => Zp _ e
 refine ⟨(s.heap.push { cls := .type "range", data := .fields #[.int lo t, .int hi u, .int 1 v] }).objs.size, [(s.heap.push { cls := .type "range", data := .fields #[.int lo t, .int hi u, .int 1 v] }).objs.size], _, _, H, rfl,
  I1.kept (t' := tk) λ b o e => Zp _ e, Ql3 _ lo (hi - lo).toNat, ?_, λ b hb => ?_, q⟩
 ·have e1 : lo + ((0 : Nat) : Int) * 1 = lo := by simp
  have e2 : (((hi - lo).toNat : Nat) : Int) - ((0 : Nat) : Int) = Builtin.Range.rangeSize lo hi 1 := by rw [rangeSize_one]; split <;> omega
  show IsRangeIter _ _ (lo + ((0 : Nat) : Int) * 1) ((((hi - lo).toNat : Nat) : Int) - ((0 : Nat) : Int)) 1
  rw [e1, e2]
  exact ZE _ rfl
 ·have e : b = (s.heap.push { cls := .type "range", data := .fields #[.int lo t, .int hi u, .int 1 v] }).objs.size := by simpa using hb
  subst e
  exact I1.Qj3 (Zi _) (I1.hok.fresh (Zi _))
noncomputable def Qtg (ta : TA) : TI := λ σ H R => ta σ H λ vs H1 => ∃ j : Int, vs = [.int j] /\ -(2 ^ 62) <= j /\ j < 2 ^ 62 /\ R (Itr 0 j.toNat) H1
noncomputable def Qtv (ta : TA) : TI := λ σ H R => ta σ H λ vs H1 => ∃ i j : Int, vs = [.int i, .int j] /\ (-(2 ^ 62) <= i /\ i < 2 ^ 62 /\ -(2 ^ 62) <= j /\ j < 2 ^ 62) /\ R (Itr i (j - i).toNat) H1
theorem Qm1 {a : Expr} {ta : TA} {p pos : Pos} (hg : Gl X "range") (hm : X.mg "range" = none) (ha : PA X [a] ta) (hs : starEach [a] X.env = [(false, eval a X.env)] := by rfl) : PI X tg (.Call (.Name "range" p) [a] [] pos) (Qtg ta) := by
 intro pins s σ H R I h
 refine Call_ (QcV I hg hm boot_range (ZN (thn (ha pos pins s σ H _ I h) λ us s1 ⟨vs, H1, I1, r1, q1⟩ => ?_) hs rfl))
 obtain ⟨j, e, q1, q2, q⟩ := q1
 subst e
 cases r1 with
 | cons r rr =>
  cases rr
  obtain ⟨t, rfl⟩ := r
  exact call_range_1 (Qjd I1 (by omega) (by omega) q1 q2 (by simpa using q))
theorem Qmr {a b : Expr} {ta : TA} {p pos : Pos} (hg : Gl X "range") (hm : X.mg "range" = none) (ha : PA X [a, b] ta) (hs : starEach [a, b] X.env = [(false, eval a X.env), (false, eval b X.env)] := by rfl) (hs2 : starEach [b] X.env = [(false, eval b X.env)] := by rfl) :
  PI X tg (.Call (.Name "range" p) [a, b] [] pos) (Qtv ta) := by
 intro pins s σ H R I h
 refine Call_ (QcV I hg hm boot_range (ZN (thn (ha pos pins s σ H _ I h) λ us s1 ⟨vs, H1, I1, r1, q1⟩ => ?_) (by rw [hs, hs2]) (by rw [hs2]; rfl)))
 obtain ⟨i, j, e, ⟨q1, q2, q3, q4⟩, q⟩ := q1
 subst e
 cases r1 with
 | cons r rr =>
  cases rr with
  | cons r' rr =>
   cases rr
   obtain ⟨t, rfl⟩ := r
   obtain ⟨t', rfl⟩ := r'
   exact call_range_2 (Qjd I1 q1 q2 q3 q4 q)
noncomputable def QtV (wi : TI) (g : TG) (tb : TS) : TS := λ D σ H => wi σ H λ J H1 => ∃ W : Nat -> Nat -> St -> Hp -> Prop, (∃ m, W 0 m σ H1) /\ ∀ i m σ H, W i m σ H →
 (J.stop i H /\ D.nx σ H) ∨ (J.go i H /\ ∃ N : St -> Hp -> Prop, (∀ σ' H', N σ' H' -> ∃ m', m' < m /\ W (i + 1) m' σ' H') /\ ∀ x H', J.yld i H x H' -> g x σ H' λ σ2 H2 => tb { D with nx := N, ct := N, bk := D.nx } σ2 H2)
noncomputable def Qfh (fp : List Addr) (h : Heap) : List (Addr × Obj) := fp.filterMap λ b => (h.get? b).map λ o => (b, o)
theorem Qe9 {fp : List Addr} {h : Heap} {b : Addr} {o : Obj} (hb : b ∈ fp) (e : h.get? b = some o) : (b, o) ∈ Qfh fp h := ZaT.mpr ⟨b, hb, by rw [e]; rfl⟩
theorem Qmi {fp : List Addr} {h : Heap} {p : Addr × Obj} (hp : p ∈ Qfh fp h) : p.1 ∈ fp /\ h.get? p.1 = some p.2 := by
 obtain ⟨b, hb, e⟩ := ZaT.mp hp
 cases q : h.get? b with
 | none => rw [q] at e; cases e
 | some o =>
  rw [q] at e
  have e' : (b, o) = p := Option.some.inj e
  subst e'
  exact ⟨hb, q⟩
theorem Inv.pinned {pins : List (Addr × Obj)} {σ : St} {H : Hp} {s : Shared} {fp : List Addr} (I : Inv X pins σ H s) (hf : ∀ b ∈ fp, Qde X pins H b) (ho : ∀ b ∈ fp, ∃ o, s.heap.get? b = some o /\ ∀ v, o.data ≠ .cell v) : Inv X (pins ++ Qfh fp s.heap) σ H s :=
 I.Qlp λ p hp => (Zy.mp hp).elim (λ z => I.pin p (Zc _ z)) λ z => by
  obtain ⟨hb, e⟩ := Qmi z
  obtain ⟨f0, f1, f2, _⟩ := hf p.1 hb
  obtain ⟨o, e', d⟩ := ho p.1 hb
  rw [e] at e'; cases e'
  exact ⟨e, f0, f1, f2, d⟩
theorem Inv.QeT {pins pl : List (Addr × Obj)} {σ : St} {H : Hp} {s : Shared} (I : Inv X (pins ++ pl) σ H s) : Inv X pins σ H s := I.Qlp λ p hp => I.pin p (Zc _ (Zh _ hp))
theorem Qri {iter : Expr} {body : List Stmt} {wi : TI} {g : TG} {tb : TS} {pos : Pos} (hp : PassesOwn (model X.prog X.w) X.A X.env X.xe) (hc : X.calm = true) (hi : PI X tg iter wi) (hg : PG X tg g) (hb : PSs X body tb)
  (hs : ∀ x, foldedSetIterable iter X.env x = pure x := by intro _; rfl) : PS X (.For tg iter body [] pos) (QtV wi g tb) := by
 intro pins s σ H D I h
 refine wpAny_For (thn (hi pins s σ H _ I h) λ v s1 h1 => thn h1 λ itv s2 h2 => ?_) hs
 obtain ⟨it, fp, tn, J, H2, e, I2, T, st2, f2, W, ⟨m0, w0⟩, turn⟩ := h2
 subst e
 have stat : ∀ {H' : Hp}, (∀ b ∈ fp, H' b = none) -> ∀ b ∈ fp, Qde X pins H' b := λ hn b hb => ⟨hn b hb, (f2 b hb).2⟩
 refine codeAny_forLoop_any (λ n s' => ∃ i σ' H', Inv X pins σ' H' s' /\ tn i s'.heap /\ (∀ b ∈ fp, H' b = none) /\ W i n σ' H') ?_ m0 ⟨0, σ, H2, I2, st2, λ b hb => (f2 b hb).1, w0⟩
 rintro n s3 ⟨i, σ3, H3, I3, st3, fr3, w3⟩
 rcases turn i n σ3 H3 w3 with ⟨stop, qn⟩ | ⟨go, N, hN, step⟩
 ·refine wpAny_passesOwn hp (thn (T.done X rfl rfl rfl hc i pins s3 σ3 H3 X.xe I3 (stat fr3) st3 stop) λ r s4 ⟨hr, I4⟩ => ?_)
  subst hr
  exact wpAny_execs_nil ⟨σ3, H3, I4, qn⟩
 ·refine wpAny_passesOwn hp (thn (T.item X rfl rfl rfl hc i pins s3 σ3 H3 X.xe I3 (stat fr3) st3 go) λ r s4 ⟨u, hr, h4⟩ => ?_)
  subst hr
  refine wpAny_passesOwn hp (thn h4 λ _ s5 ⟨x, H5, I5, r5, y5, st5, fr5⟩ => ?_)
  have I5' := I5.pinned (stat fr5) (T.obj _ _ st5)
  refine wpAny_passesOwn hp (thn (hg _ s5 σ3 H5 x u _ I5' r5 (step x H5 y5)) λ _ s6 ⟨σ6, H6, I6, q6⟩ => ?_)
  refine wpAny_passesOwn hp (thn (hb _ s6 σ6 H6 _ I6 q6) λ f s7 q7 => ?_)
  have again : ∀ {σ7 : St} {H7 : Hp}, Inv X (pins ++ Qfh fp s5.heap) σ7 H7 s7 -> N σ7 H7 -> ∃ m, m < n /\ ∃ i σ' H', Inv X pins σ' H' s7 /\ tn i s7.heap /\ (∀ b ∈ fp, H' b = none) /\ W i m σ' H' := λ {σ7 H7} I7 n7 => by
   obtain ⟨m', hm, w7⟩ := hN σ7 H7 n7
   refine ⟨m', hm, i + 1, σ7, H7, I7.QeT, T.keep _ _ _ st5 λ b hb o e => (I7.pin (b, o) (Zc _ (Zc _ (Qe9 hb e)))).1, λ b hb => ?_, w7⟩
   obtain ⟨o, e, d⟩ := T.obj _ _ st5 b hb
   exact (I7.pin (b, o) (Zc _ (Zc _ (Qe9 hb e)))).2.1
  cases f with
  | next => obtain ⟨σ7, H7, I7, n7⟩ := q7; exact again I7 n7
  | cont => obtain ⟨σ7, H7, I7, n7⟩ := q7; exact again I7 n7
  | brk => obtain ⟨σ7, H7, I7, q7⟩ := q7; exact ⟨σ7, H7, I7.QeT, q7⟩
  | ret v => obtain ⟨x7, σ7, H7, I7, r7, q7⟩ := q7; exact ⟨x7, σ7, H7, I7.QeT, r7, q7⟩
end
end L2
namespace L2
open PySem PySem.Spec PyProof.Rows
noncomputable abbrev R2 := V -> V -> Hp -> VK -> Prop
def OpR (X : Cx) (f : Value -> Value -> Sem Value) (r : R2) : Prop :=
 ∀ (pins : List (Addr × Obj)) (s : Shared) (σ : St) (H : Hp) (x y : V) (v u : Value) (Q : VK), Inv X pins σ H s -> RelV x v -> RelV y u -> r x y H Q →
  wpAny (model X.prog X.w) X.A (f v u) (EP X pins σ Q) X.xe s
def UnR (X : Cx) (f : Value -> Sem Value) (r : V -> Hp -> VK -> Prop) : Prop :=
 ∀ (pins : List (Addr × Obj)) (s : Shared) (σ : St) (H : Hp) (x : V) (v : Value) (Q : VK), Inv X pins σ H s -> RelV x v -> r x H Q →
  wpAny (model X.prog X.w) X.A (f v) (EP X pins σ Q) X.xe s
def Qby (X : Cx) (f : Value) (r : List V -> Hp -> VK -> Prop) : Prop :=
 ∀ (pins : List (Addr × Obj)) (s : Shared) (σ : St) (H : Hp) (xs : List V) (us : List Value) (Q : VK), Inv X pins σ H s -> Qt xs us -> r xs H Q →
  wpAny (model X.prog X.w) X.A (call f us) (EP X pins σ Q) X.xe s
def QtJ (X : Cx) (r : V -> Hp -> (Bool -> Hp -> Prop) -> Prop) : Prop :=
 ∀ (pins : List (Addr × Obj)) (s : Shared) (σ : St) (H : Hp) (x : V) (v : Value) (Q : Bool -> Hp -> Prop), Inv X pins σ H s -> RelV x v -> r x H Q →
  wpAny (model X.prog X.w) X.A (truthy v) (TP X pins σ Q) X.xe s
noncomputable def tOp (r : R2) (ta tb : TE) : TE := λ σ H Q => ta σ H λ x H1 => tb σ H1 λ y H2 => r x y H2 Q
noncomputable def tUn (r : V -> Hp -> VK -> Prop) (ta : TE) : TE := λ σ H Q => ta σ H λ x H1 => r x H1 Q
noncomputable def rI (C : Int -> Int -> Prop) (g : Int -> Int -> V) : R2 := λ x y H Q => ∃ i j, x = .int i /\ y = .int j /\ C i j /\ Q (g i j) H
noncomputable def rI0 (g : Int -> Int -> V) : R2 := λ x y H Q => ∃ i j, x = .int i /\ y = .int j /\ Q (g i j) H
noncomputable def rU (g : Int -> V) : V -> Hp -> VK -> Prop := λ x H Q => ∃ i, x = .int i /\ Q (g i) H
section
variable {X : Cx} {a b c : Expr} {ta tb tc : TE} {pos : Pos}
theorem Qn9 (ha : PE X a ta) (hb : PE X b tb) {pins : List (Addr × Obj)} {s : Shared} {σ : St} {H : Hp} {R : V -> V -> Hp -> Prop} (I : Inv X pins σ H s)
  (h : ta σ H λ x H1 => tb σ H1 λ y H2 => R x y H2) {Q : Value -> Shared -> Prop} {f : Value -> Value -> Sem Value}
  (hf : ∀ v u s2 x y H2, Inv X pins σ H2 s2 -> RelV x v -> RelV y u -> R x y H2 -> wpAny (model X.prog X.w) X.A (f v u) Q X.xe s2) :
  wpAny (model X.prog X.w) X.A (eval a X.env) (λ v s₁ => wpAny (model X.prog X.w) X.A (eval b X.env) (λ u s₂ => wpAny (model X.prog X.w) X.A (f v u) Q X.xe s₂) X.xe s₁) X.xe s := by
 refine thn (ha pins s σ H _ I h) λ v s1 ⟨x, H1, I1, r1, q1⟩ => ?_
 refine thn (hb pins s1 σ H1 _ I1 q1) λ u s2 ⟨y, H2, I2, r2, q2⟩ => ?_
 exact hf v u s2 x y H2 I2 r1 r2 q2
theorem QlK {op : Operator} {r : R2} (ho : OpR X (binaryOp op) r) (ha : PE X a ta) (hb : PE X b tb) : PE X (.BinOp a op b pos) (tOp r ta tb) := by
 intro pins s σ H Q I h
 exact wpAny_BinOp (Qn9 ha hb I h λ v u s2 x y H2 I2 rx ry q => ho pins s2 σ H2 x y v u Q I2 rx ry q)
theorem Qtz {op : UnaryOp} {r : V -> Hp -> VK -> Prop} (ho : UnR X (unaryOp op) r) (ha : PE X a ta) : PE X (.UnaryOp op a pos) (tUn r ta) := by
 intro pins s σ H Q I h
 exact UnaryOp_ (thn (ha pins s σ H _ I h) λ v s1 ⟨x, H1, I1, r1, q1⟩ => ho pins s1 σ H1 x v Q I1 r1 q1)
theorem QtH {op : Operator} {r : R2} (ho : OpR X (inplaceOp op) r) {pins : List (Addr × Obj)} {s : Shared} {σ : St} {H : Hp} {x y : V} {v u : Value} {Q : VK} (I : Inv X pins σ H s)
  (rx : RelV x v) (ry : RelV y u) (q : r x y H Q) : wpAny (model X.prog X.w) X.A (inplaceOp op v u) (EP X pins σ Q) X.xe s := ho pins s σ H x y v u Q I rx ry q
theorem opI {f : Value -> Value -> Sem Value} {C : Int -> Int -> Prop} {g : Int -> Int -> Int}
  (rule : ∀ (i j : Int) (t u : Tok) (s : Shared) (Q : Value -> Shared -> Prop) (E : Value -> Shared -> Prop), C i j -> Q (.int (g i j) s.toks) { s with toks := s.toks + 1 } -> wpAny (model X.prog X.w) X.A (f (.int i t) (.int j u)) Q E s) :
  OpR X f (rI C λ i j => .int (g i j)) := by
 intro pins s σ H x y v u Q I rx ry h
 obtain ⟨i, j, rfl, rfl, hc, q⟩ := h
 obtain ⟨t, rfl⟩ := rx
 obtain ⟨t', rfl⟩ := ry
 exact rule i j t t' s _ _ hc ⟨.int (g i j), H, I.tok _, ⟨_, rfl⟩, q⟩
theorem QlP {f : Value -> Value -> Sem Value} {g : Int -> Int -> Int}
  (rule : ∀ (i j : Int) (t u : Tok) (s : Shared) (Q : Value -> Shared -> Prop) (E : Value -> Shared -> Prop), Q (.int (g i j) s.toks) { s with toks := s.toks + 1 } -> wpAny (model X.prog X.w) X.A (f (.int i t) (.int j u)) Q E s) :
  OpR X f (rI0 λ i j => .int (g i j)) := by
 intro pins s σ H x y v u Q I rx ry h
 obtain ⟨i, j, rfl, rfl, q⟩ := h
 obtain ⟨t, rfl⟩ := rx
 obtain ⟨t', rfl⟩ := ry
 exact rule i j t t' s _ _ ⟨.int (g i j), H, I.tok _, ⟨_, rfl⟩, q⟩
theorem QlU {f : Value -> Value -> Sem Value} {g : Int -> Int -> Bool}
  (rule : ∀ (i j : Int) (t u : Tok) (s : Shared) (Q : Value -> Shared -> Prop) (E : Value -> Shared -> Prop), Q (.bool (g i j)) s -> wpAny (model X.prog X.w) X.A (f (.int i t) (.int j u)) Q E s) :
  OpR X f (rI0 λ i j => .bl (g i j)) := by
 intro pins s σ H x y v u Q I rx ry h
 obtain ⟨i, j, rfl, rfl, q⟩ := h
 obtain ⟨t, rfl⟩ := rx
 obtain ⟨t', rfl⟩ := ry
 exact rule i j t t' s _ _ ⟨.bl (g i j), H, I, rfl, q⟩
def QrM (i j : Int) : Prop := (-(2 ^ 64) < i /\ i < 2 ^ 64) ∨ (-(2 ^ 64) < j /\ j < 2 ^ 64)
theorem QrM.ok {i j : Int} (h : QrM i j) : IntMulOk i j := by
 rcases h with ⟨h1, h2⟩ | ⟨h1, h2⟩
 ·exact .of_left (intBits_le_64 h1 h2)
 ·exact .of_right (intBits_le_64 h1 h2)
theorem Qq9 : OpR X (binaryOp .Add) (rI0 λ i j => .int (i + j)) := QlP λ _ _ _ _ _ _ _ q => add_int q
theorem QsB : OpR X (binaryOp .Sub) (rI0 λ i j => .int (i - j)) := QlP λ _ _ _ _ _ _ _ q => sub_int q
theorem QpO : OpR X (inplaceOp .Add) (rI0 λ i j => .int (i + j)) := QlP λ _ _ _ _ _ _ _ q => iadd_int q
theorem QpS : OpR X (inplaceOp .Sub) (rI0 λ i j => .int (i - j)) := QlP λ _ _ _ _ _ _ _ q => isub_int q
theorem unI {f : Value -> Sem Value} {g : Int -> Int}
  (rule : ∀ (i : Int) (t : Tok) (s : Shared) (Q : Value -> Shared -> Prop) (E : Value -> Shared -> Prop), Q (.int (g i) s.toks) { s with toks := s.toks + 1 } -> wpAny (model X.prog X.w) X.A (f (.int i t)) Q E s) :
  UnR X f (rU λ i => .int (g i)) := by
 intro pins s σ H x v Q I rx h
 obtain ⟨i, rfl, q⟩ := h
 obtain ⟨t, rfl⟩ := rx
 exact rule i t s _ _ ⟨.int (g i), H, I.tok _, ⟨_, rfl⟩, q⟩
theorem Qsv : UnR X (unaryOp .USub) (rU λ i => .int (-i)) := unI λ _ _ _ _ _ q => neg_int q
end
section
variable {X : Cx} {a b c : Expr} {ta tb tc : TE} {pos : Pos}
theorem QtA : OpR X (compareOp .Lt) (rI0 λ i j => .bl (decide (i < j))) := QlU λ _ _ _ _ _ _ _ q => lt_int q
theorem Qtw : OpR X (compareOp .LtE) (rI0 λ i j => .bl (decide (i <= j))) := QlU λ _ _ _ _ _ _ _ q => le_int q
theorem QsR : OpR X (compareOp .Gt) (rI0 λ i j => .bl (decide (j < i))) := QlU λ _ _ _ _ _ _ _ q => gt_int q
theorem QtB : OpR X (compareOp .GtE) (rI0 λ i j => .bl (decide (j <= i))) := QlU λ _ _ _ _ _ _ _ q => ge_int q
theorem OpR.or {f : Value -> Value -> Sem Value} {r r' : R2} (h : OpR X f r) (h' : OpR X f r') : OpR X f (λ x y H Q => r x y H Q ∨ r' x y H Q) := by
 intro pins s σ H x y v u Q I rx ry q
 rcases q with q | q
 ·exact h pins s σ H x y v u Q I rx ry q
 ·exact h' pins s σ H x y v u Q I rx ry q
theorem Qup (b : Expr) {op : CmpOp} (h : op ≠ .In := by decide) (h2 : op ≠ .NotIn := by decide) : behindInMarks op b = false := by
 have e1 : (op == CmpOp.In) = false := by cases op <;> first | rfl | exact absurd rfl h
 have e2 : (op == CmpOp.NotIn) = false := by cases op <;> first | rfl | exact absurd rfl h2
 cases b <;> simp [behindInMarks, e1, e2]
theorem Qp1 {op : CmpOp} {r : R2} (ho : OpR X (compareOp op) r) (ha : PE X a ta) (hb : PE X b tb) (hm : behindInMarks op b = false) : PE X (.Compare a [op] [b] pos) (tOp r ta tb) := by
 intro pins s σ H Q I h
 exact wpAny_Compare1 (Qn9 ha hb I h λ v u s2 x y H2 I2 rx ry q => ho pins s2 σ H2 x y v u Q I2 rx ry q) hm
noncomputable def QsX (t : TE) : TT := λ σ H Q => t σ H λ x H' => ∃ k, x = .bl k /\ Q k H'
theorem Qqy {op : CmpOp} {r : R2} (ho : OpR X (compareOp op) r) (ha : PE X a ta) (hb : PE X b tb) (hm : behindInMarks op b = false) : PT X (.Compare a [op] [b] pos) (QsX (tOp r ta tb)) := by
 intro pins s σ H Q I h
 refine wpAny_isTrue_Compare1 (thn (ha pins s σ H _ I h) λ v s1 ⟨x, H1, I1, r1, q1⟩ => thn (hb pins s1 σ H1 _ I1 q1) λ u s2 ⟨y, H2, I2, r2, q2⟩ =>
  thn (ho pins s2 σ H2 x y v u _ I2 r1 r2 q2) λ c s3 ⟨z, H3, I3, r3, k, e, q3⟩ => ?_) hm
 subst e
 cases r3
 exact wpAny_truthy_bool ⟨H3, I3, q3⟩
def Qo3 (K : PySem.W.Frag) (x : V) (H : Hp) (k : Bool) : Prop :=
 match x with
 | .non => k = false
 | .bl b => k = b
 | .int i => k = (i != 0)
 | .str y => y.length <= sizeLine /\ k = ((y.length : Int) != 0)
 | .byt y => y.size <= sizeLine /\ k = ((y.size : Int) != 0)
 | .ref p => (∃ xs, SqL K H p xs /\ k = !xs.isEmpty) ∨ (∃ xs, SqT K H p xs /\ k = !xs.isEmpty) ∨ ∃ kvs, H p = some (.dK kvs) /\ k = !kvs.isEmpty
 | _ => False
theorem Qmg {κ : Type} {kvs : List (κ × V)} {vs : List (κ × Value)} (r : KV kvs vs) : (!vs.isEmpty) = !kvs.isEmpty := by
 cases r <;> rfl
theorem Qg7 {xs : List V} {its : List Value} (r : Qt xs its) : (!its.toArray.isEmpty) = !xs.isEmpty := by
 cases r <;> simp
theorem QeH : (sizeLine : Nat) < 2 ^ 63 := by rw [sizeLine_eq]; decide
theorem QhA : QtJ X (λ x H Q => ∃ k, Qo3 X.K x H k /\ Q k H) := by
 intro pins s σ H x v Q I rx h
 obtain ⟨k, e, q⟩ := h
 have hl := QeH
 have hs : sizeLine = 16777216 := sizeLine_eq
 cases x with
 | non =>
  cases rx
  have e' : k = false := e
  subst e'
  exact truthy_none ⟨H, I, q⟩
 | bl b =>
  cases rx
  have e' : k = b := e
  subst e'
  exact wpAny_truthy_bool ⟨H, I, q⟩
 | int i =>
  obtain ⟨t, rfl⟩ := rx
  have e' : k = (i != 0) := e
  subst e'
  exact PySem.P.truthy_int ⟨H, I, q⟩
 | str y =>
  obtain ⟨t, rfl⟩ := rx
  obtain ⟨hy, e'⟩ : y.length <= sizeLine /\ k = ((y.length : Int) != 0) := e
  subst e'
  exact PySem.P.truthy_str (by omega) ⟨H, I.tok _, q⟩
 | byt y =>
  obtain ⟨t, rfl⟩ := rx
  obtain ⟨hy, e'⟩ : y.size <= sizeLine /\ k = ((y.size : Int) != 0) := e
  subst e'
  exact PySem.W.truthy_bytes (by omega) ⟨H, I.tok _, q⟩
 | ref p =>
  cases rx
  have e' : (∃ xs, SqL X.K H p xs /\ k = !xs.isEmpty) ∨ (∃ xs, SqT X.K H p xs /\ k = !xs.isEmpty) ∨ ∃ kvs, H p = some (.dK kvs) /\ k = !kvs.isEmpty := e
  rcases e' with ⟨xs, hx, e'⟩ | ⟨xs, hx, e'⟩ | ⟨kvs, hx, e'⟩
  ·subst e'
   obtain ⟨its, r, pl, hz⟩ := I.list hx
   have hlen := r.length
   exact wpAny_truthy_list pl.isList (by simp only [Zk]; omega) ⟨H, I.tok _, by rw [Qg7 r]; exact q⟩
  ·subst e'
   obtain ⟨its, r, pl, hz⟩ := I.tuple hx
   have hlen := r.length
   exact truthy_tuple pl (by simp only [Zk]; omega) ⟨H, I.tok _, by rw [Qg7 r]; exact q⟩
  ·subst e'
   obtain ⟨hz, hS, vs, r, m⟩ : kvs.length <= sizeLine /\ (p == sysModules) = false /\ ∃ vs, KV kvs vs /\ s.heap.DictOf (QhD X.prog X.w) p vs := I.hok p _ hx
   have hlen : kvs.length = vs.length := Paired.length r
   exact wpAny_truthy_dict hS m (by omega) ⟨H, I.tok _, by rw [Qmg r]; exact q⟩
 | _ => exact (show False from e).elim
theorem Qpf (ha : PE X a ta) (he : ∀ whole, isTrue a X.env whole = (do let v ← whole; standAt a.pos; holding [v] (truthy v))) :
  PT X a (λ σ H Q => ta σ H λ x H' => ∃ k, Qo3 X.K x H' k /\ Q k H') := by
 intro pins s σ H Q I h
 exact isTrue_plain (thn (ha pins s σ H _ I h) λ v s1 ⟨x, H1, I1, r1, q1⟩ => QhA pins s1 σ H1 x v Q I1 r1 q1) (he _)
theorem vals1 {x : V} {us : List Value} (r : Qt [x] us) : ∃ u, us = [u] /\ RelV x u := by
 cases r with
 | cons r1 r2 => cases r2; exact ⟨_, rfl, r1⟩
theorem vals2 {x y : V} {us : List Value} (r : Qt [x, y] us) : ∃ u w', us = [u, w'] /\ RelV x u /\ RelV y w' := by
 cases r with
 | cons r1 r2 =>
  cases r2 with
  | cons r3 r4 => cases r4; exact ⟨_, _, rfl, r1, r3⟩
theorem QoJ : Qby X (.builtin "abs") (λ xs H Q => ∃ i, xs = [.int i] /\ Q (.int (if i < 0 then -i else i)) H) := by
 intro pins s σ H xs us Q I r h
 obtain ⟨i, rfl, q⟩ := h
 obtain ⟨u, rfl, t, rfl⟩ := vals1 r
 exact call_abs_int λ u tk => ⟨.int (if i < 0 then -i else i), H, I.tok _, ⟨_, rfl⟩, q⟩
theorem Qnk (hc : X.calm = true) : Qby X (.builtin "max") (λ xs H Q => ∃ i j, xs = [.int i, .int j] /\ Q (.int (if j > i then j else i)) H) := by
 intro pins s σ H xs us Q I r h
 obtain ⟨i, j, rfl, q⟩ := h
 obtain ⟨u, w', rfl, ⟨t, rfl⟩, ⟨t', rfl⟩⟩ := vals2 r
 refine max_two_ints (I.ok.hd hc) λ h' tk k => ⟨_, H, I.kept k, ?_, q⟩
 by_cases hj : j > i
 ·rw [if_pos hj, if_pos hj]; exact ⟨_, rfl⟩
 ·rw [if_neg hj, if_neg hj]; exact ⟨_, rfl⟩
theorem Qmk (hc : X.calm = true) : Qby X (.builtin "min") (λ xs H Q => ∃ i j, xs = [.int i, .int j] /\ Q (.int (if j < i then j else i)) H) := by
 intro pins s σ H xs us Q I r h
 obtain ⟨i, j, rfl, q⟩ := h
 obtain ⟨u, w', rfl, ⟨t, rfl⟩, ⟨t', rfl⟩⟩ := vals2 r
 refine min_two_ints (I.ok.hd hc) λ h' tk k => ⟨_, H, I.kept k, ?_, q⟩
 by_cases hj : j < i
 ·rw [if_pos hj, if_pos hj]; exact ⟨_, rfl⟩
 ·rw [if_neg hj, if_neg hj]; exact ⟨_, rfl⟩
end
end L2
namespace L2
open PySem PySem.Spec PyProof.Rows
structure Qsd (h : Heap) (x dx C : Addr) (mA : Str -> Option Value) : Prop where
 obj : h.get? x = some (PySem.W.instObj C dx)
 ns : h.Ns1 dx mA
 ne : dx ≠ x
theorem QmL {h : Heap} {dx : Addr} {mA : Str -> Option Value} (n : h.Ns1 dx mA) : ∃ od, h.get? dx = some od /\ ∀ name, PySem.W.lookIn name od = some (mA name) := by
 obtain ⟨o, es, ep, ho, hd, hk, _, hm⟩ := n
 refine ⟨o, ho, λ name => ?_⟩
 have e := hm name
 unfold nsFind findBy at e
 rw [← Array.find?_toList] at e
 unfold PySem.W.lookIn
 rw [hd]
 dsimp only
 split
 ·rename_i y q
  rw [q] at e
  exact congrArg some e
 ·rename_i q
  rw [q] at e
  have a : es.toList.any (·.refKey) = false := by
   rw [List.any_eq_false]
   intro y hy
   obtain ⟨z, t, hkey⟩ := hk y (Array.mem_toList_iff.mp hy)
   simp [DictEntry.refKey, hkey]
  have a' : ¬ es.toList.any (·.refKey) = true := by rw [a]; exact Zae
  rw [if_neg a']
  exact congrArg some e
theorem Qsd.look {h : Heap} {x dx C : Addr} {mA : Str -> Option Value} (I : Qsd h x dx C mA) : ∃ od, PySem.W.InstAt h x (PySem.W.instObj C dx) C (some od) /\ ∀ name, PySem.W.lookIn name od = some (mA name) :=
 let ⟨od, ho, hl⟩ := QmL I.ns
 ⟨od, ⟨I.obj, rfl, rfl, ho⟩, hl⟩
section
variable {prog : Program} {w : World} {A : Around} {E : Value -> Shared -> Prop} {s : Shared} {K : PySem.W.Frag} {x dx C f : Addr} {mA : Str -> Option Value} {name : Str} {v : Value}
end
theorem Qh1.some_of {v : V} {o : Option Value} (r : Qh1 (some v) o) : ∃ u, o = some u /\ RelV v u := by
 cases o with
 | none => exact (show False from r).elim
 | some u => exact ⟨u, rfl, r⟩
theorem Qh1.none_of {o : Option Value} (r : Qh1 none o) : o = none := by
 cases o with
 | none => rfl
 | some u => exact (show False from r).elim
section
variable {P : Program} {w : World} {H H' : Hp} {h h' : Heap} {a C dx : Addr} {fs fs' : List (Str × V)}
end
structure Cls (K : PySem.W.Frag) (C : Addr) : Prop where
 pg : PySem.W.plainGet K C Str.empty = true
 hd : PySem.W.hasDictIn K C = true
 po : PySem.W.plainOver K C = true
 sa : PySem.W.findIn K (.ref C) "__setattr__" = some (some (.builtin "object.__setattr__"))
theorem Cls.get {K : PySem.W.Frag} {C : Addr} (c : Cls K C) (f : Str) : PySem.W.plainGet K C f = true := c.pg
structure Con (K : PySem.W.Frag) (C : Addr) (f : Str) (v : V) (u : Value) : Prop where
 at_ : PySem.W.findIn K (.ref C) f = some (some u)
 rel : RelV v u
 get : PySem.W.specialIn K u "__get__" = some none
 cp : PySem.W.copiedNames.contains f = false
structure Qus (K : PySem.W.Frag) (C : Addr) (m : Str) (f : Addr) : Prop where
 at_ : PySem.W.findIn K (.ref C) m = some (some (.ref f))
 fn : PySem.W.isFn K (.ref f) = true
 kp : PySem.W.keepIn K (.ref f) = true
section
variable {X : Cx} {pins : List (Addr × Obj)} {σ : St} {H : Hp} {s : Shared} {a C dx : Addr} {fs : List (Str × V)} {f : Str} {v : V} {A : Around} {E : Value -> Shared -> Prop}
theorem Inv.made (I : Inv X pins σ H s) : Inv X pins σ (upd (upd H s.heap.objs.size (.own (s.heap.objs.size + 1))) (s.heap.objs.size + 1) (.ins C s.heap.objs.size []))
  { s with heap := (s.heap.push PySem.W.emptyDict).push (PySem.W.instObj C s.heap.objs.size) } := by
 have e1 : (s.heap.push PySem.W.emptyDict).get? s.heap.objs.size = some PySem.W.emptyDict := ZE s.heap rfl
 have e2 : ((s.heap.push PySem.W.emptyDict).push (PySem.W.instObj C s.heap.objs.size)).get? (s.heap.objs.size + 1) = some (PySem.W.instObj C s.heap.objs.size) := by
  have := ZE (s.heap.push PySem.W.emptyDict) (o := PySem.W.instObj C s.heap.objs.size) rfl
  rwa [ZaM] at this
 have e3 : (s.heap.push PySem.W.emptyDict).Ns s.heap.objs.size (λ _ => none) := ⟨PySem.W.emptyDict, #[], _, e1, rfl, (λ e he => absurd he (by simp)), λ _ => rfl⟩
 have I1 := I.laid (a := s.heap.objs.size) (o := .own (s.heap.objs.size + 1)) (h' := s.heap.push PySem.W.emptyDict) (t' := s.toks) (λ b u q => Zp _ q) (Zi _) ⟨_, e1⟩
 refine I1.laid (a := s.heap.objs.size + 1) (o := .ins C s.heap.objs.size []) (t' := s.toks) (λ b u q => Zp _ q) (Nat.le_of_eq (ZaM _ _)) ?_
 have ne : s.heap.objs.size ≠ s.heap.objs.size + 1 := ZL (Zba _)
 refine ⟨by rw [QP ne, Qaj], ZW _, ne, e2, λ _ => none, (Heap.Ns1.of_empty e3).at λ o q => Zp _ q, λ _ => True.intro, λ y hy => absurd rfl hy⟩
end
section
variable {X : Cx} {o e value : Expr} {f : Str} {pos pos' tpos : Pos} {ta tv : TE}
end
section
variable {X : Cx} {pins : List (Addr × Obj)} {σ : St} {H : Hp} {s : Shared} {A : Around} {E : Value -> Shared -> Prop} {Q : Value -> Shared -> Prop} {c : Value} {b : Bool}
inductive QdS (K : PySem.W.Frag) (H : Hp) : V -> Value -> Prop where
 | non : QdS K H .non (.type "NoneType")
 | bl (x : Bool) : QdS K H (.bl x) (.type "bool")
 | int (i : Int) : QdS K H (.int i) (.type "int")
 | str (x : Str) : QdS K H (.str x) (.type "str")
 | flt (x : UInt64) : QdS K H (.flt x) (.type "float")
 | lst {a : Addr} {xs : List V} (e : H a = some (.lst xs)) : QdS K H (.ref a) (.type "list")
 | frz {a : Addr} {o : Obj} {xs : List V} (e : H a = some (.frz o (.lst xs))) : QdS K H (.ref a) (.type "list")
 | tup {a : Addr} {xs : List V} (e : H a = some (.tup xs)) : QdS K H (.ref a) (.type "tuple")
 | dK {a : Addr} {kvs : List (Key × V)} (e : H a = some (.dK kvs)) : QdS K H (.ref a) (.type "dict")
 | dT {a : Addr} {kvs : List (List Key × V)} (e : H a = some (.dT kvs)) : QdS K H (.ref a) (.type "dict")
 | ins {a C dx : Addr} {fs : List (Str × V)} (e : H a = some (.ins C dx fs)) (cl : Cls K C) (ha : PySem.W.findIn K (.ref C) "__class__" = some (some (.builtin "object.__class__")))
   (hn : PySem.W.specialIn K (.builtin "object.__class__") "__get__" = some (some (.builtin "getset_descriptor.__get__"))) (htk : PySem.W.takesIn K (.builtin "object.__class__") = some true)
   (hm : PySem.W.mroIn K C (.type "object") = some true) : QdS K H (.ref a) (.ref C)
end
end L2
namespace L2
open PySem PySem.Spec PyProof.Rows
structure Qag (k : Nat) (A : Around) : Prop where
 hd : A.handled = none
 dp : A.depth + 3 * k + 5 < recursionLimit
 un : A.units + 16 * k + 200 < cLine
theorem Qag.mono {j k : Nat} {A : Around} (r : Qag k A) (h : j <= k) : Qag j A := ⟨r.hd, by have := r.dp; omega, by have := r.un; omega⟩
theorem Qag.deeper {k : Nat} {A : Around} (r : Qag (k + 1) A) (env : Env) : Qag k (A.deeper env) :=
 ⟨r.hd, by have := r.dp; show A.depth + 1 + 3 * k + 5 < _; omega, by have := r.un; show A.units + 3 + 16 * k + 200 < _; omega⟩
theorem Qag.in1 {k : Nat} {A : Around} (r : Qag (k + 1) A) : Qag k A.in1 :=
 ⟨r.hd, by have := r.dp; show A.depth + 3 * k + 5 < _; omega, by have := r.un; show A.units + 1 + 16 * k + 200 < _; omega⟩
theorem Qmc {A : Around} {C : Addr} {us : List Value} {kw : List (Str × Value)} : (A.under (.builtin "type.__call__" ⟨.ref C :: us, kw⟩)).depth = A.depth + 1 := by
 first | rfl | simp [Around.under, Code.weight, Code.isCreation, Code.isGuard, Code.isCaller, Code.frames, Code.isFrame, guardIds]
theorem Qme {A : Around} {C : Addr} {us : List Value} {kw : List (Str × Value)} : (A.under (.builtin "type.__call__" ⟨.ref C :: us, kw⟩)).units = A.units + 1 := by
 first | rfl | simp [Around.under, Code.cUnits, Code.frames, Code.isFrame]
theorem Qag.make {k : Nat} {A : Around} (r : Qag (k + 1) A) (C : Addr) (us : List Value) (kw : List (Str × Value)) : Qag k (A.under (.builtin "type.__call__" ⟨.ref C :: us, kw⟩)) :=
 ⟨r.hd, by have := r.dp; rw [Qmc]; omega, by have := r.un; rw [Qme]; omega⟩
theorem Qag.depth {k : Nat} {A : Around} (r : Qag k A) : A.depth < recursionLimit := by have := r.dp; omega
theorem Qag.units {k : Nat} {A : Around} (r : Qag k A) : A.units + 64 < cLine := by have := r.un; omega
noncomputable def Qeo : TA := λ _ H Q => Q [] H
noncomputable def QcT (ta : TE) (tr : TA) : TA := λ σ H Q => ta σ H λ x H1 => tr σ H1 λ xs H2 => Q (x :: xs) H2
section
variable {X : Cx} {e : Expr} {es : List Expr} {te : TE} {t : TA} {pos : Pos}
theorem Qcd : PA X [] Qeo := λ _ _ _ _ H Q I h => Calls.spliced_nil ⟨[], H, I, .nil, h⟩
theorem Qay (ha : PE X e te) (hr : PA X es t) (hs : starEach (e :: es) X.env = (false, eval e X.env) :: starEach es X.env := by rfl) : PA X (e :: es) (QcT te t) := by
 intro pos pins s σ H Q I h
 rw [hs]
 show wpAny _ _ (spliced ((false, eval e X.env) :: backTo pos (starEach es X.env))) _ _ s
 refine Calls.spliced_cons (thn (ha pins s σ H _ I h) λ u s1 ⟨x, H1, I1, r1, q1⟩ => ?_)
 exact thn (hr pos pins s1 σ H1 _ I1 q1) λ us s2 ⟨xs, H2, I2, r2, q2⟩ => ⟨x :: xs, H2, I2, .cons r1 r2, q2⟩
noncomputable def Quc (t : TA) : TE := λ σ H Q => t σ H λ xs H1 => xs.length <= sizeLine /\ ∀ p, H1 p = none -> Q (.ref p) (upd H1 p (.tup xs))
noncomputable def Qui (t : TA) : TE := λ σ H Q => t σ H λ xs H1 => xs.length <= sizeLine /\ ∀ p, H1 p = none -> Q (.ref p) (upd H1 p (.lst xs))
theorem Qrd {x1} (h : PA X es t) : PE X (.Tuple es x1 pos) (Quc t) := by
 intro pins s σ H Q I hq
 refine wpAny_Tuple_spliced (thn (h pos pins s σ H _ I hq) λ us s1 ⟨xs, H1, I1, r, z, q⟩ => ⟨by rw [← r.length]; exact z, ?_⟩)
 have hf : H1 s1.heap.objs.size = none := I1.hok.fresh (Zi _)
 refine ⟨.ref s1.heap.objs.size, upd H1 s1.heap.objs.size (.tup xs), I1.laid (t' := s1.toks) (λ b u e => Zp _ e) (Zi _) ?_, rfl, q _ hf⟩
 exact ⟨z, us, r, ⟨_, ZE _ rfl, rfl, _, rfl⟩⟩
theorem Qrq (h : PA X es t) : PE X (.List es pos) (Qui t) := by
 intro pins s σ H Q I hq
 refine wpAny_List_spliced (thn (h pos pins s σ H _ I hq) λ us s1 ⟨xs, H1, I1, r, z, q⟩ => ⟨by rw [← r.length]; exact z, ?_⟩)
 have hf : H1 s1.heap.objs.size = none := I1.hok.fresh (Zi _)
 refine ⟨.ref s1.heap.objs.size, upd H1 s1.heap.objs.size (.lst xs), I1.laid (t' := s1.toks) (λ b u e => Zp _ e) (Zi _) ?_, rfl, q _ hf⟩
 exact ⟨z, us, 0, r, ZE _ rfl⟩
end
noncomputable abbrev Sp := List V -> Hp -> VK -> XK -> Prop
noncomputable abbrev CXT := List Env -> Hp -> Shared -> XK -> Value -> Shared -> Prop
structure Qek (P : Program) (w : World) (K : PySem.W.Frag) (mg : Str -> Option Value) (base : Heap) (A : Around) (outer : List Env) (s : Shared) (H : Hp) : Prop where
 frames : A.frames = some outer
 mod : Mod K mg base
 bs : ∀ b o, base.get? b = some o -> s.heap.get? b = some o /\ H b = none
 bsz : base.objs.size <= s.heap.objs.size
 Qc6 : s.heap.FunFrames base outer
 frf : ∀ b ∈ frs outer, H b = none
 hok : HOk P w H s.heap
 bare : AllBare s.gens
def CE (outer : List Env) (P : Program) (w : World) (H : Hp) (s : Shared) (Q : VK) (u : Value) (s' : Shared) : Prop :=
 ∃ v H', s'.os = s.os /\ AllBare s'.gens /\ Un (frs outer) [] H H' s.heap s'.heap /\ HOk P w H' s'.heap /\ RelV v u /\ Q v H'
def CR (CX : CXT) (outer : List Env) (P : Program) (w : World) (H : Hp) (s : Shared) (Q : VK) (E : XK) (r : Result) (s' : Shared) : Prop :=
 match r with
 | .ok (.ret u) => CE outer P w H s Q u s'
 | .ok _ => False
 | .error e => CX outer H s E e s'
structure Qbt (P : Program) (w : World) (K : PySem.W.Frag) (mg : Str -> Option Value) (base : Heap) (CX : CXT) (k : Nat) (f : Addr) (fd : FuncData) (ps : List Str) (sp : Sp) : Prop where
 len : ∀ vs H Q E, sp vs H Q E -> vs.length = ps.length
 run : ∀ (A : Around) (outer : List Env) (s : Shared) (H : Hp) (args : Args) (us : List Value) (vs : List V) (Q : VK) (E : XK), Qag k A -> Qek P w K mg base A outer s H -> BindsTo s fd args (ps.zip us) -> Qt vs us -> sp vs H Q E →
  codeAny (model P w) A (.call (.ref f) args) (CR CX outer P w H s Q E) s
theorem Qbt.mono {P : Program} {w : World} {K : PySem.W.Frag} {mg : Str -> Option Value} {base : Heap} {CX : CXT} {j k : Nat} {f : Addr} {fd : FuncData} {ps : List Str} {sp : Sp} (F : Qbt P w K mg base CX j f fd ps sp) (h : j <= k) :
  Qbt P w K mg base CX k f fd ps sp := ⟨F.len, λ A outer s H args us vs Q E hr => F.run A outer s H args us vs Q E (hr.mono h)⟩
theorem Qbt.imp {P : Program} {w : World} {K : PySem.W.Frag} {mg : Str -> Option Value} {base : Heap} {CX : CXT} {k : Nat} {f : Addr} {fd : FuncData} {ps : List Str} {sp sp' : Sp} (F : Qbt P w K mg base CX k f fd ps sp)
  (h : ∀ vs H Q E, sp' vs H Q E -> sp vs H Q E) : Qbt P w K mg base CX k f fd ps sp' :=
 ⟨λ vs H Q E q => F.len vs H Q E (h _ _ _ _ q), λ A outer s H args us vs Q E hr he hb hv hs => F.run A outer s H args us vs Q E hr he hb hv (h _ _ _ _ hs)⟩
theorem Qek.make {P : Program} {w : World} {K : PySem.W.Frag} {mg : Str -> Option Value} {base : Heap} {A : Around} {outer : List Env} {s : Shared} {H : Hp} (e : Qek P w K mg base A outer s H) (C : Addr) (us : List Value) (kw : List (Str × Value)) :
  Qek P w K mg base (A.under (.builtin "type.__call__" ⟨.ref C :: us, kw⟩)) outer s H := ⟨by first | exact e.frames | (simpa [Around.under, Code.envs, Code.isFrame, pushEnvs] using e.frames), e.mod, e.bs, e.bsz, e.Qc6, e.frf, e.hok, e.bare⟩
theorem Qek.in1 {P : Program} {w : World} {K : PySem.W.Frag} {mg : Str -> Option Value} {base : Heap} {A : Around} {outer : List Env} {s : Shared} {H : Hp} (e : Qek P w K mg base A outer s H) :
  Qek P w K mg base A.in1 outer s H := ⟨e.frames, e.mod, e.bs, e.bsz, e.Qc6, e.frf, e.hok, e.bare⟩
section
variable {X : Cx} {pins : List (Addr × Obj)} {σ : St} {H : Hp} {s s' : Shared}
theorem Inv.Qud (I : Inv X pins σ H s) : Qek X.prog X.w X.K X.mg X.base X.A X.stack s H :=
 ⟨I.ok.frames, I.ok.mod, I.bs, Zu I.ok.bsz I.sz, I.stack, I.Qli, I.hok, I.bare⟩
theorem Inv.after {Q : VK} {u : Value} (I : Inv X pins σ H s) (h : CE X.stack X.prog X.w H s Q u s') : EP X pins σ Q u s' := by
 obtain ⟨v, H', os, bare, un, hok, r, q⟩ := h
 obtain ⟨hh, g, d, t, os'⟩ := s'
 obtain rfl : os' = s.os := os
 exact ⟨v, H', I.call (h' := hh) (g' := g) (d' := d) (t' := t) (ch := []) un hok bare (λ b z => absurd z (by simp)), r, q⟩
end
noncomputable def QlQ (sp : Sp) (dvs : List V) (E : XK) (t : TA) : TE := λ σ H Q => t σ H λ vs H1 => sp (vs ++ dvs) H1 Q E
def Binds (K : PySem.W.Frag) (fd : FuncData) (ps : List Str) (ds : List Value) : Prop :=
 ∀ (s : Shared) (us : List Value), K.In s.heap -> (us ++ ds).length = ps.length -> BindsTo s fd ⟨us, []⟩ (ps.zip (us ++ ds))
theorem Binds.all {K : PySem.W.Frag} {fd : FuncData} {ps : List Str} (h : ∀ us : List Value, us.length = ps.length -> bindArgs fd ⟨us, []⟩ = pure (ps.zip us)) : Binds K fd ps [] := λ s us _ hl => by
 rw [ZaQ] at hl ⊢
 exact .of_eq (h us hl)
def Qg3 (CX : CXT) (X : Cx) (E : XK) : Prop := ∀ (pins : List (Addr × Obj)) (σ : St) (H : Hp) (s : Shared) (e : Value) (s' : Shared), Inv X pins σ H s -> CX X.stack H s E e s' -> X.xe e s'
section
variable {X : Cx} {CX : CXT} {k : Nat} {f C : Addr} {fd : FuncData} {ps : List Str} {sp : Sp} {dvs : List V} {ds : List Value} {E : XK} {x m : Str} {p pos apos : Pos} {e o : Expr} {es : List Expr} {ta : TE} {t : TA}
theorem QmV {pins : List (Addr × Obj)} {σ : St} {H : Hp} {s : Shared} {Q : VK} {us : List Value} {vs : List V} (F : Qbt X.prog X.w X.K X.mg X.base CX k f fd ps sp) (hr : Qag k X.A) (hb : Binds X.K fd ps ds) (hd : Qt dvs ds) (hx : Qg3 CX X E)
  (I : Inv X pins σ H s) (r : Qt vs us) (h : sp (vs ++ dvs) H Q E) : wpAny (model X.prog X.w) X.A (call (.ref f) us) (EP X pins σ Q) X.xe s := by
 have r2 : Qt (vs ++ dvs) (us ++ ds) := r.append hd
 have hl : (us ++ ds).length = ps.length := by rw [← r2.length]; exact F.len _ _ _ _ h
 refine wpAny_call (codeAny_mono (F.run X.A X.stack s H ⟨us, []⟩ (us ++ ds) (vs ++ dvs) Q E hr I.Qud (hb s us I.kIn hl) r2 h) λ r s' hq => ?_)
 cases r with
 | error e => exact hx pins σ H s e s' I hq
 | ok fl =>
  cases fl with
  | ret u => exact I.after hq
  | next => exact False.elim hq
  | brk => exact False.elim hq
  | cont => exact False.elim hq
theorem Qqe (F : Qbt X.prog X.w X.K X.mg X.base CX k f fd ps sp) (hr : Qag k X.A) (hg : Gl X x) (hm : X.mg x = some (.ref f)) (hk : PySem.W.keepIn X.K (.ref f) = true) (hb : Binds X.K fd ps ds) (hd : Qt dvs ds) (hx : Qg3 CX X E)
  (ha : PA X (e :: es) t) (hdb : (x == ("__debug__" : Str)) = false := by decide) (he : starEach (e :: es) X.env = (false, eval e X.env) :: starEach es X.env := by rfl) (hpl : (backTo pos (starEach es X.env)).any (·.1) = false := by rfl) :
  PE X (.Call (.Name x p) (e :: es) [] pos) (QlQ sp dvs E t) := by
 intro pins s σ H Q I h
 refine wpAny_Call_Name_kw (QhE I hg hm ?_ hdb)
 refine PySem.W.callWith_K (h₀ := X.base) I.ok.mod.kin hk (thn (ha pos pins s σ H _ I h) λ us s1 ⟨vs, H1, I1, r, q⟩ => ⟨I1.kIn, ?_⟩) he hpl
 exact QmV F hr hb hd hx I1 r q
theorem QoS (F : Qbt X.prog X.w X.K X.mg X.base CX k f fd ps sp) (hr : Qag k X.A) (hg : Gl X x) (hm : X.mg x = some (.ref f)) (hk : PySem.W.keepIn X.K (.ref f) = true) (hb : Binds X.K fd ps ds) (hd : Qt dvs ds) (hx : Qg3 CX X E)
  (hdb : (x == ("__debug__" : Str)) = false := by decide) : PE X (.Call (.Name x p) [] [] pos) (QlQ sp dvs E Qeo) := by
 intro pins s σ H Q I h
 refine wpAny_Call_Name_kw (QhE I hg hm ?_ hdb)
 exact PySem.W.callWith_K0 I.kIn hk (QmV (us := []) F hr hb hd hx I .nil h)
structure Mk (K : PySem.W.Frag) (C f : Addr) : Prop where
 makes : PySem.W.makesIn K C = true
 init : PySem.W.findIn K (.ref C) "__init__" = some (some (.ref f))
 fn : PySem.W.isFn K (.ref f) = true
 kp : PySem.W.keepIn K (.ref C) = true
end
section
variable {X : Cx} {CX : CXT} {k : Nat} {f C : Addr} {fd : FuncData} {ps ks : List Str} {sp : Sp} {E : XK} {x m : Str} {p pos apos kpos : Pos} {e o : Expr} {es : List Expr} {kws : List Keyword} {te ta : TE} {t tk : TA} {nm : Option Str}
structure Quq (K : PySem.W.Frag) (fd : FuncData) (ps ks : List Str) (g : List Value -> List Value -> List Value) (gV : List V -> List V -> List V) : Prop where
 to : ∀ (s : Shared) (us ws : List Value), K.In s.heap -> (g us ws).length = ps.length -> BindsTo s fd ⟨us, ks.zip ws⟩ (ps.zip (g us ws))
 rel : ∀ {vs : List V} {us : List Value} {zs : List V} {ws : List Value}, Qt vs us -> Qt zs ws -> Qt (gV vs zs) (g us ws)
variable {g : List Value -> List Value -> List Value} {gV : List V -> List V -> List V}
end
structure QcQ (N P : List Str) (sc : Scope) : Prop where
 kind : sc.kind = .function
 co : sc.isCoroutine = false
 gen : sc.isGenerator = false
 nd : N.Nodup
 pre : N.take P.length = P
 par : ∀ x ∈ P, sc.names.lookup x = some .local ∨ sc.names.lookup x = some .cell
 nofree : ∀ y ∈ sc.names, y.2 ≠ .free
theorem Qit {kindOf : Str -> Option NameKind} {x : Str} : ∀ {binds : List (Str × Value)} {m : Str -> Option Value}, (∀ v, (x, v) ∉ binds) -> bindL kindOf binds m x = m x
 | [], _, _ => rfl
 | (n, v) :: r, m, h => by
  unfold bindL
  rw [Qit λ w hw => h w (Ze _ hw)]
  split
  ·have : x ≠ n := by rintro rfl; exact h v Zn
   simp [this]
  ·rfl
theorem Qik {kindOf : Str -> Option NameKind} {x : Str} : ∀ {binds : List (Str × Value)} {m : Str -> Option Value}, (∀ v, (x, v) ∉ binds) -> bindC kindOf binds m x = m x
 | [], _, _ => rfl
 | (n, v) :: r, m, h => by
  unfold bindC
  rw [Qik λ w hw => h w (Ze _ hw)]
  split
  ·rfl
  ·have : x ≠ n := by rintro rfl; exact h v Zn
   simp [this]
theorem Qil {kindOf : Str -> Option NameKind} {x : Str} {v : Value} : ∀ {P : List Str} {vs : List Value} {i : Nat} {m : Str -> Option Value}, P.Nodup -> P[i]? = some x -> vs[i]? = some v -> kindOf x = some .local →
  bindL kindOf (P.zip vs) m x = some v
 | [], _, _, _, _, h, _, _ => by simp at h
 | _ :: _, [], _, _, _, _, h, _ => by simp at h
 | p :: P, w :: vs, 0, m, nd, h1, h2, hk => by
  simp at h1 h2; subst h1; subst h2
  show bindL kindOf ((p, w) :: P.zip vs) m p = _
  unfold bindL
  rw [Qit λ v hv => (Zaw.mp nd).1 (ZbM hv).1, if_pos hk]
  simp
 | p :: P, w :: vs, i + 1, m, nd, h1, h2, hk => by
  show bindL kindOf ((p, w) :: P.zip vs) m x = _
  unfold bindL
  exact Qil (i := i) (Zaw.mp nd).2 (by simpa using h1) (by simpa using h2) hk
theorem Qis {kindOf : Str -> Option NameKind} {x : Str} {v : Value} : ∀ {P : List Str} {vs : List Value} {i : Nat} {m : Str -> Option Value}, P.Nodup -> P[i]? = some x -> vs[i]? = some v -> kindOf x ≠ some .local →
  bindC kindOf (P.zip vs) m x = some v
 | [], _, _, _, _, h, _, _ => by simp at h
 | _ :: _, [], _, _, _, _, h, _ => by simp at h
 | p :: P, w :: vs, 0, m, nd, h1, h2, hk => by
  simp at h1 h2; subst h1; subst h2
  show bindC kindOf ((p, w) :: P.zip vs) m p = _
  unfold bindC
  rw [Qik λ v hv => (Zaw.mp nd).1 (ZbM hv).1, if_neg hk]
  simp
 | p :: P, w :: vs, i + 1, m, nd, h1, h2, hk => by
  show bindC kindOf ((p, w) :: P.zip vs) m x = _
  unfold bindC
  exact Qis (i := i) (Zaw.mp nd).2 (by simpa using h1) (by simpa using h2) hk
noncomputable def start (N : List Str) (vs : List V) : St := vs.map some ++ List.replicate (N.length - vs.length) none
noncomputable def QgG (CX : CXT) (P : Program) (w : World) (K : PySem.W.Frag) (mg : Str -> Option Value) (base : Heap) (N : List Str) (qual : Str) (scope : Scope) (f : Addr) (cd : Value) (A : Around) (outer : List Env) (s : Shared) (H : Hp) (E : XK) : Cx where
 prog := P
 w := w
 K := K
 mg := mg
 base := base
 A := A.deeper (envOfC qual scope s.heap.objs.size f cd)
 N := N
 s₀ := s
 H₀ := H
 env := envOfC qual scope s.heap.objs.size f cd
 outer := outer
 stack := envOfC qual scope s.heap.objs.size f cd :: outer
 ex := []
 calm := true
 fn := λ _ => true
 pn := []
 xe := λ e s' => wpAny (model P w) (A.deeper (envOfC qual scope s.heap.objs.size f cd)) (leaving (envOfC qual scope s.heap.objs.size f cd) e) (λ _ s'' => CX outer H s E e s'') (λ e' s'' => CX outer H s E e' s'') s'
theorem Qj6 {sc : Scope} {n : Nat} {x : Str} (h : sc.names.lookup x = some .cell) : ∃ c, (cellsFrom n sc.names []).lookup x = some c := by
 have q := ZbG sc.names n [] (.inl h)
 exact Zbw.mp q
theorem Qmn {CX : CXT} {P : Program} {w : World} {K : PySem.W.Frag} {mg : Str -> Option Value} {base : Heap} {N ps : List Str} {qual : Str} {scope : Scope} {f : Addr} {cd : Value} {A : Around} {outer : List Env} {s s1 : Shared} {H : Hp} {E : XK} {us : List Value} {vs : List V}
  (S : QcQ N ps scope) (hd : A.handled = none) (e0 : Qek P w K mg base A outer s H) (hl : vs.length = ps.length) (r : Qt vs us)
  (x : InCallC s s.heap.objs.size (bindL (envOfC qual scope s.heap.objs.size f cd).kindOf (ps.zip us) λ _ => none) (cellsFrom (s.heap.objs.size + 1) scope.names []) (bindC (envOfC qual scope s.heap.objs.size f cd).kindOf (ps.zip us) λ _ => none) s1) :
  Inv (QgG CX P w K mg base N qual scope f cd A outer s H E) [] (start N vs) H s1 := by
 have hpl : ps.length <= N.length := by have := congrArg List.length S.pre; rw [Zaf] at this; omega
 obtain ⟨h1, tk, rfl, hk⟩ := x.done
 have noA : ∀ b : Addr, b ∉ (QgG CX P w K mg base N qual scope f cd A outer s H E).ex := λ b z => absurd (show b ∈ ([] : List Addr) from z) (by simp)
 refine ⟨⟨e0.mod, S.kind, rfl, rfl, Zi _, λ y z c h1 h2 => ?_, λ y hy => ?_, λ y c _ h => ?_, λ _ => hd, Around.frames_deeper e0.frames, .inr ⟨rfl, rfl⟩, λ b z => absurd z (noA b), e0.bs, e0.bsz, λ b _ _ => noA b, λ b z => absurd z (noA b), e0.Qc6, e0.frf⟩,
  rfl, e0.bare, Un.kept hk, ⟨_, x.toInCall.ns, λ i y v h1 h2 h3 => ?_⟩, λ y c h => ⟨_, x.cell y c h⟩, e0.hok.fresh (Zi _), λ y c h => ?_, λ p hp => absurd (show p ∈ ([] : List (Addr × Obj)) from hp) (by simp), e0.hok.kept hk, ?_⟩
 ·exact name_of_addr x.apart (ZS h1) (ZS h2)
 ·have hy : scope.names.lookup y = some .cell ∨ scope.names.lookup y = some .free := hy
  rcases hy with hy | hy
  ·exact Qj6 hy
  ·exact absurd rfl (S.nofree _ (ZS hy))
 ·exact Nat.le_of_lt (x.above y c (ZS h))
 ·have hi : i < vs.length := by
   unfold start at h2
   by_cases hi : i < vs.length
   ·exact hi
   ·rw [ZaN (by simpa using hi)] at h2
    rw [ZbC] at h2
    split at h2 <;> cases h2
  have ha : vs[i]? = some v := by
   unfold start at h2
   rw [ZY (by simpa using hi), Zm] at h2
   cases e : vs[i]? with
   | none => rw [e] at h2; cases h2
   | some a => rw [e] at h2; cases h2; rfl
  obtain ⟨u, hu, rv⟩ := r.get ha
  have hp : ps[i]? = some y := by
   rw [← S.pre, List.getElem?_take_of_lt (by omega)]; exact h1
  have ndP : ps.Nodup := by rw [← S.pre]; exact S.nd.sublist (List.take_sublist _ _)
  refine ⟨u, rv, ?_⟩
  rcases S.par y (ZG hp) with k | k
  ·exact .inl ⟨k, Qil ndP hp hu k⟩
  ·obtain ⟨c, e⟩ := Qj6 (n := s.heap.objs.size + 1) k
   refine .inr ⟨.inl k, c, e, ?_⟩
   have q := x.cell y c e
   rw [Qis ndP hp hu (by show scope.names.lookup y ≠ _; rw [k]; decide)] at q
   exact q
 ·exact e0.hok.fresh (Nat.le_of_lt (x.above y c (ZS h)))
 ·unfold start
  show _ = N.length
  rw [Zl, Zj, List.length_replicate]
  omega
theorem QsZ {CX : CXT} {P : Program} {w : World} {K : PySem.W.Frag} {mg : Str -> Option Value} {base : Heap} {k : Nat} {f : Addr} {name qual : Str} {params : Arguments} {body : List Stmt} {scope : Scope} {dV kV doc pm cdv ct oc : Value} {an od : Option Addr}
  {osl : Array (Option Value)} {N ps : List Str} {sp : Sp} (lk : K.lookup f = some ⟨oc, od, .func (PySem.W.fnOf name qual params body scope dV kV doc pm an cdv ct), osl⟩) (hcd : PySem.W.codeIn K cdv qual = true) (S : QcQ N ps scope)
  (len : ∀ vs H Q E, sp vs H Q E -> vs.length = ps.length)
  (hbody : ∀ (A : Around) (outer : List Env) (s : Shared) (H : Hp) (vs : List V) (Q : VK) (E : XK), Qag k (A.deeper (envOfC qual scope s.heap.objs.size f cdv)) -> sp vs H Q E →
   ∃ t, PSs (QgG CX P w K mg base N qual scope f cdv A outer s H E) body t /\ t { nx := λ _ H' => Q .non H', rt := Q } (start N vs) H) :
  Qbt P w K mg base CX (k + 1) f (PySem.W.fnOf name qual params body scope dV kV doc pm an cdv ct) ps sp := by
 refine ⟨len, λ A outer s H args us vs Q E hr e0 hb r hsp => ?_⟩
 have hl := len _ _ _ _ hsp
 have KX : K.In s.heap := e0.mod.kin.keeps λ b o e => (e0.bs b o e).1
 have lim : s.heap.NoLimit := e0.mod.nolimit.keeps λ b o e => (e0.bs b o e).1
 have hkind : ∀ y ∈ ps.zip us, scope.names.lookup y.1 = some .local ∨ (scope.names.lookup y.1 = some .cell /\ ((cellsFrom (s.heap.objs.size + 1) scope.names []).lookup y.1).isSome = true) := λ ⟨n, v⟩ hy => by
  rcases S.par n (ZbM hy).1 with q | q
  ·exact .inl q
  ·exact .inr ⟨q, ZbG _ _ _ (.inl q)⟩
 refine codeAny_call_function hr.depth (KX _ _ lk) rfl S.co S.gen rfl (PySem.W.codeRec_of KX hcd) (hb _ _ _ _ ?_)
 refine wpAny_newFunctionEnv_cells S.kind hkind λ env he s1 x => ?_
 subst he
 refine ⟨lim.keeps x.toInCall.keep, codeAny_func ?_⟩
 obtain ⟨t, ht, hq⟩ := hbody A outer s H vs Q E (hr.deeper _) hsp
 have I : Inv (QgG CX P w K mg base N qual scope f cdv A outer s H E) [] (start N vs) H s1 := Qmn S hr.hd e0 hl r x
 refine wpAny_mono (ht [] s1 (start N vs) H _ I hq) (λ fl s' hs => ?_) λ e s' hs => hs
 have fin : ∀ {σ' : St} {H' : Hp} {v : V} {u : Value}, Inv (QgG CX P w K mg base N qual scope f cdv A outer s H E) [] σ' H' s' -> RelV v u -> Q v H' -> CE outer P w H s Q u s' :=
  λ {σ' H' v u} J rv q => ⟨v, H', J.os, J.bare, J.base, J.hok, rv, q⟩
 cases fl with
 | ret u =>
  obtain ⟨v, σ', H', J, rv, q⟩ := hs
  exact fin J rv q
 | next =>
  obtain ⟨σ', H', J, q⟩ := hs
  exact fin (v := V.non) (u := Value.none) J rfl q
 | brk =>
  obtain ⟨_, _, _, q⟩ := hs
  exact False.elim q
 | cont =>
  obtain ⟨_, _, _, q⟩ := hs
  exact False.elim q
end L2
namespace L2
open PySem PySem.Spec PyProof.Rows
section
variable {X : Cx} {x : Str} {p pos : Pos} {e : Expr} {es : List Expr} {t : TA} {id T : String} {r : List V -> Hp -> VK -> Prop}
noncomputable def tCB (r : List V -> Hp -> VK -> Prop) (t : TA) : TE := λ σ H Q => t σ H λ vs H1 => r vs H1 Q
theorem QgY (hc : Qby X (.builtin id) r) (hg : Gl X x) (hm : X.mg x = none) (hv : bootBuiltins x = some (.builtin id)) (ha : PA X (e :: es) t) (hn : x ≠ "__name__" := by decide) (hdb : (x == ("__debug__" : Str)) = false := by decide)
  (he : starEach (e :: es) X.env = (false, eval e X.env) :: starEach es X.env := by rfl) (hpl : (backTo pos (starEach es X.env)).any (·.1) = false := by rfl) : PE X (.Call (.Name x p) (e :: es) [] pos) (tCB r t) := by
 intro pins s σ H Q I h
 refine wpAny_Call_Name_kw (QcV I hg hm hv ?_ hn hdb)
 exact PyProof.Rows.callWith_builtin1 (thn (ha pos pins s σ H _ I h) λ us s1 ⟨vs, H1, I1, r1, q1⟩ => hc pins s1 σ H1 vs us Q I1 r1 q1) he hpl
theorem QnD (hc : Qby X (.type T) r) (hg : Gl X x) (hm : X.mg x = none) (hv : bootBuiltins x = some (.type T)) (ha : PA X (e :: es) t) (hn : x ≠ "__name__" := by decide) (hdb : (x == ("__debug__" : Str)) = false := by decide)
  (he : starEach (e :: es) X.env = (false, eval e X.env) :: starEach es X.env := by rfl) (hpl : (backTo pos (starEach es X.env)).any (·.1) = false := by rfl) : PE X (.Call (.Name x p) (e :: es) [] pos) (tCB r t) := by
 intro pins s σ H Q I h
 refine wpAny_Call_Name_kw (QcV I hg hm hv ?_ hn hdb)
 exact ZN (thn (ha pos pins s σ H _ I h) λ us s1 ⟨vs, H1, I1, r1, q1⟩ => hc pins s1 σ H1 vs us Q I1 r1 q1) he hpl
end
end L2
namespace HT
open PySem PyProof.Rows
section
open PySem.SeqAt
open PySem.AutoSeq1 (wpAny_loadPart')
open PySem.MeetsSeq PySem.MeetsSeq2 PySem.MeetsSeq3
end
section
variable {prog : Program} {w : World} {A : Around} {E : Value -> Shared -> Prop} {s : Shared}
noncomputable def sIx (n d : Nat) : Option Int -> Nat
 | none => d
 | some v => if v < 0 then (v + (n : Int)).toNat else min v.toNat n
theorem Qdd (n d : Nat) : sIx n d none = d := rfl
theorem Qc7 (n d k : Nat) : sIx n d (some (k : Int)) = min k n := by
 show (if (k : Int) < 0 then ((k : Int) + (n : Int)).toNat else min (k : Int).toNat n) = min k n
 rw [if_neg (by omega), Zaz]
end
end HT
namespace L2
open PySem PySem.Spec PyProof.Rows
noncomputable abbrev TO := St -> Hp -> (Option Int -> Hp -> Prop) -> Prop
def PO (X : Cx) (e : Option Expr) (t : TO) : Prop :=
 ∀ (pins : List (Addr × Obj)) (s : Shared) (σ : St) (H : Hp) (Q : Option Int -> Hp -> Prop), Inv X pins σ H s -> t σ H Q →
  wpAny (model X.prog X.w) X.A (evalPart e X.env) (λ u s' => ∃ o H', Inv X pins σ H' s' /\ IsPart u o /\ Q o H') X.xe s
noncomputable def QpX : TO := λ _ H Q => Q none H
noncomputable def Qtf (t : TE) : TO := λ σ H Q => t σ H λ x H1 => ∃ i, x = .int i /\ Q (some i) H1
theorem intsAre_of {ns : List Int} : ∀ {us : List Value}, Qt (ns.map V.int) us -> IntsAre us ns := by
 induction ns with
 | nil => intro us r; rw [List.map_nil] at r; cases r; exact .nil
 | cons n ns ih =>
  intro us r
  rw [ZA] at r
  cases r with
  | cons r1 r2 =>
   obtain ⟨t, e⟩ := r1
   subst e
   exact .cons n t (ih r2)
section
variable {X : Cx} {e : Expr} {te : TE} {lo hi : Option Expr} {tl th : TO} {pos p2 : Pos}
theorem QqM : PO X none QpX := by
 intro pins s σ H Q I h
 rw [evalPart_none]
 exact wpAny_pure ⟨none, H, I, .none, h⟩
theorem QpT (h : PE X e te) : PO X (some e) (Qtf te) := by
 intro pins s σ H Q I hw
 rw [evalPart_some]
 refine thn (h pins s σ H _ I hw) λ u s1 ⟨x, H1, I1, r1, q1⟩ => ?_
 obtain ⟨i, rfl, q⟩ := q1
 obtain ⟨t, rfl⟩ := r1
 exact ⟨some i, H1, I1, .int i t, q⟩
def SlR (X : Cx) (r : V -> Option Int -> Option Int -> Hp -> VK -> Prop) : Prop :=
 ∀ (pins : List (Addr × Obj)) (s : Shared) (σ : St) (H : Hp) (x : V) (v vl vu : Value) (lo hi : Option Int) (sl : Addr) (Q : VK), Inv X pins σ H s -> RelV x v -> s.heap.IsSliceOf sl vl vu .none -> IsPart vl lo -> IsPart vu hi -> r x lo hi H Q →
  ∃ T id, typeLookup (.type T) "__getitem__" = pure (some (.builtin id)) /\ s.TypeIs v T /\ wpAny (model X.prog X.w) X.A (getItem v (.ref sl)) (EP X pins σ Q) X.xe s
theorem SlR.or {r r' : V -> Option Int -> Option Int -> Hp -> VK -> Prop} (h : SlR X r) (h' : SlR X r') : SlR X (λ x lo hi H Q => r x lo hi H Q ∨ r' x lo hi H Q) := by
 intro pins s σ H x v vl vu lo hi sl Q I rx hs pl pu q
 rcases q with q | q
 ·exact h pins s σ H x v vl vu lo hi sl Q I rx hs pl pu q
 ·exact h' pins s σ H x v vl vu lo hi sl Q I rx hs pl pu q
noncomputable def tSl (r : V -> Option Int -> Option Int -> Hp -> VK -> Prop) (te : TE) (tl th : TO) : TE := λ σ H Q => te σ H λ x H1 => tl σ H1 λ l H2 => th σ H2 λ u H3 => r x l u H3 Q
theorem Qn1 {r : V -> Option Int -> Option Int -> Hp -> VK -> Prop} (hr : SlR X r) (he : PE X e te) (hl : PO X lo tl) (hu : PO X hi th) : PE X (.Subscript e (.Slice lo hi none p2) pos) (tSl r te tl th) := by
 intro pins s σ H Q I h
 refine Subscript_ (thn (he pins s σ H _ I h) λ v s1 ⟨x, H1, I1, r1, q1⟩ => ?_)
 refine wpAny_Slice (thn (hl pins s1 σ H1 _ I1 q1) λ vl s2 ⟨l, H2, I2, pl, q2⟩ => thn (hu pins s2 σ H2 _ I2 q2) λ vu s3 ⟨u, H3, I3, pu, q3⟩ => ?_)
 rw [evalPart_none]
 refine wpAny_pure ?_
 have I4 : Inv X pins σ H3 { s3 with heap := s3.heap.push { cls := .type "slice", data := .fields #[vl, vu, .none] } } := I3.kept (t' := s3.toks) λ b ob q => Zp _ q
 obtain ⟨T, id, hT, ht, hg⟩ := hr pins { s3 with heap := s3.heap.push { cls := .type "slice", data := .fields #[vl, vu, .none] } } σ H3 x v vl vu l u s3.heap.objs.size Q I4 r1 (Heap.IsSliceOf.new ..) pl pu q3
 show wpAny (model X.prog X.w) X.A (subscriptTail e (.Slice lo hi none p2) v (.ref s3.heap.objs.size)) (EP X pins σ Q) X.xe { s3 with heap := s3.heap.push { cls := .type "slice", data := .fields #[vl, vu, .none] } }
 exact tail_any (ops := [.ref s3.heap.objs.size, v]) ht hT hg (by with_unfolding_all rfl)
noncomputable def QhT (xs : List V) (lo hi : Option Int) : List V := (xs.drop (HT.sIx xs.length 0 lo)).take (HT.sIx xs.length xs.length hi - HT.sIx xs.length 0 lo)
theorem Qkv (xs : List V) (lo hi : Option Int) : (QhT xs lo hi).length <= xs.length := by
 unfold QhT
 rw [Zaf, Zaq]
 omega
end
end L2
namespace L2
open PySem PySem.Spec PyProof.Rows
noncomputable def ixN (n : Nat) (i : Int) : Option Nat := if 0 <= i then (if i < n then some i.toNat else none) else if -(n : Int) <= i then some (i + n).toNat else none
noncomputable def atI {α : Type} (xs : List α) (i : Int) : Option α := (ixN xs.length i).bind λ j => xs[j]?
theorem QeD {n : Nat} {i : Int} {j : Nat} (h : ixN n i = some j) : seqIndex? i n = some j /\ j < n /\ -(n : Int) <= i /\ i < n := by
 unfold ixN at h
 by_cases h0 : 0 <= i
 ·rw [if_pos h0] at h
  by_cases h1 : i < n
  ·rw [if_pos h1] at h
   have e : i.toNat = j := Option.some.inj h
   exact ⟨by rw [seqIndex_of h0 h1, e], by omega, by omega, h1⟩
  ·rw [if_neg h1] at h; cases h
 ·rw [if_neg h0] at h
  by_cases h1 : -(n : Int) <= i
  ·rw [if_pos h1] at h
   have e : (i + n).toNat = j := Option.some.inj h
   exact ⟨by rw [seqIndex_neg (by omega) h1, e], by omega, h1, by omega⟩
  ·rw [if_neg h1] at h; cases h
theorem QhN {α : Type} {xs : List α} {i : Int} {v : α} (h : atI xs i = some v) : ∃ j, seqIndex? i xs.length = some j /\ xs[j]? = some v /\ j < xs.length /\ -(xs.length : Int) <= i /\ i < xs.length := by
 unfold atI at h
 cases e : ixN xs.length i with
 | none => rw [e] at h; cases h
 | some j =>
  rw [e] at h
  obtain ⟨h1, h2, h3, h4⟩ := QeD e
  exact ⟨j, h1, h, h2, h3, h4⟩
def QfP (b : Expr) : Prop := ∀ o i, subscripted b false o i = operate [o, i] (getItem o i)
def IxR (X : Cx) (r : R2) : Prop :=
 ∀ (value slice : Expr) (pins : List (Addr × Obj)) (s : Shared) (σ : St) (H : Hp) (x y : V) (v u : Value) (Q : VK), Inv X pins σ H s -> RelV x v -> RelV y u -> r x y H Q →
  subscripted slice false v u = operate [v, u] (getItem v u) -> wpAny (model X.prog X.w) X.A (subscriptTail value slice v u) (EP X pins σ Q) X.xe s
def MtR (X : Cx) (id : String) (r : V -> List V -> Hp -> VK -> Prop) : Prop :=
 ∀ (pins : List (Addr × Obj)) (s : Shared) (σ : St) (H : Hp) (x : V) (xs : List V) (v : Value) (us : List Value) (Q : VK), Inv X pins σ H s -> RelV x v -> Qt xs us -> r x xs H Q →
  wpAny (model X.prog X.w) X.A (call (.builtin id) (v :: us)) (EP X pins σ Q) X.xe s
section
variable {X : Cx} {a b : Expr} {ta tb : TE} {pos : Pos}
theorem IxR.or {r r' : R2} (h : IxR X r) (h' : IxR X r') : IxR X (λ x y H Q => r x y H Q ∨ r' x y H Q) := by
 intro value slice pins s σ H x y v u Q I rx ry q hs
 rcases q with q | q
 ·exact h value slice pins s σ H x y v u Q I rx ry q hs
 ·exact h' value slice pins s σ H x y v u Q I rx ry q hs
theorem MtR.or {id : String} {r r' : V -> List V -> Hp -> VK -> Prop} (h : MtR X id r) (h' : MtR X id r') : MtR X id (λ x xs H Q => r x xs H Q ∨ r' x xs H Q) := by
 intro pins s σ H x xs v us Q I rx rs q
 rcases q with q | q
 ·exact h pins s σ H x xs v us Q I rx rs q
 ·exact h' pins s σ H x xs v us Q I rx rs q
theorem Qpn {r : R2} (hr : IxR X r) (ha : PE X a ta) (hb : PE X b tb) (hs : QfP b) : PE X (.Subscript a b pos) (tOp r ta tb) := by
 intro pins s σ H Q I h
 exact Subscript_ (Qn9 ha hb I h λ v u s2 x y H2 I2 rx ry q => hr a b pins s2 σ H2 x y v u Q I2 rx ry q (hs _ _))
noncomputable def Qrb (K : PySem.W.Frag) : R2 := λ x y H Q => ∃ p xs i v, x = .ref p /\ y = .int i /\ SqL K H p xs /\ atI xs i = some v /\ Q v H
noncomputable def Qua (K : PySem.W.Frag) : R2 := λ x y H Q => ∃ p xs i v, x = .ref p /\ y = .int i /\ SqT K H p xs /\ atI xs i = some v /\ Q v H
theorem Qlu : IxR X (Qrb X.K) := by
 intro value slice pins s σ H x y v u Q I rx ry h hs
 obtain ⟨p, xs, i, z, rfl, rfl, hq, he, q⟩ := h
 cases rx
 obtain ⟨t, rfl⟩ := ry
 obtain ⟨its, r, pl, hz⟩ := I.list hq
 obtain ⟨j, h1, h2, h3, h4, h5⟩ := QhN he
 obtain ⟨w, ew, rw'⟩ := r.get h2
 have hl := r.length
 have hn := QeH
 have fin : EP X pins σ Q w s := ⟨z, H, I, rw', q⟩
 by_cases h0 : 0 <= i
 ·have hj : i.toNat = j := by
   rw [seqIndex_of h0 h5] at h1
   exact Option.some.inj h1
  exact item_listR pl.isList h0 (by omega) (by rw [hj]; simpa using ew) fin hs
 ·have hj : (i + (its.toArray.size : Int)).toNat = j := by
   rw [seqIndex_neg (by omega) h4] at h1
   rw [Zk, ← hl]
   exact Option.some.inj h1
  exact subscriptTail_builtinR (x := w) pl.isList.typeIs slot_list_getitem.lookup
   (wpAny_getItem_list_neg (Q := λ r s' => r = w /\ EP X pins σ Q r s') pl.isList (by omega) (by rw [Zk] <;> omega) (by omega) (by rw [hj]; simpa using ew) ⟨rfl, fin⟩) hs
theorem Qnq : IxR X (Qua X.K) := by
 intro value slice pins s σ H x y v u Q I rx ry h hs
 obtain ⟨p, xs, i, z, rfl, rfl, hq, he, q⟩ := h
 cases rx
 obtain ⟨t, rfl⟩ := ry
 obtain ⟨its, r, pl, hz⟩ := I.tuple hq
 obtain ⟨j, h1, h2, h3, h4, h5⟩ := QhN he
 obtain ⟨w, ew, rw'⟩ := r.get h2
 have hl := r.length
 have hn := QeH
 have fin : EP X pins σ Q w s := ⟨z, H, I, rw', q⟩
 exact subscriptTail_builtinR (x := w) pl.typeIs slot_tuple_getitem.lookup
  (getItem_tuple (j := j) (Q := λ r s' => r = w /\ EP X pins σ Q r s') pl (by omega) (by omega) (by rw [Zk, ← hl]; exact h1) (by simpa using ew) ⟨rfl, fin⟩) hs
theorem QlA (its : List Value) (n j : Nat) (u : Value) : Obj.mapSeq (·.setIfInBounds j u) { cls := .type "list", data := .seq its.toArray n } = { cls := .type "list", data := .seq (its.set j u).toArray n } := by
 simp [Obj.mapSeq]
theorem Inv.lst {pins : List (Addr × Obj)} {σ : St} {H : Hp} {s : Shared} {p : Addr} {xs : List V} (I : Inv X pins σ H s) (h : H p = some (.lst xs)) :
  ∃ (its : List Value) (n : Nat), Qt xs its /\ s.heap.get? p = some { cls := .type "list", data := .seq its.toArray n } /\ xs.length <= sizeLine := by
 obtain ⟨z, its, n, r, e⟩ := I.hok p _ h
 exact ⟨its, n, r, e, z⟩
theorem Inv.QrH {pins : List (Addr × Obj)} {σ : St} {H : Hp} {s : Shared} {p : Addr} {xs ys : List V} {its its' : List Value} {n n' : Nat} {f : Obj -> Obj} (I : Inv X pins σ H s) (h : H p = some (.lst xs))
  (ho : s.heap.get? p = some { cls := .type "list", data := .seq its.toArray n }) (hf : f { cls := .type "list", data := .seq its.toArray n } = { cls := .type "list", data := .seq its'.toArray n' }) (r : Qt ys its') (hz : ys.length <= sizeLine) (t : Nat) :
  Inv X pins σ (upd H p (.lst ys)) { s with heap := s.heap.update p f, toks := t } := by
 have e : (s.heap.update p f).get? p = some { cls := .type "list", data := .seq its'.toArray n' } := by
  rw [Heap.get?_update_self f ho (by rw [hf] <;> rfl), hf]
 refine I.write (x := p) (e := p) (by rw [h]; trivial) (.inl rfl) (λ b u hb q => (Heap.get?_update_other _ _ (Ne.symm hb)).trans q) ⟨_, e⟩ ?_
 exact ⟨hz, its', n', r, e⟩
noncomputable def Qpq : V -> V -> V -> Hp -> (Hp -> Prop) -> Prop := λ o i v H Q => ∃ p xs k j, o = .ref p /\ i = .int k /\ H p = some (.lst xs) /\ ixN xs.length k = some j /\ Q (upd H p (.lst (xs.set j v)))
theorem set_list : Qpc X Qpq := by
 intro pins s σ H o i v ov iv u Q I ro ri rv h
 obtain ⟨p, xs, k, j, rfl, rfl, hp, hj, q⟩ := h
 cases ro
 obtain ⟨t, rfl⟩ := ri
 obtain ⟨its, n, r, ho, hz⟩ := I.lst hp
 obtain ⟨h1, h2, h3, h4⟩ := QeD hj
 have hl := r.length
 have hn := QeH
 have I' : Inv X pins σ (upd H p (.lst (xs.set j v))) { s with heap := s.heap.update p (Obj.mapSeq (·.setIfInBounds j u)) } :=
  I.QrH hp ho (QlA its n j u) (r.set rv j) (by rw [ZaR]; exact hz) s.toks
 by_cases h0 : 0 <= k
 ·have hk : k.toNat = j := by
   rw [seqIndex_of h0 h4] at h1
   exact Option.some.inj h1
  exact PySem.W.ki_setAt ho h0 (by omega) (by rw [Zk, ← hl]; exact h4) (by rw [hk]; exact ⟨_, I', q⟩)
 ·have hk : (k + (its.toArray.size : Int)).toNat = j := by
   rw [seqIndex_neg (by omega) h3] at h1
   rw [Zk, ← hl]
   exact Option.some.inj h1
  exact PySem.W.ki_setBack ho (by omega) (by rw [Zk, ← hl]; exact h3) (by omega) (by rw [hk]; exact ⟨_, I', q⟩)
theorem Qki (lo hi : Option Int) (n : Nat) : (sliceBounds lo hi none n).1 = ((HT.sIx n 0 lo : Nat) : Int) /\ (sliceBounds lo hi none n).2.1 = ((HT.sIx n n hi : Nat) : Int) /\ (sliceBounds lo hi none n).2.2 = 1 := by
 refine ⟨?_, ?_, rfl⟩
 ·cases lo with
  | none => simp [sliceBounds, HT.sIx]
  | some i =>
   simp only [sliceBounds, HT.sIx, Option.getD_none, show (1 : Int) > 0 by decide, if_true]
   by_cases h : i < 0
   ·simp only [h, if_true] <;> omega
   ·simp only [h, if_false] <;> omega
 ·cases hi with
  | none => simp [sliceBounds, HT.sIx]
  | some i =>
   simp only [sliceBounds, HT.sIx, Option.getD_none, show (1 : Int) > 0 by decide, if_true]
   by_cases h : i < 0
   ·simp only [h, if_true] <;> omega
   ·simp only [h, if_false] <;> omega
theorem QiI (its : List Value) (lo hi : Option Int) : slicePick its.toArray lo hi none = ((its.drop (HT.sIx its.length 0 lo)).take (HT.sIx its.length its.length hi - HT.sIx its.length 0 lo)).toArray := by
 obtain ⟨h1, h2, h3⟩ := Qki lo hi its.toArray.size
 unfold slicePick
 rw [h1, h2, h3]
 simp only [sliceRange_one, pick_run, Zk] <;> rfl
noncomputable def Qt3 (K : PySem.W.Frag) : V -> Option Int -> Option Int -> Hp -> VK -> Prop := λ x lo hi H Q => ∃ a xs, x = .ref a /\ SqL K H a xs /\ ∀ p, H p = none -> Q (.ref p) (upd H p (.lst (QhT xs lo hi)))
theorem QpL : SlR X (Qt3 X.K) := by
 intro pins s σ H x v vl vu lo hi sl Q I rx hs pl pu h
 obtain ⟨a, xs, rfl, hx, q⟩ := h
 cases rx
 obtain ⟨its, r, ht, hz⟩ := I.list hx
 have hlen := r.length
 refine ⟨"list", _, slot_list_getitem.lookup, ht.isList.typeIs, ?_⟩
 refine wpAny_getItem_list_slice ht.isList hs pl pu .none (by simp) ?_ (by rw [Zk] <;> omega)
 rw [QiI, ← hlen]
 refine ⟨.ref s.heap.objs.size, _, I.laid (t' := s.toks) (o := .lst (QhT xs lo hi)) (λ b ob q => Zp _ q) (Zi _) ?_, rfl, q _ (I.hok.fresh (Zi _))⟩
 exact ⟨Zu (Qkv xs lo hi) hz, _, 0, (r.drop (HT.sIx xs.length 0 lo)).take (HT.sIx xs.length xs.length hi - HT.sIx xs.length 0 lo), ZE _ rfl⟩
theorem Qkp : Qby X (.builtin "len") (λ xs H Q => ∃ p ys, xs = [.ref p] /\ (SqL X.K H p ys ∨ SqT X.K H p ys) /\ Q (.int ys.length) H) := by
 intro pins s σ H xs us Q I r h
 obtain ⟨p, ys, rfl, hq, q⟩ := h
 obtain ⟨u, rfl, rx⟩ := vals1 r
 cases rx
 have hn := QeH
 rcases hq with hq | hq
 ·obtain ⟨its, r', pl, hz⟩ := I.list hq
  have hlen := r'.length
  exact Calls.call_len_list pl.isList (by simp only [Zk] <;> omega) ⟨.int ys.length, H, I.tok _, ⟨s.toks + 1, by rw [Zk, hlen]⟩, q⟩
 ·obtain ⟨its, r', pl, hz⟩ := I.tuple hq
  have hlen := r'.length
  exact len_tuple pl (by simp only [Zk] <;> omega) ⟨.int ys.length, H, I.tok _, ⟨s.toks + 1, by rw [Zk, hlen]⟩, q⟩
theorem Qby.or {f : Value} {r r' : List V -> Hp -> VK -> Prop} (h : Qby X f r) (h' : Qby X f r') : Qby X f (λ xs H Q => r xs H Q ∨ r' xs H Q) := by
 intro pins s σ H xs us Q I rs q
 rcases q with q | q
 ·exact h pins s σ H xs us Q I rs q
 ·exact h' pins s σ H xs us Q I rs q
theorem QjL : Qby X (.type "list") (λ xs H Q => ∃ p ys, xs = [.ref p] /\ (SqL X.K H p ys ∨ SqT X.K H p ys) /\ ∀ l, H l = none -> Q (.ref l) (upd H l (.lst ys))) := by
 intro pins s σ H xs us Q I r h
 obtain ⟨p, ys, rfl, hq, q⟩ := h
 obtain ⟨u, rfl, rx⟩ := vals1 r
 cases rx
 have fin : ∀ (its : List Value), Qt ys its -> ys.length <= sizeLine -> ∀ (h' : Heap) (c' : Nat), (∀ b o', s.heap.get? b = some o' -> h'.get? b = some o') →
   h'.get? s.heap.objs.size = some { cls := .type "list", dict := none, data := .seq its.toArray c', slots := #[] } -> EP X pins σ Q (.ref s.heap.objs.size) { s with heap := h' } := λ its r' hz h' c' kp e =>
  ⟨.ref s.heap.objs.size, _, I.laid (t' := s.toks) kp (Zi _) (show Qb9 X.prog X.w _ h' _ (.lst ys) from ⟨hz, its, c', r', e⟩), rfl, q _ (I.hok.fresh (Zi _))⟩
 rcases hq with hq | hq
 ·obtain ⟨its, r', pl, hz⟩ := I.list hq
  have hlen := r'.length
  obtain ⟨o, ho, hc, n, hd⟩ := pl.isList
  exact call_list_seq p (.inl rfl) ho hc hd (λ h' c' kp e => fin its r' hz h' c' kp e) (by simp only [Zk] <;> omega)
 ·obtain ⟨its, r', pl, hz⟩ := I.tuple hq
  have hlen := r'.length
  obtain ⟨o, ho, hc, n, hd⟩ := pl
  exact call_list_seq p (.inr rfl) ho hc hd (λ h' c' kp e => fin its r' hz h' c' kp e) (by simp only [Zk] <;> omega)
def tyV (K : PySem.W.Frag) (T : String) (x : V) (H : Hp) : Prop := match x with
 | .str _ => T = "str"
 | .int _ => T = "int"
 | .ref p => (T = "list" /\ ∃ xs, SqL K H p xs) ∨ (T = "tuple" /\ ∃ o, K.lookup p = some o /\ o.cls = .type "tuple" /\ o.dict = none) ∨
   (T = "dict" /\ ((∃ kvs, H p = some (.dK kvs)) ∨ ∃ kvs, H p = some (.dT kvs))) ∨ (T = "set" /\ ∃ S n, H p = some (.set S n))
 | _ => False
theorem Qnv {pins : List (Addr × Obj)} {σ : St} {H : Hp} {s : Shared} {T : String} {x : V} {v : Value} (I : Inv X pins σ H s) (r : RelV x v) (ty : tyV X.K T x H) :
  s.TypeIs v T /\ ∀ a, v = .ref a -> ∃ ob, s.heap.get? a = some ob /\ ob.dict = none := by
 cases x with
 | str z =>
  obtain ⟨t, rfl⟩ := r
  cases (show T = "str" from ty)
  exact ⟨typeIs_str s z t, λ _ e => nomatch e⟩
 | int i =>
  obtain ⟨t, rfl⟩ := r
  cases (show T = "int" from ty)
  exact ⟨typeIs_int s i t, λ _ e => nomatch e⟩
 | ref p =>
  cases r
  rcases ty with ⟨rfl, xs, hq⟩ | ⟨rfl, o, hk, hc, hd⟩ | ⟨rfl, hk⟩ | ⟨rfl, S, n, hk⟩
  ·obtain ⟨its, _, pl, _⟩ := I.list hq
   refine ⟨pl.isList.typeIs, λ a e => ?_⟩
   cases e
   obtain ⟨o, n, e, c, hd, _⟩ := pl
   exact ⟨o, e, hd⟩
  ·refine ⟨⟨o, I.kIn p o hk, hc⟩, λ a e => ?_⟩
   cases e
   exact ⟨o, I.kIn _ o hk, hd⟩
  ·have z : ∃ o, s.heap.get? p = some o /\ o.ExactDict := by
    rcases hk with ⟨kvs, hk⟩ | ⟨kvs, hk⟩
    ·obtain ⟨_, _, _, _, o, _, _, e, ex, _⟩ := I.hok p _ hk
     exact ⟨o, e, ex⟩
    ·obtain ⟨_, _, _, _, o, _, _, e, ex, _⟩ := I.hok p _ hk
     exact ⟨o, e, ex⟩
   obtain ⟨o, e, ex⟩ := z
   refine ⟨⟨o, e, ex.1⟩, λ a e2 => ?_⟩
   cases e2
   exact ⟨o, e, ex.2.1⟩
  ·obtain ⟨o, _, _, _, e, ex, _⟩ := I.hok p _ hk
   refine ⟨⟨o, e, ex.1⟩, λ a e2 => ?_⟩
   cases e2
   exact ⟨o, e, ex.2.1⟩
 | _ => exact False.elim ty
noncomputable def QrU (K : PySem.W.Frag) (T : String) (r : V -> List V -> Hp -> VK -> Prop) (to : TE) : TE := λ σ H Q => to σ H λ x H1 => tyV K T x H1 /\ r x [] H1 Q
noncomputable def tBM (K : PySem.W.Frag) (T : String) (r : V -> List V -> Hp -> VK -> Prop) (to : TE) (t : TA) : TE := λ σ H Q => to σ H λ x H1 => tyV K T x H1 /\ t σ H1 λ xs H2 => r x xs H2 Q
variable {o e : Expr} {es : List Expr} {to : TE} {t : TA} {name : Str} {apos cpos : Pos} {T id : String} {r : V -> List V -> Hp -> VK -> Prop}
theorem Qrk (pa : PlainAttrs T) (slot : Slot T name id) (hty : typeOf (.builtin id) = pure (.type "method_descriptor")) (hm : MtR X id r) (ho : PE X o to)
  (hbase : attributeBase o name X.env (eval o X.env) = eval o X.env := by rfl) (hline : (apos.endLine == cpos.line) = true := by rfl) : PE X (.Call (.Attribute o name apos) [] [] cpos) (QrU X.K T r to) := by
 intro pins s σ H Q I h
 refine wpAny_Call_method0_late hbase hline (thn (ho pins s σ H _ I h) λ v s1 ⟨x, H1, I1, r1, ty, q1⟩ => ?_)
 obtain ⟨h1, h2⟩ := Qnv I1 r1 ty
 exact ⟨T, id, pa, slot, hty, h1, h2, Calls.callWith_builtin rfl (PySem.evalArgs_none (hm pins s1 σ H1 x [] v [] Q I1 r1 .nil q1))⟩
theorem QiV (pa : PlainAttrs T) (slot : Slot T name id) (hty : typeOf (.builtin id) = pure (.type "method_descriptor")) (hm : MtR X id r) (ho : PE X o to) (ha : PA X (e :: es) t)
  (hbase : attributeBase o name X.env (eval o X.env) = eval o X.env := by rfl)
  (hfew : ((backTo cpos (starEach (e :: es) X.env)).all (λ x => !x.1) && (backToKw cpos (keywordEach [] X.env)).all (λ x => x.1.isSome)
   && decide ((e :: es).length + ([] : List Keyword).length + (if ([] : List Keyword).isEmpty then 0 else 1) < 30)) = true := by rfl)
  (hline : (apos.endLine == cpos.line) = true := by rfl) (hs : starEach (e :: es) X.env = (false, eval e X.env) :: starEach es X.env := by rfl) (hplain : (backTo cpos (starEach es X.env)).any (·.1) = false := by rfl) :
  PE X (.Call (.Attribute o name apos) (e :: es) [] cpos) (tBM X.K T r to t) := by
 intro pins s σ H Q I h
 refine wpAny_Call_method_late hbase hfew hline rfl (thn (ho pins s σ H _ I h) λ v s1 ⟨x, H1, I1, r1, ty, q1⟩ => ?_)
 obtain ⟨h1, h2⟩ := Qnv I1 r1 ty
 refine ⟨T, id, pa, slot, hty, h1, h2, ?_⟩
 have hA := ha cpos pins s1 σ H1 _ I1 q1
 rw [hs] at hA ⊢
 refine Calls.callWith_builtin (by show (false || (backTo cpos (starEach es X.env)).any (·.1)) = false; rw [hplain] <;> rfl) (Calls.evalArgs_plain ?_)
 exact thn hA λ us s2 ⟨vs, H2, I2, r2, q2⟩ => hm pins s2 σ H2 x vs v us Q I2 r1 r2 q2
end
end L2
namespace L2
open PySem PySem.Spec PyProof.Rows
def MtM (X : Cx) (id : String) (r : V -> List V -> Hp -> VK -> Prop) : Prop :=
 ∀ (pins : List (Addr × Obj)) (s : Shared) (σ : St) (H : Hp) (x : V) (xs : List V) (v : Value) (us : List Value) (Q : VK), Inv X pins σ H s -> RelV x v -> Qt xs us -> r x xs H Q →
  wpAny (model X.prog X.w) X.A (call (.builtin id) (v :: us)) (EP X pins σ Q) X.xe s
theorem Qt.one : ∀ {x : V} {us : List Value}, Qt [x] us -> ∃ u, us = [u] /\ RelV x u
 | _, _, .cons r .nil => ⟨_, rfl, r⟩
theorem Qt.two : ∀ {x y : V} {us : List Value}, Qt [x, y] us -> ∃ u v, us = [u, v] /\ RelV x u /\ RelV y v
 | _, _, _, .cons r (.cons q .nil) => ⟨_, _, rfl, r, q⟩
theorem Qt.zero : ∀ {us : List Value}, Qt [] us -> us = []
 | _, .nil => rfl
theorem Qt.eraseIdx : ∀ {xs : List V} {us : List Value} (i : Nat), Qt xs us -> Qt (xs.eraseIdx i) (us.eraseIdx i)
 | _, _, _, .nil => .nil
 | _, _, 0, .cons _ t => t
 | _, _, i + 1, .cons r t => .cons r (Qt.eraseIdx i t)
theorem Qt.rep {xs : List V} {us : List Value} (h : Qt xs us) : ∀ k : Nat, Qt (List.replicate k xs).flatten (List.replicate k us).flatten
 | 0 => .nil
 | k + 1 => by
  rw [ZT, ZT, Zaa, Zaa]
  exact Qt.append h (Qt.rep h k)
theorem Qiv {α : Type} : ∀ (l : List α) (i : Nat), (l.eraseIdx i).length <= l.length
 | [], _ => Zi _
 | _ :: _, 0 => Zbf _
 | _ :: r, i + 1 => Nat.succ_le_succ (Qiv r i)
theorem foldl_rep (its : List Value) : ∀ (k : Nat) (acc : List Value),
  List.foldl (λ x1 x2 => x1 ++ x2) acc.toArray (List.replicate k its.toArray) = (acc ++ (List.replicate k its).flatten).toArray
 | 0, acc => by simp
 | k + 1, acc => by
  have e : acc.toArray ++ its.toArray = (acc ++ its).toArray := by simp
  have e2 : (acc ++ its) ++ (List.replicate k its).flatten = acc ++ (List.replicate (k + 1) its).flatten := by
   rw [ZT, Zaa, ZaA]
  rw [← e2, ← foldl_rep its k (acc ++ its), ← e, ZT, List.foldl_cons]
section
variable {X : Cx} {pins : List (Addr × Obj)} {σ : St} {H : Hp} {s : Shared} {l b : Addr} {xs ys zs : List V}
theorem Inv.QlO {its its' : List Value} {n : Nat} {f : Array Value -> Array Value} {t' : Nat} (I : Inv X pins σ H s) (hH : H l = some (.lst xs))
  (e : s.heap.get? l = some { cls := .type "list", data := .seq its.toArray n }) (hf : f its.toArray = its'.toArray) (hv : Qt ys its') (hz : ys.length <= sizeLine) :
  Inv X pins σ (upd H l (.lst ys)) { s with heap := s.heap.update l (Obj.mapSeq f), toks := t' } := by
 have q := PySem.IsL.update e f
 rw [hf] at q
 refine I.write (x := l) (e := l) (by rw [hH]; exact trivial) (.inl rfl) (λ b' u hb hu => (Heap.get?_update_other s.heap (Obj.mapSeq f) (Ne.symm hb)).trans hu) ⟨_, q⟩ ?_
 exact ⟨hz, its', _, hv, q⟩
theorem Inv.Qso {its : List Value} {t' : Nat} (I : Inv X pins σ H s) (hv : Qt ys its) (hz : ys.length <= sizeLine) :
  Inv X pins σ (upd H s.heap.objs.size (.lst ys)) { s with heap := s.heap.push { cls := .type "list", data := .seq its.toArray }, toks := t' } :=
 I.laid (λ _ _ q => Zp _ q) (Zi _) ⟨hz, its, 0, hv, ZE _ rfl⟩
theorem Inv.fresh (I : Inv X pins σ H s) : H s.heap.objs.size = none := I.hok.fresh (Zi _)
theorem Inv.QjR (I : Inv X pins σ H s) (hH : H l = some (.lst xs)) : xs.length <= sizeLine /\ ∃ (its : List Value) (n : Nat), Qt xs its /\ xs.length = its.length /\ s.heap.get? l = some { cls := .type "list", data := .seq its.toArray n } := by
 obtain ⟨z, its, n, r, e⟩ := I.hok l _ hH
 exact ⟨z, its, n, r, r.length, e⟩
theorem Qoe {n : Nat} (h : n <= sizeLine) : Builtin.List.listTooLong n = false := by
 unfold Builtin.List.listTooLong
 exact decide_eq_false (by omega)
end
section
variable {X : Cx}
noncomputable def Qic : V -> List V -> Hp -> VK -> Prop := λ x vs H Q => ∃ l xs y, x = .ref l /\ vs = [y] /\ H l = some (.lst xs) /\ xs.length < sizeLine /\ Q .non (upd H l (.lst (xs ++ [y])))
theorem Qfs : MtM X "list.append" Qic := by
 intro pins s σ H x vs v us Q I rx rv h
 obtain ⟨l, xs, y, rfl, rfl, hH, hz, q⟩ := h
 cases rx
 obtain ⟨u, rfl, ru⟩ := rv.one
 obtain ⟨z, its, n, r, hl, e⟩ := I.QjR hH
 refine call_meets F.slot_list_append ⟨_, e, rfl⟩ F.entry_list_append (F.args_list_append_2 _ _) (PySem.list_append l its.toArray n u (by rw [Zk]; omega)) ⟨e, ?_⟩
 refine ⟨.non, _, I.QlO (its' := its ++ [u]) hH e (by simp) (r.append (.cons ru .nil)) ?_, rfl, q⟩
 rw [Zl, ZaI]
 omega
noncomputable def QjA : V -> List V -> Hp -> VK -> Prop := λ x vs H Q => ∃ l xs i k y, x = .ref l /\ vs = [.int i] /\ H l = some (.lst xs) /\ -(2 ^ 63) <= i /\ i < 2 ^ 63 /\ seqIndex? i xs.length = some k /\ xs[k]? = some y /\ Q y (upd H l (.lst (xs.eraseIdx k)))
theorem QoK : MtM X "list.pop" QjA := by
 intro pins s σ H x vs v us Q I rx rv h
 obtain ⟨l, xs, i, k, y, rfl, rfl, hH, h1, h2, hk, hy, q⟩ := h
 cases rx
 obtain ⟨u, rfl, ru⟩ := rv.one
 obtain ⟨t, rfl⟩ := ru
 obtain ⟨z, its, n, r, hl, e⟩ := I.QjR hH
 obtain ⟨w, hw, rw'⟩ := r.get hy
 refine call_meets F.slot_list_pop ⟨_, e, rfl⟩ F.entry_list_pop (F.args_list_pop_2 _ _)
  (MeetsSeq.list_pop_at l its.toArray n i t k w (fitsIndex_both h1 h2) (by rw [Zk, ← hl]; exact hk) (by rw [← Array.getElem?_toList]; exact hw) (by rw [Zk]; omega)) ⟨e, ?_⟩
 refine ⟨y, _, I.QlO (its' := its.eraseIdx k) hH e ?_ (r.eraseIdx k) ?_, rw', q⟩
 ·show its.toArray.eraseIdxIfInBounds k = (its.eraseIdx k).toArray
  rw [List.eraseIdxIfInBounds_toArray]
 ·have := Qiv xs k
  omega
noncomputable def Qnc : V -> List V -> Hp -> VK -> Prop := λ x vs H Q => ∃ l xs, x = .ref l /\ vs = [] /\ H l = some (.lst xs) /\ Q .non (upd H l (.lst []))
theorem QnQ : MtM X "list.clear" Qnc := by
 intro pins s σ H x vs v us Q I rx rv h
 obtain ⟨l, xs, rfl, rfl, hH, q⟩ := h
 cases rx
 have hus := rv.zero
 subst hus
 obtain ⟨z, its, n, r, hl, e⟩ := I.QjR hH
 refine call_meets F.slot_list_clear ⟨_, e, rfl⟩ F.entry_list_clear (F.args_list_clear_1 _) (AutoSeq1.list_clear_list_0 l its.toArray n (by rw [Zk]; omega)) ⟨e, ?_⟩
 exact ⟨.non, _, I.QlO (its' := []) (ys := []) hH e rfl .nil (ZW _), rfl, q⟩
theorem len_rep {α : Type} (xs : List α) (k : Nat) : (List.replicate k xs).flatten.length = k * xs.length := by
 induction k with
 | zero => simp
 | succ k ih => rw [ZT, Zaa, Zl, ih, Nat.succ_mul, Nat.add_comm]
end
section
variable {prog : Program} {w : World} {A : Around} {E : Value -> Shared -> Prop} {s : Shared}
end
section
variable {X : Cx}
end
end L2
namespace Att
open PySem PySem.W PySem.Calls PyProof.Rows
theorem Qhd {P : Params} {h : Heap} : ∀ (ns : List Int) (vs : List Value), WellAll P h vs (ns.map WData.int) -> IntsAre vs ns := by
 intro ns
 induction ns with
 | nil =>
  intro vs w
  rw [List.map_nil] at w
  cases w
  exact .nil
 | cons n ns ih =>
  intro vs w
  rw [ZA] at w
  cases w with
  | cons a b =>
   cases a
   exact .cons _ _ (ih _ b)
theorem Qmv {l : OpenLaw} {n : Nat} (hn : l.most = some n) {P : Params} {h : Heap} {args : List WData} {vals : List Value}
  (hpre : l.row.toRowW.claim.pre args = true) (hwl : WellAll P h vals args) :
  ∃ a vs ns, vals = [Value.ref a] /\ args = [WData.list (ns.map WData.int)] /\ h.get? a = some { cls := .type "list", data := .seq vs.toArray } /\ IntsAre vs ns /\ ns.length <= n := by
 have hsh : WShape.hasAll [] args [.list .int] = true := (pre_splitW hpre).1
 have hc : l.pre.holds [] { args := args } = true := (pre_splitW hpre).2
 obtain ⟨d, r, rfl, h1, h2⟩ := hasAllW_cons hsh
 obtain rfl := hasAllW_nil h2
 obtain ⟨xs, rfl, h3⟩ := hasW_list h1
 obtain ⟨ns, rfl⟩ := items_int h3
 have hlen : ns.length <= n := by
  unfold OpenLaw.pre at hc
  have h4 : (WTm.not (.lt (.lit (.int (n : Int))) (.len (.arg 0)))).holds [] { args := [.list (ns.map .int)] } = true := by
   have h4 := (holds_andW hc).1
   rw [hn] at h4
   exact h4
  have h5 := condW_of h4 (w_not (w_lt w_lit (w_len_list (w_arg rfl))))
  rw [Zj] at h5
  refine Nat.le_of_not_lt λ q => ?_
  have q' : (n : Int) < ((ns.length : Nat) : Int) := by omega
  first
   | (rw [decide_eq_true q'] at h5; exact absurd h5 (by decide))
   | (simp at h5; omega)
 cases hwl with
 | cons w1 w2 =>
  cases w2
  cases w1 with
  | list ho hall => exact ⟨_, _, ns, rfl, rfl, ho, Qhd ns _ hall, hlen⟩
theorem Qmu (l : OpenLaw) (args : List WData) : l.row.toRowW.claim.post args (.bool true) args = true :=
 postW_of (r := l.row.toRowW) (X := (true == true))
  (show WShape.has [] (.bool true) .bool = true by first | rfl | decide | simp [WShape.has, WShape.arms, WShape.armsAll])
  (show (WTm.eq .res (.lit (.bool true))).value [] { args := args, res := some (.bool true), after := args } = some (.bool (true == true)) from w_eq_bool (w_res rfl) w_lit) rfl
theorem Qgo {l : OpenLaw} {n : Nat} {q : Program} {loose : List Str} {XP : (Str -> Option Value) -> Heap -> Prop} {YP : World -> Heap -> Prop} {d : DefRec}
  (hn : l.most = some n) (hdf : d.params.defaults = [])
  (call : ∀ (w : World) (s₀ s₁ : Shared) (mg mb : Str -> Option Value) (fa : Addr) (o : Obj) (pm cd doc : Value) (a : Addr) (vs : List Value) (ns : List Int),
   Ground q loose [] XP w s₀ mg mb s₁.heap -> YP w s₁.heap →
   s₁.heap.get? fa = some o -> o.data = .func (docDef d.name d.params d.body d.scope pm cd doc) -> s₁.heap.CodeRec cd d.name -> mg d.name = some (.ref fa) →
   s₁.heap.get? a = some { cls := .type "list", data := .seq vs.toArray } -> IntsAre vs ns -> ns.length <= n -> s₁.gens = #[] →
   codeAny (model l.prog w) callerA (.call (.ref fa) ⟨[.ref a], []⟩) (λ r s' => r = .ok (.ret (.bool true)) /\ OldK s₁.heap s'.heap /\ s'.os = s₁.os /\ AllBare s'.gens) s₁) :
  WalkO q loose XP YP l.row.toRowW d [] (λ f vs => PySem.call f vs) := by
 intro w s₀ s₁ mg mb G Y fa o pm cd doc dV kV ho hd hcd hD hmg hg args vals as hpre hlay hrd hwl hlo
 obtain rfl : dV = .none := Dflts.none hD hdf
 obtain rfl : kV = .none := Dflts.noKw hD
 obtain ⟨a, vs, ns, rfl, rfl, hobj, hints, hlen⟩ := Qmv hn hpre hwl
 refine enter_call (codeAny_mono (call w s₀ s₁ mg mb fa o pm cd doc a vs ns G Y ho (fd_plain hd) hcd hmg hobj hints hlen hg) λ r s' hq => ?_)
 obtain ⟨rfl, h2, h3, h4⟩ := hq
 exact ⟨.inl ⟨.bool true, .bool true, [], rfl, λ _ => rfl, .bool true, Qmu l _, λ _ => ⟨List.Pairwise.nil, λ _ hm => (nomatch hm)⟩⟩, h2, h3, h4⟩
section
variable {prog : Program} {w : World} {A : Around} {E : Value -> Shared -> Prop} {s : Shared} {K : Frag}
noncomputable def ledger (h : Heap) (L d : Addr) : List (Addr × Obj) := (List.range h.objs.size).filterMap λ a => if a = L ∨ a = d then none else (h.get? a).map λ o => (a, o)
end
end Att
namespace L2
open PySem PySem.Spec PyProof.Rows
theorem Qdl : ∀ {vs : List Value} {ns : List Int}, IntsAre vs ns -> Qt (ns.map V.int) vs
 | _, _, .nil => .nil
 | _, _, .cons n t h => .cons ⟨t, rfl⟩ (Qdl h)
def Qoj (H : Hp) : Prop := ∀ b, H b = none ∨ ∃ o xs, H b = some (.frz o (.lst xs))
theorem QjW {P : Program} {w : World} {K : PySem.W.Frag} {mg mb : Str -> Option Value} {CX : CXT} {k : Nat} {fa a : Addr} {fd : FuncData} {x : Str} {sp : Sp} {s₁ : Shared} {vs : List Value} {ns : List Int}
  (KX : K.In s₁.heap) (hns : s₁.heap.Ns mainGlobals mg) (hb : s₁.heap.Ns builtinsNs mb) (hbb : ∀ x : Str, x ≠ "__name__" -> mb x = bootBuiltins x) (hlim : s₁.heap.NoLimit) (hg : s₁.gens = #[])
  (ha : s₁.heap.get? a = some { cls := .type "list", data := .seq vs.toArray }) (hi : IntsAre vs ns) (hl : ns.length <= sizeLine) (hr : Qag k callerA)
  (F : ∀ base : Heap, K.In base -> base.Ns mainGlobals mg -> Qbt P w K mg base CX k fa fd [x] sp) (hbind : ∀ (s : Shared) (u : Value), BindsTo s fd ⟨[u], []⟩ [(x, u)])
  (hsp : ∀ H : Hp, Qoj H -> SqL K H a (ns.map V.int) -> sp [.ref a] H (λ v _ => v = .bl true) λ _ _ _ => False)
  (hCX : ∀ H e s', CX [] H s₁ (λ _ _ _ => False) e s' -> False) :
  codeAny (model P w) callerA (.call (.ref fa) ⟨[.ref a], []⟩) (λ r s' => r = .ok (.ret (.bool true)) /\ OldK s₁.heap s'.heap /\ s'.os = s₁.os /\ AllBare s'.gens) s₁ := by
 have rv := Qdl hi
 have lenV := hi.length
 have core : ∀ H : Hp, Qoj H -> SqL K H a (ns.map V.int) -> HOk P w H s₁.heap -> (∀ b, H b ≠ none -> b = a) -> (H a ≠ none -> K.lookup a = none) →
   codeAny (model P w) callerA (.call (.ref fa) ⟨[.ref a], []⟩) (λ r s' => r = .ok (.ret (.bool true)) /\ OldK s₁.heap s'.heap /\ s'.os = s₁.os /\ AllBare s'.gens) s₁ := by
  intro H hO hS hok hA hK
  have base_of : ∀ {b : Addr} {o : Obj}, s₁.heap.get? b = some o -> H b = none -> (Qfa s₁.heap H).get? b = some o := λ e n => Qoz e n
  have noA : ∀ {b : Addr} {o : Obj} {es : Array DictEntry} {ep : Nat}, s₁.heap.get? b = some o -> o.data = .dict es ep -> H b = none := λ {b o es ep} e d => by
   cases q : H b with
   | none => rfl
   | some u =>
    have e' : b = a := hA b (by rw [q]; simp)
    subst e'
    rw [ha] at e; cases e
    have d' : Data.seq vs.toArray _ = Data.dict es ep := d
    cases d'
  have nsK : ∀ {b : Addr} {m : Str -> Option Value}, s₁.heap.Ns b m -> (Qfa s₁.heap H).Ns b m := λ {b m} ⟨o, es, ep, e, d, r⟩ => ⟨o, es, ep, base_of e (noA e d), d, r⟩
  have hKb : K.In (Qfa s₁.heap H) := λ b o e => base_of (KX b o e) (by
   cases q : H b with
   | none => rfl
   | some u =>
    have e' : b = a := hA b (by rw [q]; simp)
    subst e'
    rw [hK (by rw [q]; simp)] at e; cases e)
  have hM : Mod K mg (Qfa s₁.heap H) := ⟨hKb, nsK hns, ⟨mb, nsK hb, hbb⟩, let ⟨mc, h1, h2⟩ := hlim; ⟨mc, nsK h1, h2⟩⟩
  have e0 : Qek P w K mg (Qfa s₁.heap H) callerA [] s₁ H := ⟨rfl, hM, λ b o e => QpU e, Nat.le_of_eq (QmT _ _), trivial, λ b hb => absurd (show b ∈ ([] : List Addr) from hb) (by simp), hok, .of_eq hg⟩
  refine codeAny_mono ((F _ hKb (nsK hns)).run callerA [] s₁ H ⟨[.ref a], []⟩ [.ref a] [.ref a] _ _ hr e0 (hbind s₁ (.ref a)) (.cons rfl .nil) (hsp H hO hS)) λ r s' h => ?_
  cases r with
  | error e => exact (hCX H e s' h).elim
  | ok fl =>
   cases fl with
   | next => exact False.elim h
   | brk => exact False.elim h
   | cont => exact False.elim h
   | ret u =>
    obtain ⟨v, H', os, bare, un, hok', r', q⟩ := h
    have q' : v = .bl true := q
    subst q'
    obtain rfl : u = Value.bool true := r'
    refine ⟨rfl, OldK.of_keep λ b o e => ?_, os, bare⟩
    cases q : H b with
    | none => exact un.keep b o e q (by intro z; exact absurd (show b ∈ ([] : List Addr) from z) (by simp)) (by simp)
    | some u =>
     rcases hO b with z | ⟨ob, xs, z⟩
     ·rw [q] at z; cases z
     ·have z2 := un.frzs b ob _ z
      obtain ⟨e1, _⟩ := hok b _ z
      obtain ⟨e2, _⟩ := hok' b _ z2
      rw [e] at e1; cases e1
      exact e2
 cases hk : K.lookup a with
 | some o =>
  have e := KX a o hk
  rw [ha] at e
  cases e
  refine core (λ _ => none) (λ _ => .inl rfl) (.inr ⟨_, vs.toArray, _, hk, rfl, rfl, rfl, by rw [Zk, lenV]; exact hl, by simpa using rv⟩) (λ b u z => by have z' : (none : Option HO) = some u := z; cases z') (λ b z => absurd rfl z) λ z => absurd rfl z
 | none =>
  refine core (λ b => if b = a then some (.frz { cls := .type "list", data := .seq vs.toArray } (.lst (ns.map V.int))) else none) (λ b => ?_) (.inl (.inr ⟨{ cls := .type "list", data := .seq vs.toArray }, if_pos rfl⟩)) (λ b u z => ?_) (λ b z => ?_) λ _ => hk
  ·by_cases hb : b = a
   ·exact .inr ⟨_, _, if_pos hb⟩
   ·exact .inl (if_neg hb)
  ·by_cases hb : b = a
   ·have z' := (if_pos hb).symm.trans z
    cases z'
    subst hb
    exact ⟨ha, by rw [Zj]; exact hl, vs, _, rv, ha⟩
   ·have z' := (if_neg hb).symm.trans z
    cases z'
  ·by_cases hb : b = a
   ·exact hb
   ·exact absurd (if_neg hb) z
end L2
namespace L2
open PySem PySem.Spec PyProof.Rows
noncomputable abbrev KOf {K : PySem.W.Frag} {h : Heap} (_ : K.In h) : PySem.W.Frag := K
theorem Qun {l : PySem.W.OpenLaw} {n k : Nat} {q : Program} {loose : List Str} {XP : (Str -> Option Value) -> Heap -> Prop} {YP : World -> Heap -> Prop} {d : DefRec} {K : Params -> PySem.W.Frag} {CX : World -> CXT} {sp : World -> Sp} {x : Str}
  (hn : l.most = some n) (hn2 : n <= sizeLine) (hdf : d.params.defaults = []) (hr : Qag k callerA)
  (hY : ∀ (w : World) (h : Heap), YP w h -> (K w.params).In h)
  (F : ∀ (w : World) (mg : Str -> Option Value) (fa : Addr) (h : Heap), (K w.params).In h -> h.Ns mainGlobals mg -> mg d.name = some (.ref fa) →
   ∃ fd : FuncData, (∀ (s : Shared) (u : Value), BindsTo s fd ⟨[u], []⟩ [(x, u)]) ∧
    ∀ base : Heap, (K w.params).In base -> base.Ns mainGlobals mg -> Qbt l.prog w (K w.params) mg base (CX w) k fa fd [x] (sp w))
  (hsp : ∀ (w : World) (H : Hp) (a : Addr) (ns : List Int), ns.length <= n -> Qoj H -> SqL (K w.params) H a (ns.map V.int) -> sp w [.ref a] H (λ v _ => v = .bl true) λ _ _ _ => False)
  (hCX : ∀ (w : World) (H : Hp) (s : Shared) (e : Value) (s' : Shared), CX w [] H s (λ _ _ _ => False) e s' -> False) :
  PySem.W.WalkO q loose XP YP l.row.toRowW d [] (λ f vs => PySem.call f vs) := by
 refine Att.Qgo hn hdf λ w s₀ s₁ mg mb fa o pm cd doc a vs ns G Y ho hd hcd hmg hobj hints hlen hg => ?_
 have KX := hY w _ Y
 obtain ⟨fd, hb, hF⟩ := F w mg fa _ KX G.T.g hmg
 exact QjW KX G.T.g G.T.b G.T.builtins G.T.nolimit hg hobj hints (Zu hlen hn2) hr hF hb (λ H hO hS => hsp w H a ns hlen hO hS) λ H e s' => hCX w H s₁ e s'
end L2
namespace L2
open PySem PySem.Spec PyProof.Rows
noncomputable def QdG (s : Stmt) : Arguments := match s with
 | .FunctionDef _ a _ _ _ _ _ _ _ _ => a
 | _ => { posonlyargs := [], args := [], vararg := none, kwonlyargs := [], kw_defaults := [], kwarg := none, defaults := [] }
noncomputable def Qbx (s : Stmt) : List Stmt := match s with
 | .FunctionDef _ _ b _ _ _ _ _ _ _ => b
 | _ => []
noncomputable def Qx (s : Stmt) : Scope := match s with
 | .FunctionDef _ _ _ _ _ _ sc _ _ _ => sc
 | _ => { kind := .function, names := [], isGenerator := false, isCoroutine := false }
noncomputable abbrev CX0 : CXT := λ _ _ _ _ _ _ => False
noncomputable abbrev E0 : XK := λ _ _ _ => False
theorem Qpv {X : Cx} : Qg3 CX0 X E0 := λ _ _ _ _ _ _ _ h => h.elim
structure Fun (K : PySem.W.Frag) (x qual : Str) (st : Stmt) (f : Addr) (fd : FuncData) : Prop where
 ex : ∃ (oc : Value) (od : Option Addr) (kV doc pm : Value) (an : Option Addr) (cdv ct : Value) (osl : Array (Option Value)),
  fd = PySem.W.fnOf x qual (QdG st) (Qbx st) (Qx st) .none kV doc pm an cdv ct /\ K.lookup f = some ⟨oc, od, .func fd, osl⟩ /\ PySem.W.codeIn K cdv qual = true
 kp : PySem.W.keepIn K (.ref f) = true
section
variable {P : Program} {w : World} {K : PySem.W.Frag} {mg : Str -> Option Value} {base : Heap}
theorem Fun.ok {x qual : Str} {st : Stmt} {f : Addr} {fd : FuncData} {N ps : List Str} {k : Nat} {sp : Sp} (F : Fun K x qual st f fd) (S : QcQ N ps (Qx st)) (len : ∀ vs H Q E, sp vs H Q E -> vs.length = ps.length)
  (hbody : ∀ (cdv : Value) (A : Around) (outer : List Env) (s : Shared) (H : Hp) (vs : List V) (Q : VK) (E : XK), Qag k (A.deeper (envOfC qual (Qx st) s.heap.objs.size f cdv)) -> sp vs H Q E →
   ∃ t, PSs (QgG CX0 P w K mg base N qual (Qx st) f cdv A outer s H E).nox (Qbx st) t /\ t { nx := λ _ H' => Q .non H', rt := Q } (start N vs) H) : Qbt P w K mg base CX0 (k + 1) f fd ps sp := by
 obtain ⟨oc, od, kV, doc, pm, an, cdv, ct, osl, rfl, lk, hcd⟩ := F.ex
 refine QsZ lk hcd S len λ A outer s H vs Q E hr hsp => ?_
 obtain ⟨t, h, q⟩ := hbody cdv A outer s H vs Q E hr hsp
 exact ⟨t, h.nox, q⟩
theorem Fun.binds {x qual : Str} {st : Stmt} {f : Addr} {fd : FuncData} {ps : List Str} (F : Fun K x qual st f fd)
  (h : ∀ (kV doc pm : Value) (an : Option Addr) (cdv ct : Value) (us : List Value), us.length = ps.length -> bindArgs (PySem.W.fnOf x qual (QdG st) (Qbx st) (Qx st) .none kV doc pm an cdv ct) ⟨us, []⟩ = pure (ps.zip us)) : Binds K fd ps [] := by
 obtain ⟨oc, od, kV, doc, pm, an, cdv, ct, osl, rfl, lk, hcd⟩ := F.ex
 exact .all (h kV doc pm an cdv ct)
theorem Qsr {x qual : Str} {st : Stmt} {f : Addr} {oc : Value} {od an : Option Addr} {osl : Array (Option Value)} {kV doc pm cdv ct : Value} (l : K.lookup f = some ⟨oc, od, .func (PySem.W.fnOf x qual (QdG st) (Qbx st) (Qx st) .none kV doc pm an cdv ct), osl⟩)
  (c : PySem.W.codeIn K cdv qual = true) (k : PySem.W.keepIn K (.ref f) = true) : Fun K x qual st f (PySem.W.fnOf x qual (QdG st) (Qbx st) (Qx st) .none kV doc pm an cdv ct) := ⟨⟨oc, od, kV, doc, pm, an, cdv, ct, osl, rfl, l, c⟩, k⟩
end
section
variable {X : Cx}
theorem pv (i : Nat) {x : Str} {pos : Pos} (hN : X.N[i]? = some x := by rfl) (hv : Vis X.env.scope x := by first | exact Or.inl rfl | exact Or.inr (Or.inl rfl) | exact Or.inr (Or.inr rfl)) (hd : (x == ("__debug__" : Str)) = false := by decide)
  (hcd : (x == ("__classdict__" : Str)) = false := by decide) : PE X (.Name x pos) (Qks i) := QmX hN hv hd hcd
end
theorem QoP {A B : Prop} (h : B) : if false = true then A else B := by
 rw [if_neg Zae]
 exact h
theorem Qod {A B : Prop} (h : A) : if true = true then A else B := by
 rw [if_pos rfl]
 exact h
def QH (H H' : Hp) : Prop := ∀ b o, H b = some o -> H' b = some o
theorem QH.refl (H : Hp) : QH H H := λ _ _ h => h
theorem QH.trans {H H1 H2 : Hp} (a : QH H H1) (b : QH H1 H2) : QH H H2 := λ c o h => b c o (a c o h)
theorem QH.free {H H' : Hp} (e : QH H H') {l : Addr} (h : H' l = Option.none) : H l = Option.none := by
 cases q : H l with
 | none => rfl
 | some o =>
  rw [e l o q] at h
  cases h
theorem QH.seq {K : PySem.W.Frag} {H H' : Hp} {a : Addr} {xs : List V} (e : QH H H') (h : SqL K H a xs) : SqL K H' a xs := by
 rcases h with (h | ⟨o, h⟩) | h
 ·exact .inl (.inl (e _ _ h))
 ·exact .inl (.inr ⟨o, e _ _ h⟩)
 ·exact .inr h
end L2
namespace L2
open PySem PySem.Spec PyProof.Rows
theorem QhV (env : Env) (body : Str × NameKind -> List (Str × Addr) -> Sem (ForInStep (List (Str × Addr))))
  (hb : ∀ n k cs, body (n, k) cs = if (k == NameKind.free) = true then (do let c ← cellOf env n; pure (ForInStep.yield ((n, c) :: cs))) else pure (ForInStep.yield cs)) :
  ∀ (names : List (Str × NameKind)) (acc : List (Str × Addr)), (∀ y ∈ names, y.2 = .free -> ∃ c, env.cells.lookup y.1 = some c) -> (∀ x c, acc.lookup x = some c -> env.cells.lookup x = some c) →
   ∃ cl, forIn names acc body = (pure cl : Sem _) /\ (∀ x c, cl.lookup x = some c -> env.cells.lookup x = some c) /\ (∀ x, acc.lookup x ≠ none -> cl.lookup x ≠ none) /\ ∀ y ∈ names, y.2 = .free -> cl.lookup y.1 ≠ none
 | [], acc, _, ha => ⟨acc, rfl, ha, λ _ h => h, λ y hy => by simp at hy⟩
 | (n, k) :: r, acc, hn, ha => by
  rw [List.forIn_cons, hb]
  have hr : ∀ y ∈ r, y.2 = .free -> ∃ c, env.cells.lookup y.1 = some c := λ y hy => hn y (Ze _ hy)
  by_cases hk : k = .free
  ·subst hk
   obtain ⟨c, hc⟩ := hn (n, .free) Zn rfl
   have hce : cellOf env n = pure c := by unfold cellOf; rw [show env.cells.lookup n = some c from hc]
   rw [if_pos (by rfl), hce]
   obtain ⟨cl, e, h1, h2, h3⟩ := QhV env body hb r ((n, c) :: acc) hr (λ x c' e => by
    rw [Zo] at e
    cases q : x == n with
    | true => rw [q] at e; cases e; rw [beq_iff_eq] at q; rw [q]; exact hc
    | false => rw [q] at e; exact ha x c' e)
   have hcons : ∀ x, ((n, c) :: acc).lookup x ≠ none -> cl.lookup x ≠ none := h2
   refine ⟨cl, by simpa using e, h1, λ x hx => hcons x ?_, λ y hy hf => ?_⟩
   ·rw [Zo]; cases x == n with
    | true => simp
    | false => exact hx
   ·rcases Zw.mp hy with rfl | hy
    ·exact hcons _ (by simp [Zo])
    ·exact h3 y hy hf
  ·rw [if_neg (by simpa using hk)]
   obtain ⟨cl, e, h1, h2, h3⟩ := QhV env body hb r acc hr ha
   refine ⟨cl, by simpa using e, h1, h2, λ y hy hf => ?_⟩
   rcases Zw.mp hy with rfl | hy
   ·exact absurd hf hk
   ·exact h3 y hy hf
theorem QpJ {scope : Scope} {env : Env} (h : ∀ y ∈ scope.names, y.2 = .free -> ∃ c, env.cells.lookup y.1 = some c) :
  ∃ cl, closureFor scope env = pure cl /\ (∀ x c, cl.lookup x = some c -> env.cells.lookup x = some c) /\ ∀ y ∈ scope.names, y.2 = .free -> ∃ c, cl.lookup y.1 = some c := by
 unfold closureFor
 obtain ⟨cl, e, h1, _, h3⟩ := QhV env (λ x cs => match x with | (name, kind) => if (kind == NameKind.free) = true then (do let c ← cellOf env name; pure (ForInStep.yield ((name, c) :: cs))) else pure (ForInStep.yield cs)) (λ _ _ _ => rfl) scope.names [] h (λ x c e => by simp at e)
 refine ⟨cl, ?_, h1, λ y hy hf => Option.ne_none_iff_exists'.mp (h3 y hy hf)⟩
 show (forIn scope.names [] _ >>= λ r => pure r) = _
 rw [e]; rfl
noncomputable def cxc (X : Cx) (N' : List Str) (scope : Scope) (cl : List (Str × Addr)) (C : Addr) (fp : List Addr) (s3 : Shared) (H3 : Hp) : Cx :=
 { X with N := N', s₀ := s3, H₀ := H3, env := compEnvC scope cl C X.env, outer := X.stack, ex := fp, fn := λ x => decide (scope.names.lookup x = some .cell), pn := [], xe := λ _ _ => False }
def PTs (X : Cx) (ifs : List Expr) (t : TT) : Prop :=
 ∀ (pins : List (Addr × Obj)) (s : Shared) (σ : St) (H : Hp) (Q : Bool -> Hp -> Prop), Inv X pins σ H s -> t σ H Q →
  wpAny (model X.prog X.w) X.A (forIn ifs true λ c r => if r = true then do let ok ← isTrue c X.env (eval c X.env); pure (ForInStep.yield ok) else pure (ForInStep.yield r)) (TP X pins σ Q) X.xe s
noncomputable def QtO : TT := λ _ H Q => Q true H
theorem Qqo {X : Cx} : PTs X [] QtO := λ _ _ _ H _ I h => wpAny_tests_nil ⟨H, I, h⟩
theorem QqS {X : Cx} {c : Expr} {t : TT} (h : PT X c t) : PTs X [c] t := λ pins s σ H Q I q => wpAny_tests_one (h pins s σ H Q I q)
def Qhz (X : Cx) (N' : List Str) (scope : Scope) (σ σ' : St) : Prop :=
 σ'.length = N'.length /\ ∀ (j : Nat) (x : Str) (v : V), N'[j]? = some x -> σ'[j]? = some (some v) -> scope.names.lookup x = some .free /\ ∃ i : Nat, X.N[i]? = some x /\ σ[i]? = some (some v) /\ (X.env.kindOf x = some .cell ∨ X.env.kindOf x = some .free)
noncomputable def QiP (wi : TI) (cap : St -> St -> Prop) (g : TG) (tc : TT) (te : TE) : TE := λ σ H Q => wi σ H λ J H1 => ∃ σc, cap σ σc /\ ∀ D, H1 D = none -> ∃ W : Nat -> Nat -> List V -> Hp -> Prop,
 (∃ m, W 0 m [] (upd H1 D (.lst []))) /\ ∀ i m acc H2, W i m acc H2 -> (J.stop i H2 /\ Q (.ref D) H2) ∨
  (J.go i H2 /\ ∀ x H3, J.yld i H2 x H3 -> g x σc H3 λ σ2 H4 => (∀ (j : Nat) v, σc[j]? = some (some v) -> σ2[j]? = some (some v)) /\ tc σ2 H4 λ b H5 => if b = true then
   te σ2 H5 λ y H6 => H6 D = some (.lst acc) /\ acc.length < sizeLine /\ ∃ m', m' < m /\ W (i + 1) m' (acc ++ [y]) (upd H6 D (.lst (acc ++ [y])))
   else ∃ m', m' < m /\ W (i + 1) m' acc H5)
theorem Qb6 {env : Env} : ∀ {names : List (Str × NameKind)} {x : Str}, names.lookup x = some .free →
  (names.map λ (n, k) => if (k == NameKind.free && env.scope.kind == .function && env.kindOf n == some .cell) then (n, NameKind.cell) else (n, k)).lookup x = some .cell ∨
  (names.map λ (n, k) => if (k == NameKind.free && env.scope.kind == .function && env.kindOf n == some .cell) then (n, NameKind.cell) else (n, k)).lookup x = some .free
 | [], _, h => by simp at h
 | (n, k) :: r, x, h => by
  have ih := @Qb6 env r x
  rw [ZA]
  cases hx : x == n with
  | true =>
   simp only [Zo, hx] at h
   cases h
   dsimp only
   split
   ·left; simp [Zo, hx]
   ·right; simp [Zo, hx]
  | false =>
   simp only [Zo, hx] at h
   dsimp only
   split
   ·simp only [Zo, hx]; exact ih h
   ·simp only [Zo, hx]; exact ih h
theorem Qdm {env : Env} : ∀ {names : List (Str × NameKind)} {x : Str},
  ((names.map λ (n, k) => if (k == NameKind.free && env.scope.kind == .function && env.kindOf n == some .cell) then (n, NameKind.cell) else (n, k)).lookup x = some .cell ∨
  (names.map λ (n, k) => if (k == NameKind.free && env.scope.kind == .function && env.kindOf n == some .cell) then (n, NameKind.cell) else (n, k)).lookup x = some .free) →
  ∃ k, (x, k) ∈ names /\ (k = .free ∨ k = .cell)
 | [], _, h => by simp at h
 | (n, k) :: r, x, h => by
  have ih := @Qdm env r x
  rw [ZA] at h
  cases hx : x == n with
  | true =>
   have hn : x = n := by simpa using hx
   subst hn
   dsimp only at h
   split at h
   ·rename_i hc
    simp only [Zf] at hc
    refine ⟨k, Zn, .inl (by simpa using hc.1.1)⟩
   ·simp only [Zo, hx] at h
    refine ⟨k, Zn, ?_⟩
    rcases h with h | h
    ·exact .inr (Option.some.inj h)
    ·exact .inl (Option.some.inj h)
  | false =>
   dsimp only at h
   have : ∃ k, (x, k) ∈ r /\ (k = .free ∨ k = .cell) := by
    apply ih
    split at h
    ·simpa only [Zo, hx] using h
    ·simpa only [Zo, hx] using h
   obtain ⟨k', h1, h2⟩ := this
   exact ⟨k', Ze _ h1, h2⟩
theorem QeF : ∀ (names : List (Str × NameKind)) (n : Nat) (acc : List (Str × Addr)) (x : Str) (c : Addr), (cellsFrom n names acc).lookup x = some c -> acc.lookup x = some c ∨ (n <= c /\ (x, NameKind.cell) ∈ names)
 | [], _, _, _, _, h => .inl h
 | (nm, k) :: r, n, acc, x, c, h => by
  unfold cellsFrom at h
  split at h
  ·rename_i hk
   have hk : k = .cell := by simpa using hk
   rcases QeF r (n + 1) ((nm, n) :: acc) x c h with h | ⟨h1, h2⟩
   ·rw [Zo] at h
    cases q : x == nm with
    | true =>
     rw [q] at h
     cases h
     have : x = nm := by simpa using q
     exact .inr ⟨Zi _, by rw [this, hk]; exact Zn⟩
    | false => rw [q] at h; exact .inl h
   ·exact .inr ⟨by omega, Ze _ h2⟩
  ·rcases QeF r n acc x c h with h | ⟨h1, h2⟩
   ·exact .inl h
   ·exact .inr ⟨h1, Ze _ h2⟩
theorem Qji : ∀ (names : List (Str × NameKind)) (n : Nat) (acc : List (Str × Addr)) (x : Str) (c : Addr), (x, NameKind.cell) ∈ names -> (cellsFrom n names acc).lookup x = some c -> n <= c
 | (nm, k) :: r, n, acc, x, c, hm, h => by
  unfold cellsFrom at h
  split at h
  ·by_cases hr : (x, NameKind.cell) ∈ r
   ·have := Qji r (n + 1) _ x c hr h
    omega
   ·have hx : x = nm := by
     rcases Zw.mp hm with e | e
     ·exact (Prod.mk.inj e).1
     ·exact absurd e hr
    rcases QeF r (n + 1) ((nm, n) :: acc) x c h with h | ⟨h1, _⟩
    ·rw [Zo, show (x == nm) = true by simpa using hx] at h
     cases h
     exact Zi _
    ·omega
  ·rename_i hk
   rcases Zw.mp hm with e | e
   ·exact absurd (by rw [← (Prod.mk.inj e).2]; rfl) hk
   ·exact Qji r n acc x c e h
theorem Qja : ∀ (names : List (Str × NameKind)) (n : Nat) (acc : List (Str × Addr)), (∀ x y c, acc.lookup x = some c -> acc.lookup y = some c -> x = y) -> (∀ x c, acc.lookup x = some c -> c < n) →
  ∀ x y c, (cellsFrom n names acc).lookup x = some c -> (cellsFrom n names acc).lookup y = some c -> x = y
 | [], _, _, hi, _, x, y, c, h1, h2 => hi x y c h1 h2
 | (nm, k) :: r, n, acc, hi, hb, x, y, c, h1, h2 => by
  unfold cellsFrom at h1 h2
  split at h1
  ·rename_i hk
   rw [if_pos hk] at h2
   refine Qja r (n + 1) ((nm, n) :: acc) (λ x y c h1 h2 => ?_) (λ x c h => ?_) x y c h1 h2
   ·rw [Zo] at h1 h2
    cases qx : x == nm with
    | true =>
     rw [qx] at h1
     cases h1
     cases qy : y == nm with
     | true => rw [show x = nm by simpa using qx, show y = nm by simpa using qy]
     | false => rw [qy] at h2; exact absurd (hb y _ h2) (ZP _)
    | false =>
     rw [qx] at h1
     cases qy : y == nm with
     | true => rw [qy] at h2; cases h2; exact absurd (hb x _ h1) (ZP _)
     | false => rw [qy] at h2; exact hi x y c h1 h2
   ·rw [Zo] at h
    cases qx : x == nm with
    | true => rw [qx] at h; cases h; exact Zba _
    | false => rw [qx] at h; exact ZaV (hb x c h)
  ·rename_i hk
   rw [if_neg hk] at h2
   exact Qja r n acc hi hb x y c h1 h2
theorem Qex : ∀ (names : List (Str × NameKind)) (n : Nat) (acc : List (Str × Addr)) (x : Str), (∃ c, acc.lookup x = some c) -> ∃ c, (cellsFrom n names acc).lookup x = some c
 | [], _, _, _, h => h
 | (nm, k) :: r, n, acc, x, h => by
  unfold cellsFrom
  split
  ·refine Qex r (n + 1) _ x ?_
   rw [Zo]
   cases x == nm with
   | true => exact ⟨n, rfl⟩
   | false => exact h
  ·exact Qex r n acc x h
theorem Qkr : ∀ (names : List (Str × NameKind)) (n : Nat) (acc : List (Str × Addr)) (x : Str), (x, NameKind.cell) ∈ names -> ∃ c, (cellsFrom n names acc).lookup x = some c
 | (nm, k) :: r, n, acc, x, hm => by
  unfold cellsFrom
  rcases Zw.mp hm with e | e
  ·obtain ⟨e1, e2⟩ := Prod.mk.inj e
   subst e1
   rw [← e2, if_pos (by rfl)]
   exact Qex r (n + 1) _ x ⟨n, by simp [Zo]⟩
  ·split
   ·exact Qkr r (n + 1) _ x e
   ·exact Qkr r n acc x e
theorem QhY (lo : Nat) : ∀ (names : List (Str × NameKind)) (h : Heap) (acc : List (Str × Addr)), (∀ x c, acc.lookup x = some c -> lo <= c -> h.IsCell c none) -> lo <= h.objs.size →
  ∀ x c, (cellsFrom h.objs.size names acc).lookup x = some c -> lo <= c -> (pushCells h names).IsCell c none
 | [], _, _, ha, _, x, c, e, hl => ha x c e hl
 | (nm, k) :: r, h, acc, ha, hlo, x, c, e, hl => by
  unfold cellsFrom at e
  unfold pushCells
  split at e
  ·rename_i hk
   rw [if_pos hk]
   have hs := ZaM h { cls := .type "cell", data := .cell none }
   refine QhY lo r (h.push { cls := .type "cell", data := .cell none }) ((nm, h.objs.size) :: acc) (λ x c e hl => ?_) (by rw [hs]; omega) x c (by rw [hs]; exact e) hl
   rw [Zo] at e
   cases q : x == nm with
   | true => rw [q] at e; cases e; exact ⟨_, ZE _ rfl, rfl⟩
   | false => rw [q] at e; exact (ha x c e hl).keeps λ b o e => Zp _ e
  ·rename_i hk
   rw [if_neg hk]
   exact QhY lo r h acc ha hlo x c e hl
theorem Ql8 {M : Model} {A : Around} {E : Value -> Shared -> Prop} {s : Shared} {scope : Scope} {globals builtins : Addr} {cl : List (Str × Addr)} {qual : Str} {env : Env} {Q : Env -> Shared -> Prop}
  (hQ : ∀ h' : Heap, h'.Ns s.heap.objs.size (λ _ => none) -> (∀ b o, s.heap.get? b = some o -> h'.get? b = some o) -> ((∀ x c, cl.lookup x = some c -> c < s.heap.objs.size) -> ∀ x c, (cellsFrom (s.heap.objs.size + 1) scope.names cl).lookup x = some c -> s.heap.objs.size + 1 <= c -> h'.IsCell c none) →
   Q (newEnv scope s.heap.objs.size globals (cellsFrom (s.heap.objs.size + 1) scope.names cl) qual none .none (some env) builtins) { s with heap := h' }) :
  wpAny M A (newFunctionEnv scope globals cl [] qual none .none (some env) builtins) Q E s := by
 simp only [newFunctionEnv, Option.isSome_some, if_true]
 refine wpAny_bind (wpAny_alloc ?_)
 refine wpAny_bind (wpAny_layCells _ (λ name kind cells => by cases hkc : kind == NameKind.cell <;> simp [hkc]) _ _ _ _ ?_)
 have hs := ZaM s.heap { cls := .type "dict", data := .dict #[] }
 rw [show ({ s with heap := s.heap.push { cls := .type "dict", data := .dict #[] } } : Shared).heap.objs.size = s.heap.objs.size + 1 from hs]
 refine wpAny_bind (wpAny_pure (wpAny_pure ?_))
 refine hQ _ ((Heap.Ns.new s.heap (.type "dict")).keeps (pushCells_keeps _ _)) (λ b o e => pushCells_keeps _ _ b o (Zp _ e)) λ hb x c e hl => ?_
 refine QhY (s.heap.objs.size + 1) scope.names (s.heap.push { cls := .type "dict", data := .dict #[] }) cl (λ x c e hl => ?_) (by rw [hs]; exact Zi _) x c (by rw [hs]; exact e) hl
 exact absurd (Zq (hb x c e) (Zu (Zbf _) hl)) (ZP _)
section
variable {X : Cx} {tg iter elt : Expr} {ifs : List Expr} {scope : Scope} {N' : List Str} {pos : Pos}
structure Qdh (X : Cx) (N' : List Str) (scope : Scope) : Prop where
 kind : scope.kind = .function
 own : ∀ y ∈ scope.names, y.2 = .cell -> scope.names.lookup y.1 = some .cell
 loc : ∀ y ∈ scope.names, y.2 = .local -> scope.names.lookup y.1 = some .local
 free : ∀ y ∈ scope.names, y.2 = .free -> X.env.kindOf y.1 = some .cell ∨ X.env.kindOf y.1 = some .free
theorem QoH {pins : List (Addr × Obj)} {σ σc : St} {H3 : Hp} {s3 : Shared} {fp : List Addr} {cl : List (Str × Addr)} {h' : Heap} {tk : Nat} (S : Qdh X N' scope) (I : Inv X pins σ H3 s3)
  (hf : ∀ b ∈ fp, Qde X pins H3 b) (hfl : ∀ b ∈ fp, b < s3.heap.objs.size) (hc1 : ∀ x c, cl.lookup x = some c -> X.env.cells.lookup x = some c) (hc2 : ∀ y ∈ scope.names, y.2 = .free -> ∃ c, cl.lookup y.1 = some c) (cap : Qhz X N' scope σ σc)
  (hns : h'.Ns s3.heap.objs.size (λ _ => none)) (hk : ∀ b o, s3.heap.get? b = some o -> h'.get? b = some o)
  (hown : (∀ x c, cl.lookup x = some c -> c < s3.heap.objs.size) -> ∀ x c, (cellsFrom (s3.heap.objs.size + 1) scope.names cl).lookup x = some c -> s3.heap.objs.size + 1 <= c -> h'.IsCell c none) :
  Inv (cxc X N' scope (cellsFrom (s3.heap.objs.size + 1) scope.names cl) s3.heap.objs.size fp s3 H3) [] σc H3 { s3 with heap := h', toks := tk } := by
 have nold : ∀ b, b ∈ fp -> b ≠ s3.heap.objs.size := λ b hb e => absurd (hfl b hb) (by rw [e]; exact ZP _)
 have cellOld : ∀ x c, cl.lookup x = some c -> ∃ v, s3.heap.IsCell c v := λ x c e => I.cell x c (hc1 x c e)
 have cellLt : ∀ x c, cl.lookup x = some c -> c < s3.heap.objs.size := λ x c e => let ⟨v, q⟩ := cellOld x c e; q.lt
 have cellNew : ∀ c v, s3.heap.IsCell c v -> h'.IsCell c v := λ c v ⟨o, ho, hd⟩ => ⟨o, hk c o ho, hd⟩
 have hown := hown cellLt
 have look : ∀ x c, (cellsFrom (s3.heap.objs.size + 1) scope.names cl).lookup x = some c -> cl.lookup x = some c ∨ (s3.heap.objs.size + 1 <= c /\ (x, NameKind.cell) ∈ scope.names) := QeF scope.names _ cl
 refine ⟨⟨I.ok.mod, S.kind, I.ok.glob, I.ok.blt, Zi _, Qja scope.names _ cl (λ x y c h1 h2 => I.ok.inj x y c (hc1 x c h1) (hc1 y c h2)) (λ x c e => ZaV (cellLt x c e)), λ x hx => ?_, λ x c e1 e2 => ?_, I.ok.hd, I.ok.frames, .inl rfl, λ b hb => ⟨nold b hb, λ x c e => ?_⟩,
  I.bs, Zu I.ok.bsz I.sz, λ b o e hb => ?_, λ b hb hs => ?_, I.stack, I.Qli⟩, rfl, I.bare, Un.kept hk, ⟨_, hns, λ j x v h1 h2 h3 => ?_⟩, λ x c e => ?_, I.hok.fresh (Zi _), λ x c e => ?_, λ p hp => absurd (show p ∈ ([] : List (Addr × Obj)) from hp) (by simp), I.hok.kept hk, cap.1⟩
 ·obtain ⟨k, hm, hk'⟩ := Qdm (env := X.env) (names := scope.names) (x := x) hx
  rcases hk' with rfl | rfl
  ·exact Qex scope.names _ cl x (hc2 _ hm rfl)
  ·exact Qkr scope.names _ cl x hm
 ·have e1 : decide (scope.names.lookup x = some .cell) = true := e1
  have := Qji scope.names _ cl x c (ZS (of_decide_eq_true e1)) e2
  exact Zu (Zbf _) this
 ·rcases look x c e with e | ⟨e, _⟩
  ·exact (hf b hb).2.2.2.2.1 x c (hc1 x c e)
  ·intro z
   rw [z] at e
   exact absurd (Zq (hfl b hb) (Zu (Zbf _) e)) (ZP _)
 ·rcases (hf b hb).2.2.2.1 with z | z
  ·exact I.ok.noex b o e z
  ·exact absurd (Zq (Zt e) (Zu I.ok.bsz z)) (ZP _)
 ·rcases Zw.mp (I.QhB b hs) with e | z
  ·exact (hf b hb).2.1 e
  ·exact (hf b hb).2.2.1 z
 ·obtain ⟨hl, i, e1, e2, e3⟩ := cap.2 j x v h1 h2
  obtain ⟨m, hn, look'⟩ := I.loc
  obtain ⟨u, r, l⟩ := look' i x v e1 e2 (e3.elim (λ z => .inr (.inl z)) λ z => .inr (.inr z))
  refine ⟨u, r, .inr ⟨Qb6 hl, ?_⟩⟩
  rcases l with ⟨k, _⟩ | ⟨_, c, ec, hcell⟩
  ·rcases e3 with z | z <;> (rw [k] at z; cases z)
  ·obtain ⟨c', ec'⟩ := Qex scope.names (s3.heap.objs.size + 1) cl x (hc2 (x, .free) (ZS hl) rfl)
   rcases look x c' ec' with q | ⟨_, q⟩
   ·have := hc1 x c' q
    rw [ec] at this; cases this
    exact ⟨c, ec', cellNew c _ hcell⟩
   ·have := S.own _ q rfl
    rw [hl] at this
    cases this
 ·rcases look x c e with q | ⟨q, _⟩
  ·obtain ⟨v, q⟩ := cellOld x c q
   exact ⟨v, cellNew c v q⟩
  ·exact ⟨none, hown x c e q⟩
 ·rcases look x c e with q | ⟨q, _⟩
  ·exact I.freeC x c (hc1 x c q)
  ·exact I.hok.fresh (by omega)
theorem Qmz {prog : Program} {w : World} {A : Around} {env : Env} {it acc : Value} {R : Result -> Shared -> Prop} {s0 : Shared} (J : Nat -> Shared -> Prop)
  (turn : ∀ n s, J n s -> wpAny (model prog w) A (pyNext it) (λ r s1 => match r with
   | none => R (.ok .next) s1
   | some v => wpAny (model prog w) A (letOwnedTupleGo tg it v) (λ _ s2 => wpAny (model prog w) A (assign tg env v) (λ _ s3 =>
     wpAny (model prog w) A (forIn ifs true λ c r => if r = true then do let ok ← isTrue c env (eval c env); pure (ForInStep.yield ok) else pure (ForInStep.yield r)) (λ ok s4 =>
      if ok = true then wpAny (model prog w) A (eval elt env) (λ x s5 => wpAny (model prog w) A (call (.builtin "list.append") [acc, x]) (λ _ s6 => ∃ m, m < n /\ J m s6) (λ _ _ => False) s5) (λ _ _ => False) s4
      else ∃ m, m < n /\ J m s4) (λ _ _ => False) s3) (λ _ _ => False) s2) (λ _ _ => False) s1) (λ _ _ => False) s)
  (n : Nat) (h : J n s0) : codeAny (model prog w) A (.compLoop (.ListComp elt [⟨tg, iter, ifs, 0⟩] scope pos) 0 it acc env) R s0 := by
 have up : ∀ {α : Type} {t : Sem α} {Q : α -> Shared -> Prop} {E : Value -> Shared -> Prop} {s : Shared}, wpAny (model prog w) A t Q (λ _ _ => False) s -> wpAny (model prog w) A t Q E s := λ h => wpAny_mono h (λ _ _ q => q) λ _ _ f => f.elim
 refine codeAny_loop (by rfl) J (λ k sk hk => ?_) n h
 show wpAny (model prog w) A ((compTurn (.ListComp elt [⟨tg, iter, ifs, 0⟩] scope pos) 0 it acc env).onRaise (λ x => do noteFrame x env; theTreesLotGoes x)) _ _ sk
 refine wpAny_noted (up ?_)
 rw [compTurn_list]
 refine wpAny_bind (wpAny_standAt (wpAny_bind (thn (turn k sk hk) λ r s1 h1 => ?_)))
 cases r with
 | none => exact wpAny_pure h1
 | some v =>
  refine wpAny_bind (thn h1 λ _ s2 h2 => wpAny_bind (thn h2 λ _ s3 h3 => wpAny_bind (thn h3 λ ok s4 h4 => ?_)))
  cases ok with
  | false => exact wpAny_pure ⟨rfl, h4⟩
  | true => exact wpAny_bind (wpAny_bind (thn h4 λ x s5 h5 => wpAny_bind (thn h5 λ _ s6 h6 => wpAny_pure (wpAny_pure ⟨rfl, h6⟩))))
theorem Qn2 {it D C : Addr} {fp : List Addr} {tn : Nat -> Heap -> Prop} {J : It} {cl : List (Str × Addr)} {s3 s4 : Shared} {H3 : Hp} {σc : St} {g : TG} {tc : TT} {te : TE} {Q : Hp -> Prop} (hcalm : X.calm = true)
  (T : Turn X.prog X.w X.K tg J fp it tn)
  (hg : PG (cxc X N' scope cl C fp s3 H3) tg g) (ht : PTs (cxc X N' scope cl C fp s3 H3) ifs tc) (he : PE (cxc X N' scope cl C fp s3 H3) elt te)
  (I : Inv (cxc X N' scope cl C fp s3 H3) [] σc H3 s4) (st : tn 0 s4.heap) (ff : ∀ b ∈ fp, Qde (cxc X N' scope cl C fp s3 H3) [] H3 b)
  (W : Nat -> Nat -> List V -> Hp -> Prop) (hw : ∃ m, W 0 m [] H3)
  (turn : ∀ i m acc H2, W i m acc H2 -> (J.stop i H2 /\ Q H2) ∨
   (J.go i H2 /\ ∀ x H5, J.yld i H2 x H5 -> g x σc H5 λ σ2 H6 => (∀ (j : Nat) v, σc[j]? = some (some v) -> σ2[j]? = some (some v)) /\ tc σ2 H6 λ b H7 => if b = true then
    te σ2 H7 λ y H8 => H8 D = some (.lst acc) /\ acc.length < sizeLine /\ ∃ m', m' < m /\ W (i + 1) m' (acc ++ [y]) (upd H8 D (.lst (acc ++ [y])))
    else ∃ m', m' < m /\ W (i + 1) m' acc H7))
  {R : Result -> Shared -> Prop} (hR : ∀ H' s', Inv (cxc X N' scope cl C fp s3 H3) [] σc H' s' -> Q H' -> R (.ok .next) s') :
  codeAny (model X.prog X.w) X.A (.compStart (.ListComp elt [⟨tg, iter, ifs, 0⟩] scope pos) 0 (.ref it) (.ref D) (compEnvC scope cl C X.env)) R s4 := by
 obtain ⟨m0, w0⟩ := hw
 have stat : ∀ {H' : Hp}, (∀ b ∈ fp, H' b = none) -> ∀ b ∈ fp, Qde (cxc X N' scope cl C fp s3 H3) [] H' b := λ hn b hb => ⟨hn b hb, (ff b hb).2⟩
 have loop : codeAny (model X.prog X.w) X.A (.compLoop (.ListComp elt [⟨tg, iter, ifs, 0⟩] scope pos) 0 (.ref it) (.ref D) (compEnvC scope cl C X.env)) R s4 := by
  refine Qmz (λ n s' => ∃ i acc H', Inv (cxc X N' scope cl C fp s3 H3) [] σc H' s' /\ tn i s'.heap /\ (∀ b ∈ fp, H' b = none) /\ W i n acc H') ?_ m0 ⟨0, [], H3, I, st, λ b hb => (ff b hb).1, w0⟩
  rintro n s5 ⟨i, acc, H5, I5, st5, fr5, w5⟩
  rcases turn i n acc H5 w5 with ⟨stop, q⟩ | ⟨go, step⟩
  ·refine thn (T.done (cxc X N' scope cl C fp s3 H3) rfl rfl rfl hcalm i [] s5 σc H5 _ I5 (stat fr5) st5 stop) λ r s6 ⟨hr, I6⟩ => ?_
   subst hr
   exact hR H5 s6 I6 q
  ·refine thn (T.item (cxc X N' scope cl C fp s3 H3) rfl rfl rfl hcalm i [] s5 σc H5 _ I5 (stat fr5) st5 go) λ r s6 ⟨u, hr, h6⟩ => ?_
   subst hr
   refine thn h6 λ _ s7 ⟨x, H7, I7, r7, y7, st7, fr7⟩ => ?_
   have I7' := I7.pinned (stat fr7) (T.obj _ _ st7)
   refine thn (hg _ s7 σc H7 x u _ I7' r7 (step x H7 y7)) λ _ s8 ⟨σ8, H8, I8, k8, q8⟩ => ?_
   refine thn (ht _ s8 σ8 H8 _ I8 q8) λ ok s9 ⟨H9, I9, q9⟩ => ?_
   have again : ∀ {H' : Hp} {s' : Shared} {acc' : List V}, Inv (cxc X N' scope cl C fp s3 H3) ([] ++ Qfh fp s7.heap) σ8 H' s' -> (∃ m', m' < n /\ W (i + 1) m' acc' H') →
     ∃ m, m < n /\ ∃ i acc H', Inv (cxc X N' scope cl C fp s3 H3) [] σc H' s' /\ tn i s'.heap /\ (∀ b ∈ fp, H' b = none) /\ W i m acc H' := λ {H' s' acc'} I' ⟨m', hm, w'⟩ => by
    have pin : ∀ b ∈ fp, ∀ o, s7.heap.get? b = some o -> s'.heap.get? b = some o /\ H' b = none := λ b hb o e => by
     have z := I'.pin (b, o) (Zc _ (Zc _ (Qe9 hb e)))
     exact ⟨z.1, z.2.1⟩
    refine ⟨m', hm, i + 1, acc', H', ?_, T.keep _ _ _ st7 λ b hb o e => (pin b hb o e).1, λ b hb => ?_, w'⟩
    ·exact I'.QeT.weak (I.len.trans I8.len.symm) k8
    ·obtain ⟨o, e, _⟩ := T.obj _ _ st7 b hb
     exact (pin b hb o e).2
   cases ok with
   | false =>
    rw [if_neg Zae] at q9 ⊢
    exact again I9 q9
   | true =>
    rw [if_pos rfl] at q9 ⊢
    refine thn (he _ s9 σ8 H9 _ I9 q9) λ yv s10 ⟨y, H10, I10, r10, e10, l10, q10⟩ => ?_
    refine thn (Qfs _ s10 σ8 H10 (.ref D) [y] (.ref D) [yv] (λ v H11 => H11 = upd H10 D (.lst (acc ++ [y]))) I10 rfl (.cons r10 .nil) ⟨D, acc, y, rfl, rfl, e10, l10, rfl⟩) λ _ s11 ⟨_, H11, I11, _, e11⟩ => ?_
    subst e11
    exact again I11 q10
 exact codeAny_compStart_list loop (T.self _ 0 _ _ _ st loop)
theorem Qjq {wi : TI} {g : TG} {tc : TT} {te : TE} {cp : Pos} {use : Option (Value -> Sem Unit)} {pins : List (Addr × Obj)} {s : Shared} {σ : St} {H : Hp} {QV : Value -> Shared -> Prop} {Q : VK} (hcalm : X.calm = true) (S : Qdh X N' scope) (hi : PI X tg iter wi)
  (hin : ∀ cl C fp s3 H3, PG (cxc X N' scope cl C fp s3 H3) tg g /\ PTs (cxc X N' scope cl C fp s3 H3) ifs tc /\ PE (cxc X N' scope cl C fp s3 H3) elt te)
  (hs : ∀ x, foldedSetIterable iter X.env x = pure x) (I : Inv X pins σ H s) (h : QiP wi (Qhz X N' scope) g tc te σ H Q)
  (fin : ∀ (D C : Addr) (H' : Hp) (s' : Shared), Inv X pins σ H' s' -> H' C = none -> C ≠ X.env.locals -> X.s₀.heap.objs.size <= C -> (∀ x c, X.env.cells.lookup x = some c -> c ≠ C) -> (∀ p ∈ X.pn ++ pins, p.1 ≠ C) -> (∃ m, s'.heap.Ns C m) -> Q (.ref D) H' →
   compPost (model X.prog X.w) X.A X.xe use QV (.ref D) C (.ok .next) s') :
  wpAny (model X.prog X.w) X.A (comprehension (.ListComp elt [⟨tg, iter, ifs, 0⟩] scope pos) scope X.env cp (newList []) false (eval iter X.env) use) QV X.xe s := by
 obtain ⟨cl, hcl, hc1, hc2⟩ := QpJ (scope := scope) (env := X.env) λ y hy hf => I.ok.has y.1 (S.free y hy hf)
 refine wpAny_comprehension_free (g := ⟨tg, iter, ifs, 0⟩) (gs := []) rfl hs hcl S.kind S.loc ?_
 refine thn (hi pins s σ H _ I h) λ v s1 h1 => thn h1 λ itv s2 h2 => ?_
 obtain ⟨it, fp, tn, J, H2, e, I2, T, st2, f2, σc, cap, hw⟩ := h2
 subst e
 have hD0 : H2 s2.heap.objs.size = none := I2.hok.fresh (Zi _)
 obtain ⟨W, hW0, turn⟩ := hw _ hD0
 have fpl : ∀ b ∈ fp, b < s2.heap.objs.size := λ b hb => let ⟨o, e, _⟩ := T.obj _ _ st2 b hb; Zt e
 have hlist : ∀ D : Addr, D = s2.heap.objs.size -> ∃ x, x = D := λ D _ => ⟨D, rfl⟩
 refine wpAny_newObj_type ?_
 have I3 : Inv X pins σ (upd H2 s2.heap.objs.size (.lst [])) { s2 with heap := s2.heap.push { cls := .type "list", dict := none, data := .seq ([] : List Value).toArray } } :=
  I2.laid (t' := s2.toks) (λ b o e => Zp _ e) (Zi _) ⟨ZW _, [], 0, .nil, ZE _ rfl⟩
 generalize hs3 : ({ s2 with heap := s2.heap.push { cls := .type "list", dict := none, data := .seq ([] : List Value).toArray } } : Shared) = s3 at I3
 have hs3' : s3.heap = s2.heap.push { cls := .type "list", dict := none, data := .seq ([] : List Value).toArray } := by rw [← hs3]
 have sz3 : s3.heap.objs.size = s2.heap.objs.size + 1 := by rw [hs3', ZaM]
 have old3 : ∀ b o, s2.heap.get? b = some o -> s3.heap.get? b = some o := λ b o e => by rw [hs3']; exact Zp _ e
 have f3 : ∀ b ∈ fp, Qde X pins (upd H2 s2.heap.objs.size (.lst [])) b := λ b hb => ⟨by rw [QP (ZL (fpl b hb))]; exact (f2 b hb).1, (f2 b hb).2⟩
 have fpl3 : ∀ b ∈ fp, b < s3.heap.objs.size := λ b hb => by rw [sz3]; exact ZaV (fpl b hb)
 refine Ql8 (λ h4 hns4' keep4 hown4 => ?_)
 have I4 := QoH (tk := s3.toks) S I3 f3 fpl3 hc1 hc2 cap hns4' keep4 hown4
 have hout : ∀ H' s', Inv (cxc X N' scope (cellsFrom (s3.heap.objs.size + 1) scope.names cl) s3.heap.objs.size fp s3 (upd H2 s2.heap.objs.size (.lst []))) [] σc H' s' -> Inv X pins σ H' s' := λ H' s' J' =>
  I3.Qtl (ch := fp) J'.os J'.base J'.hok J'.bare λ b hb => ⟨(f3 b hb).2.2.2.1, (f3 b hb).2.1, (f3 b hb).2.2.2.2.1, (f3 b hb).2.2.2.2.2⟩
 obtain ⟨hg, ht, he⟩ := hin (cellsFrom (s3.heap.objs.size + 1) scope.names cl) s3.heap.objs.size fp s3 (upd H2 s2.heap.objs.size (.lst []))
 have fc : ∀ b ∈ fp, Qde (cxc X N' scope (cellsFrom (s3.heap.objs.size + 1) scope.names cl) s3.heap.objs.size fp s3 (upd H2 s2.heap.objs.size (.lst []))) [] (upd H2 s2.heap.objs.size (.lst [])) b := λ b hb =>
  ⟨(f3 b hb).1, ZL (fpl3 b hb), λ hs' => (Zw.mp (I3.QhB b hs')).elim (f3 b hb).2.1 (f3 b hb).2.2.1, .inl hb, λ x c e => (by
   rcases QeF scope.names _ cl x c e with e | ⟨e, _⟩
   ·exact (f3 b hb).2.2.2.2.1 x c (hc1 x c e)
   ·intro z
    rw [z] at e
    exact absurd (Zq (fpl3 b hb) (Zu (Zbf _) e)) (ZP _)), λ p hp => absurd (show p ∈ ([] : List (Addr × Obj)) from hp) (by simp)⟩
 have hC1 : s3.heap.objs.size ≠ X.env.locals := Ne.symm (ZL I3.lt)
 refine Qn2 (D := s2.heap.objs.size) (C := s3.heap.objs.size) (s3 := s3) (σc := σc) (H3 := upd H2 s2.heap.objs.size (.lst [])) (W := W) (Q := λ H' => Q (.ref s2.heap.objs.size) H') hcalm T hg ht he I4 (T.keep _ _ _ st2 λ b hb o e => keep4 b o (old3 b o e)) fc hW0 turn λ H' s' J' q => ?_
 have O := hout H' s' J'
 refine fin _ _ H' s' O J'.free hC1 (Zu I3.sz (Zi _)) (λ x c e z => ?_) (λ p hp z => ?_) (let ⟨m, hn, _⟩ := J'.loc; ⟨m, hn⟩) q
 ·obtain ⟨v, o, ho, _⟩ := I3.cell x c e
  exact absurd (Zt ho) (by rw [z]; exact ZP _)
 ·exact absurd (Zt (I3.pin p hp).1) (by rw [z]; exact ZP _)
theorem Inv.Qpr {pins : List (Addr × Obj)} {σ : St} {H : Hp} {s : Shared} {C : Addr} {h' : Heap} (I : Inv X pins σ H s) (hs : Heap.SameBut C s.heap h') (hn : H C = none) (hL : C ≠ X.env.locals) (h1 : X.s₀.heap.objs.size <= C)
  (h2 : ∀ x c, X.env.cells.lookup x = some c -> c ≠ C) (h3 : ∀ p ∈ X.pn ++ pins, p.1 ≠ C) : Inv X pins σ H { s with heap := h' } :=
 I.turned (t' := s.toks) (λ b o hb e => (hs.2 b hb).trans e) hn hL (.inr h1) h2 h3
theorem Qk0 {wi : TI} {g : TG} {tc : TT} {te : TE} (hcalm : X.calm = true) (S : Qdh X N' scope) (hi : PI X tg iter wi)
  (hin : ∀ cl C fp s3 H3, PG (cxc X N' scope cl C fp s3 H3) tg g /\ PTs (cxc X N' scope cl C fp s3 H3) ifs tc /\ PE (cxc X N' scope cl C fp s3 H3) elt te)
  (hs : ∀ x, foldedSetIterable iter X.env x = pure x := by intro _; rfl) : PE X (.ListComp elt [⟨tg, iter, ifs, 0⟩] scope pos) (QiP wi (Qhz X N' scope) g tc te) := by
 intro pins s σ H Q I h
 rw [eval_ListComp]
 refine Qjq (use := none) hcalm S hi hin hs I h λ D C H' s' O h1 h2 h3 h4 h5 ⟨m, hm⟩ q => ?_
 exact ⟨m, hm, λ h' hs' => ⟨.ref D, H', O.Qpr hs' h1 h2 h3 h4 h5, rfl, q⟩⟩
theorem Qq0 {wi : TI} {g : TG} {tc : TT} {te : TE} {i : Nat} {x : Str} {pos' spos : Pos} (hN : X.N.Nodup) (hx1 : X.N[i]? = some x) (hx : Loc X.env.scope x) (hf : X.fn x = true ∨ X.env.scope.names.lookup x = some .local) (hcalm : X.calm = true) (S : Qdh X N' scope) (hi : PI X tg iter wi)
  (hin : ∀ cl C fp s3 H3, PG (cxc X N' scope cl C fp s3 H3) tg g /\ PTs (cxc X N' scope cl C fp s3 H3) ifs tc /\ PE (cxc X N' scope cl C fp s3 H3) elt te)
  (hs : ∀ x, foldedSetIterable iter X.env x = pure x := by intro _; rfl) :
  PS X (.Assign [.Name x pos'] (.ListComp elt [⟨tg, iter, ifs, 0⟩] scope pos) spos) (QjU (QiP wi (Qhz X N' scope) g tc te) (QfQ i)) := by
 have hb : ∃ b, swapsWith (.ListComp elt [⟨tg, iter, ifs, 0⟩] scope pos) (some (.Name x pos')) spos.line X.env = pure b := ⟨_, rfl⟩
 obtain ⟨b, hb⟩ := hb
 cases b with
 | false => exact Qkk hN hx1 hx (Qk0 hcalm S hi hin hs) hb hf
 | true =>
  intro pins s σ H D I h
  rw [exec_Assign_Name_used _ _ _ _ hb]
  refine wpAny_bind (wpAny_standAt (wpAny_bind ?_))
  show wpAny _ X.A (do let _ ← comprehension (.ListComp elt [⟨tg, iter, ifs, 0⟩] scope pos) scope X.env _ (newList []) false (eval iter X.env) (some (assign (.Name x pos') X.env))) _ _ s
  refine wpAny_bind (thn (Qjq (use := some (assign (.Name x pos') X.env)) (QV := λ _ s' => SP X pins D .next s') hcalm S hi hin hs I h λ Dl C H' s' O h1 h2 h3 h4 h5 ⟨m, hm⟩ q => ?_) λ _ s' hq => wpAny_pure (wpAny_pure hq))
  refine wpAny_assign_Name (Qih O hN hx1 hx (v := .ref Dl) (u := .ref Dl) rfl (λ s2 I2 hsb => ?_) hf)
  obtain ⟨a, sb, ha⟩ := hsb
  have haC : C ≠ a := by
   rcases ha with rfl | ha
   ·exact h2
   ·exact Ne.symm (h4 _ _ ha)
  exact ⟨m, hm.sameBut sb haC, λ h' hs' => ⟨_, H', I2.Qpr hs' h1 h2 h3 h4 h5, q⟩⟩
end
end L2
namespace L2
open PySem PySem.Spec PyProof.Rows
section
variable {X : Cx} {pins : List (Addr × Obj)} {σ : St} {H H' : Hp} {s : Shared} {h' : Heap}
theorem Inv.QpC {t' : Nat} {ch : List Addr} {T : Addr} {ts : List V} (I : Inv X pins σ H s) (hf : ∀ b ∈ ch, Qde X pins H b) (k : ∀ b o, b ∉ ch -> s.heap.get? b = some o -> h'.get? b = some o) (hp : ∀ b ∈ ch, ∃ o, h'.get? b = some o)
  (hT : s.heap.objs.size <= T) (hnew : ts.length <= sizeLine /\ ∃ its : List Value, Qt ts its /\ IsTup h' T its.toArray) : Inv X pins σ (upd H T (.tup ts)) { s with heap := h', toks := t' } := by
 have hn : H T = none := I.hok.fresh hT
 have neT : ∀ b u, H b = some u -> b ≠ T := λ b u e => Qba e hn
 have nch : ∀ b u, H b = some u -> b ∉ ch := λ b u e hb => by rw [(hf b hb).1] at e; cases e
 have ltT : ∀ b o, s.heap.get? b = some o -> b ≠ T := λ b o e => ZL (Zq (Zt e) hT)
 refine I.step (g' := s.gens) (d' := s.drawn) (ch := ch) (λ b hb => ?_) (λ b o _ _ hc e _ => k b o hc e) (λ b o _ _ hc e _ => ⟨o.slots, k b o hc e⟩) (λ b o _ e n => by rw [QP (ltT b o e)]; exact n)
  (λ b o hc e => ⟨o, k b o hc e⟩) (λ b xs e => by rw [QP (neT b _ e)]; exact e) (λ b o u e => by rw [QP (neT b _ e)]; exact e) (λ b ps e => ⟨#[], by rw [QP (neT b _ e), e]; simp⟩) (λ m hm => ?_) (λ b u e => ?_) I.bare
 ·obtain ⟨f0, f1, f2, f3, f4, f5⟩ := hf b hb
  exact ⟨f3, f1, f4, f5⟩
 ·obtain ⟨o, es, ep, ho, r⟩ := hm
  exact ⟨o, es, ep, k _ o (λ z => (hf _ z).2.1 rfl) ho, r⟩
 ·by_cases hb : b = T
  ·subst hb
   rw [Qaj] at e
   cases e
   exact hnew
  ·rw [QP hb] at e
   refine (I.hok b u e).QgL (λ c v hc q => k c v ?_ q) (λ c q => by rw [QP (neT c _ q)]; exact q) λ c xs q => by rw [QP (neT c _ q)]; exact q
   rcases hc with z | z
   ·rw [z]; exact nch b u e
   ·exact nch c _ z
theorem Inv.turns {t' : Nat} {ch : List Addr} (I : Inv X pins σ H s) (hf : ∀ b ∈ ch, Qde X pins H b) (k : ∀ b o, b ∉ ch -> s.heap.get? b = some o -> h'.get? b = some o) : Inv X pins σ H { s with heap := h', toks := t' } := by
 have nch : ∀ b u, H b = some u -> b ∉ ch := λ b u e hb => by rw [(hf b hb).1] at e; cases e
 refine I.step (g' := s.gens) (d' := s.drawn) (ch := ch) (λ b hb => ?_) (λ b o _ _ hc e _ => k b o hc e) (λ b o _ _ hc e _ => ⟨o.slots, k b o hc e⟩) (λ b o _ e n => n)
  (λ b o hc e => ⟨o, k b o hc e⟩) (λ b xs e => e) (λ b o u e => e) (λ b ps e => ⟨#[], by rw [e]; simp⟩) (λ m hm => ?_) (λ b u e => ?_) I.bare
 ·obtain ⟨f0, f1, f2, f3, f4, f5⟩ := hf b hb
  exact ⟨f3, f1, f4, f5⟩
 ·obtain ⟨o, es, ep, ho, r⟩ := hm
  exact ⟨o, es, ep, k _ o (λ z => (hf _ z).2.1 rfl) ho, r⟩
 ·refine (I.hok b u e).QgL (λ c v hc q => k c v ?_ q) (λ c q => q) λ c xs q => q
  rcases hc with z | z
  ·rw [z]; exact nch b u e
  ·exact nch c _ z
end
noncomputable def Ite (K : PySem.W.Frag) (a : Addr) : It :=
 ⟨λ i H => ∃ xs x, SqL K H a xs /\ xs[i]? = some x, λ i H v H' => ∃ p x, v = .ref p /\ H p = none /\ H' = upd H p (.tup [.int i, x]) /\ ∀ xs, SqL K H a xs -> xs[i]? = some x, λ i H => ∃ xs, SqL K H a xs /\ xs.length <= i⟩
theorem Qmq {P : Program} {w : World} {K : PySem.W.Frag} {es : List Expr} {tk : Nat} {tpos : Pos} (a e it : Addr) (hne : e ≠ it) : Turn P w K (.Tuple es tk tpos) (Ite K a) [e, it] e (λ i h => ∃ old, IsEnum h e it (i : Int) old /\ h.IsListIter it a i) where
 mem := by simp
 obj := λ i h st b hb => by
  obtain ⟨old, he, o, ho, hc, hd⟩ := st
  have hb : b = e ∨ b = it := by simpa using hb
  rcases hb with rfl | rfl
  ·exact ⟨_, he, λ v z => by cases z⟩
  ·exact ⟨o, ho, λ v z => by rw [hd] at z; cases z⟩
 keep := λ i h h' st k => by
  obtain ⟨old, he, hi⟩ := st
  exact ⟨old, k e (by simp) _ he, hi.at λ o q => k it (by simp) o q⟩
 item := by
  intro X hP hw hK hc i pins s σ H E I hf st hg
  subst hP hw hK
  obtain ⟨old, he, hi⟩ := st
  obtain ⟨xs, x, hq, hx⟩ := hg
  obtain ⟨its, rv, p, hz⟩ := I.list hq
  obtain ⟨u, hu, ru⟩ := rv.get hx
  refine wpAny_pyNext_enum_item he hi p.isList (x := u) (by simpa using hu) hne λ h1 heo hi1 ht1 hz1 hk1 => ?_
  refine ⟨.ref s.heap.objs.size, rfl, wpAny_letOwnedTupleGo_enum heo λ h2 he2 hs2 => ?_⟩
  replace hs2 : Heap.SameBut e h1 h2 := hs2
  have helt : e < s.heap.objs.size := Zt he
  have hilt : it < s.heap.objs.size := by obtain ⟨o, ho, _⟩ := hi; exact Zt ho
  have ht2 : IsTup h2 s.heap.objs.size [Value.int i s.toks, u].toArray := ⟨_, (hs2.2 _ (Nat.ne_of_gt helt)).trans ht1, rfl, _, rfl⟩
  have hi2 : h2.IsListIter it a (i + 1) := hi1.extBut hs2.extBut (Ne.symm hne)
  have kk : ∀ b o, b ∉ [e, it] -> s.heap.get? b = some o -> h2.get? b = some o := λ b o hb q => by
   have h1 : b ≠ e := λ z => hb (by simp [z])
   have h2 : b ≠ it := λ z => hb (by simp [z])
   exact hs2.extBut b o h1 (hk1 b o h1 h2 q)
  refine ⟨.ref s.heap.objs.size, upd H s.heap.objs.size (.tup [.int i, x]), I.QpC (t' := s.toks + 1) hf kk (λ b hb => ?_) (Zi _) ⟨by show 2 <= sizeLine; decide, _, .cons ⟨_, rfl⟩ (.cons ru .nil), ht2⟩, rfl,
   ⟨_, x, rfl, I.hok.fresh (Zi _), rfl, λ ys hy => by rw [I.QeU hy hq]; exact hx⟩, ⟨u, ?_, hi2⟩, λ b hb => ?_⟩
  ·have hb : b = e ∨ b = it := by simpa using hb
   rcases hb with rfl | rfl
   ·exact ⟨_, he2⟩
   ·obtain ⟨o, ho, _⟩ := hi2; exact ⟨o, ho⟩
  ·have : ((i + 1 : Nat) : Int) = (i : Int) + 1 := by push_cast; rfl
   rw [this]; exact he2
  ·have hb' : b = e ∨ b = it := by simpa using hb
   have : b ≠ s.heap.objs.size := by
    rcases hb' with rfl | rfl
    ·exact ZL helt
    ·exact ZL hilt
   rw [QP this]; exact (hf b hb).1
 done := by
  intro X hP hw hK hc i pins s σ H E I hf st hg
  subst hP hw hK
  obtain ⟨old, he, hi⟩ := st
  obtain ⟨xs, hq, hx⟩ := hg
  obtain ⟨its, rv, p, hz⟩ := I.list hq
  have hl := rv.length
  refine wpAny_pyNext_enum_end (I.ok.hd hc) he hi p.isList (by simp; omega) λ h1 eb => ⟨rfl, ?_⟩
  exact I.turns (t' := s.toks) hf λ b o hb q => eb b o (λ z => hb (by simp [z])) q
 self := λ _ _ _ _ _ st h => by
  obtain ⟨old, he, hi⟩ := st
  exact wpAny_pyIter_enum he h
section
variable {X : Cx}
noncomputable def Qtc (K : PySem.W.Frag) (ta : TA) : TI := λ σ H R => ta σ H λ vs H1 => ∃ a, vs = [.ref a] /\ (∃ xs, SqL K H1 a xs) /\ R (Ite K a) H1
theorem QqU {a : Expr} {ta : TA} {p pos : Pos} {es : List Expr} {tk : Nat} {tpos : Pos} (hg : Gl X "enumerate") (hm : X.mg "enumerate" = none) (ha : PA X [a] ta) (hs : starEach [a] X.env = [(false, eval a X.env)]) :
  PI X (.Tuple es tk tpos) (.Call (.Name "enumerate" p) [a] [] pos) (Qtc X.K ta) := by
 intro pins s σ H R I h
 refine Call_ (QcV I hg hm PyProof.Rows.boot_enumerate (ZN (thn (ha pos pins s σ H _ I h) λ us s1 ⟨vs, H1, I1, r1, q1⟩ => ?_) hs rfl))
 obtain ⟨l, e, ⟨xs, hq⟩, q⟩ := q1
 subst e
 obtain ⟨u, rfl, ru⟩ := vals1 r1
 cases ru
 obtain ⟨its, rv, pl, hz⟩ := I1.list hq
 refine call_enumerate_list pl.isList λ h2 he2 hi2 hz2 hk2 => ?_
 have I2 : Inv X pins σ H1 { s1 with heap := h2 } := I1.kept (t' := s1.toks) hk2
 refine wpAny_pyIter_enum he2 ⟨_, [s1.heap.objs.size + 1, s1.heap.objs.size], _, _, H1, rfl, I2, Qmq l _ _ (Nat.succ_ne_self _), ⟨_, he2, hi2⟩, λ b hb => ?_, q⟩
 have hb : b = s1.heap.objs.size + 1 ∨ b = s1.heap.objs.size := by simpa using hb
 have hle : s1.heap.objs.size <= b := by rcases hb with rfl | rfl <;> omega
 exact I1.Qj3 hle (I1.hok.fresh hle)
end
noncomputable def Itz (K : PySem.W.Frag) (a b : Addr) : It :=
 ⟨λ i H => ∃ xs ys x y, SqL K H a xs /\ SqL K H b ys /\ xs[i]? = some x /\ ys[i]? = some y, λ i H v H' => ∃ p x y, v = .ref p /\ H p = none /\ H' = upd H p (.tup [x, y]) /\ (∀ xs, SqL K H a xs -> xs[i]? = some x) /\ ∀ ys, SqL K H b ys -> ys[i]? = some y,
  λ i H => ∃ xs ys, SqL K H a xs /\ SqL K H b ys /\ (xs.length <= i ∨ ys.length <= i)⟩
structure QpD (z TI TO i1 i2 : Addr) : Prop where
 a : TI ≠ z
 b : TO ≠ z
 c : i1 ≠ z
 d : i2 ≠ z
 e : TI ≠ TO
 f : TI ≠ i1
 g : TI ≠ i2
 h : TO ≠ i1
 i : TO ≠ i2
 j : i1 ≠ i2
theorem Qph {P : Program} {w : World} {K : PySem.W.Frag} {es : List Expr} {tk : Nat} {tpos : Pos} (l1 l2 z TI TO i1 i2 : Addr) (D : QpD z TI TO i1 i2) :
  Turn P w K (.Tuple es tk tpos) (Itz K l1 l2) [z, TI, TO, i1, i2] z (λ i h => IsZip h z TI TO .none /\ IsPair h TI (.ref i1) (.ref i2) /\ (∃ a b, IsPair h TO a b) /\ h.IsListIter i1 l1 i /\ h.IsListIter i2 l2 i) where
 mem := by simp
 obj := λ i h st b hb => by
  obtain ⟨hz, hTI, ⟨p, q, hTO⟩, ⟨o1, ho1, hc1, hd1⟩, ⟨o2, ho2, hc2, hd2⟩⟩ := st
  have hb : b = z ∨ b = TI ∨ b = TO ∨ b = i1 ∨ b = i2 := by simpa using hb
  rcases hb with rfl | rfl | rfl | rfl | rfl
  ·exact ⟨_, hz, λ v z => by cases z⟩
  ·exact ⟨_, hTI, λ v z => by cases z⟩
  ·exact ⟨_, hTO, λ v z => by cases z⟩
  ·exact ⟨o1, ho1, λ v z => by rw [hd1] at z; cases z⟩
  ·exact ⟨o2, ho2, λ v z => by rw [hd2] at z; cases z⟩
 keep := λ i h h' st k => by
  obtain ⟨hz, hTI, ⟨p, q, hTO⟩, h1, h2⟩ := st
  exact ⟨k z (by simp) _ hz, k TI (by simp) _ hTI, ⟨p, q, k TO (by simp) _ hTO⟩, h1.at λ o e => k i1 (by simp) o e, h2.at λ o e => k i2 (by simp) o e⟩
 item := by
  intro X hP hw hK hc i pins s σ H E I hf st hg
  subst hP hw hK
  obtain ⟨hz, hTI, ⟨a0, b0, hTO⟩, h1, h2⟩ := st
  obtain ⟨xs, ys, x, y, hq1, hq2, hx, hy⟩ := hg
  obtain ⟨its, rv, p, hzz⟩ := I.list hq1
  obtain ⟨its2, rv2, p2, hzz2⟩ := I.list hq2
  obtain ⟨u, hu, ru⟩ := rv.get hx
  obtain ⟨u2, hu2, ru2⟩ := rv2.get hy
  have free : ∀ l ys, SqL X.K H l ys -> ∀ b, b ∈ [z, TI, TO, i1, i2] -> l ≠ b := λ l ys hq b hb e => by
   subst e
   rcases hq with (hq | ⟨o, hq⟩) | ⟨o, its, n, hk, hc', _, hd', _⟩
   ·rw [(hf l hb).1] at hq; cases hq
   ·rw [(hf l hb).1] at hq; cases hq
   ·have e1 := I.kIn l o hk
    obtain ⟨o1, ho1, hcc1, hd1⟩ := id h1
    obtain ⟨o2, ho2, hcc2, hd2⟩ := id h2
    have hb : l = z ∨ l = TI ∨ l = TO ∨ l = i1 ∨ l = i2 := by simpa using hb
    rcases hb with rfl | rfl | rfl | rfl | rfl
    ·rw [hz] at e1; cases e1; simp at hc'
    ·rw [hTI] at e1; cases e1; simp at hc'
    ·rw [hTO] at e1; cases e1; simp at hc'
    ·rw [ho1] at e1; cases e1; rw [hc'] at hcc1; simp at hcc1
    ·rw [ho2] at e1; cases e1; rw [hc'] at hcc2; simp at hcc2
  have A1 := free l1 xs hq1
  have A2 := free l2 ys hq2
  have DD : ZipApart z TI TO i1 i2 l1 l2 := ⟨D.a, D.b, D.c, D.d, D.e, D.f, D.g, D.h, D.i, D.j, A1 z (by simp), A1 TO (by simp), A1 i1 (by simp), A1 i2 (by simp), A2 z (by simp), A2 TO (by simp), A2 i1 (by simp), A2 i2 (by simp)⟩
  refine wpAny_pyNext_zip_item DD hz hTI hTO h1 h2 p.isList p2.isList (x := u) (y := u2) (by simpa using hu) (by simpa using hu2) λ h3 z3 TO3 a3 b3 T3 sz3 k3 => ?_
  refine ⟨.ref s.heap.objs.size, rfl, wpAny_letOwnedTupleGo_zip z3 λ h4 z4 hs4 => ?_⟩
  replace hs4 : Heap.SameBut z h3 h4 := hs4
  have lt : ∀ {c o}, s.heap.get? c = some o -> c < s.heap.objs.size := λ e => Zt e
  have hzlt := lt hz
  have all : ∀ b ∈ [z, TI, TO, i1, i2], b < s.heap.objs.size := λ b hb => by
   have hb : b = z ∨ b = TI ∨ b = TO ∨ b = i1 ∨ b = i2 := by simpa using hb
   obtain ⟨o1, ho1, _⟩ := h1
   obtain ⟨o2, ho2, _⟩ := h2
   rcases hb with rfl | rfl | rfl | rfl | rfl
   ·exact lt hz
   ·exact lt hTI
   ·exact lt hTO
   ·exact lt ho1
   ·exact lt ho2
  have kk : ∀ b o, b ∉ [z, TI, TO, i1, i2] -> s.heap.get? b = some o -> h4.get? b = some o := λ b o hb q => by
   have n1 : b ≠ z := λ e => hb (by simp [e])
   exact hs4.extBut b o n1 (k3 b o n1 (λ e => hb (by simp [e])) (λ e => hb (by simp [e])) (λ e => hb (by simp [e])) q)
  have TI4 : IsPair h4 TI (.ref i1) (.ref i2) := hs4.extBut _ _ D.a (k3 _ _ D.a D.e D.f D.g hTI)
  have TO4 : IsPair h4 TO u u2 := hs4.extBut _ _ D.b TO3
  have a4 : h4.IsListIter i1 l1 (i + 1) := a3.extBut hs4.extBut D.c
  have b4 : h4.IsListIter i2 l2 (i + 1) := b3.extBut hs4.extBut D.d
  have T4 : IsTup h4 s.heap.objs.size [u, u2].toArray := ⟨_, (hs4.2 _ (Nat.ne_of_gt hzlt)).trans T3, rfl, _, rfl⟩
  refine ⟨.ref s.heap.objs.size, upd H s.heap.objs.size (.tup [x, y]), I.QpC (t' := s.toks) hf kk (λ b hb => ?_) (Zi _) ⟨by show 2 <= sizeLine; decide, _, .cons ru (.cons ru2 .nil), T4⟩, rfl,
   ⟨_, x, y, rfl, I.hok.fresh (Zi _), rfl, λ zs hy' => by rw [I.QeU hy' hq1]; exact hx, λ zs hy' => by rw [I.QeU hy' hq2]; exact hy⟩, ⟨z4, TI4, ⟨_, _, TO4⟩, a4, b4⟩, λ b hb => ?_⟩
  ·have hb : b = z ∨ b = TI ∨ b = TO ∨ b = i1 ∨ b = i2 := by simpa using hb
   obtain ⟨o1, ho1, _⟩ := a4
   obtain ⟨o2, ho2, _⟩ := b4
   rcases hb with rfl | rfl | rfl | rfl | rfl
   ·exact ⟨_, z4⟩
   ·exact ⟨_, TI4⟩
   ·exact ⟨_, TO4⟩
   ·exact ⟨_, ho1⟩
   ·exact ⟨_, ho2⟩
  ·rw [QP (ZL (all b hb))]; exact (hf b hb).1
 done := by
  intro X hP hw hK hc i pins s σ H E I hf st hg
  subst hP hw hK
  obtain ⟨hz, hTI, ⟨a0, b0, hTO⟩, h1, h2⟩ := st
  obtain ⟨xs, ys, hq1, hq2, hx⟩ := hg
  obtain ⟨its, rv, p, hzz⟩ := I.list hq1
  obtain ⟨its2, rv2, p2, hzz2⟩ := I.list hq2
  have free : ∀ l ys, SqL X.K H l ys -> ∀ b, b ∈ [z, TI, TO, i1, i2] -> l ≠ b := λ l ys hq b hb e => by
   subst e
   rcases hq with (hq | ⟨o, hq⟩) | ⟨o, its, n, hk, hc', _, hd', _⟩
   ·rw [(hf l hb).1] at hq; cases hq
   ·rw [(hf l hb).1] at hq; cases hq
   ·have e1 := I.kIn l o hk
    obtain ⟨o1, ho1, hcc1, hd1⟩ := id h1
    obtain ⟨o2, ho2, hcc2, hd2⟩ := id h2
    have hb : l = z ∨ l = TI ∨ l = TO ∨ l = i1 ∨ l = i2 := by simpa using hb
    rcases hb with rfl | rfl | rfl | rfl | rfl
    ·rw [hz] at e1; cases e1; simp at hc'
    ·rw [hTI] at e1; cases e1; simp at hc'
    ·rw [hTO] at e1; cases e1; simp at hc'
    ·rw [ho1] at e1; cases e1; rw [hc'] at hcc1; simp at hcc1
    ·rw [ho2] at e1; cases e1; rw [hc'] at hcc2; simp at hcc2
  have A1 := free l1 xs hq1
  have A2 := free l2 ys hq2
  have DD : ZipApart z TI TO i1 i2 l1 l2 := ⟨D.a, D.b, D.c, D.d, D.e, D.f, D.g, D.h, D.i, D.j, A1 z (by simp), A1 TO (by simp), A1 i1 (by simp), A1 i2 (by simp), A2 z (by simp), A2 TO (by simp), A2 i1 (by simp), A2 i2 (by simp)⟩
  have hl := rv.length
  have hl2 := rv2.length
  refine wpAny_pyNext_zip_end (I.ok.hd hc) DD hz hTI hTO h1 h2 p.isList p2.isList (by rcases hx with hx | hx; (left; simp; omega); (right; simp; omega)) λ h3 k3 => ⟨rfl, ?_⟩
  exact I.turns (t' := s.toks) hf λ b o hb q => k3 b o (λ e => hb (by simp [e])) (λ e => hb (by simp [e])) (λ e => hb (by simp [e])) (λ e => hb (by simp [e])) q
 self := λ _ _ _ _ _ st h => wpAny_pyIter_zip st.1 h
section
variable {X : Cx}
noncomputable def Qum (K : PySem.W.Frag) (ta : TA) : TI := λ σ H R => ta σ H λ vs H1 => ∃ a b, vs = [.ref a, .ref b] /\ (∃ xs, SqL K H1 a xs) /\ (∃ ys, SqL K H1 b ys) /\ R (Itz K a b) H1
theorem Qr5 {a b : Expr} {ta : TA} {p pos : Pos} {es : List Expr} {tk : Nat} {tpos : Pos} (hg : Gl X "zip") (hm : X.mg "zip" = none) (ha : PA X [a, b] ta) (hs : starEach [a, b] X.env = [(false, eval a X.env), (false, eval b X.env)]) (hs2 : starEach [b] X.env = [(false, eval b X.env)]) :
  PI X (.Tuple es tk tpos) (.Call (.Name "zip" p) [a, b] [] pos) (Qum X.K ta) := by
 intro pins s σ H R I h
 refine Call_ (QcV I hg hm PyProof.Rows.boot_zip (ZN (thn (ha pos pins s σ H _ I h) λ us s1 ⟨vs, H1, I1, r1, q1⟩ => ?_) (by rw [hs, hs2]) (by rw [hs2]; rfl)))
 obtain ⟨l, l2, e, ⟨xs, hq⟩, ⟨ys, hq2⟩, q⟩ := q1
 subst e
 obtain ⟨u, u2, rfl, ru, ru2⟩ := vals2 r1
 cases ru
 cases ru2
 obtain ⟨its, rv, pl, hz⟩ := I1.list hq
 obtain ⟨its2, rv2, pl2, hz2⟩ := I1.list hq2
 refine call_zip_2 pl.isList pl2.isList λ h2 hz hTI hTO h1 h2' hsz hk2 => ?_
 have I2 : Inv X pins σ H1 { s1 with heap := h2 } := I1.kept (t' := s1.toks) hk2
 refine wpAny_pyIter_zip hz ⟨_, [s1.heap.objs.size + 4, s1.heap.objs.size + 2, s1.heap.objs.size + 3, s1.heap.objs.size, s1.heap.objs.size + 1], _, _, H1, rfl, I2, Qph l l2 _ _ _ _ _ ⟨?_, ?_, ?_, ?_, ?_, ?_, ?_, ?_, ?_, ?_⟩, ⟨hz, hTI, ⟨_, _, hTO⟩, h1, h2'⟩, λ b hb => ?_, q⟩
 iterate 10 (exact (by intro e; first | (have e' : (s1.heap.objs.size : Nat) + _ = _ := e; omega) | (have e' : (s1.heap.objs.size : Nat) = _ := e; omega)))
 have hle : s1.heap.objs.size <= b := by
  simp only [Zw, List.not_mem_nil, or_false] at hb
  rcases hb with rfl | rfl | rfl | rfl | rfl <;> first | exact Zi _ | exact Nat.le_add_right _ _
 exact I1.Qj3 hle (I1.hok.fresh hle)
end
end L2
namespace L2
open PySem PySem.Spec
section
variable {prog : Program} {w : World} {A : Around} {E : Value -> Shared -> Prop} {s : Shared}
structure Six (z TI TO i1 i2 i3 : Addr) : Prop where
 TIz : TI ≠ z
 TOz : TO ≠ z
 i1z : i1 ≠ z
 i2z : i2 ≠ z
 i3z : i3 ≠ z
 TITO : TI ≠ TO
 TIi1 : TI ≠ i1
 TIi2 : TI ≠ i2
 TIi3 : TI ≠ i3
 TOi1 : TO ≠ i1
 TOi2 : TO ≠ i2
 TOi3 : TO ≠ i3
 i12 : i1 ≠ i2
 i13 : i1 ≠ i3
 i23 : i2 ≠ i3
end
section
variable {prog : Program} {w : World} {A : Around} {E : Value -> Shared -> Prop} {s : Shared}
end
open PyProof.Rows
section
variable {X : Cx}
end
end L2
namespace HS
open PySem PySem.Spec PyProof.Rows L2
inductive D where
 | non | bl (b : Bool) | int (i : Int) | str (x : Str) | tup (xs : List D) | lst (xs : List D)
mutual
noncomputable def D.flat : D -> Bool
 | .lst _ => false
 | .tup xs => QI xs
 | .non => true
 | .bl _ => true
 | .int _ => true
 | .str _ => true
noncomputable def QI : List D -> Bool
 | [] => true
 | d :: ds => d.flat && QI ds
end
mutual
noncomputable def D.nl : D -> Nat
 | .lst xs => nls xs + 1
 | .tup xs => nls xs
 | .non => 0
 | .bl _ => 0
 | .int _ => 0
 | .str _ => 0
noncomputable def nls : List D -> Nat
 | [] => 0
 | d :: ds => d.nl + nls ds
end
mutual
theorem Qcs : ∀ (d : D), d.flat = true -> d.nl = 0
 | .non, _ => rfl
 | .bl _, _ => rfl
 | .int _, _ => rfl
 | .str _, _ => rfl
 | .tup xs, h => by simp only [D.nl]; simp only [D.flat] at h; exact QeW xs h
 | .lst xs, h => by simp [D.flat] at h
theorem QeW : ∀ (ds : List D), QI ds = true -> nls ds = 0
 | [], _ => rfl
 | d :: ds, h => by simp only [QI, Zf] at h; simp only [nls, Qcs d h.1, QeW ds h.2]
end
def Fix (K : PySem.W.Frag) (H : Hp) (a : Addr) (vs : List V) : Prop :=
 (∃ o, H a = some (.frz o (.lst vs))) ∨
  ∃ (its : List Value) (n : Nat), K.lookup a = some { cls := .type "list", data := .seq its.toArray n } /\ vs.length <= sizeLine /\ Qt vs its
mutual
noncomputable def Rp (K : PySem.W.Frag) (H : Hp) : D -> V -> List Addr -> Prop
 | .non, v, F => v = .non /\ F = []
 | .bl b, v, F => v = .bl b /\ F = []
 | .int i, v, F => v = .int i /\ F = []
 | .str x, v, F => v = .str x /\ F = []
 | .tup ds, v, F => ∃ a vs, v = .ref a /\ SqT K H a vs /\ Rps K H ds vs F
 | .lst ds, v, F => ds.length <= sizeLine /\ ∃ a vs, v = .ref a /\ ((∃ G, F = a :: G /\ H a = some (.lst vs) /\ Rps K H ds vs G) ∨ (Fix K H a vs /\ Rps K H ds vs F))
noncomputable def Rps (K : PySem.W.Frag) (H : Hp) : List D -> List V -> List Addr -> Prop
 | [], vs, F => vs = [] /\ F = []
 | d :: ds, vs, F => ∃ v ws F1 F2, vs = v :: ws /\ F = F1 ++ F2 /\ Rp K H d v F1 /\ Rps K H ds ws F2
end
theorem Qkh {K : PySem.W.Frag} {H H' : Hp} {a : Addr} {vs : List V} (s : QH H H') (h : SqT K H a vs) : SqT K H' a vs := by
 rcases h with (h | ⟨o, h⟩) | h
 ·exact .inl (.inl (s _ _ h))
 ·exact .inl (.inr ⟨o, s _ _ h⟩)
 ·exact .inr h
theorem Qjc {K : PySem.W.Frag} {H H' : Hp} {a : Addr} {vs : List V} (s : QH H H') (h : Fix K H a vs) : Fix K H' a vs := by
 rcases h with ⟨o, h⟩ | h
 ·exact .inl ⟨o, s _ _ h⟩
 ·exact .inr h
theorem Qk5 {K : PySem.W.Frag} {H : Hp} {a p : Addr} {vs zs ys : List V} (hp : H p = some (.lst zs)) (h : SqT K H a vs) : SqT K (upd H p (.lst ys)) a vs := by
 rcases h with (h | ⟨o, h⟩) | h
 ·exact .inl (.inl (by rw [QP (Ql0 h hp (by intro z; cases z))]; exact h))
 ·exact .inl (.inr ⟨o, by rw [QP (Ql0 h hp (by intro z; cases z))]; exact h⟩)
 ·exact .inr h
theorem Qqb {K : PySem.W.Frag} {H : Hp} {a p : Addr} {vs zs ys : List V} (hp : H p = some (.lst zs)) (h : Fix K H a vs) : Fix K (upd H p (.lst ys)) a vs := by
 rcases h with ⟨o, h⟩ | h
 ·exact .inl ⟨o, by rw [QP (Ql0 h hp (by intro z; cases z))]; exact h⟩
 ·exact .inr h
section
variable {K : PySem.W.Frag} {H H' : Hp}
mutual
theorem Rp.same (s : QH H H') : ∀ {d : D} {v : V} {F : List Addr}, Rp K H d v F -> Rp K H' d v F
 | .non, _, _, h => h
 | .bl _, _, _, h => h
 | .int _, _, _, h => h
 | .str _, _, _, h => h
 | .tup ds, _, _, h => by
  simp only [Rp] at h ⊢
  obtain ⟨a, vs, e, q, r⟩ := h
  exact ⟨a, vs, e, Qkh s q, Rps.same s r⟩
 | .lst ds, _, _, h => by
  simp only [Rp] at h ⊢
  obtain ⟨hz, a, vs, e, ⟨G, eF, q, r⟩ | ⟨q, r⟩⟩ := h
  ·exact ⟨hz, a, vs, e, .inl ⟨G, eF, s _ _ q, Rps.same s r⟩⟩
  ·exact ⟨hz, a, vs, e, .inr ⟨Qjc s q, Rps.same s r⟩⟩
theorem Rps.same (s : QH H H') : ∀ {ds : List D} {vs : List V} {F : List Addr}, Rps K H ds vs F -> Rps K H' ds vs F
 | [], _, _, h => h
 | d :: ds, _, _, h => by
  simp only [Rps] at h ⊢
  obtain ⟨v, ws, F1, F2, e, eF, r, q⟩ := h
  exact ⟨v, ws, F1, F2, e, eF, Rp.same s r, Rps.same s q⟩
end
mutual
theorem Rp.upd {p : Addr} {zs ys : List V} (hp : H p = some (.lst zs)) : ∀ {d : D} {v : V} {F : List Addr}, Rp K H d v F -> p ∉ F -> Rp K (upd H p (.lst ys)) d v F
 | .non, _, _, h, _ => h
 | .bl _, _, _, h, _ => h
 | .int _, _, _, h, _ => h
 | .str _, _, _, h, _ => h
 | .tup ds, _, _, h, hn => by
  simp only [Rp] at h ⊢
  obtain ⟨a, vs, e, q, r⟩ := h
  exact ⟨a, vs, e, Qk5 hp q, Rps.upd hp r hn⟩
 | .lst ds, _, _, h, hn => by
  simp only [Rp] at h ⊢
  obtain ⟨hz, a, vs, e, ⟨G, eF, q, r⟩ | ⟨q, r⟩⟩ := h
  ·subst eF
   have h1 : a ≠ p := λ z => hn (by rw [z]; exact Zn)
   exact ⟨hz, a, vs, e, .inl ⟨G, rfl, by rw [QP h1]; exact q, Rps.upd hp r λ z => hn (Ze _ z)⟩⟩
  ·exact ⟨hz, a, vs, e, .inr ⟨Qqb hp q, Rps.upd hp r hn⟩⟩
theorem Rps.upd {p : Addr} {zs ys : List V} (hp : H p = some (.lst zs)) : ∀ {ds : List D} {vs : List V} {F : List Addr}, Rps K H ds vs F -> p ∉ F -> Rps K (upd H p (.lst ys)) ds vs F
 | [], _, _, h, _ => h
 | d :: ds, _, _, h, hn => by
  simp only [Rps] at h ⊢
  obtain ⟨v, ws, F1, F2, e, eF, r, q⟩ := h
  subst eF
  exact ⟨v, ws, F1, F2, e, rfl, Rp.upd hp r λ z => hn (Zh _ z), Rps.upd hp q λ z => hn (Zc _ z)⟩
end
mutual
theorem Rp.mem : ∀ {d : D} {v : V} {F : List Addr}, Rp K H d v F -> ∀ a ∈ F, ∃ vs, H a = some (.lst vs)
 | .non, _, _, h, a, ha => by simp only [Rp] at h; rw [h.2] at ha; simp at ha
 | .bl _, _, _, h, a, ha => by simp only [Rp] at h; rw [h.2] at ha; simp at ha
 | .int _, _, _, h, a, ha => by simp only [Rp] at h; rw [h.2] at ha; simp at ha
 | .str _, _, _, h, a, ha => by simp only [Rp] at h; rw [h.2] at ha; simp at ha
 | .tup ds, _, _, h, a, ha => by
  simp only [Rp] at h
  obtain ⟨_, vs, e, q, r⟩ := h
  exact Rps.mem r a ha
 | .lst ds, _, _, h, a, ha => by
  simp only [Rp] at h
  obtain ⟨_, b, vs, e, ⟨G, eF, q, r⟩ | ⟨q, r⟩⟩ := h
  ·subst eF
   rcases Zw.mp ha with z | z
   ·exact ⟨vs, by rw [z]; exact q⟩
   ·exact Rps.mem r a z
  ·exact Rps.mem r a ha
theorem Rps.mem : ∀ {ds : List D} {vs : List V} {F : List Addr}, Rps K H ds vs F -> ∀ a ∈ F, ∃ vs, H a = some (.lst vs)
 | [], _, _, h, a, ha => by simp only [Rps] at h; rw [h.2] at ha; simp at ha
 | d :: ds, _, _, h, a, ha => by
  simp only [Rps] at h
  obtain ⟨v, ws, F1, F2, e, eF, r, q⟩ := h
  subst eF
  rcases Zy.mp ha with z | z
  ·exact Rp.mem r a z
  ·exact Rps.mem q a z
end
mutual
theorem Rp.QaZ : ∀ {d : D} {v : V} {F : List Addr}, Rp K H d v F -> d.flat = true -> F = []
 | .non, _, _, h, _ => by simp only [Rp] at h; exact h.2
 | .bl _, _, _, h, _ => by simp only [Rp] at h; exact h.2
 | .int _, _, _, h, _ => by simp only [Rp] at h; exact h.2
 | .str _, _, _, h, _ => by simp only [Rp] at h; exact h.2
 | .tup ds, _, _, h, hf => by
  simp only [Rp] at h
  simp only [D.flat] at hf
  obtain ⟨_, vs, e, q, r⟩ := h
  exact Rps.QaZ r hf
 | .lst ds, _, _, h, hf => by simp [D.flat] at hf
theorem Rps.QaZ : ∀ {ds : List D} {vs : List V} {F : List Addr}, Rps K H ds vs F -> QI ds = true -> F = []
 | [], _, _, h, _ => by simp only [Rps] at h; exact h.2
 | d :: ds, _, _, h, hf => by
  simp only [Rps] at h
  simp only [QI, Zf] at hf
  obtain ⟨v, ws, F1, F2, e, eF, r, q⟩ := h
  rw [eF, Rp.QaZ r hf.1, Rps.QaZ q hf.2]; rfl
end
mutual
theorem Rp.Qau : ∀ {d : D} {v : V} {F : List Addr}, Rp K H d v F -> F.length <= d.nl
 | .non, _, _, h => by simp only [Rp] at h; rw [h.2]; exact ZW _
 | .bl _, _, _, h => by simp only [Rp] at h; rw [h.2]; exact ZW _
 | .int _, _, _, h => by simp only [Rp] at h; rw [h.2]; exact ZW _
 | .str _, _, _, h => by simp only [Rp] at h; rw [h.2]; exact ZW _
 | .tup ds, _, _, h => by
  simp only [Rp] at h
  obtain ⟨_, vs, e, q, r⟩ := h
  simp only [D.nl]
  exact Rps.Qau r
 | .lst ds, _, _, h => by
  simp only [Rp] at h
  simp only [D.nl]
  obtain ⟨_, b, vs, e, ⟨G, eF, q, r⟩ | ⟨q, r⟩⟩ := h
  ·rw [eF, ZD]; have := Rps.Qau r; omega
  ·have := Rps.Qau r; omega
theorem Rps.Qau : ∀ {ds : List D} {vs : List V} {F : List Addr}, Rps K H ds vs F -> F.length <= nls ds
 | [], _, _, h => by simp only [Rps] at h; rw [h.2]; exact ZW _
 | d :: ds, _, _, h => by
  simp only [Rps] at h
  obtain ⟨v, ws, F1, F2, e, eF, r, q⟩ := h
  simp only [nls]
  rw [eF, Zl]
  have := Rp.Qau r
  have := Rps.Qau q
  omega
end
theorem Rps.length : ∀ {ds : List D} {vs : List V} {F : List Addr}, Rps K H ds vs F -> ds.length = vs.length
 | [], _, _, h => by simp only [Rps] at h; rw [h.1]; rfl
 | d :: ds, _, _, h => by
  simp only [Rps] at h
  obtain ⟨v, ws, F1, F2, e, eF, r, q⟩ := h
  rw [e, ZD, ZD, Rps.length q]
theorem Rps.append : ∀ {ds es : List D} {vs ws : List V} {F G : List Addr}, Rps K H ds vs F -> Rps K H es ws G -> Rps K H (ds ++ es) (vs ++ ws) (F ++ G)
 | [], _, _, _, _, _, h, g => by simp only [Rps] at h; rw [h.1, h.2]; exact g
 | d :: ds, _, _, _, _, _, h, g => by
  simp only [Rps, Zbb] at h ⊢
  obtain ⟨v, ws, F1, F2, e, eF, r, q⟩ := h
  subst e eF
  exact ⟨v, _, F1, _, rfl, by rw [ZaA], r, Rps.append q g⟩
theorem Rps.get : ∀ {ds : List D} {vs : List V} {F : List Addr} {i : Nat} {d : D}, Rps K H ds vs F -> ds[i]? = some d -> ∃ v F1 G F2, vs[i]? = some v /\ F = F1 ++ (G ++ F2) /\ Rp K H d v G /\ (F.length = nls ds -> G.length = d.nl)
 | [], _, _, _, _, _, e => by simp at e
 | d :: ds, _, _, 0, _, h, e => by
  simp only [Rps] at h
  obtain ⟨v, ws, F1, F2, e1, eF, r, q⟩ := h
  simp at e; subst e e1 eF
  refine ⟨v, [], F1, F2, by simp, rfl, r, λ hl => ?_⟩
  simp only [nls, Zl] at hl
  have := Rp.Qau r
  have := Rps.Qau q
  omega
 | d :: ds, _, _, i + 1, _, h, e => by
  simp only [Rps] at h
  obtain ⟨v, ws, F1, F2, e1, eF, r, q⟩ := h
  obtain ⟨v', G1, G, G2, h1, h2, h3, h4⟩ := Rps.get q (i := i) (by simpa using e)
  have l1 := Rp.Qau r
  have l2 := Rps.Qau q
  subst e1 eF
  refine ⟨v', F1 ++ G1, G, G2, by simpa using h1, by rw [h2, ZaA], h3, λ hl => h4 ?_⟩
  simp only [nls, Zl] at hl
  omega
theorem Fix.sq {K : PySem.W.Frag} {H : Hp} {a : Addr} {vs : List V} (h : Fix K H a vs) : SqL K H a vs := by
 rcases h with ⟨o, h⟩ | ⟨its, n, h, hz, r⟩
 ·exact .inl (.inr ⟨o, h⟩)
 ·exact .inr ⟨_, its.toArray, n, h, rfl, rfl, rfl, by rw [Zk, ← r.length]; exact hz, by simpa using r⟩
theorem _root_.L2.Inv.Qjt {X : Cx} {pins : List (Addr × Obj)} {σ : L2.St} {H : Hp} {s : Shared} {a : Addr} {vs : List V} (I : Inv X pins σ H s) (h : H a = some (.lst vs) ∨ Fix X.K H a vs) :
  vs.length <= sizeLine /\ ∃ (its : List Value) (n : Nat), Qt vs its /\ vs.length = its.length /\ s.heap.get? a = some { cls := .type "list", data := .seq its.toArray n } := by
 rcases h with h | ⟨o, h⟩ | ⟨its, n, h, hz, r⟩
 ·exact I.QjR h
 ·obtain ⟨e, hz, its, n, r, e2⟩ := I.hok a _ h
  exact ⟨hz, its, n, r, r.length, e2⟩
 ·exact ⟨hz, its, n, r, r.length, I.kIn _ _ h⟩
theorem Rp.lst_inv {K : PySem.W.Frag} {H : Hp} {ds : List D} {v : V} {F : List Addr} (h : Rp K H (.lst ds) v F) :
  ∃ a vs G, v = .ref a /\ (H a = some (.lst vs) ∨ Fix K H a vs) /\ Rps K H ds vs G /\ ds.length <= sizeLine /\ (F = a :: G ∨ F = G) := by
 simp only [Rp] at h
 obtain ⟨hz, a, vs, e, ⟨G, eF, q, r⟩ | ⟨q, r⟩⟩ := h
 ·exact ⟨a, vs, G, e, .inl q, r, hz, .inl eF⟩
 ·exact ⟨a, vs, F, e, .inr q, r, hz, .inr rfl⟩
theorem Q4 {K : PySem.W.Frag} {H : Hp} {a : Addr} {vs : List V} (h : H a = some (.lst vs) ∨ Fix K H a vs) : SqL K H a vs := h.elim (λ h => SqL.of h) Fix.sq
theorem Rp.QaQ {K : PySem.W.Frag} {H : Hp} {ds : List D} {v : V} {F : List Addr} (h : Rp K H (.tup ds) v F) : ∃ a vs, v = .ref a /\ SqT K H a vs /\ Rps K H ds vs F := by
 simp only [Rp] at h
 exact h
theorem Rp.QdV {K : PySem.W.Frag} {H : Hp} {ds : List D} {a : Addr} {vs : List V} {G : List Addr} (h : H a = some (.lst vs)) (r : Rps K H ds vs G) (hz : ds.length <= sizeLine) : Rp K H (.lst ds) (.ref a) (a :: G) := by
 simp only [Rp]
 exact ⟨hz, a, vs, rfl, .inl ⟨G, rfl, h, r⟩⟩
theorem Rp.Qhl {K : PySem.W.Frag} {H : Hp} {ds : List D} {a : Addr} {vs : List V} {G : List Addr} (h : H a = some (.tup vs)) (r : Rps K H ds vs G) : Rp K H (.tup ds) (.ref a) G := by
 simp only [Rp]
 exact ⟨a, vs, rfl, SqT.of h, r⟩
theorem Rp.int_inv {K : PySem.W.Frag} {H : Hp} {i : Int} {v : V} {F : List Addr} (h : Rp K H (.int i) v F) : v = .int i := by simp only [Rp] at h; exact h.1
theorem Rp.Qfk {K : PySem.W.Frag} {H : Hp} {i : Bool} {v : V} {F : List Addr} (h : Rp K H (.bl i) v F) : v = .bl i := by simp only [Rp] at h; exact h.1
theorem Rp.Qh6 {K : PySem.W.Frag} {H : Hp} {v : V} {F : List Addr} (h : Rp K H .non v F) : v = .non := by simp only [Rp] at h; exact h.1
theorem Rp.str_inv {K : PySem.W.Frag} {H : Hp} {i : Str} {v : V} {F : List Addr} (h : Rp K H (.str i) v F) : v = .str i := by simp only [Rp] at h; exact h.1
theorem Rp.int_mk {K : PySem.W.Frag} {H : Hp} {i : Int} : Rp K H (.int i) (.int i) [] := by simp [Rp]
theorem Rp.QcS {K : PySem.W.Frag} {H : Hp} {i : Bool} : Rp K H (.bl i) (.bl i) [] := by simp [Rp]
theorem Rp.Qg5 {K : PySem.W.Frag} {H : Hp} : Rp K H .non .non [] := by simp [Rp]
theorem Rp.str_mk {K : PySem.W.Frag} {H : Hp} {i : Str} : Rp K H (.str i) (.str i) [] := by simp [Rp]
theorem QbK {H : Hp} {p : Addr} {o : HO} (h : H p = none) : QH H (L2.upd H p o) := λ b u e => by rw [QP (Qba e h)]; exact e
end
end HS
namespace HS
open PySem PySem.Spec L2
noncomputable abbrev En := List (Option (D × Bool))
structure R where
 d : D
 fr : Bool
 M : List Nat
structure RA where
 ds : List D
 fr : Bool
 M : List Nat
noncomputable abbrev DE := En -> Option R
noncomputable abbrev DA := En -> Option RA
noncomputable abbrev DT := En -> Option Bool
structure Rel (K : PySem.W.Frag) (H0 : Hp) (A0 : List Addr) (hs : List (V × D × List Addr)) (ρ : En) (F : Nat -> List Addr) (σ : St) (H : Hp) : Prop where
 len : ρ.length = σ.length
 val : ∀ (i : Nat) d b, ρ[i]? = some (some (d, b)) -> ∃ v, σ[i]? = some (some v) /\ Rp K H d v (F i)
 own : ∀ (i : Nat) d, ρ[i]? = some (some (d, true)) -> (F i).length = d.nl /\ (F i).Nodup /\ (∀ a ∈ F i, H0 a = none) /\ (∀ (j : Nat) d' b', j ≠ i -> ρ[j]? = some (some (d', b')) -> ∀ a ∈ F i, a ∉ F j) /\ ∀ t ∈ hs, ∀ a ∈ F i, a ∉ t.2.2
 src : ∀ (i : Nat) d b, ρ[i]? = some (some (d, b)) -> ∀ a ∈ F i, H0 a = none ∨ a ∈ A0
 held : ∀ t ∈ hs, Rp K H t.2.1 t.1 t.2.2 /\ ∀ a ∈ t.2.2, H0 a = none ∨ a ∈ A0
 same : QH H0 H
def Src (ρ : En) (F : Nat -> List Addr) (H : Hp) (M : List Nat) (G : List Addr) : Prop :=
 ∀ a ∈ G, H a = none ∨ ∃ (i : Nat) (d : D) (b : Bool), ρ[i]? = some (some (d, b)) /\ a ∈ F i /\ (b = true -> i ∈ M)
noncomputable def nw (H : Hp) (a : Addr) : Nat := match H a with | none => 1 | some _ => 0
def Cnt (F : Nat -> List Addr) (H : Hp) (M : List Nat) (G : List Addr) : Prop :=
 ∀ a, G.count a <= nw H a + ((M.map F).flatten).count a
def QaX (ρ : En) (M : List Nat) : Prop := ∀ i ∈ M, ∃ d, ρ[i]? = some (some (d, true))
structure QW (K : PySem.W.Frag) (ρ : En) (F : Nat -> List Addr) (H H' : Hp) (r : R) (v : V) (G : List Addr) : Prop where
 same : QH H H'
 rp : Rp K H' r.d v G
 src : Src ρ F H r.M G
 cnt : r.fr = true -> Cnt F H r.M G /\ G.length = r.d.nl
 own : QaX ρ r.M
structure Qtu (K : PySem.W.Frag) (ρ : En) (F : Nat -> List Addr) (H H' : Hp) (r : RA) (vs : List V) (G : List Addr) : Prop where
 same : QH H H'
 rp : Rps K H' r.ds vs G
 src : Src ρ F H r.M G
 cnt : r.fr = true -> Cnt F H r.M G /\ G.length = nls r.ds
 own : QaX ρ r.M
noncomputable def tV (K : PySem.W.Frag) (H0 : Hp) (A0 : List Addr) (f : DE) : TE := λ σ H Q => ∃ ρ hs F r, Rel K H0 A0 hs ρ F σ H /\ f ρ = some r /\ ∀ v H' G, QW K ρ F H H' r v G -> Q v H'
noncomputable def tVA (K : PySem.W.Frag) (H0 : Hp) (A0 : List Addr) (f : DA) : TA := λ σ H Q => ∃ ρ hs F r, Rel K H0 A0 hs ρ F σ H /\ f ρ = some r /\ ∀ v H' G, Qtu K ρ F H H' r v G -> Q v H'
noncomputable def tVT (K : PySem.W.Frag) (H0 : Hp) (A0 : List Addr) (f : DT) : TT := λ σ H Q => ∃ ρ hs F b, Rel K H0 A0 hs ρ F σ H /\ f ρ = some b /\ ∀ H', QH H H' -> Q b H'
def SE (X : Cx) (e : Expr) (f : DE) : Prop := ∀ H0 A0, PE X e (tV X.K H0 A0 f)
def SA (X : Cx) (es : List Expr) (f : DA) : Prop := ∀ H0 A0, PA X es (tVA X.K H0 A0 f)
def ST (X : Cx) (e : Expr) (f : DT) : Prop := ∀ H0 A0, PT X e (tVT X.K H0 A0 f)
theorem _root_.L2.PE.mono {X : Cx} {e : Expr} {t t' : TE} (h : PE X e t) (m : ∀ σ H Q, t' σ H Q -> t σ H Q) : PE X e t' := λ pins s σ H Q I q => h pins s σ H Q I (m σ H Q q)
theorem _root_.L2.PT.mono {X : Cx} {e : Expr} {t t' : TT} (h : PT X e t) (m : ∀ σ H Q, t' σ H Q -> t σ H Q) : PT X e t' := λ pins s σ H Q I q => h pins s σ H Q I (m σ H Q q)
theorem _root_.L2.PA.mono {X : Cx} {e : List Expr} {t t' : TA} (h : PA X e t) (m : ∀ σ H Q, t' σ H Q -> t σ H Q) : PA X e t' := λ pos pins s σ H Q I q => h pos pins s σ H Q I (m σ H Q q)
section
variable {K : PySem.W.Frag} {H0 H H' : Hp} {A0 : List Addr} {hs : List (V × D × List Addr)} {ρ : En} {F : Nat -> List Addr} {σ : St}
theorem Rel.ext (r : Rel K H0 A0 hs ρ F σ H) (s : QH H H') : Rel K H0 A0 hs ρ F σ H' where
 len := r.len
 val := λ i d b e => let ⟨v, h1, h2⟩ := r.val i d b e; ⟨v, h1, h2.same s⟩
 own := r.own
 src := r.src
 held := λ t ht => ⟨(r.held t ht).1.same s, (r.held t ht).2⟩
 same := r.same.trans s
theorem Rel.mem (r : Rel K H0 A0 hs ρ F σ H) {i : Nat} {d : D} {b : Bool} (e : ρ[i]? = some (some (d, b))) {a : Addr} (h : a ∈ F i) : ∃ vs, H a = some (.lst vs) :=
 let ⟨_, _, h2⟩ := r.val i d b e; h2.mem a h
theorem Qda {a : Addr} {o : HO} (h : H a = some o) : nw H a = 0 := by simp [nw, h]
theorem QaU {a : Addr} (h : H a = none) : nw H a = 1 := by simp [nw, h]
theorem Rel.fl0 (r : Rel K H0 A0 hs ρ F σ H) {M : List Nat} (ow : QaX ρ M) {a : Addr} (h : H a = none) : ((M.map F).flatten).count a = 0 := by
 rw [ZI]
 intro hm
 obtain ⟨l, hl, ha⟩ := Zbc.mp hm
 obtain ⟨i, hi, rfl⟩ := ZQ.mp hl
 obtain ⟨d, e⟩ := ow i hi
 obtain ⟨vs, q⟩ := r.mem e ha
 rw [h] at q; cases q
theorem Cnt.append (r : Rel K H0 A0 hs ρ F σ H) {H1 : Hp} {M1 M2 : List Nat} {G1 G2 : List Addr} (c1 : Cnt F H M1 G1) (c2 : Cnt F H1 M2 G2) (s : QH H H1) (m1 : ∀ a ∈ G1, ∃ vs, H1 a = some (.lst vs)) : Cnt F H (M1 ++ M2) (G1 ++ G2) := λ a => by
 rw [Zab, Zax, List.flatten_append, Zab]
 have h1 := c1 a
 have h2 := c2 a
 cases q : H1 a with
 | some o => rw [Qda q] at h2; omega
 | none =>
  rw [QaU q] at h2
  have h3 : H a = none := s.free q
  rw [QaU h3] at h1 ⊢
  have h4 : G1.count a = 0 := ZI.mpr λ hm => by obtain ⟨vs, z⟩ := m1 a hm; rw [q] at z; cases z
  omega
theorem Src.append {H1 : Hp} {M1 M2 : List Nat} {G1 G2 : List Addr} (c1 : Src ρ F H M1 G1) (c2 : Src ρ F H1 M2 G2) (s : QH H H1) : Src ρ F H (M1 ++ M2) (G1 ++ G2) := λ a ha => by
 rcases Zy.mp ha with h | h
 ·rcases c1 a h with z | ⟨i, d, b, e, m, w⟩
  ·exact .inl z
  ·exact .inr ⟨i, d, b, e, m, λ hb => Zh _ (w hb)⟩
 ·rcases c2 a h with z | ⟨i, d, b, e, m, w⟩
  ·exact .inl (s.free z)
  ·exact .inr ⟨i, d, b, e, m, λ hb => Zc _ (w hb)⟩
theorem QaX.append {M1 M2 : List Nat} (h1 : QaX ρ M1) (h2 : QaX ρ M2) : QaX ρ (M1 ++ M2) := λ i hi => (Zy.mp hi).elim (h1 i) (h2 i)
theorem QaX.nil : QaX ρ [] := λ i hi => by simp at hi
theorem Src.nil {M : List Nat} : Src ρ F H M [] := λ a ha => by simp at ha
theorem Cnt.nil {M : List Nat} : Cnt F H M [] := λ a => by simp
theorem QW.flat {d : D} {v : V} (s : QH H H') (r : Rp K H' d v []) (hf : d.flat = true := by rfl) : QW K ρ F H H' ⟨d, true, []⟩ v [] := ⟨s, r, Src.nil, λ _ => ⟨Cnt.nil, (Qcs d hf).symm⟩, QaX.nil⟩
theorem QW.sub {r : R} {v u : V} {d : D} {G G' : List Addr} {H1 : Hp} (p : QW K ρ F H H1 r v G) (rp : Rp K H1 d u G') (hs : ∀ a, G'.count a <= G.count a) (hn : G.length = r.d.nl -> G'.length = d.nl) : QW K ρ F H H1 ⟨d, r.fr, r.M⟩ u G' where
 same := p.same
 rp := rp
 src := λ a ha => p.src a (by
  have := hs a
  have h1 : 0 < G'.count a := Zal.mpr ha
  exact Zal.mp (by omega))
 cnt := λ h => ⟨λ a => Zu (hs a) ((p.cnt h).1 a), hn (p.cnt h).2⟩
 own := p.own
noncomputable def R.norm (r : R) : R := if r.d.flat then ⟨r.d, true, []⟩ else r
theorem R.Qcy (r : R) : r.norm.d = r.d := by unfold R.norm; split <;> rfl
theorem QW.norm {r : R} {v : V} {G : List Addr} (p : QW K ρ F H H' r v G) : QW K ρ F H H' r.norm v G := by
 unfold R.norm
 split
 ·rename_i h
  have := p.rp.QaZ h
  subst this
  exact .flat p.same p.rp h
 ·exact p
end
noncomputable def Qa (i : Nat) : DE := λ ρ => match ρ[i]? with
 | some (some (d, b)) => if d.flat then some ⟨d, true, []⟩ else if b then some ⟨d, true, [i]⟩ else some ⟨d, false, []⟩
 | _ => none
noncomputable def dC (d : D) : DE := λ _ => some ⟨d, true, []⟩
section
variable {X : Cx}
theorem QrA {i : Nat} {x : Str} {pos : Pos} (h : PE X (.Name x pos) (Qks i)) : SE X (.Name x pos) (Qa i) := λ H0 A0 => h.mono λ σ H Q ⟨ρ, hs, F, r, rel, e, q⟩ => by
 unfold Qa at e
 split at e
 ·rename_i d b q1
  obtain ⟨v, h1, h2⟩ := rel.val i d b q1
  refine ⟨v, h1, q v H (F i) ?_⟩
  split at e
  ·rename_i hf
   cases e
   have := h2.QaZ hf
   rw [this] at h2 ⊢
   exact .flat (QH.refl _) h2 hf
  ·split at e
   ·rename_i hb
    cases e
    subst hb
    exact ⟨QH.refl _, h2, λ a ha => .inr ⟨i, d, true, q1, ha, λ _ => by simp⟩, λ _ => ⟨λ a => (by simp), (rel.own i d q1).1⟩, λ j hj => by simp at hj; subst hj; exact ⟨d, q1⟩⟩
   ·rename_i hb
    cases e
    simp at hb
    subst hb
    exact ⟨QH.refl _, h2, λ a ha => .inr ⟨i, d, false, q1, ha, λ z => by cases z⟩, λ z => (by cases z), QaX.nil⟩
 ·cases e
theorem Qi7 {e : Expr} {d : D} {v : V} (h : PE X e (tC v)) (r : ∀ K H, Rp K H d v []) (hf : d.flat = true) : SE X e (dC d) := λ H0 A0 => h.mono λ σ H Q ⟨ρ, hs, F, r', rel, e, q⟩ => by
 cases e
 exact q v H [] (.flat (QH.refl _) (r _ _) hf)
theorem two {K : PySem.W.Frag} {H0 : Hp} {A0 : List Addr} {fa fb : DE} {σ : St} {H : Hp} {hs : List (V × D × List Addr)} {ρ : En} {F : Nat -> List Addr} {ra rb : R} {Rr : V -> V -> Hp -> Prop} (rel : Rel K H0 A0 hs ρ F σ H) (ea : fa ρ = some ra) (eb : fb ρ = some rb)
  (k : ∀ x y H1 H2 G1 G2, QW K ρ F H H1 ra x G1 -> QW K ρ F H1 H2 rb y G2 -> Rr x y H2) : tV K H0 A0 fa σ H λ x H1 => tV K H0 A0 fb σ H1 λ y H2 => Rr x y H2 :=
 ⟨ρ, hs, F, ra, rel, ea, λ x H1 G1 p1 => ⟨ρ, hs, F, rb, rel.ext p1.same, eb, λ y H2 G2 p2 => k x y H1 H2 G1 G2 p1 p2⟩⟩
noncomputable def dOp (g : D -> D -> Option D) (fa fb : DE) : DE := λ ρ => (fa ρ).bind λ ra => (fb ρ).bind λ rb => (g ra.d rb.d).map λ d => ⟨d, true, []⟩
theorem QhO {g : D -> D -> Option D} {fa fb : DE} {ρ : En} {r : R} (e : dOp g fa fb ρ = some r) : ∃ ra rb d, fa ρ = some ra /\ fb ρ = some rb /\ g ra.d rb.d = some d /\ r = ⟨d, true, []⟩ := by
 unfold dOp at e
 cases h1 : fa ρ with
 | none => rw [h1] at e; cases e
 | some ra =>
  cases h2 : fb ρ with
  | none => rw [h1, h2] at e; cases e
  | some rb =>
   rw [h1, h2] at e
   cases h3 : g ra.d rb.d with
   | none => simp [h3] at e
   | some d => simp [h3] at e; exact ⟨ra, rb, d, rfl, rfl, h3, e.symm⟩
def Qb4 (K : PySem.W.Frag) (g : D -> D -> Option D) (r : R2) : Prop := ∀ a b d, g a b = some d -> d.flat = true /\ ∀ H x y F G (Q : VK), Rp K H a x F -> Rp K H b y G -> (∀ v, (∀ H', Rp K H' d v []) -> Q v H) -> r x y H Q
theorem QiQ {a b : Expr} {op : Operator} {pos : Pos} {fa fb : DE} {g : D -> D -> Option D} {r : R2} (ho : OpR X (binaryOp op) r) (hg : Qb4 X.K g r) (ha : SE X a fa) (hb : SE X b fb) : SE X (.BinOp a op b pos) (dOp g fa fb) := λ H0 A0 =>
 (QlK ho (ha H0 A0) (hb H0 A0)).mono λ σ H Q ⟨ρ, hs, F, r', rel, e, q⟩ => by
  obtain ⟨ra, rb, d, ea, eb, eg, rfl⟩ := QhO e
  refine two rel ea eb λ x y H1 H2 G1 G2 p1 p2 => (hg _ _ _ eg).2 H2 x y G1 G2 Q (p1.rp.same p2.same) p2.rp λ v hv => ?_
  exact q v H2 [] (.flat (p1.same.trans p2.same) (hv H2) (hg _ _ _ eg).1)
theorem Qsu {a b : Expr} {op : CmpOp} {pos : Pos} {fa fb : DE} {g : D -> D -> Option D} {r : R2} (ho : OpR X (compareOp op) r) (hg : Qb4 X.K g r) (ha : SE X a fa) (hb : SE X b fb) (hm : behindInMarks op b = false) : SE X (.Compare a [op] [b] pos) (dOp g fa fb) := λ H0 A0 =>
 (Qp1 ho (ha H0 A0) (hb H0 A0) hm).mono λ σ H Q ⟨ρ, hs, F, r', rel, e, q⟩ => by
  obtain ⟨ra, rb, d, ea, eb, eg, rfl⟩ := QhO e
  refine two rel ea eb λ x y H1 H2 G1 G2 p1 p2 => (hg _ _ _ eg).2 H2 x y G1 G2 Q (p1.rp.same p2.same) p2.rp λ v hv => ?_
  exact q v H2 [] (.flat (p1.same.trans p2.same) (hv H2) (hg _ _ _ eg).1)
end
end HS
namespace HS
open PySem PySem.Spec L2
noncomputable def QcJ (i j : Int) : Int := if 0 <= j then i / j else i.fdiv j
noncomputable def Qbs (i j : Int) : Int := if 0 <= j then i % j else i.fmod j
theorem QfN (i j : Int) : QcJ i j = i.fdiv j := by
 unfold QcJ; split
 ·rw [Int.fdiv_eq_ediv_of_nonneg _ (by assumption)]
 ·rfl
theorem QfH (i j : Int) : Qbs i j = i.fmod j := by
 unfold Qbs; split
 ·rw [Int.fmod_eq_emod_of_nonneg _ (by assumption)]
 ·rfl
noncomputable def QcC (i j : Int) : Bool := decide (i.natAbs < 2 ^ 64) || decide (j.natAbs < 2 ^ 64) || (decide (Builtin.Int.intBits i <= 2 ^ 20) && decide (Builtin.Int.intBits j <= 2 ^ 20))
noncomputable def QbI (j : Int) : Bool := decide (j ≠ 0) && decide (j.natAbs < 2 ^ 8000)
noncomputable def gI (f : Int -> Int -> Option D) (a b : D) : Option D := match a, b with
 | .int i, .int j => f i j
 | _, _ => none
noncomputable def Qb7 := gI λ i j => some (.int (i - j))
noncomputable def Qe4 := gI λ i j => if QbI j then some (.int (QcJ i j)) else none
noncomputable def Qan := gI λ i j => if j ≠ 0 then some (.int (Qbs i j)) else none
noncomputable def Qdu := gI λ i j => if 0 <= j /\ j <= 1000 /\ i.natAbs < 2 ^ 200 then some (.int (i ^ j.toNat)) else none
noncomputable def gLt := gI λ i j => some (.bl (decide (i < j)))
noncomputable def gLe := gI λ i j => some (.bl (decide (i <= j)))
noncomputable def gGt := gI λ i j => some (.bl (decide (j < i)))
noncomputable def gGe := gI λ i j => some (.bl (decide (j <= i)))
theorem QmC {f : Int -> Int -> Option D} {a b d : D} (h : gI f a b = some d) : ∃ i j, a = .int i /\ b = .int j /\ f i j = some d := by
 unfold gI at h
 split at h
 ·exact ⟨_, _, rfl, rfl, h⟩
 ·cases h
section
variable {K : PySem.W.Frag} {X : Cx}
theorem Qfb {f : Int -> Int -> Option D} {r : R2} (hf : ∀ i j d, f i j = some d -> d.flat = true) (h : ∀ i j d, f i j = some d -> ∀ H (Q : VK), (∀ v, (∀ H', Rp K H' d v []) -> Q v H) -> r (.int i) (.int j) H Q) : Qb4 K (gI f) r := λ a b d e => by
 obtain ⟨i, j, rfl, rfl, ef⟩ := QmC e
 refine ⟨hf i j d ef, λ H x y F G Q ha hb q => ?_⟩
 rw [ha.int_inv, hb.int_inv]
 exact h i j d ef H Q q
theorem QmG : Qb4 K Qb7 (rI0 λ i j => .int (i - j)) := Qfb (λ i j d e => by cases e; rfl) λ i j d e H Q q => by cases e; exact ⟨i, j, rfl, rfl, q _ λ _ => .int_mk⟩
theorem Qo9 {i j : Int} (h : QcC i j = true) : IntMulOk i j := by
 have small : ∀ k : Int, k.natAbs < 2 ^ 64 -> Builtin.Int.intBits k <= 64 := λ k hk => by
  unfold Builtin.Int.intBits
  split
  ·omega
  ·rename_i h0; have h0' : k.natAbs ≠ 0 := λ z => by simp_all
   have := (ZbN h0').mpr hk; omega
 unfold QcC at h
 simp only [Bool.or_eq_true, Zf, decide_eq_true_eq] at h
 rcases h with (h | h) | ⟨h1, h2⟩
 ·exact .of_left (small i h)
 ·exact .of_right (small j h)
 ·exact .of_bits h1 h2
theorem Qqg : OpR X (binaryOp .Mult) (rI (λ i j => QcC i j = true) λ i j => .int (i * j)) := opI λ _ _ _ _ _ _ _ hc q => PyProof.Rows.mul_int q (Qo9 hc)
theorem QqX : OpR X (binaryOp .FloorDiv) (rI (λ i j => QbI j = true) λ i j => .int (QcJ i j)) := opI λ i j _ _ _ _ _ hc q => by
 unfold QbI at hc
 simp only [Zf, decide_eq_true_eq] at hc
 rw [QfN] at q
 refine PyProof.Rows.floordiv_int hc.1 q (.inl (Zbx ?_))
 have h0 : j.natAbs ≠ 0 := by omega
 exact Nat.lt_trans ((ZbN h0).mpr hc.2) (by decide)
theorem Qp9 : OpR X (binaryOp .Mod) (rI (λ i j => j ≠ 0) λ i j => .int (Qbs i j)) := opI λ i j _ _ _ _ _ hc q => by
 rw [QfH] at q
 exact PyProof.Rows.mod_int' hc q
theorem Qsc : Qb4 K Qe4 (rI (λ i j => QbI j = true) λ i j => .int (QcJ i j)) := Qfb (λ i j d e => by split at e <;> cases e; rfl) λ i j d e H Q q => by
 split at e
 ·cases e; exact ⟨i, j, rfl, rfl, by assumption, q _ λ _ => .int_mk⟩
 ·cases e
theorem Qr1 : Qb4 K Qan (rI (λ i j => j ≠ 0) λ i j => .int (Qbs i j)) := Qfb (λ i j d e => by split at e <;> cases e; rfl) λ i j d e H Q q => by
 split at e
 ·cases e; exact ⟨i, j, rfl, rfl, by assumption, q _ λ _ => .int_mk⟩
 ·cases e
theorem Qqa : OpR X (binaryOp .Pow) (rI (λ i j => 0 <= j /\ j <= 1000 /\ i.natAbs < 2 ^ 200) λ i j => .int (i ^ j.toNat)) := opI λ i j _ _ _ _ _ hc q => by
 refine PyProof.Rows.pow_int hc.1 ?_ q
 have hb : Builtin.Int.intBits i <= 200 := by
  unfold Builtin.Int.intBits
  split
  ·omega
  ·rename_i h0; have h0' : i.natAbs ≠ 0 := λ z => by simp_all
   have := (ZbN h0').mpr hc.2.2; omega
 have h1 : ((Builtin.Int.intBits i : Nat) : Int) * j <= 200 * 1000 := Int.mul_le_mul (by omega) hc.2.1 hc.1 (by decide)
 omega
theorem QrW : Qb4 K Qdu (rI (λ i j => 0 <= j /\ j <= 1000 /\ i.natAbs < 2 ^ 200) λ i j => .int (i ^ j.toNat)) := Qfb (λ i j d e => by split at e <;> cases e; rfl) λ i j d e H Q q => by
 split at e
 ·rename_i h; cases e; exact ⟨i, j, rfl, rfl, h, q _ λ _ => .int_mk⟩
 ·cases e
theorem Qs9 : Qb4 K gLt (rI0 λ i j => .bl (decide (i < j))) := Qfb (λ i j d e => by cases e; rfl) λ i j d e H Q q => by cases e; exact ⟨i, j, rfl, rfl, q _ λ _ => .QcS⟩
theorem QsQ : Qb4 K gLe (rI0 λ i j => .bl (decide (i <= j))) := Qfb (λ i j d e => by cases e; rfl) λ i j d e H Q q => by cases e; exact ⟨i, j, rfl, rfl, q _ λ _ => .QcS⟩
theorem Qti : Qb4 K gGt (rI0 λ i j => .bl (decide (j < i))) := Qfb (λ i j d e => by cases e; rfl) λ i j d e H Q q => by cases e; exact ⟨i, j, rfl, rfl, q _ λ _ => .QcS⟩
theorem Qs6 : Qb4 K gGe (rI0 λ i j => .bl (decide (j <= i))) := Qfb (λ i j d e => by cases e; rfl) λ i j d e H Q q => by cases e; exact ⟨i, j, rfl, rfl, q _ λ _ => .QcS⟩
end
theorem QcY : ∀ (xs ys : List D), QI (xs ++ ys) = (QI xs && QI ys)
 | [], ys => by simp [QI]
 | x :: xs, ys => by simp [QI, QcY xs ys, Bool.and_assoc]
noncomputable def Qal (ds : List D) (M : List Nat) : R := if QI ds then ⟨.lst ds, true, []⟩ else ⟨.lst ds, false, M⟩
section
variable {K : PySem.W.Frag} {H0 H H' : Hp} {A0 : List Addr} {hs : List (V × D × List Addr)} {ρ : En} {F : Nat -> List Addr} {σ : L2.St}
theorem QW.Qal {ds : List D} {M : List Nat} {vs : List V} {G : List Addr} {H1 : Hp} {p : Addr} (s : QH H H1) (hp : H1 p = none) (r : Rps K H1 ds vs G) (hz : ds.length <= sizeLine) (src : Src ρ F H M G) (ow : QaX ρ M) :
  QW K ρ F H (upd H1 p (.lst vs)) (Qal ds M) (.ref p) (p :: G) := by
 have s2 : QH H1 (upd H1 p (.lst vs)) := QbK hp
 have rp : Rp K (upd H1 p (.lst vs)) (.lst ds) (.ref p) (p :: G) := Rp.QdV Qaj (r.same s2) hz
 have hH : H p = none := s.free hp
 unfold HS.Qal
 split
 ·rename_i hf
  have := r.QaZ hf
  subst this
  refine ⟨s.trans s2, rp, λ a ha => ?_, λ _ => ⟨λ a => ?_, by simp only [D.nl, QeW ds hf]; rfl⟩, QaX.nil⟩
  ·have : a = p := by simpa using ha
   subst this; exact .inl hH
  ·rw [List.count_singleton]
   split
   ·rename_i e; have e' : p = a := by simpa using e
    subst e'; rw [QaU hH]; omega
   ·omega
 ·refine ⟨s.trans s2, rp, λ a ha => ?_, λ z => (by cases z), ow⟩
  rcases Zw.mp ha with rfl | h
  ·exact .inl hH
  ·exact src a h
end
noncomputable def QL (fa fb : DE) : DE := λ ρ => (fa ρ).bind λ ra => (fb ρ).bind λ rb => match ra.d, rb.d with
 | .int i, .int j => some ⟨.int (i + j), true, []⟩
 | .lst xs, .lst ys => if xs.length + ys.length <= sizeLine then some (Qal (xs ++ ys) (ra.M ++ rb.M)) else none
 | _, _ => none
noncomputable def Qab (fa fb : DE) : DE := λ ρ => (fa ρ).bind λ ra => (fb ρ).bind λ rb => match ra.d, rb.d with
 | .int i, .int j => if QcC i j then some ⟨.int (i * j), true, []⟩ else none
 | .lst xs, .int j => if xs.length * j.toNat <= sizeLine /\ -(2 ^ 63) <= j /\ j < 2 ^ 63 /\ QI xs = true then some ⟨.lst (List.replicate j.toNat xs).flatten, true, []⟩ else none
 | _, _ => none
theorem QlT {fa fb : DE} {ρ : En} {k : R -> R -> Option R} {r : R} (e : ((fa ρ).bind λ ra => (fb ρ).bind λ rb => k ra rb) = some r) : ∃ ra rb, fa ρ = some ra /\ fb ρ = some rb /\ k ra rb = some r := by
 cases h1 : fa ρ with
 | none => rw [h1] at e; cases e
 | some ra =>
  cases h2 : fb ρ with
  | none => rw [h1, h2] at e; cases e
  | some rb => rw [h1, h2] at e; exact ⟨ra, rb, rfl, rfl, e⟩
theorem bind1 {α β : Type} {x : Option α} {k : α -> Option β} {r : β} (e : x.bind k = some r) : ∃ a, x = some a /\ k a = some r := by
 cases x with
 | none => cases e
 | some a => exact ⟨a, rfl, e⟩
section
variable {X : Cx} {a b : Expr} {fa fb : DE} {pos : Pos}
noncomputable def Qtq (K : PySem.W.Frag) : R2 := λ x y H Q => ∃ l c xs zs, x = .ref l /\ y = .ref c /\ (H l = some (.lst xs) ∨ Fix K H l xs) /\ (H c = some (.lst zs) ∨ Fix K H c zs) /\ xs.length + zs.length <= sizeLine /\ ∀ p, H p = none -> Q (.ref p) (upd H p (.lst (xs ++ zs)))
theorem Qqr : OpR X (binaryOp .Add) (Qtq X.K) := by
 intro pins s σ H x y v u Q I rx ry h
 obtain ⟨l, c, xs, zs, rfl, rfl, hH, hB, hz, q⟩ := h
 cases rx
 cases ry
 obtain ⟨z, its, n, r, hl, e⟩ := I.Qjt hH
 obtain ⟨z2, its2, n2, r2, hl2, e2⟩ := I.Qjt hB
 refine PySem.P.add_list e e2 ?_ (by rw [Zk, Zk]; omega)
 have ea : its.toArray ++ its2.toArray = (its ++ its2).toArray := by simp
 rw [ea]
 exact ⟨.ref _, _, I.Qso (t' := s.toks) (r.append r2) (by rw [Zl]; omega), rfl, q _ I.fresh⟩
theorem Qr8 (ha : SE X a fa) (hb : SE X b fb) : SE X (.BinOp a .Add b pos) (QL fa fb) := λ H0 A0 =>
 (QlK (Qq9.or Qqr) (ha H0 A0) (hb H0 A0)).mono λ σ H Q ⟨ρ, hs, F, r', rel, e, q⟩ => by
  obtain ⟨ra, rb, ea, eb, ek⟩ := QlT e
  refine two rel ea eb λ x y H1 H2 G1 G2 p1 p2 => ?_
  have p1' := p1.rp.same p2.same
  have p2' := p2.rp
  have c1 := p1.src.append p2.src p1.same
  have o1 := p1.own.append p2.own
  revert ek
  revert p1' p2'
  cases ra.d <;> cases rb.d <;> intro p1' p2' ek <;> first | (cases ek; done) | skip
  ·cases ek
   rw [p1'.int_inv, p2'.int_inv]
   exact .inl ⟨_, _, rfl, rfl, q _ H2 [] (.flat (p1.same.trans p2.same) .int_mk)⟩
  ·rename_i xs ys
   dsimp only at ek
   split at ek
   ·rename_i hz
    cases ek
    obtain ⟨l, vs, L1, rfl, hl, rl, zl, el⟩ := p1'.lst_inv
    obtain ⟨c, ws, L2', rfl, hc, rc, zc, ec⟩ := p2'.lst_inv
    have n1 := rl.length
    have n2 := rc.length
    refine .inr ⟨l, c, vs, ws, rfl, rfl, hl, hc, by omega, λ p hp => ?_⟩
    refine q _ _ (p :: (L1 ++ L2')) (QW.Qal (p1.same.trans p2.same) hp (rl.append rc) (by rw [Zl]; exact hz) (λ a ha => c1 a ?_) o1)
    rcases Zy.mp ha with h | h
    ·refine Zh _ ?_
     rcases el with rfl | rfl
     ·exact Ze _ h
     ·exact h
    ·refine Zc _ ?_
     rcases ec with rfl | rfl
     ·exact Ze _ h
     ·exact h
   ·cases ek
noncomputable def Qtj (K : PySem.W.Frag) : R2 := λ x y H Q => ∃ l k xs, x = .ref l /\ y = .int k /\ (H l = some (.lst xs) ∨ Fix K H l xs) /\ -(2 ^ 63) <= k /\ k < 2 ^ 63 /\ xs.length * k.toNat <= sizeLine ∧
 ∀ p, H p = none -> Q (.ref p) (upd H p (.lst (List.replicate k.toNat xs).flatten))
theorem Qqk : OpR X (binaryOp .Mult) (Qtj X.K) := by
 intro pins s σ H x y v u Q I rx ry h
 obtain ⟨l, k, xs, rfl, rfl, hH, h1, h2, hz, q⟩ := h
 cases rx
 obtain ⟨t, rfl⟩ := ry
 obtain ⟨z, its, n, r, hl, e⟩ := I.Qjt hH
 have hlen : its.toArray.size * k.toNat <= sizeLine := by rw [Zk, ← hl]; exact hz
 have hcap : ¬ its.toArray.size * k.toNat > (2 ^ 63 - 1) / 8 := by
  have : (sizeLine : Nat) <= (2 ^ 63 - 1) / 8 := by decide
  omega
 have hfit : ¬ (!Builtin.List.listFitsIndex k) = true := by
  rw [fitsIndex_both h1 h2]
  exact Zae
 have hlong : ¬ Builtin.List.listTooLong (its.toArray.size * k.toNat) = true := by
  rw [Qoe hlen]
  exact Zae
 have hnew : List.foldl (λ x1 x2 => x1 ++ x2) #[] (List.replicate (if its.toArray.isEmpty = true then 0 else k.toNat) its.toArray) = (List.replicate k.toNat its).flatten.toArray := by
  have f0 : ∀ m : Nat, List.foldl (λ x1 x2 => x1 ++ x2) #[] (List.replicate m its.toArray) = (List.replicate m its).flatten.toArray := λ m => by
   have := foldl_rep its m []
   rw [ZaS] at this
   exact this
  rw [f0]
  cases its with
  | nil => simp
  | cons a r' => rw [if_neg (by simp)]
 open PyProof.Rows in
 refine wpAny_binaryOp_repeat_ref (T := "list") (U := "int") (by decide) ⟨_, e, rfl⟩ (λ s' => typeIs_int s' k t) noFill_list_mul F.fills_int_mul F.slot_int_rmul repeat_list F.slot_int_index.lookup
  (call_meets F.slot_int_rmul (typeIs_int s k t) F.entry_int_rmul (F.args_int_rmul_2 _ _) (int___rmul___int_list k t l its.toArray n)
   ⟨e, rfl, ⟨_, e, rfl⟩, call_meets F.slot_list_mul ⟨_, e, rfl⟩ F.entry_list_mul (F.args_list_mul_2 _ _) (AutoListH.list___mul___list_int_3 l its.toArray n k t hfit hcap hlong) ⟨e, ?_⟩⟩)
 rw [hnew]
 exact ⟨.ref _, _, I.Qso (t' := s.toks) (r.rep k.toNat) (by rw [len_rep, Nat.mul_comm]; exact hz), rfl, q _ I.fresh⟩
theorem Qif {xs : List D} (h : QI xs = true) : ∀ n : Nat, QI (List.replicate n xs).flatten = true
 | 0 => by simp [QI]
 | n + 1 => by rw [ZT, Zaa, QcY, h, Qif h n]; rfl
theorem Rps.rep {K : PySem.W.Frag} {H : Hp} {ds : List D} {vs : List V} (h : Rps K H ds vs []) : ∀ n : Nat, Rps K H (List.replicate n ds).flatten (List.replicate n vs).flatten []
 | 0 => by simp [Rps]
 | n + 1 => by rw [ZT, Zaa, ZT, Zaa]; exact h.append (Rps.rep h n)
theorem Qq5 (ha : SE X a fa) (hb : SE X b fb) : SE X (.BinOp a .Mult b pos) (Qab fa fb) := λ H0 A0 =>
 (QlK (Qqg.or Qqk) (ha H0 A0) (hb H0 A0)).mono λ σ H Q ⟨ρ, hs, F, r', rel, e, q⟩ => by
  obtain ⟨ra, rb, ea, eb, ek⟩ := QlT e
  refine two rel ea eb λ x y H1 H2 G1 G2 p1 p2 => ?_
  have p1' := p1.rp.same p2.same
  have p2' := p2.rp
  revert ek
  revert p1' p2'
  cases ra.d <;> cases rb.d <;> intro p1' p2' ek <;> first | (cases ek; done) | skip
  ·dsimp only at ek
   split at ek
   ·rename_i hm
    cases ek
    rw [p1'.int_inv, p2'.int_inv]
    exact .inl ⟨_, _, rfl, rfl, hm, q _ H2 [] (.flat (p1.same.trans p2.same) .int_mk)⟩
   ·cases ek
  ·rename_i xs j
   dsimp only at ek
   split at ek
   ·rename_i hz
    cases ek
    obtain ⟨hz1, hz2, hz3, hf⟩ := hz
    obtain ⟨l, vs, L1, rfl, hl, rl, zl, el⟩ := p1'.lst_inv
    have n1 := rl.length
    have e0 := rl.QaZ hf
    subst e0
    rw [p2'.int_inv]
    refine .inr ⟨l, j, vs, rfl, rfl, hl, hz2, hz3, by rw [← n1]; exact hz1, λ p hp => ?_⟩
    have w : HS.Qal (List.replicate j.toNat xs).flatten [] = ⟨.lst (List.replicate j.toNat xs).flatten, true, []⟩ := by
     unfold HS.Qal; rw [if_pos (Qif hf _)]
    rw [← w] at q
    exact q _ _ (p :: []) (QW.Qal (p1.same.trans p2.same) hp (rl.rep _) (by rw [len_rep, Nat.mul_comm]; exact hz1) Src.nil QaX.nil)
   ·cases ek
end
end HS
namespace HS
open PySem PySem.Spec L2
noncomputable def Qe : DA := λ _ => some ⟨[], true, []⟩
noncomputable def Qb (fa : DE) (fr : DA) : DA := λ ρ => (fa ρ).bind λ r => (fr ρ).bind λ rs => some ⟨r.d :: rs.ds, r.fr && rs.fr, r.M ++ rs.M⟩
noncomputable def QaK (fa : DA) : DE := λ ρ => (fa ρ).bind λ r => if r.ds.length <= 64 then some ⟨.tup r.ds, r.fr, r.M⟩ else none
noncomputable def Qaw (fa : DA) : DE := λ ρ => (fa ρ).bind λ r => if r.ds.length <= 64 then some ⟨.lst r.ds, r.fr, r.M⟩ else none
section
variable {X : Cx} {a b e : Expr} {es : List Expr} {fa fb : DE} {fs : DA} {pos : Pos}
theorem Qkj : SA X [] Qe := λ H0 A0 => Qcd.mono λ σ H Q ⟨ρ, hs, F, r', rel, e, q⟩ => by
 cases e
 exact q [] H [] ⟨QH.refl _, by simp [Rps], Src.nil, λ _ => ⟨Cnt.nil, rfl⟩, QaX.nil⟩
theorem Qf0 (ha : SE X e fa) (hr : SA X es fs) (hs : starEach (e :: es) X.env = (false, eval e X.env) :: starEach es X.env) : SA X (e :: es) (Qb fa fs) := λ H0 A0 =>
 (Qay (ha H0 A0) (hr H0 A0) hs).mono λ σ H Q ⟨ρ, hs, F, r', rel, e, q⟩ => by
  obtain ⟨r, e1, e⟩ := bind1 e
  obtain ⟨rs, e2, e⟩ := bind1 e
  cases e
  refine ⟨ρ, hs, F, r, rel, e1, λ x H1 G1 p1 => ⟨ρ, hs, F, rs, rel.ext p1.same, e2, λ xs H2 G2 p2 => ?_⟩⟩
  refine q _ H2 (G1 ++ G2) ⟨p1.same.trans p2.same, ?_, p1.src.append p2.src p1.same, λ h => ?_, p1.own.append p2.own⟩
  ·simp only [Rps]
   exact ⟨x, xs, G1, G2, rfl, rfl, p1.rp.same p2.same, p2.rp⟩
  ·simp only [Zf] at h
   exact ⟨(p1.cnt h.1).1.append rel (p2.cnt h.2).1 p1.same p1.rp.mem, by simp only [nls, Zl, (p1.cnt h.1).2, (p2.cnt h.2).2]⟩
theorem Qe1 {n : Nat} (h : n <= 64) : n <= sizeLine := Zu h (by decide)
theorem QsC {k : Nat} (ha : SA X es fs) : SE X (.Tuple es k pos) (QaK fs) := λ H0 A0 =>
 (Qrd (ha H0 A0)).mono λ σ H Q ⟨ρ, hs, F, r', rel, e, q⟩ => by
  obtain ⟨r, e1, e⟩ := bind1 e
  split at e
  ·rename_i hz
   cases e
   refine ⟨ρ, hs, F, r, rel, e1, λ xs H1 G p => ⟨by rw [← p.rp.length]; exact Qe1 hz, λ c hc => q _ _ G ⟨p.same.trans (QbK hc), Rp.Qhl Qaj (p.rp.same (QbK hc)), p.src, λ h => ⟨(p.cnt h).1, by simp only [D.nl]; exact (p.cnt h).2⟩, p.own⟩⟩⟩
  ·cases e
theorem Qr2 (ha : SA X es fs) : SE X (.List es pos) (Qaw fs) := λ H0 A0 =>
 (Qrq (ha H0 A0)).mono λ σ H Q ⟨ρ, hs, F, r', rel, e, q⟩ => by
  obtain ⟨r, e1, e⟩ := bind1 e
  split at e
  ·rename_i hz
   cases e
   refine ⟨ρ, hs, F, r, rel, e1, λ xs H1 G p => ⟨by rw [← p.rp.length]; exact Qe1 hz, λ c hc => ?_⟩⟩
   have hH : H c = none := p.same.free hc
   refine q _ _ (c :: G) ⟨p.same.trans (QbK hc), Rp.QdV Qaj (p.rp.same (QbK hc)) (Qe1 hz), λ z hz' => ?_, λ h => ⟨λ z => ?_, by simp only [D.nl, ZD, (p.cnt h).2]⟩, p.own⟩
   ·rcases Zw.mp hz' with rfl | h
    ·exact .inl hH
    ·exact p.src z h
   ·rw [Zay]
    have := (p.cnt h).1 z
    split
    ·rename_i e'
     have e' : c = z := by simpa using e'
     subst e'
     have h0 : G.count c = 0 := ZI.mpr λ hm => by obtain ⟨vs, w⟩ := p.rp.mem c hm; rw [hc] at w; cases w
     rw [QaU hH]; omega
    ·exact this
  ·cases e
noncomputable def D.items : D -> Option (List D)
 | .lst xs => some xs
 | .tup xs => some xs
 | _ => none
noncomputable def Qf (fa fb : DE) : DE := λ ρ => (fa ρ).bind λ ra => (fb ρ).bind λ rb => match rb.d with
 | .int i => (ra.d.items).bind λ xs => (atI xs i).map λ d => (R.norm ⟨d, ra.fr, ra.M⟩)
 | _ => none
theorem QpF {α β : Type} {xs : List α} {i : Int} {d : α} (h : atI xs i = some d) : ∃ j : Nat, xs[j]? = some d /\ ∀ (ys : List β), ys.length = xs.length -> ∀ y, ys[j]? = some y -> atI ys i = some y := by
 unfold atI at h
 cases e : ixN xs.length i with
 | none => rw [e] at h; cases h
 | some j =>
  rw [e] at h
  refine ⟨j, h, λ ys hl y hy => ?_⟩
  unfold atI
  rw [hl, e]
  exact hy
theorem Qrt (ha : SE X a fa) (hb : SE X b fb) (hs : QfP b) : SE X (.Subscript a b pos) (Qf fa fb) := λ H0 A0 =>
 (Qpn (Qlu.or Qnq) (ha H0 A0) (hb H0 A0) hs).mono λ σ H Q ⟨ρ, hs, F, r', rel, e, q⟩ => by
  obtain ⟨ra, rb, ea, eb, ek⟩ := QlT e
  refine two rel ea eb λ x y H1 H2 G1 G2 p1 p2 => ?_
  have p1' := p1.rp.same p2.same
  have p2' := p2.rp
  have pp : QW X.K ρ F H H2 ra x G1 := ⟨p1.same.trans p2.same, p1', p1.src, p1.cnt, p1.own⟩
  cases hb' : rb.d with
  | int i =>
   rw [hb'] at ek p2'
   rw [p2'.int_inv]
   obtain ⟨xs, ex, ek⟩ := bind1 ek
   obtain ⟨d, ed, ek⟩ := Zb.mp ek
   subst ek
   obtain ⟨j, hj, hm⟩ := QpF (β := V) ed
   have fin : ∀ (L : List Addr) (vs : List V), Rps X.K H2 xs vs L -> (∀ z, L.count z <= G1.count z) -> (G1.length = ra.d.nl -> L.length = nls xs) -> ∃ v, atI vs i = some v /\ Q v H2 := λ L vs rl hc hn => by
    obtain ⟨v, F1, G, F2, hv, eF, rv, hx⟩ := rl.get hj
    refine ⟨v, hm vs rl.length.symm v hv, q v H2 G (QW.norm (QW.sub pp rv (λ z => Zu ?_ (hc z)) λ z => hx (hn z)))⟩
    rw [eF, Zab, Zab]; omega
   cases hra : ra.d with
   | lst ys =>
    rw [hra] at ex p1'
    cases ex
    obtain ⟨l, vs, L, rfl, hl, rl, zl, el⟩ := p1'.lst_inv
    have hn : G1.length = ra.d.nl -> L.length = nls xs := λ hz => by
     have := rl.Qau
     simp only [hra, D.nl] at hz
     rcases el with rfl | rfl
     ·rw [ZD] at hz; omega
     ·omega
    have hc : ∀ z, L.count z <= G1.count z := λ z => by
     rcases el with rfl | rfl
     ·rw [Zay]; omega
     ·exact Zi _
    obtain ⟨v, h1, h2⟩ := fin L vs rl hc hn
    exact .inl ⟨l, vs, i, v, rfl, rfl, Q4 hl, h1, h2⟩
   | tup ys =>
    rw [hra] at ex p1'
    cases ex
    obtain ⟨l, vs, rfl, hl, rl⟩ := p1'.QaQ
    obtain ⟨v, h1, h2⟩ := fin G1 vs rl (λ z => Zi _) λ z => (by simpa only [hra, D.nl] using z)
    exact .inr ⟨l, vs, i, v, rfl, rfl, hl, h1, h2⟩
   | _ => rw [hra] at ex; cases ex
  | _ => rw [hb'] at ek; cases ek
noncomputable abbrev DO := En -> Option (Option Int)
noncomputable def Qat : DO := λ _ => some none
noncomputable def QY (f : DE) : DO := λ ρ => (f ρ).bind λ r => match r.d with
 | .int i => some (some i)
 | _ => none
noncomputable def tVO (K : PySem.W.Frag) (H0 : Hp) (A0 : List Addr) (f : DO) : TO := λ σ H Q => ∃ ρ hs F o, Rel K H0 A0 hs ρ F σ H /\ f ρ = some o /\ ∀ H', QH H H' -> Q o H'
def SO (X : Cx) (e : Option Expr) (f : DO) : Prop := ∀ H0 A0, PO X e (tVO X.K H0 A0 f)
theorem _root_.L2.PO.mono {X : Cx} {e : Option Expr} {t t' : TO} (h : PO X e t) (m : ∀ σ H Q, t' σ H Q -> t σ H Q) : PO X e t' := by
 intro pins s σ H Q I q
 exact h pins s σ H Q I (m σ H Q q)
theorem QqT : SO X none Qat := λ H0 A0 => QqM.mono λ σ H Q ⟨ρ, hs, F, o, rel, e, q⟩ => by
 cases e
 exact q H (QH.refl _)
theorem Qqm (h : SE X a fa) : SO X (some a) (QY fa) := λ H0 A0 => (QpT (h H0 A0)).mono λ σ H Q ⟨ρ, hs, F, o, rel, e, q⟩ => by
 obtain ⟨r, e1, e⟩ := bind1 e
 refine ⟨ρ, hs, F, r, rel, e1, λ v H1 G p => ?_⟩
 have rp := p.rp
 cases hr : r.d with
 | int i =>
  rw [hr] at e rp
  cases e
  exact ⟨i, rp.int_inv, q H1 p.same⟩
 | _ => rw [hr] at e; cases e
noncomputable def cutD (xs : List D) (lo hi : Option Int) : List D := (xs.drop (HT.sIx xs.length 0 lo)).take (HT.sIx xs.length xs.length hi - HT.sIx xs.length 0 lo)
noncomputable def Qar (fa : DE) (lo hi : DO) : DE := λ ρ => (fa ρ).bind λ ra => (lo ρ).bind λ l => (hi ρ).bind λ h => match ra.d with
 | .lst xs => some (Qal (cutD xs l h) ra.M)
 | _ => none
theorem Rps.drop : ∀ {ds : List D} {vs : List V} {F : List Addr} {K : PySem.W.Frag} {H : Hp} (n : Nat), Rps K H ds vs F -> ∃ G, Rps K H (ds.drop n) (vs.drop n) G /\ ∀ a ∈ G, a ∈ F
 | [], vs, F, K, H, n, h => by simp only [Rps] at h; rw [h.1, h.2]; exact ⟨[], by simp [Rps], λ _ h => h⟩
 | d :: ds, vs, F, K, H, 0, h => ⟨F, by simpa using h, λ _ h => h⟩
 | d :: ds, vs, F, K, H, n + 1, h => by
  simp only [Rps] at h
  obtain ⟨v, ws, F1, F2, e, eF, r, q⟩ := h
  subst e eF
  obtain ⟨G, h1, h2⟩ := Rps.drop n q
  exact ⟨G, by simpa using h1, λ a ha => Zc _ (h2 a ha)⟩
theorem Rps.take : ∀ {ds : List D} {vs : List V} {F : List Addr} {K : PySem.W.Frag} {H : Hp} (n : Nat), Rps K H ds vs F -> ∃ G, Rps K H (ds.take n) (vs.take n) G /\ ∀ a ∈ G, a ∈ F
 | [], vs, F, K, H, n, h => by simp only [Rps] at h; rw [h.1, h.2]; exact ⟨[], by simp [Rps], λ _ h => h⟩
 | d :: ds, vs, F, K, H, 0, h => ⟨[], by simp [Rps], λ _ h => by simp at h⟩
 | d :: ds, vs, F, K, H, n + 1, h => by
  simp only [Rps] at h
  obtain ⟨v, ws, F1, F2, e, eF, r, q⟩ := h
  subst e eF
  obtain ⟨G, h1, h2⟩ := Rps.take n q
  refine ⟨F1 ++ G, ?_, λ a ha => ?_⟩
  ·simp only [Zbn, Rps]
   exact ⟨v, _, F1, G, rfl, rfl, r, h1⟩
  ·rcases Zy.mp ha with h | h
   ·exact Zh _ h
   ·exact Zc _ (h2 a h)
theorem Qr6 {lo hi : Option Expr} {fl fh : DO} {p2 : Pos} (ha : SE X a fa) (hl : SO X lo fl) (hh : SO X hi fh) : SE X (.Subscript a (.Slice lo hi none p2) pos) (Qar fa fl fh) := λ H0 A0 =>
 (Qn1 QpL (ha H0 A0) (hl H0 A0) (hh H0 A0)).mono λ σ H Q ⟨ρ, hs, F, r', rel, e, q⟩ => by
  obtain ⟨ra, e1, e⟩ := bind1 e
  obtain ⟨l, e2, e⟩ := bind1 e
  obtain ⟨h, e3, e⟩ := bind1 e
  refine ⟨ρ, hs, F, ra, rel, e1, λ x H1 G1 p1 => ⟨ρ, hs, F, l, rel.ext p1.same, e2, λ H2 s2 => ⟨ρ, hs, F, h, (rel.ext p1.same).ext s2, e3, λ H3 s3 => ?_⟩⟩⟩
  have rp := p1.rp.same (s2.trans s3)
  cases hra : ra.d with
  | lst xs =>
   rw [hra] at e rp
   cases e
   obtain ⟨c, vs, L, rfl, hc, rl, zl, el⟩ := rp.lst_inv
   refine ⟨c, vs, rfl, Q4 hc, λ p hp => ?_⟩
   obtain ⟨G2, h2, m2⟩ := rl.drop (HT.sIx xs.length 0 l)
   obtain ⟨G3, h3, m3⟩ := h2.take (HT.sIx xs.length xs.length h - HT.sIx xs.length 0 l)
   have n1 := rl.length
   rw [show QhT vs l h = (vs.drop (HT.sIx xs.length 0 l)).take (HT.sIx xs.length xs.length h - HT.sIx xs.length 0 l) by unfold QhT; rw [n1]]
   refine q _ _ (p :: G3) (QW.Qal (p1.same.trans (s2.trans s3)) hp h3 ?_ (λ z hz => p1.src z ?_) p1.own)
   ·unfold cutD; rw [Zaf, Zaq]; omega
   ·have := m2 z (m3 z hz)
    rcases el with rfl | rfl
    ·exact Ze _ this
    ·exact this
  | _ => rw [hra] at e; cases e
noncomputable def dBf (g : List D -> Option D) (fs : DA) : DE := λ ρ => (fs ρ).bind λ r => (g r.ds).map λ d => ⟨d, true, []⟩
def Qey (K : PySem.W.Frag) (g : List D -> Option D) (r : List V -> Hp -> VK -> Prop) : Prop := ∀ ds d, g ds = some d -> d.flat = true /\ ∀ H vs F (Q : VK), Rps K H ds vs F -> (∀ v, (∀ H', Rp K H' d v []) -> Q v H) -> r vs H Q
theorem Qhw {x : Str} {id : String} {g : List D -> Option D} {r : List V -> Hp -> VK -> Prop} {p : Pos} (hc : Qby X (.builtin id) r) (hk : Qey X.K g r) (hg : Gl X x) (hm : X.mg x = none) (hv : bootBuiltins x = some (.builtin id)) (ha : SA X (e :: es) fs) (hn : x ≠ "__name__") (hdb : (x == ("__debug__" : Str)) = false)
  (he : starEach (e :: es) X.env = (false, eval e X.env) :: starEach es X.env) (hpl : (backTo pos (starEach es X.env)).any (·.1) = false) : SE X (.Call (.Name x p) (e :: es) [] pos) (dBf g fs) := λ H0 A0 =>
 (QgY hc hg hm hv (ha H0 A0) hn hdb he hpl).mono λ σ H Q ⟨ρ, hs, F, r', rel, e, q⟩ => by
  obtain ⟨ra, e1, e⟩ := bind1 e
  obtain ⟨d, ed, e⟩ := Zb.mp e
  subst e
  exact ⟨ρ, hs, F, ra, rel, e1, λ vs H1 G p1 => (hk _ _ ed).2 H1 vs G Q p1.rp λ v hv => q v H1 [] (.flat p1.same (hv _) (hk _ _ ed).1)⟩
theorem Rps.one {K : PySem.W.Frag} {H : Hp} {d : D} {vs : List V} {F : List Addr} (h : Rps K H [d] vs F) : ∃ v, vs = [v] /\ Rp K H d v F := by
 simp only [Rps] at h
 obtain ⟨v, ws, F1, F2, rfl, rfl, r, rfl, rfl⟩ := h
 exact ⟨v, rfl, by simpa using r⟩
theorem Rps.two {K : PySem.W.Frag} {H : Hp} {d e : D} {vs : List V} {F : List Addr} (h : Rps K H [d, e] vs F) : ∃ v w F1 F2, vs = [v, w] /\ Rp K H d v F1 /\ Rp K H e w F2 := by
 simp only [Rps] at h
 obtain ⟨v, ws, F1, F2, rfl, rfl, r, w, ws', F3, F4, rfl, rfl, r2, rfl, rfl⟩ := h
 exact ⟨v, w, F1, F3, rfl, r, r2⟩
noncomputable def Qae : List D -> Option D
 | [.lst xs] => some (.int xs.length)
 | [.tup xs] => some (.int xs.length)
 | _ => none
theorem Qsn {K : PySem.W.Frag} : Qey K Qae (λ xs H Q => ∃ p ys, xs = [.ref p] /\ (SqL K H p ys ∨ SqT K H p ys) /\ Q (.int ys.length) H) := λ ds d e => by
 unfold Qae at e
 split at e
 ·cases e
  refine ⟨rfl, λ H vs F Q r q => ?_⟩
  obtain ⟨v, rfl, rp⟩ := r.one
  obtain ⟨l, ws, L, rfl, hl, rl, zl, el⟩ := rp.lst_inv
  exact ⟨l, ws, rfl, .inl (Q4 hl), by rw [← rl.length]; exact q _ λ _ => .int_mk⟩
 ·cases e
  refine ⟨rfl, λ H vs F Q r q => ?_⟩
  obtain ⟨v, rfl, rp⟩ := r.one
  obtain ⟨l, ws, rfl, hl, rl⟩ := rp.QaQ
  exact ⟨l, ws, rfl, .inr hl, by rw [← rl.length]; exact q _ λ _ => .int_mk⟩
 ·cases e
noncomputable def Qhq : List D -> Option D
 | [.int i, .int j] => some (.int (if j < i then j else i))
 | _ => none
noncomputable def Qg1 : List D -> Option D
 | [.int i, .int j] => some (.int (if j > i then j else i))
 | _ => none
noncomputable def Ql1 : List D -> Option D
 | [.int i] => some (.int (if i < 0 then -i else i))
 | _ => none
theorem QqC {K : PySem.W.Frag} : Qey K Qhq (λ xs H Q => ∃ i j, xs = [.int i, .int j] /\ Q (.int (if j < i then j else i)) H) := λ ds d e => by
 unfold Qhq at e
 split at e
 ·cases e
  refine ⟨rfl, λ H vs F Q r q => ?_⟩
  obtain ⟨v, w, F1, F2, rfl, r1, r2⟩ := r.two
  exact ⟨_, _, by rw [r1.int_inv, r2.int_inv], q _ λ _ => .int_mk⟩
 ·cases e
theorem QpW {K : PySem.W.Frag} : Qey K Qg1 (λ xs H Q => ∃ i j, xs = [.int i, .int j] /\ Q (.int (if j > i then j else i)) H) := λ ds d e => by
 unfold Qg1 at e
 split at e
 ·cases e
  refine ⟨rfl, λ H vs F Q r q => ?_⟩
  obtain ⟨v, w, F1, F2, rfl, r1, r2⟩ := r.two
  exact ⟨_, _, by rw [r1.int_inv, r2.int_inv], q _ λ _ => .int_mk⟩
 ·cases e
theorem Qrf {K : PySem.W.Frag} : Qey K Ql1 (λ xs H Q => ∃ i, xs = [.int i] /\ Q (.int (if i < 0 then -i else i)) H) := λ ds d e => by
 unfold Ql1 at e
 split at e
 ·cases e
  refine ⟨rfl, λ H vs F Q r q => ?_⟩
  obtain ⟨v, rfl, r1⟩ := r.one
  exact ⟨_, by rw [r1.int_inv], q _ λ _ => .int_mk⟩
 ·cases e
noncomputable def dList (fs : DA) : DE := λ ρ => (fs ρ).bind λ r => match r.ds with
 | [.lst xs] => some (Qal xs r.M)
 | [.tup xs] => if xs.length <= sizeLine then some (Qal xs r.M) else none
 | _ => none
theorem QqO {p : Pos} (hg : Gl X "list") (hm : X.mg "list" = none) (ha : SA X (e :: es) fs) (he : starEach (e :: es) X.env = (false, eval e X.env) :: starEach es X.env) (hpl : (backTo pos (starEach es X.env)).any (·.1) = false) :
  SE X (.Call (.Name "list" p) (e :: es) [] pos) (dList fs) := λ H0 A0 =>
 (QnD QjL hg hm ZbH (ha H0 A0) (by decide) (by decide) he hpl).mono λ σ H Q ⟨ρ, hs, F, r', rel, e, q⟩ => by
  obtain ⟨ra, e1, e⟩ := bind1 e
  refine ⟨ρ, hs, F, ra, rel, e1, λ vs H1 G p1 => ?_⟩
  have rp := p1.rp
  have src := p1.src
  split at e
  ·rename_i xs hds
   cases e
   rw [hds] at rp
   obtain ⟨v, rfl, rq⟩ := rp.one
   obtain ⟨l, ws, L, rfl, hl, rl, zl, el⟩ := rq.lst_inv
   refine ⟨l, ws, rfl, .inl (Q4 hl), λ c hc => q _ _ (c :: L) (QW.Qal p1.same hc rl zl (λ z hz => src z ?_) p1.own)⟩
   rcases el with rfl | rfl
   ·exact Ze _ hz
   ·exact hz
  ·rename_i xs hds
   split at e
   ·rename_i hz
    cases e
    rw [hds] at rp
    obtain ⟨v, rfl, rq⟩ := rp.one
    obtain ⟨l, ws, rfl, hl, rl⟩ := rq.QaQ
    exact ⟨l, ws, rfl, .inr hl, λ c hc => q _ _ (c :: G) (QW.Qal p1.same hc rl hz src p1.own)⟩
   ·cases e
  ·cases e
end
end HS
namespace HS
open PySem PySem.Spec L2
mutual
noncomputable def D.py : D -> PyData
 | .non => .none
 | .bl b => .bool b
 | .int i => .int i
 | .str x => .str x
 | .tup xs => .tuple (pys xs)
 | .lst xs => .list (pys xs)
noncomputable def pys : List D -> List PyData
 | [] => []
 | d :: ds => d.py :: pys ds
end
theorem Qlk : ∀ ds : List D, pys ds = ds.map D.py
 | [] => rfl
 | d :: ds => by simp [pys, Qlk ds]
noncomputable def D.sim : Nat -> D -> Bool
 | _, .non => true
 | _, .bl _ => true
 | _, .int _ => true
 | _, .str x => PyData.canLay0 (.str x)
 | 0, .tup xs => xs.isEmpty
 | 0, .lst xs => xs.isEmpty
 | n + 1, .tup xs => xs.all (D.sim n)
 | n + 1, .lst xs => xs.all (D.sim n)
theorem QdZ : ∀ {ds : List D}, (∀ d ∈ ds, d.py.canLay0 = true) -> PyData.canLayAll0 (pys ds) = true
 | [], _ => rfl
 | d :: ds, h => by
  simp only [pys, PyData.canLayAll0, Zf]
  exact ⟨h d Zn, QdZ λ e he => h e (Ze _ he)⟩
theorem Qer {n : Nat} : ∀ {ds : List D}, (∀ d ∈ ds, d.py.depth <= n) -> PyData.depthAll (pys ds) <= n
 | [], _ => ZW _
 | d :: ds, h => by
  simp only [pys, PyData.depthAll]
  exact Nat.max_le.mpr ⟨h d Zn, Qer λ e he => h e (Ze _ he)⟩
theorem Qbk : ∀ (n : Nat) (d : D), d.sim n = true -> d.py.canLay0 = true /\ d.py.depth <= n + 1
 | n, .non, _ => by simp [D.py, PyData.canLay0, PyData.depth]
 | n, .bl _, _ => by simp [D.py, PyData.canLay0, PyData.depth]
 | n, .int _, _ => by simp [D.py, PyData.canLay0, PyData.depth]
 | n, .str x, h => by
  simp only [D.py, PyData.depth]
  refine ⟨?_, ZW _⟩
  cases n <;> exact h
 | 0, .tup xs, h => by
  have : xs = [] := by simpa [D.sim] using h
  subst this
  simp [D.py, pys, PyData.canLay0, PyData.canLayAll0, PyData.depth, PyData.depthAll]
 | 0, .lst xs, h => by
  have : xs = [] := by simpa [D.sim] using h
  subst this
  simp [D.py, pys, PyData.canLay0, PyData.canLayAll0, PyData.depth, PyData.depthAll]
 | n + 1, .tup xs, h => by
  simp only [D.sim, Zar] at h
  simp only [D.py, PyData.canLay0, PyData.depth]
  exact ⟨QdZ λ d hd => (Qbk n d (h d hd)).1, Zbg (Qer λ d hd => (Qbk n d (h d hd)).2) 1⟩
 | n + 1, .lst xs, h => by
  simp only [D.sim, Zar] at h
  simp only [D.py, PyData.canLay0, PyData.depth]
  exact ⟨QdZ λ d hd => (Qbk n d (h d hd)).1, Zbg (Qer λ d hd => (Qbk n d (h d hd)).2) 1⟩
noncomputable def deq (a b : D) : Bool := PyData.eqv a.py b.py
theorem QjK {n : Nat} {d : D} (h : d.sim n = true) : deq d d = true := SeqAt.eqv_refl _ (Qbk n d h).1
section
variable {X : Cx} {pins : List (Addr × Obj)} {σ : L2.St} {H : Hp} {s : Shared}
mutual
theorem Rp.reads (I : Inv X pins σ H s) : ∀ {d : D} {v : V} {F : List Addr} {u : Value}, Rp X.K H d v F -> RelV v u -> ∃ as, Reads s.heap u d.py as
 | .non, v, _, u, h, r => by
  rw [h.Qh6] at r
  cases (show u = Value.none from r)
  exact ⟨_, .none⟩
 | .bl b, v, _, u, h, r => by
  rw [h.Qfk] at r
  cases (show u = Value.bool b from r)
  exact ⟨_, .bool b⟩
 | .int i, v, _, u, h, r => by
  rw [h.int_inv] at r
  obtain ⟨t, rfl⟩ := (show ∃ t, u = Value.int i t from r)
  exact ⟨_, .int i t⟩
 | .str i, v, _, u, h, r => by
  rw [h.str_inv] at r
  obtain ⟨t, rfl⟩ := (show ∃ t, u = Value.str i t from r)
  exact ⟨_, .str i t⟩
 | .tup ds, v, _, u, h, r => by
  obtain ⟨a, vs, rfl, hq, rs⟩ := h.QaQ
  cases (show u = Value.ref a from r)
  obtain ⟨its, rv, ⟨o, h1, h2, n, h3⟩, _⟩ := I.tuple hq
  obtain ⟨as, ra⟩ := Rps.reads I rs rv
  exact ⟨_, .tuple h1 h2 h3 (by simpa using ra)⟩
 | .lst ds, v, _, u, h, r => by
  simp only [Rp] at h
  obtain ⟨hz, a, vs, rfl, h⟩ := h
  have key : ∃ G, (H a = some (.lst vs) ∨ Fix X.K H a vs) /\ Rps X.K H ds vs G := by
   rcases h with ⟨G, _, q, rs⟩ | ⟨q, rs⟩
   ·exact ⟨G, .inl q, rs⟩
   ·exact ⟨_, .inr q, rs⟩
  obtain ⟨G, hq, rs⟩ := key
  cases (show u = Value.ref a from r)
  obtain ⟨_, its, n, rv, _, e⟩ := I.Qjt hq
  obtain ⟨as, ra⟩ := Rps.reads I rs rv
  exact ⟨_, .list e rfl rfl (by simpa using ra)⟩
theorem Rps.reads (I : Inv X pins σ H s) : ∀ {ds : List D} {vs : List V} {F : List Addr} {us : List Value}, Rps X.K H ds vs F -> Qt vs us -> ∃ as, ReadsAll s.heap us (pys ds) as
 | [], vs, _, us, h, r => by
  simp only [Rps] at h
  rw [h.1] at r
  cases r
  exact ⟨_, .nil⟩
 | d :: ds, vs, _, us, h, r => by
  simp only [Rps] at h
  obtain ⟨v, ws, F1, F2, rfl, rfl, h1, h2⟩ := h
  cases r with
  | cons r rr =>
   obtain ⟨as, ra⟩ := Rp.reads I h1 r
   obtain ⟨bs, rb⟩ := Rps.reads I h2 rr
   exact ⟨_, .cons ra rb⟩
end
end
noncomputable def gEq (a b : D) : Option D := if a.sim 8 && b.sim 8 then some (.bl (deq a b)) else none
noncomputable def gNe (a b : D) : Option D := if a.sim 8 && b.sim 8 then some (.bl (!deq a b)) else none
noncomputable def gIn (neg : Bool) (a b : D) : Option D := match b with
 | .lst xs => if a.sim 8 && b.sim 8 then some (.bl (if neg then !(xs.any λ y => deq y a) else xs.any λ y => deq y a)) else none
 | .tup xs => if a.sim 8 && b.sim 8 then some (.bl (if neg then !(xs.any λ y => deq y a) else xs.any λ y => deq y a)) else none
 | _ => none
noncomputable def Qsq (K : PySem.W.Frag) : R2 := λ x y H Q => ∃ a b F G, Rp K H a x F /\ Rp K H b y G /\ a.sim 8 = true /\ b.sim 8 = true /\ Q (.bl (deq a b)) H
noncomputable def Qsb (K : PySem.W.Frag) : R2 := λ x y H Q => ∃ a b F G, Rp K H a x F /\ Rp K H b y G /\ a.sim 8 = true /\ b.sim 8 = true /\ Q (.bl (!deq a b)) H
section
variable {X : Cx}
theorem Qra (hu : X.A.units + 64 < cLine) : OpR X (compareOp .Eq) (Qsq X.K) := by
 intro pins s σ H x y v u Q I rx ry h
 obtain ⟨a, b, F, G, ha, hb, sa, sb, q⟩ := h
 obtain ⟨as, ra⟩ := ha.reads I rx
 obtain ⟨bs, rb⟩ := hb.reads I ry
 have h1 := Qbk 8 a sa
 have h2 := Qbk 8 b sb
 exact SeqAt.compareEq_reads ra rb h1.1 h2.1 (by have := Nat.min_le_left a.py.depth b.py.depth; omega) ⟨.bl _, H, I, rfl, q⟩
theorem Qrn (hu : X.A.units + 64 < cLine) : OpR X (compareOp .NotEq) (Qsb X.K) := by
 intro pins s σ H x y v u Q I rx ry h
 obtain ⟨a, b, F, G, ha, hb, sa, sb, q⟩ := h
 obtain ⟨as, ra⟩ := ha.reads I rx
 obtain ⟨bs, rb⟩ := hb.reads I ry
 have h1 := Qbk 8 a sa
 have h2 := Qbk 8 b sb
 exact SeqAt.compareNe_reads ra rb h1.1 h2.1 (by have := Nat.min_le_left a.py.depth b.py.depth; omega) ⟨.bl _, H, I, rfl, q⟩
theorem QsP {K : PySem.W.Frag} : Qb4 K gEq (Qsq K) := λ a b d e => by
 unfold gEq at e
 split at e
 ·rename_i h
  simp only [Zf] at h
  cases e
  exact ⟨rfl, λ H x y F G Q ha hb q => ⟨a, b, F, G, ha, hb, h.1, h.2, q _ λ _ => .QcS⟩⟩
 ·cases e
theorem Qta {K : PySem.W.Frag} : Qb4 K gNe (Qsb K) := λ a b d e => by
 unfold gNe at e
 split at e
 ·rename_i h
  simp only [Zf] at h
  cases e
  exact ⟨rfl, λ H x y F G Q ha hb q => ⟨a, b, F, G, ha, hb, h.1, h.2, q _ λ _ => .QcS⟩⟩
 ·cases e
noncomputable def Qon (K : PySem.W.Frag) (neg : Bool) : R2 := λ x y H Q => ∃ a b F G xs, Rp K H a x F /\ Rp K H b y G /\ a.sim 8 = true /\ b.sim 8 = true /\ (b = .lst xs ∨ b = .tup xs) /\ Q (.bl (if neg then !(xs.any λ y => deq y a) else xs.any λ y => deq y a)) H
theorem QmH (xs : List D) (a : D) : ((pys xs).any λ y => PyData.eqv y a.py) = xs.any λ y => deq y a := by
 rw [Qlk, List.any_map]; rfl
theorem QrZ (hu : X.A.units + 64 < cLine) : OpR X (compareOp .In) (Qon X.K false) := by
 intro pins s σ H x y v u Q I rx ry h
 obtain ⟨a, b, F, G, xs, ha, hb, sa, sb, hk, q⟩ := h
 obtain ⟨as, ra⟩ := ha.reads I rx
 obtain ⟨bs, rb⟩ := hb.reads I ry
 have h1 := Qbk 8 a sa
 have h2 := Qbk 8 b sb
 have q' : Q (.bl ((pys xs).any λ y => PyData.eqv y a.py)) H := by rw [QmH]; exact q
 rcases hk with rfl | rfl
 ·exact SeqAt.in_list_reads rb ra h2.1 h1.1 (by have := Zbd (PyData.depthAll (pys xs)) a.py.depth; omega) ⟨.bl _, H, I, rfl, q'⟩
 ·exact SeqAt.in_tuple_reads rb ra h2.1 h1.1 (by have := Zbd (PyData.depthAll (pys xs)) a.py.depth; omega) ⟨.bl _, H, I, rfl, q'⟩
theorem Qms (hu : X.A.units + 64 < cLine) : OpR X (compareOp .NotIn) (Qon X.K true) := by
 intro pins s σ H x y v u Q I rx ry h
 obtain ⟨a, b, F, G, xs, ha, hb, sa, sb, hk, q⟩ := h
 obtain ⟨as, ra⟩ := ha.reads I rx
 obtain ⟨bs, rb⟩ := hb.reads I ry
 have h1 := Qbk 8 a sa
 have h2 := Qbk 8 b sb
 have q' : Q (.bl (!(pys xs).any λ y => PyData.eqv y a.py)) H := by rw [QmH]; exact q
 rcases hk with rfl | rfl
 ·exact SeqAt.notIn_list_reads rb ra h2.1 h1.1 (by have := Zbd (PyData.depthAll (pys xs)) a.py.depth; omega) ⟨.bl _, H, I, rfl, q'⟩
 ·exact SeqAt.notIn_tuple_reads rb ra h2.1 h1.1 (by have := Zbd (PyData.depthAll (pys xs)) a.py.depth; omega) ⟨.bl _, H, I, rfl, q'⟩
theorem Qpu {K : PySem.W.Frag} {neg : Bool} : Qb4 K (gIn neg) (Qon K neg) := λ a b d e => by
 unfold gIn at e
 split at e
 ·split at e
  ·rename_i h
   simp only [Zf] at h
   cases e
   exact ⟨rfl, λ H x y F G Q ha hb q => ⟨a, _, F, G, _, ha, hb, h.1, h.2, .inl rfl, q _ λ _ => .QcS⟩⟩
  ·cases e
 ·split at e
  ·rename_i h
   simp only [Zf] at h
   cases e
   exact ⟨rfl, λ H x y F G Q ha hb q => ⟨a, _, F, G, _, ha, hb, h.1, h.2, .inr rfl, q _ λ _ => .QcS⟩⟩
  ·cases e
 ·cases e
noncomputable def D.tyN : D -> String
 | .non => "NoneType" | .bl _ => "bool" | .int _ => "int" | .str _ => "str" | .tup _ => "tuple" | .lst _ => "list"
noncomputable def D.isa (T : String) (d : D) : Option Bool := if T == "int" || T == "bool" || T == "list" || T == "tuple" || T == "str" then some (d.tyN == T || (d.tyN == "bool" && T == "int")) else none
theorem QrT {pins : List (Addr × Obj)} {σ : L2.St} {H : Hp} {s : Shared} {A : Around} {E Q : Value -> Shared -> Prop} {d : D} {v : V} {F : List Addr} {u : Value} {T : String} {b : Bool} (I : Inv X pins σ H s) (rp : Rp X.K H d v F) (rx : RelV v u) (e : d.isa T = some b) (h : ∀ tk, Q (.bool b) { s with toks := tk }) :
  wpAny (model X.prog X.w) A (call (.builtin "isinstance") [u, .type T]) Q E s := by
 have kit : PySem.W.kitOne X.K (.type d.tyN) (.type T) = some b := by
  unfold D.isa at e
  split at e
  ·rename_i hT
   cases e
   simp only [Bool.or_eq_true, beq_iff_eq] at hT
   rcases hT with (((rfl | rfl) | rfl) | rfl) | rfl <;> cases d <;> rfl
  ·cases e
 cases d with
 | non => rw [rp.Qh6] at rx; cases (show u = Value.none from rx); exact ZaG PySem.W.kitx_none I.kIn True.intro kit (λ z => nomatch z) h
 | bl y => rw [rp.Qfk] at rx; cases (show u = Value.bool y from rx); exact ZaG PySem.W.kitx_bool I.kIn True.intro kit (λ z => nomatch z) h
 | int i => rw [rp.int_inv] at rx; obtain ⟨t, q⟩ := (show ∃ t, u = Value.int i t from rx); cases q; exact ZaG PySem.W.kitx_int I.kIn True.intro kit (λ z => nomatch z) h
 | str y => rw [rp.str_inv] at rx; obtain ⟨t, q⟩ := (show ∃ t, u = Value.str y t from rx); cases q; exact ZaG PySem.W.kitx_str I.kIn True.intro kit (λ z => nomatch z) h
 | tup ds =>
  obtain ⟨a, vs, rfl, hq, _⟩ := rp.QaQ
  cases (show u = Value.ref a from rx)
  obtain ⟨its, rv, ⟨o, h1, h2, n, h3⟩, _⟩ := I.tuple hq
  exact ZaG PySem.W.kitx_tuple I.kIn ⟨o, h1, h2⟩ kit (λ z => nomatch z) h
 | lst ds =>
  obtain ⟨a, vs, G, rfl, hq, _⟩ := rp.lst_inv
  cases (show u = Value.ref a from rx)
  obtain ⟨_, its, n, rv, _, e1⟩ := I.Qjt hq
  exact ZaG PySem.W.kitx_list I.kIn ⟨_, e1, rfl⟩ kit (λ z => nomatch z) h
noncomputable def Qt0 (K : PySem.W.Frag) : List V -> Hp -> VK -> Prop := λ xs H Q => ∃ x T d F b, xs = [x, .ty T] /\ Rp K H d x F /\ d.isa T = some b /\ Q (.bl b) H
theorem Qos : Qby X (.builtin "isinstance") (Qt0 X.K) := by
 intro pins s σ H xs us Q I r h
 obtain ⟨x, T, d, F, b, rfl, rp, e, q⟩ := h
 obtain ⟨u, w, rfl, ru, rw'⟩ := vals2 r
 cases (show w = Value.type T from rw')
 exact QrT I rp ru e λ tk => ⟨.bl b, H, I.tok _, rfl, q⟩
noncomputable def Qfw (T : String) (fa : DE) : DE := λ ρ => (fa ρ).bind λ r => (r.d.isa T).map λ b => ⟨.bl b, true, []⟩
theorem QrQ {a : Expr} {fa : DE} {T : String} {x : Str} {p p2 pos : Pos} (hg : Gl X "isinstance") (hm : X.mg "isinstance" = none) (ha : SE X a fa) (hT : PE X (.Name x p2) (tC (.ty T)))
  (he : starEach [a, .Name x p2] X.env = (false, eval a X.env) :: starEach [.Name x p2] X.env) : SE X (.Call (.Name "isinstance" p) [a, .Name x p2] [] pos) (Qfw T fa) := λ H0 A0 =>
 (QgY Qos hg hm PyProof.Rows.boot_isinstance (Qay (ha H0 A0) (Qay hT Qcd) he) (by decide) (by decide) he (by rfl)).mono λ σ H Q ⟨ρ, hs, F, r', rel, e, q⟩ => by
  obtain ⟨r, e1, e⟩ := bind1 e
  obtain ⟨b, eb, e⟩ := Zb.mp e
  subst e
  exact ⟨ρ, hs, F, r, rel, e1, λ v H1 G p => ⟨v, T, r.d, G, b, rfl, p.rp, eb, q _ H1 [] (.flat p.same .QcS)⟩⟩
noncomputable def D.tru : D -> Option Bool
 | .non => some false
 | .bl b => some b
 | .int i => some (i != 0)
 | .lst xs => some (!xs.isEmpty)
 | .tup xs => some (!xs.isEmpty)
 | .str _ => none
theorem QiO {K : PySem.W.Frag} {H : Hp} {d : D} {v : V} {F : List Addr} {b : Bool} (h : Rp K H d v F) (e : d.tru = some b) : Qo3 K v H b := by
 have emp : ∀ {ds : List D} {vs : List V} {G : List Addr}, Rps K H ds vs G -> (!ds.isEmpty) = !vs.isEmpty := λ {ds vs G} r => by
  have := r.length
  cases ds <;> cases vs <;> simp_all
 cases d with
 | non => rw [h.Qh6]; cases e; exact rfl
 | bl c => rw [h.Qfk]; cases e; exact rfl
 | int i => rw [h.int_inv]; cases e; exact rfl
 | str i => cases e
 | tup ds => cases e; obtain ⟨a, vs, rfl, hq, r⟩ := h.QaQ; exact .inr (.inl ⟨vs, hq, emp r⟩)
 | lst ds => cases e; obtain ⟨a, vs, G, rfl, hq, r, _⟩ := h.lst_inv; exact .inl ⟨vs, Q4 hq, emp r⟩
noncomputable def Qz (fa : DE) : DT := λ ρ => (fa ρ).bind λ r => r.d.tru
noncomputable def Qfd (f g : DT) : DT := λ ρ => (f ρ).bind λ b => if b = true then g ρ else some false
noncomputable def bOr (f g : DT) : DT := λ ρ => (f ρ).bind λ b => if b = true then some true else g ρ
noncomputable def Qb5 (f : DT) : DT := λ ρ => (f ρ).bind λ b => some (!b)
def SW (X : Cx) (e : Expr) (f : DT) : Prop := ∀ H0 A0, PW X e (tVT X.K H0 A0 f)
theorem _root_.L2.PW.mono {X : Cx} {e : Expr} {t t' : TT} (h : PW X e t) (m : ∀ σ H Q, t' σ H Q -> t σ H Q) : PW X e t' := λ wh pins s σ H Q I q => h wh pins s σ H Q I (m σ H Q q)
variable {a b e : Expr} {fa fb : DE} {ga gb gc : DT} {pos : Pos} {rest : List Expr}
theorem Qsg (ha : SE X a fa) (he : ∀ whole, isTrue a X.env whole = (do let v ← whole; standAt a.pos; holding [v] (truthy v))) : ST X a (Qz fa) := λ H0 A0 =>
 (Qpf (ha H0 A0) he).mono λ σ H Q ⟨ρ, hs, F, b, rel, e, q⟩ => by
  obtain ⟨r, e1, e⟩ := bind1 e
  exact ⟨ρ, hs, F, r, rel, e1, λ v H1 G p => ⟨b, QiO p.rp e, q H1 p.same⟩⟩
theorem QsF {op : CmpOp} {g : D -> D -> Option D} {r : R2} (ho : OpR X (compareOp op) r) (hg : Qb4 X.K g r) (hbl : ∀ a b d, g a b = some d -> ∃ k, d = .bl k) (ha : SE X a fa) (hb : SE X b fb) (hm : behindInMarks op b = false) : ST X (.Compare a [op] [b] pos) (Qz (dOp g fa fb)) := λ H0 A0 =>
 (Qqy ho (ha H0 A0) (hb H0 A0) hm).mono λ σ H Q ⟨ρ, hs, F, k, rel, e, q⟩ => by
  obtain ⟨r', e0, e⟩ := bind1 e
  obtain ⟨ra, rb, d, ea, eb, eg, rfl⟩ := QhO e0
  obtain ⟨k', rfl⟩ := hbl _ _ _ eg
  cases e
  refine two rel ea eb λ x y H1 H2 G1 G2 p1 p2 => (hg _ _ _ eg).2 H2 x y G1 G2 _ (p1.rp.same p2.same) p2.rp λ v hv => ?_
  exact ⟨_, (hv H2).Qfk, q H2 (p1.same.trans p2.same)⟩
theorem Qrs (ha : ST X a ga) : ST X (.UnaryOp .Not a pos) (Qb5 ga) := λ H0 A0 =>
 (Qru (ha H0 A0)).mono λ σ H Q ⟨ρ, hs, F, b, rel, e, q⟩ => by
  obtain ⟨c, e1, e⟩ := bind1 e
  cases e
  exact ⟨ρ, hs, F, c, rel, e1, λ H1 s1 => q H1 s1⟩
theorem QpI (ha : ST X a ga) : SW X (.BoolOp .And [a] pos) ga := λ H0 A0 => Qp7 (ha H0 A0)
theorem Qrj (ha : ST X a ga) : SW X (.BoolOp .Or [a] pos) ga := λ H0 A0 => QsA (ha H0 A0)
theorem Qrh (ha : ST X a ga) (hb : SW X (.BoolOp .And (b :: rest) pos) gb) : SW X (.BoolOp .And (a :: b :: rest) pos) (Qfd ga gb) := λ H0 A0 =>
 (Qq1 (ha H0 A0) (hb H0 A0)).mono λ σ H Q ⟨ρ, hs, F, c, rel, e, q⟩ => by
  obtain ⟨d, e1, e⟩ := bind1 e
  refine ⟨ρ, hs, F, d, rel, e1, λ H1 s1 => ?_⟩
  cases d with
  | true => exact ⟨ρ, hs, F, c, rel.ext s1, e, λ H2 s2 => q H2 (s1.trans s2)⟩
  | false => cases e; exact q H1 s1
theorem QsW (ha : ST X a ga) (hb : SW X (.BoolOp .Or (b :: rest) pos) gb) : SW X (.BoolOp .Or (a :: b :: rest) pos) (bOr ga gb) := λ H0 A0 =>
 (QsL (ha H0 A0) (hb H0 A0)).mono λ σ H Q ⟨ρ, hs, F, c, rel, e, q⟩ => by
  obtain ⟨d, e1, e⟩ := bind1 e
  refine ⟨ρ, hs, F, d, rel, e1, λ H1 s1 => ?_⟩
  cases d with
  | true => cases e; exact q H1 s1
  | false => exact ⟨ρ, hs, F, c, rel.ext s1, e, λ H2 s2 => q H2 (s1.trans s2)⟩
theorem SW.st (h : SW X e ga) : ST X e ga := λ H0 A0 => (h H0 A0).pt
noncomputable def Qem (fa fb : DE) : DE := λ ρ => (fa ρ).bind λ ra => (ra.d.tru).bind λ b => if b = true then fb ρ else some ra
noncomputable def dOr (fa fb : DE) : DE := λ ρ => (fa ρ).bind λ ra => (ra.d.tru).bind λ b => if b = true then some ra else fb ρ
noncomputable def Qor (fa : DE) : DE := λ ρ => (fa ρ).bind λ ra => (ra.d.tru).bind λ b => some ⟨.bl (!b), true, []⟩
noncomputable def dIf (g : DT) (fa fb : DE) : DE := λ ρ => (g ρ).bind λ b => if b = true then fa ρ else fb ρ
theorem Qnm {op} (h : SE X a fa) : SE X (.BoolOp op [a] pos) fa := λ H0 A0 => Qsf (h H0 A0)
theorem QW.ext {K : PySem.W.Frag} {ρ : En} {F : Nat -> List Addr} {H H1 H2 : Hp} {r : R} {v : V} {G : List Addr} (s : QH H H1) (p : QW K ρ F H1 H2 r v G) {H0 : Hp} {A0 : List Addr} {hs : List (V × D × List Addr)} {σ : L2.St} (rel : Rel K H0 A0 hs ρ F σ H) : QW K ρ F H H2 r v G where
 same := s.trans p.same
 rp := p.rp
 src := λ a ha => (p.src a ha).elim (λ z => .inl (s.free z)) .inr
 cnt := λ h => ⟨λ a => Zu ((p.cnt h).1 a) (Zbg (by
  cases q : H1 a with
  | none => rw [QaU q, QaU (s.free q)]; exact Zi _
  | some o => rw [Qda q]; exact ZW _) _), (p.cnt h).2⟩
 own := p.own
theorem QrN (ha : SE X a fa) (hb : SE X (.BoolOp .And (b :: rest) pos) fb) : SE X (.BoolOp .And (a :: b :: rest) pos) (Qem fa fb) := λ H0 A0 => by
 intro pins s σ H Q I ⟨ρ, hs, F, r, rel, e, q⟩
 obtain ⟨ra, e1, e⟩ := bind1 e
 obtain ⟨c, e2, e⟩ := bind1 e
 refine PyProof.Rows.BoolOp_and (thn (ha H0 A0 pins s σ H _ I ⟨ρ, hs, F, ra, rel, e1, λ v H' G p => (⟨G, p⟩ : ∃ G, QW X.K ρ F H H' ra v G)⟩) λ v s1 ⟨x, H1, I1, r1, G, p⟩ => ?_)
 refine thn (QhA pins s1 σ H1 x v (λ k H2 => k = c /\ H2 = H1) I1 r1 ⟨c, QiO p.rp e2, rfl, rfl⟩) λ k s2 ⟨H2, I2, e3, e4⟩ => ?_
 subst e3 e4
 cases k with
 | true => exact hb H0 A0 pins s2 σ _ Q I2 ⟨ρ, hs, F, r, rel.ext p.same, e, λ w H3 G3 p3 => q w H3 G3 (p3.ext p.same rel)⟩
 | false => cases e; exact ⟨x, _, I2, r1, q x _ G p⟩
theorem Qth (ha : SE X a fa) (hb : SE X (.BoolOp .Or (b :: rest) pos) fb) : SE X (.BoolOp .Or (a :: b :: rest) pos) (dOr fa fb) := λ H0 A0 => by
 intro pins s σ H Q I ⟨ρ, hs, F, r, rel, e, q⟩
 obtain ⟨ra, e1, e⟩ := bind1 e
 obtain ⟨c, e2, e⟩ := bind1 e
 refine PyProof.Rows.BoolOp_or (thn (ha H0 A0 pins s σ H _ I ⟨ρ, hs, F, ra, rel, e1, λ v H' G p => (⟨G, p⟩ : ∃ G, QW X.K ρ F H H' ra v G)⟩) λ v s1 ⟨x, H1, I1, r1, G, p⟩ => ?_)
 refine thn (QhA pins s1 σ H1 x v (λ k H2 => k = c /\ H2 = H1) I1 r1 ⟨c, QiO p.rp e2, rfl, rfl⟩) λ k s2 ⟨H2, I2, e3, e4⟩ => ?_
 subst e3 e4
 cases k with
 | false => exact hb H0 A0 pins s2 σ _ Q I2 ⟨ρ, hs, F, r, rel.ext p.same, e, λ w H3 G3 p3 => q w H3 G3 (p3.ext p.same rel)⟩
 | true => cases e; exact ⟨x, _, I2, r1, q x _ G p⟩
theorem QrF (ha : SE X a fa) : SE X (.UnaryOp .Not a pos) (Qor fa) := λ H0 A0 => by
 intro pins s σ H Q I ⟨ρ, hs, F, r, rel, e, q⟩
 obtain ⟨ra, e1, e⟩ := bind1 e
 obtain ⟨c, e2, e⟩ := bind1 e
 cases e
 refine PyProof.Rows.UnaryOp_ (thn (ha H0 A0 pins s σ H _ I ⟨ρ, hs, F, ra, rel, e1, λ v H' G p => (⟨G, p⟩ : ∃ G, QW X.K ρ F H H' ra v G)⟩) λ v s1 ⟨x, H1, I1, r1, G, p⟩ => ?_)
 refine PyProof.Rows.not_of (thn (QhA pins s1 σ H1 x v (λ k H2 => k = c /\ H2 = H1) I1 r1 ⟨c, QiO p.rp e2, rfl, rfl⟩) λ k s2 ⟨H2, I2, e3, e4⟩ => ?_)
 subst e3 e4
 exact ⟨.bl (!k), _, I2, rfl, q _ _ [] (.flat p.same .QcS)⟩
theorem Qtt {c : Expr} (hc : ST X c gc) (ha : SE X a fa) (hb : SE X b fb) : SE X (.IfExp c a b pos) (dIf gc fa fb) := λ H0 A0 =>
 (QnH (hc H0 A0) (ha H0 A0) (hb H0 A0)).mono λ σ H Q ⟨ρ, hs, F, r, rel, e, q⟩ => by
  obtain ⟨c, e1, e⟩ := bind1 e
  refine ⟨ρ, hs, F, c, rel, e1, λ H1 s1 => ?_⟩
  cases c with
  | true => exact ⟨ρ, hs, F, r, rel.ext s1, e, λ v H2 G p => q v H2 G (p.ext s1 rel)⟩
  | false => exact ⟨ρ, hs, F, r, rel.ext s1, e, λ v H2 G p => q v H2 G (p.ext s1 rel)⟩
noncomputable def Qsi (fa : DE) : DE := λ ρ => (fa ρ).bind λ ra => match ra.d with
 | .int i => some ⟨.int (-i), true, []⟩
 | _ => none
theorem QsD (ha : SE X a fa) : SE X (.UnaryOp .USub a pos) (Qsi fa) := λ H0 A0 =>
 (Qtz Qsv (ha H0 A0)).mono λ σ H Q ⟨ρ, hs, F, r, rel, e, q⟩ => by
  obtain ⟨ra, e1, e⟩ := bind1 e
  refine ⟨ρ, hs, F, ra, rel, e1, λ v H1 G p => ?_⟩
  have rp := p.rp
  cases hr : ra.d with
  | int i =>
   rw [hr] at e rp
   cases e
   exact ⟨i, rp.int_inv, q _ H1 [] (.flat p.same .int_mk)⟩
  | _ => rw [hr] at e; cases e
end
end HS
namespace HS
open PySem PySem.Spec L2
section
variable {K : PySem.W.Frag} {H0 H H' : Hp} {A0 : List Addr} {hs : List (V × D × List Addr)} {ρ ρ' : En} {F : Nat -> List Addr} {σ : L2.St}
def Qcb (ρ ρ' : En) : Prop := ρ'.length = ρ.length /\ ∀ (i : Nat) d b, ρ'[i]? = some (some (d, b)) -> ∃ b', ρ[i]? = some (some (d, b')) /\ (b = true -> b' = true)
theorem Qcb.refl : Qcb ρ ρ := ⟨rfl, λ i d b h => ⟨b, h, id⟩⟩
theorem Qcb.trans {ρ'' : En} (a : Qcb ρ ρ') (b : Qcb ρ' ρ'') : Qcb ρ ρ'' := ⟨b.1.trans a.1, λ i d c h => by
 obtain ⟨c', h1, h2⟩ := b.2 i d c h
 obtain ⟨c'', h3, h4⟩ := a.2 i d c' h1
 exact ⟨c'', h3, λ z => h4 (h2 z)⟩⟩
theorem Rel.weak (r : Rel K H0 A0 hs ρ F σ H) (w : Qcb ρ ρ') : Rel K H0 A0 hs ρ' F σ H where
 len := w.1.trans r.len
 val := λ i d b e => let ⟨b', h, _⟩ := w.2 i d b e; r.val i d b' h
 own := λ i d e => by
  obtain ⟨b', h, hb⟩ := w.2 i d true e
  have : b' = true := hb rfl
  subst this
  obtain ⟨h1, h2, h3, h4, h5⟩ := r.own i d h
  exact ⟨h1, h2, h3, λ j d' b' hj e' => let ⟨b'', h', _⟩ := w.2 j d' b' e'; h4 j d' b'' hj h', h5⟩
 src := λ i d b e => let ⟨b', h, _⟩ := w.2 i d b e; r.src i d b' h
 held := r.held
 same := r.same
noncomputable def kill : List Nat -> En -> En
 | [], ρ => ρ
 | i :: M, ρ => kill M (ρ.set i none)
noncomputable def QaL : List Nat -> En -> En
 | [], ρ => ρ
 | i :: M, ρ => QaL M (match ρ[i]? with
  | some (some (d, _)) => ρ.set i (some (d, false))
  | _ => ρ)
theorem QnC (i : Nat) : Qcb ρ (ρ.set i none) := ⟨by simp, λ j d b h => by
 by_cases hj : i = j
 ·subst hj
  by_cases hl : i < ρ.length
  ·rw [Zs hl] at h; cases h
  ·rw [Zr (by simp; omega)] at h; cases h
 ·rw [Zg hj] at h
  exact ⟨b, h, id⟩⟩
theorem Qce : ∀ (M : List Nat) (ρ : En), Qcb ρ (kill M ρ)
 | [], ρ => .refl
 | i :: M, ρ => (QnC i).trans (Qce M _)
theorem Qfn : ∀ (M : List Nat) (ρ : En) (i : Nat) (d : D) (b : Bool), i ∈ M -> (kill M ρ)[i]? = some (some (d, b)) -> False
 | [], ρ, i, d, b, h, _ => by simp at h
 | j :: M, ρ, i, d, b, h, e => by
  rcases Zw.mp h with rfl | h
  ·obtain ⟨b', e', _⟩ := (Qce M (ρ.set i none)).2 i d b e
   by_cases hl : i < ρ.length
   ·rw [Zs hl] at e'; cases e'
   ·rw [Zr (by simp; omega)] at e'; cases e'
  ·exact Qfn M _ i d b h e
theorem Qo0 (i : Nat) : Qcb ρ (match ρ[i]? with
  | some (some (d, _)) => ρ.set i (some (d, false))
  | _ => ρ) := by
 split
 ·rename_i d b e
  refine ⟨by simp, λ j d' b' h => ?_⟩
  by_cases hj : i = j
  ·subst hj
   have hl : i < ρ.length := (Zd.mp e).1
   rw [Zs hl] at h
   cases h
   exact ⟨b, e, λ z => by cases z⟩
  ·rw [Zg hj] at h
   exact ⟨b', h, id⟩
 ·exact .refl
theorem Qbc : ∀ (M : List Nat) (ρ : En), Qcb ρ (QaL M ρ)
 | [], ρ => .refl
 | i :: M, ρ => (Qo0 i).trans (Qbc M _)
theorem Qhp : ∀ (M : List Nat) (ρ : En) (i : Nat) (d : D), i ∈ M -> (QaL M ρ)[i]? = some (some (d, true)) -> False
 | [], ρ, i, d, h, _ => by simp at h
 | j :: M, ρ, i, d, h, e => by
  rcases Zw.mp h with rfl | h
  ·obtain ⟨b', e', hb⟩ := (Qbc M _).2 i d true e
   have : b' = true := hb rfl
   subst this
   split at e'
   ·rename_i d' b e1
    have hl : i < ρ.length := (Zd.mp e1).1
    rw [Zs hl] at e'
    cases e'
   ·rename_i h1
    exact h1 d true e'
  ·exact Qhp M _ i d h e
def Shr (H0 : Hp) (A0 : List Addr) (ρ : En) (F : Nat -> List Addr) (G : List Addr) : Prop :=
 ∀ a ∈ G, (H0 a = none ∨ a ∈ A0) /\ ∀ (i : Nat) d, ρ[i]? = some (some (d, true)) -> a ∉ F i
theorem Shr.of (r : Rel K H0 A0 hs ρ F σ H) {M : List Nat} {G : List Addr} (s : Src ρ F H M G) : Shr H0 A0 (QaL M ρ) F G := λ a ha => by
 have w := Qbc M ρ
 rcases s a ha with h | ⟨i, d, b, e, m, hm⟩
 ·refine ⟨.inl (r.same.free h), λ j d' e' hj => ?_⟩
  obtain ⟨b', e2, _⟩ := w.2 j d' true e'
  obtain ⟨vs, q⟩ := r.mem e2 hj
  rw [h] at q; cases q
 ·refine ⟨r.src i d b e a m, λ j d' e' hj => ?_⟩
  obtain ⟨b', e2, hb⟩ := w.2 j d' true e'
  have : b' = true := hb rfl
  subst this
  by_cases hij : i = j
  ·subst hij
   rw [e] at e2
   cases e2
   exact Qhp M ρ i _ (hm rfl) e'
  ·exact (r.own j d' e2).2.2.2.1 i d b hij e a hj m
theorem Rel.Qoy (r : Rel K H0 A0 hs ρ F σ H) {i : Nat} {d : D} {v : V} {G : List Addr} (rp : Rp K H d v G) (sh : Shr H0 A0 ρ F G) :
  Rel K H0 A0 hs (ρ.set i (some (d, d.flat))) (λ j => if j = i then G else F j) (σ.set i (some v)) H where
 len := by simp [r.len]
 val := λ j d' b e => by
  by_cases hj : j = i
  ·subst hj
   have hl : j < ρ.length := by
    by_cases hl : j < ρ.length
    ·exact hl
    ·rw [Zr (by simp; omega)] at e; cases e
   rw [Zs hl] at e
   cases e
   exact ⟨v, by rw [Zs (by rw [← r.len]; exact hl)], by rw [if_pos rfl]; exact rp⟩
  ·rw [Zg (Ne.symm hj)] at e
   obtain ⟨w, h1, h2⟩ := r.val j d' b e
   exact ⟨w, by rw [Zg (Ne.symm hj)]; exact h1, by rw [if_neg hj]; exact h2⟩
 own := λ j d' e => by
  by_cases hj : j = i
  ·subst hj
   have hl : j < ρ.length := by
    by_cases hl : j < ρ.length
    ·exact hl
    ·rw [Zr (by simp; omega)] at e; cases e
   rw [Zs hl] at e
   have e1 := Option.some.inj (Option.some.inj e)
   have ed : d = d' := congrArg Prod.fst e1
   have ef : d.flat = true := congrArg Prod.snd e1
   subst ed
   have := rp.QaZ ef
   subst this
   rw [if_pos rfl]
   exact ⟨(Qcs d ef).symm, Zac, λ a ha => by simp at ha, λ _ _ _ _ _ a ha => by simp at ha, λ _ _ a ha => by simp at ha⟩
  ·rw [Zg (Ne.symm hj)] at e
   obtain ⟨h1, h2, h3, h4, h5⟩ := r.own j d' e
   rw [if_neg hj]
   refine ⟨h1, h2, h3, λ k d'' b hk ek a ha => ?_, h5⟩
   by_cases hki : k = i
   ·subst hki
    rw [if_pos rfl]
    exact λ hG => (sh a hG).2 j d' e ha
   ·rw [Zg (Ne.symm hki)] at ek
    rw [if_neg hki]
    exact h4 k d'' b hk ek a ha
 src := λ j d' b e a ha => by
  by_cases hj : j = i
  ·subst hj
   rw [if_pos rfl] at ha
   exact (sh a ha).1
  ·rw [Zg (Ne.symm hj)] at e
   rw [if_neg hj] at ha
   exact r.src j d' b e a ha
 held := r.held
 same := r.same
theorem Qtb (r : Rel K H0 A0 hs ρ F σ H) {M : List Nat} (ow : QaX ρ M) (nd : M.Nodup) (a : Addr) : ((M.map F).flatten).count a <= 1 := by
 induction M with
 | nil => simp
 | cons i M ih =>
  rw [ZA, Zaa, Zab]
  obtain ⟨h1, h2⟩ := Zaw.mp nd
  have ih' := ih (λ j hj => ow j (Ze _ hj)) h2
  obtain ⟨d, e⟩ := ow i Zn
  obtain ⟨_, nd1, _, apart, _⟩ := r.own i d e
  by_cases ha : a ∈ F i
  ·have c1 : (F i).count a <= 1 := Zan.mp nd1 a
   have c2 : ((M.map F).flatten).count a = 0 := ZI.mpr λ hm => by
    obtain ⟨l, hl, hal⟩ := Zbc.mp hm
    obtain ⟨j, hj, rfl⟩ := ZQ.mp hl
    obtain ⟨d', e'⟩ := ow j (Ze _ hj)
    exact apart j d' true (λ z => h1 (z ▸ hj)) e' a ha hal
   omega
  ·have : (F i).count a = 0 := ZI.mpr ha
   omega
theorem QW.fresh (r : Rel K H0 A0 hs ρ F σ H) {rr : R} {v : V} {G : List Addr} (p : QW K ρ F H H' rr v G) (hf : rr.fr = true) (nd : rr.M.Nodup) :
  G.Nodup /\ ∀ a ∈ G, H0 a = none /\ (H a = none ∨ ∃ i d, i ∈ rr.M /\ ρ[i]? = some (some (d, true)) /\ a ∈ F i) := by
 obtain ⟨c, _⟩ := p.cnt hf
 refine ⟨Zan.mpr λ a => ?_, λ a ha => ?_⟩
 ·have h1 := c a
  have h2 := Qtb r p.own nd a
  cases q : H a with
  | none => rw [QaU q, r.fl0 p.own q] at h1; omega
  | some o => rw [Qda q] at h1; omega
 ·cases q : H a with
  | none => exact ⟨r.same.free q, .inl rfl⟩
  | some o =>
   have h1 := c a
   rw [Qda q] at h1
   have h2 : 0 < G.count a := Zal.mpr ha
   obtain ⟨l, hl, hal⟩ := Zbc.mp (Zal.mp (by omega : 0 < ((rr.M.map F).flatten).count a))
   obtain ⟨i, hi, rfl⟩ := ZQ.mp hl
   obtain ⟨d, e⟩ := p.own i hi
   exact ⟨(r.own i d e).2.2.1 a hal, .inr ⟨i, d, hi, e, hal⟩⟩
theorem Rel.Que (r : Rel K H0 A0 hs ρ F σ H) {i : Nat} {rr : R} {v : V} {G : List Addr} (p : QW K ρ F H H' rr v G) (hf : rr.fr = true) (nd : rr.M.Nodup) :
  Rel K H0 A0 hs ((kill rr.M ρ).set i (some (rr.d, true))) (λ j => if j = i then G else F j) (σ.set i (some v)) H' := by
 have r1 := (r.ext p.same).weak (Qce rr.M ρ)
 obtain ⟨gn, gs⟩ := p.fresh r hf nd
 have gl := (p.cnt hf).2
 have apart : ∀ (j : Nat) d b, (kill rr.M ρ)[j]? = some (some (d, b)) -> ∀ a ∈ G, a ∉ F j := λ j d b e a ha hj => by
  obtain ⟨b', e', _⟩ := (Qce rr.M ρ).2 j d b e
  rcases (gs a ha).2 with q | ⟨k, d', hk, ek, hak⟩
  ·obtain ⟨vs, w⟩ := r.mem e' hj
   rw [q] at w; cases w
  ·have hjk : j ≠ k := λ z => by subst z; exact Qfn rr.M ρ j d b hk e
   exact (r.own k d' ek).2.2.2.1 j d b' hjk e' a hak hj
 have apartH : ∀ t ∈ hs, ∀ a ∈ G, a ∉ t.2.2 := λ t ht a ha hj => by
  rcases (gs a ha).2 with q | ⟨k, d', hk, ek, hak⟩
  ·obtain ⟨vs, w⟩ := (r.held t ht).1.mem a hj
   rw [q] at w; cases w
  ·exact (r.own k d' ek).2.2.2.2 t ht a hak hj
 have lt : ∀ {j : Nat} {x : Option (D × Bool)} {y : D × Bool}, ((kill rr.M ρ).set j x)[j]? = some (some y) -> j < (kill rr.M ρ).length := λ {j x y} e => by
  by_cases hl : j < (kill rr.M ρ).length
  ·exact hl
  ·rw [Zr (by simp; omega)] at e; cases e
 refine ⟨by simp [r1.len], λ j d b e => ?_, λ j d e => ?_, λ j d b e a ha => ?_, r1.held, r1.same⟩
 ·by_cases hj : j = i
  ·subst hj
   have hl := lt e
   rw [Zs hl] at e
   cases e
   exact ⟨v, by rw [Zs (by rw [← r1.len]; exact hl)], by rw [if_pos rfl]; exact p.rp⟩
  ·rw [Zg (Ne.symm hj)] at e
   obtain ⟨w, h1, h2⟩ := r1.val j d b e
   exact ⟨w, by rw [Zg (Ne.symm hj)]; exact h1, by rw [if_neg hj]; exact h2⟩
 ·by_cases hj : j = i
  ·subst hj
   have hl := lt e
   rw [Zs hl] at e
   cases e
   rw [if_pos rfl]
   refine ⟨gl, gn, λ a ha => (gs a ha).1, λ k d' b hk ek a ha => ?_, apartH⟩
   rw [Zg (Ne.symm hk)] at ek
   rw [if_neg hk]
   exact apart k d' b ek a ha
  ·rw [Zg (Ne.symm hj)] at e
   obtain ⟨h1, h2, h3, h4, h5⟩ := r1.own j d e
   rw [if_neg hj]
   refine ⟨h1, h2, h3, λ k d' b hk ek a ha => ?_, h5⟩
   by_cases hki : k = i
   ·subst hki
    rw [if_pos rfl]
    exact λ hG => apart j d true e a hG ha
   ·rw [Zg (Ne.symm hki)] at ek
    rw [if_neg hki]
    exact h4 k d' b hk ek a ha
 ·by_cases hj : j = i
  ·subst hj
   rw [if_pos rfl] at ha
   exact .inl (gs a ha).1
  ·rw [Zg (Ne.symm hj)] at e
   rw [if_neg hj] at ha
   exact r1.src j d b e a ha
noncomputable def asg (i : Nat) (r : R) (ρ : En) : En :=
 if r.norm.fr && decide r.norm.M.Nodup then (kill r.norm.M ρ).set i (some (r.d, true)) else (QaL r.norm.M ρ).set i (some (r.d, r.d.flat))
theorem Rel.asg (r : Rel K H0 A0 hs ρ F σ H) {i : Nat} {rr : R} {v : V} {G : List Addr} (p : QW K ρ F H H' rr v G) : ∃ F', Rel K H0 A0 hs (asg i rr ρ) F' (σ.set i (some v)) H' := by
 have p' := p.norm
 unfold HS.asg
 split
 ·rename_i h
  simp only [Zf, decide_eq_true_eq] at h
  have := r.Que (i := i) p' h.1 h.2
  rw [rr.Qcy] at this
  exact ⟨_, this⟩
 ·have r1 := (r.ext p'.same).weak (Qbc rr.norm.M ρ)
  have rp := p'.rp
  rw [rr.Qcy] at rp
  have sh := Shr.of r p'.src
  exact ⟨_, r1.Qoy rp sh⟩
theorem Rel.hold (r : Rel K H0 A0 hs ρ F σ H) {ts : List (V × D × List Addr)} (h : ∀ t ∈ ts, Rp K H t.2.1 t.1 t.2.2 /\ Shr H0 A0 ρ F t.2.2) : Rel K H0 A0 (ts ++ hs) ρ F σ H where
 len := r.len
 val := r.val
 own := λ i d e => by
  obtain ⟨h1, h2, h3, h4, h5⟩ := r.own i d e
  refine ⟨h1, h2, h3, h4, λ t ht a ha hm => ?_⟩
  rcases Zy.mp ht with z | z
  ·exact ((h t z).2 a hm).2 i d e ha
  ·exact h5 t z a ha hm
 src := r.src
 held := λ t ht => by
  rcases Zy.mp ht with z | z
  ·exact ⟨(h t z).1, λ a ha => ((h t z).2 a ha).1⟩
  ·exact r.held t z
 same := r.same
theorem Rel.Qm4 {ts : List (V × D × List Addr)} (r : Rel K H0 A0 (ts ++ hs) ρ F σ H) : Rel K H0 A0 hs ρ F σ H where
 len := r.len
 val := r.val
 own := λ i d e => let ⟨h1, h2, h3, h4, h5⟩ := r.own i d e; ⟨h1, h2, h3, h4, λ t ht => h5 t (Zc _ ht)⟩
 src := r.src
 held := λ t ht => r.held t (Zc _ ht)
 same := r.same
end
end HS
namespace HS
open PySem PySem.Spec L2
structure Ret (K : PySem.W.Frag) (H0 : Hp) (A0 : List Addr) (d : D) (fr : Bool) (v : V) (H' : Hp) (G : List Addr) : Prop where
 same : QH H0 H'
 rp : Rp K H' d v G
 src : ∀ a ∈ G, H0 a = none ∨ a ∈ A0
 cnt : fr = true -> G.Nodup /\ G.length = d.nl /\ ∀ a ∈ G, H0 a = none
noncomputable abbrev Den := List D -> Option (D × Bool)
noncomputable def spV (K : PySem.W.Frag) (n : Nat) (den : Den) : Sp := λ vs H Q _ => ∃ ds F d fr, Rps K H ds vs F /\ ds.length = n /\ den ds = some (d, fr) /\ ∀ v H' G, Ret K H F d fr v H' G -> Q v H'
theorem QpH {K : PySem.W.Frag} {n : Nat} {den : Den} {ps : List Str} (hn : ps.length = n) : ∀ vs H Q E, spV K n den vs H Q E -> vs.length = ps.length := λ vs H Q E ⟨ds, F, d, fr, r, hl, _⟩ => by rw [hn, ← hl, r.length]
noncomputable def Qw (n : Nat) (den : Den) (dfl : List D) (fs : DA) : DE := λ ρ => (fs ρ).bind λ r => if r.ds.length + dfl.length = n then (den (r.ds ++ dfl)).map λ q => if q.2 = true then ⟨q.1, true, []⟩ else R.norm ⟨q.1, false, r.M⟩ else none
section
variable {X : Cx} {e : Expr} {es : List Expr} {fs : DA} {pos p : Pos} {x : Str} {n k : Nat} {f : Addr} {fd : FuncData} {ps : List Str} {den : Den} {dfl : List D} {dvs : List V} {ds : List Value}
theorem Qiw {σ : L2.St} {H H0 : Hp} {A0 : List Addr} {Q : VK} (hdf : ∀ H, Rps X.K H dfl dvs []) : tV X.K H0 A0 (Qw n den dfl fs) σ H Q -> QlQ (spV X.K n den) dvs E0 (tVA X.K H0 A0 fs) σ H Q := λ ⟨ρ, hs, F, r, rel, e, q⟩ => by
 obtain ⟨ra, e1, e⟩ := bind1 e
 split at e
 ·rename_i hl
  obtain ⟨⟨d, fr⟩, e2, e⟩ := Zb.mp e
  refine ⟨ρ, hs, F, ra, rel, e1, λ vs H1 G p1 => ⟨ra.ds ++ dfl, G ++ [], d, fr, p1.rp.append (hdf H1), by rw [Zl]; exact hl, e2, λ v H2 G2 rt => ?_⟩⟩
  subst e
  have src : Src ρ F H ra.M G2 := λ a ha => by
   rcases rt.src a ha with z | z
   ·exact .inl (p1.same.free z)
   ·rw [ZaQ] at z
    exact p1.src a z
  split at q
  ·rename_i hf
   have hf : fr = true := hf
   obtain ⟨nd, hn, fresh⟩ := rt.cnt hf
   have hH : ∀ a ∈ G2, H a = none := λ a ha => p1.same.free (fresh a ha)
   refine q v H2 G2 ⟨p1.same.trans rt.same, rt.rp, λ a ha => .inl (hH a ha), λ _ => ⟨λ a => ?_, hn⟩, QaX.nil⟩
   by_cases ha : a ∈ G2
   ·rw [QaU (hH a ha)]; have := Zan.mp nd a; omega
   ·rw [ZI.mpr ha]; exact ZW _
  ·refine q v H2 G2 (QW.norm ⟨p1.same.trans rt.same, rt.rp, src, λ z => (by cases z), p1.own⟩)
 ·cases e
theorem Qqj (Fk : Qbt X.prog X.w X.K X.mg X.base CX0 k f fd ps (spV X.K n den)) (hr : Qag k X.A) (hg : Gl X x) (hm : X.mg x = some (.ref f)) (hk : PySem.W.keepIn X.K (.ref f) = true) (hb : Binds X.K fd ps ds) (hd : Qt dvs ds) (hdf : ∀ H, Rps X.K H dfl dvs [])
  (ha : SA X (e :: es) fs) (hdb : (x == ("__debug__" : Str)) = false) (he : starEach (e :: es) X.env = (false, eval e X.env) :: starEach es X.env) (hpl : (backTo pos (starEach es X.env)).any (·.1) = false) :
  SE X (.Call (.Name x p) (e :: es) [] pos) (Qw n den dfl fs) := λ H0 A0 =>
 (Qqe Fk hr hg hm hk hb hd Qpv (ha H0 A0) hdb he hpl).mono λ σ H Q h => Qiw hdf h
theorem Qoo (Fk : Qbt X.prog X.w X.K X.mg X.base CX0 k f fd ps (spV X.K n den)) (hr : Qag k X.A) (hg : Gl X x) (hm : X.mg x = some (.ref f)) (hk : PySem.W.keepIn X.K (.ref f) = true) (hb : Binds X.K fd ps ds) (hd : Qt dvs ds) (hdf : ∀ H, Rps X.K H dfl dvs [])
  (hdb : (x == ("__debug__" : Str)) = false) : SE X (.Call (.Name x p) [] [] pos) (Qw n den dfl Qe) := λ H0 A0 =>
 (QoS Fk hr hg hm hk hb hd Qpv hdb).mono λ σ H Q h => by
  have h' := Qiw (X := X) (H0 := H0) (A0 := A0) hdf h
  obtain ⟨ρ, hs, F, r, rel, e, q⟩ := h'
  cases e
  exact q [] H [] ⟨QH.refl _, by simp [Rps], Src.nil, λ _ => ⟨Cnt.nil, rfl⟩, QaX.nil⟩
end
structure IR where
 items : List D
 M : List Nat
noncomputable abbrev DI := En -> Option IR
def Qjn (K : PySem.W.Frag) (H : Hp) (ts : List (V × D × List Addr)) : Prop := ∀ t ∈ ts, Rp K H t.2.1 t.1 t.2.2
structure Walk (K : PySem.W.Frag) (J : It) (ts : List (V × D × List Addr)) (ds : List D) : Prop where
 stop : ∀ H, Qjn K H ts -> J.stop ds.length H
 go : ∀ i H, i < ds.length -> Qjn K H ts -> J.go i H
 yld : ∀ (i : Nat) d H x H', ds[i]? = some d -> Qjn K H ts -> J.yld i H x H' -> QH H H' /\ ∃ G, Rp K H' d x G /\ ∀ a ∈ G, ∃ t ∈ ts, a ∈ t.2.2
noncomputable def tI (K : PySem.W.Frag) (H0 : Hp) (A0 : List Addr) (f : DI) : TI := λ σ H Rr => ∃ ρ hs F ir, Rel K H0 A0 hs ρ F σ H /\ f ρ = some ir ∧
 ∀ J H1 ts, QH H H1 -> Walk K J ts ir.items -> (∀ t ∈ ts, Rp K H1 t.2.1 t.1 t.2.2 /\ Src ρ F H ir.M t.2.2) -> QaX ρ ir.M -> ir.items.length <= sizeLine -> Rr J H1
def SI (X : Cx) (tg e : Expr) (f : DI) : Prop := ∀ H0 A0, PI X tg e (tI X.K H0 A0 f)
theorem _root_.L2.PI.mono {X : Cx} {tg e : Expr} {t t' : TI} (h : PI X tg e t) (m : ∀ σ H Q, t' σ H Q -> t σ H Q) : PI X tg e t' := λ pins s σ H Q I q => h pins s σ H Q I (m σ H Q q)
section
variable {X : Cx} {tg a b : Expr} {fa fb : DE} {fs : DA} {pos p : Pos}
theorem Rps.nth {K : PySem.W.Frag} {H : Hp} {ds : List D} {vs : List V} {F : List Addr} {i : Nat} {d : D} (h : Rps K H ds vs F) (e : ds[i]? = some d) : ∃ v G, vs[i]? = some v /\ Rp K H d v G /\ ∀ a ∈ G, a ∈ F := by
 obtain ⟨v, F1, G, F2, h1, h2, h3, _⟩ := h.get e
 exact ⟨v, G, h1, h3, λ a ha => by rw [h2]; exact Zc _ (Zh _ ha)⟩
noncomputable def QtU (K : PySem.W.Frag) (tl : TE) : TI := λ σ H Rr => tl σ H λ x H1 => (∃ a, x = .ref a /\ (∃ xs, SqL K H1 a xs) /\ Rr (Itl K a) H1) ∨ (∃ a, x = .ref a /\ (∃ xs, SqT K H1 a xs) /\ Rr (Itt K a) H1)
theorem Qsm {l : Expr} {tl : TE} (hl : PE X l tl) : PI X tg l (QtU X.K tl) := by
 intro pins s σ H Rr I h
 refine thn (hl pins s σ H _ I h) λ v s1 ⟨x, H1, I1, r1, q1⟩ => ?_
 rcases q1 with ⟨a, e, ⟨xs, hq⟩, q⟩ | ⟨a, e, ⟨xs, hq⟩, q⟩
 ·subst e
  cases r1
  obtain ⟨its, rv, pl, hz⟩ := I1.list hq
  refine wpAny_pyIter_list pl.isList ⟨s1.heap.objs.size, [s1.heap.objs.size], _, _, H1, rfl, I1.kept (t' := s1.toks) λ b o e => Zp _ e, QmY a _, ⟨_, ZE _ rfl, rfl, rfl⟩, λ b hb => ?_, q⟩
  have e : b = s1.heap.objs.size := by simpa using hb
  subst e
  exact I1.Qj3 (Zi _) (I1.hok.fresh (Zi _))
 ·subst e
  cases r1
  obtain ⟨its, rv, pl, hz⟩ := I1.tuple hq
  refine wpAny_pyIter_tuple (show s1.heap.IsTuple a its.toArray from pl) ⟨s1.heap.objs.size, [s1.heap.objs.size], _, _, H1, rfl, I1.kept (t' := s1.toks) λ b o e => Zp _ e, Qly a _, ⟨_, ZE _ rfl, rfl, rfl⟩, λ b hb => ?_, q⟩
  have e : b = s1.heap.objs.size := by simpa using hb
  subst e
  exact I1.Qj3 (Zi _) (I1.hok.fresh (Zi _))
noncomputable def Q2 (fa : DE) : DI := λ ρ => (fa ρ).bind λ r => match r.d with
 | .lst xs => some ⟨xs, r.M⟩
 | .tup xs => if xs.length <= sizeLine then some ⟨xs, r.M⟩ else none
 | _ => none
theorem QmE {K : PySem.W.Frag} {c : Addr} {ds : List D} {G : List Addr} : Walk K (Itl K c) [(.ref c, .lst ds, G)] ds where
 stop := λ H h => by
  obtain ⟨l, vs, L, e, hl, rl, zl, el⟩ := (h _ (Zv.mpr rfl)).lst_inv
  cases e
  exact ⟨vs, Q4 hl, by rw [rl.length]; exact Zi _⟩
 go := λ i H hi h => by
  obtain ⟨l, vs, L, e, hl, rl, zl, el⟩ := (h _ (Zv.mpr rfl)).lst_inv
  cases e
  have : i < vs.length := by rw [← rl.length]; exact hi
  exact ⟨vs, vs[i], Q4 hl, by simp [this]⟩
 yld := λ i d H x H' e h y => by
  obtain ⟨l, vs, L, e1, hl, rl, zl, el⟩ := (h _ (Zv.mpr rfl)).lst_inv
  cases e1
  obtain ⟨rfl, y⟩ := y
  obtain ⟨v, G', h1, h2, h3⟩ := rl.nth e
  have := y vs (Q4 hl)
  rw [h1] at this
  cases this
  refine ⟨QH.refl _, G', h2, λ z hz => ⟨_, Zv.mpr rfl, ?_⟩⟩
  have := h3 z hz
  rcases el with rfl | rfl
  ·exact Ze _ this
  ·exact this
theorem QnW {K : PySem.W.Frag} {c : Addr} {ds : List D} {G : List Addr} : Walk K (Itt K c) [(.ref c, .tup ds, G)] ds where
 stop := λ H h => by
  obtain ⟨l, vs, e, hl, rl⟩ := (h _ (Zv.mpr rfl)).QaQ
  cases e
  exact ⟨vs, hl, by rw [rl.length]; exact Zi _⟩
 go := λ i H hi h => by
  obtain ⟨l, vs, e, hl, rl⟩ := (h _ (Zv.mpr rfl)).QaQ
  cases e
  have : i < vs.length := by rw [← rl.length]; exact hi
  exact ⟨vs, vs[i], hl, by simp [this]⟩
 yld := λ i d H x H' e h y => by
  obtain ⟨l, vs, e1, hl, rl⟩ := (h _ (Zv.mpr rfl)).QaQ
  cases e1
  obtain ⟨rfl, y⟩ := y
  obtain ⟨v, G', h1, h2, h3⟩ := rl.nth e
  have := y vs hl
  rw [h1] at this
  cases this
  exact ⟨QH.refl _, G', h2, λ z hz => ⟨_, Zv.mpr rfl, h3 z hz⟩⟩
theorem Qr9 (ha : SE X a fa) : SI X tg a (Q2 fa) := λ H0 A0 => (Qsm (ha H0 A0)).mono λ σ H Rr ⟨ρ, hs, F, ir, rel, e, q⟩ => by
 obtain ⟨r, e1, e⟩ := bind1 e
 refine ⟨ρ, hs, F, r, rel, e1, λ v H1 G p => ?_⟩
 have rp := p.rp
 cases hr : r.d with
 | lst xs =>
  rw [hr] at e rp
  cases e
  obtain ⟨c, vs, L, rfl, hl, rl, zl, el⟩ := rp.lst_inv
  refine .inl ⟨c, rfl, ⟨vs, Q4 hl⟩, q _ H1 [(.ref c, .lst xs, G)] p.same QmE (λ t ht => ?_) p.own zl⟩
  rw [Zv.mp ht]
  exact ⟨rp, p.src⟩
 | tup xs =>
  rw [hr] at e rp
  dsimp only at e
  split at e
  ·rename_i hz
   cases e
   obtain ⟨c, vs, rfl, hl, rl⟩ := rp.QaQ
   refine .inr ⟨c, rfl, ⟨vs, hl⟩, q _ H1 [(.ref c, .tup xs, G)] p.same QnW (λ t ht => ?_) p.own hz⟩
   rw [Zv.mp ht]
   exact ⟨rp, p.src⟩
  ·cases e
 | _ => rw [hr] at e; cases e
noncomputable def QfE (lo : Int) (n : Nat) : List D := (List.range n).map λ (k : Nat) => .int (lo + (k : Int))
theorem QeN {lo : Int} {n : Nat} : (QfE lo n).length = n := by simp [QfE]
theorem Qn5 {lo : Int} {n i : Nat} {d : D} (h : (QfE lo n)[i]? = some d) : i < n /\ d = .int (lo + i) := by
 unfold QfE at h
 rw [Zm] at h
 cases q : (List.range n)[i]? with
 | none => rw [q] at h; cases h
 | some k =>
  rw [q] at h
  obtain ⟨h1, h2⟩ := Zd.mp q
  simp at h1 h2
  subst h2
  exact ⟨h1, (Option.some.inj h).symm⟩
theorem Qg2 {K : PySem.W.Frag} {lo : Int} {n : Nat} : Walk K (Itr lo n) [] (QfE lo n) where
 stop := λ H _ => by rw [QeN]; exact Zi _
 go := λ i H hi _ => by rw [QeN] at hi; exact hi
 yld := λ i d H x H' e _ y => by
  obtain ⟨h1, rfl⟩ := Qn5 e
  obtain ⟨rfl, rfl⟩ := y
  exact ⟨QH.refl _, [], .int_mk, λ z hz => by simp at hz⟩
noncomputable def QaJ (fa : DE) : DI := λ ρ => (fa ρ).bind λ r => match r.d with
 | .int j => if j <= 16777216 /\ -(2 ^ 62) <= j then some ⟨QfE 0 j.toNat, []⟩ else none
 | _ => none
noncomputable def QdF (fa fb : DE) : DI := λ ρ => (fa ρ).bind λ r => (fb ρ).bind λ r' => match r.d, r'.d with
 | .int i, .int j => if j - i <= 16777216 /\ -(2 ^ 62) <= i /\ i < 2 ^ 62 /\ -(2 ^ 62) <= j /\ j < 2 ^ 62 then some ⟨QfE i (j - i).toNat, []⟩ else none
 | _, _ => none
theorem QfS : (sizeLine : Nat) = 16777216 := sizeLine_eq
theorem QmB (hg : Gl X "range") (hm : X.mg "range" = none) (ha : SE X a fa) (hs : starEach [a] X.env = [(false, eval a X.env)]) : SI X tg (.Call (.Name "range" p) [a] [] pos) (QaJ fa) := λ H0 A0 =>
 (Qm1 hg hm (Qay (ha H0 A0) Qcd hs) hs).mono λ σ H Rr ⟨ρ, hs, F, ir, rel, e, q⟩ => by
  obtain ⟨r, e1, e⟩ := bind1 e
  refine ⟨ρ, hs, F, r, rel, e1, λ v H1 G pp => ?_⟩
  have rp := pp.rp
  cases hr : r.d with
  | int j =>
   rw [hr] at e rp
   dsimp only at e
   split at e
   ·rename_i hz
    cases e
    rw [rp.int_inv]
    refine ⟨j, rfl, hz.2, by omega, q _ H1 [] pp.same Qg2 (λ t ht => by simp at ht) QaX.nil ?_⟩
    rw [QeN, QfS]; omega
   ·cases e
  | _ => rw [hr] at e; cases e
theorem Qm2 (hg : Gl X "range") (hm : X.mg "range" = none) (ha : SE X a fa) (hb : SE X b fb) (hs : starEach [a, b] X.env = [(false, eval a X.env), (false, eval b X.env)]) (hs2 : starEach [b] X.env = [(false, eval b X.env)]) :
  SI X tg (.Call (.Name "range" p) [a, b] [] pos) (QdF fa fb) := λ H0 A0 =>
 (Qmr hg hm (Qay (ha H0 A0) (Qay (hb H0 A0) Qcd hs2) (by rw [hs, hs2])) hs hs2).mono λ σ H Rr ⟨ρ, hs, F, ir, rel, e, q⟩ => by
  obtain ⟨r, e1, e⟩ := bind1 e
  obtain ⟨r', e2, e⟩ := bind1 e
  refine ⟨ρ, hs, F, r, rel, e1, λ v H1 G pp => ⟨ρ, hs, F, r', rel.ext pp.same, e2, λ v' H2 G' pp' => ?_⟩⟩
  have rp := pp.rp.same pp'.same
  have rp' := pp'.rp
  cases hr : r.d with
  | int i =>
   cases hr' : r'.d with
   | int j =>
    rw [hr, hr'] at e
    rw [hr] at rp
    rw [hr'] at rp'
    dsimp only at e
    split at e
    ·rename_i hz
     cases e
     rw [rp.int_inv, rp'.int_inv]
     refine ⟨i, j, rfl, hz.2, q _ H2 [] (pp.same.trans pp'.same) Qg2 (λ t ht => by simp at ht) QaX.nil ?_⟩
     rw [QeN, QfS]; omega
    ·cases e
   | _ => rw [hr, hr'] at e; cases e
  | _ => rw [hr] at e; cases e
noncomputable def Qdz (ds : List D) : List D := ds.zipIdx.map λ q => .tup [.int q.2, q.1]
theorem Qfx {ds : List D} : (Qdz ds).length = ds.length := by simp [Qdz]
theorem QmZ {ds : List D} {i : Nat} {d : D} (h : (Qdz ds)[i]? = some d) : ∃ e, ds[i]? = some e /\ d = .tup [.int i, e] := by
 unfold Qdz at h
 rw [Zm, List.getElem?_zipIdx] at h
 cases q : ds[i]? with
 | none => rw [q] at h; cases h
 | some e => rw [q] at h; simp at h; exact ⟨e, rfl, h.symm⟩
theorem Qnn {K : PySem.W.Frag} {c : Addr} {ds : List D} {G : List Addr} : Walk K (Ite K c) [(.ref c, .lst ds, G)] (Qdz ds) where
 stop := λ H h => by
  obtain ⟨l, vs, L, e, hl, rl, zl, el⟩ := (h _ (Zv.mpr rfl)).lst_inv
  cases e
  exact ⟨vs, Q4 hl, by rw [Qfx, rl.length]; exact Zi _⟩
 go := λ i H hi h => by
  obtain ⟨l, vs, L, e, hl, rl, zl, el⟩ := (h _ (Zv.mpr rfl)).lst_inv
  cases e
  rw [Qfx] at hi
  have : i < vs.length := by rw [← rl.length]; exact hi
  exact ⟨vs, vs[i], Q4 hl, by simp [this]⟩
 yld := λ i d H x H' e h y => by
  obtain ⟨l, vs, L, e1, hl, rl, zl, el⟩ := (h _ (Zv.mpr rfl)).lst_inv
  cases e1
  obtain ⟨d', e', rfl⟩ := QmZ e
  obtain ⟨pp, u, rfl, hp, rfl, y⟩ := y
  obtain ⟨v, G', h1, h2, h3⟩ := rl.nth e'
  have := y vs (Q4 hl)
  rw [h1] at this
  cases this
  have s := QbK (o := .tup [.int i, u]) hp
  refine ⟨s, G', Rp.Qhl Qaj ?_, λ z hz => ⟨_, Zv.mpr rfl, ?_⟩⟩
  ·simp only [Rps]
   exact ⟨.int i, [u], [], G', rfl, rfl, .int_mk, u, [], G', [], rfl, by simp, h2.same s, rfl, rfl⟩
  ·have := h3 z hz
   rcases el with rfl | rfl
   ·exact Ze _ this
   ·exact this
noncomputable def QeB (fa : DE) : DI := λ ρ => (fa ρ).bind λ r => match r.d with
 | .lst xs => some ⟨Qdz xs, r.M⟩
 | _ => none
theorem Qp3 {es : List Expr} {tk : Nat} {tpos : Pos} (hg : Gl X "enumerate") (hm : X.mg "enumerate" = none) (ha : SE X a fa) (hs : starEach [a] X.env = [(false, eval a X.env)]) : SI X (.Tuple es tk tpos) (.Call (.Name "enumerate" p) [a] [] pos) (QeB fa) := λ H0 A0 =>
 (QqU hg hm (Qay (ha H0 A0) Qcd hs) hs).mono λ σ H Rr ⟨ρ, hs, F, ir, rel, e, q⟩ => by
  obtain ⟨r, e1, e⟩ := bind1 e
  refine ⟨ρ, hs, F, r, rel, e1, λ v H1 G pp => ?_⟩
  have rp := pp.rp
  cases hr : r.d with
  | lst xs =>
   rw [hr] at e rp
   cases e
   obtain ⟨c, vs, L, rfl, hl, rl, zl, el⟩ := rp.lst_inv
   refine ⟨c, rfl, ⟨vs, Q4 hl⟩, q _ H1 [(.ref c, .lst xs, G)] pp.same Qnn (λ t ht => ?_) pp.own (by rw [Qfx]; exact zl)⟩
   rw [Zv.mp ht]
   exact ⟨rp, pp.src⟩
  | _ => rw [hr] at e; cases e
noncomputable def Qft (xs ys : List D) : List D := (xs.zip ys).map λ q => .tup [q.1, q.2]
theorem QgA {xs ys : List D} : (Qft xs ys).length = min xs.length ys.length := by simp [Qft]
theorem Qpj {xs ys : List D} {i : Nat} {d : D} (h : (Qft xs ys)[i]? = some d) : ∃ e f, xs[i]? = some e /\ ys[i]? = some f /\ d = .tup [e, f] := by
 unfold Qft at h
 rw [Zm] at h
 cases q : (xs.zip ys)[i]? with
 | none => rw [q] at h; cases h
 | some e =>
  rw [q] at h
  obtain ⟨h1, h2⟩ := List.getElem?_zip_eq_some.mp q
  exact ⟨e.1, e.2, h1, h2, (Option.some.inj h).symm⟩
theorem QoM {K : PySem.W.Frag} {c c' : Addr} {xs ys : List D} {G G' : List Addr} : Walk K (Itz K c c') [(.ref c, .lst xs, G), (.ref c', .lst ys, G')] (Qft xs ys) where
 stop := λ H h => by
  obtain ⟨l, vs, L, e, hl, rl, zl, el⟩ := (h _ (Zn)).lst_inv
  obtain ⟨l', vs', L', e', hl', rl', zl', el'⟩ := (h _ (Ze _ Zn)).lst_inv
  cases e
  cases e'
  refine ⟨vs, vs', Q4 hl, Q4 hl', ?_⟩
  rw [QgA, ← rl.length, ← rl'.length]; omega
 go := λ i H hi h => by
  obtain ⟨l, vs, L, e, hl, rl, zl, el⟩ := (h _ (Zn)).lst_inv
  obtain ⟨l', vs', L', e', hl', rl', zl', el'⟩ := (h _ (Ze _ Zn)).lst_inv
  cases e
  cases e'
  rw [QgA] at hi
  have h1 : i < vs.length := by rw [← rl.length]; omega
  have h2 : i < vs'.length := by rw [← rl'.length]; omega
  exact ⟨vs, vs', vs[i], vs'[i], Q4 hl, Q4 hl', by simp [h1], by simp [h2]⟩
 yld := λ i d H x H' e h y => by
  obtain ⟨l, vs, L, e1, hl, rl, zl, el⟩ := (h _ (Zn)).lst_inv
  obtain ⟨l', vs', L', e1', hl', rl', zl', el'⟩ := (h _ (Ze _ Zn)).lst_inv
  cases e1
  cases e1'
  obtain ⟨d1, d2, ea, eb, rfl⟩ := Qpj e
  obtain ⟨pp, u, u', rfl, hp, rfl, y, y'⟩ := y
  obtain ⟨v, G1, h1, h2, h3⟩ := rl.nth ea
  obtain ⟨v', G2, h1', h2', h3'⟩ := rl'.nth eb
  have := y vs (Q4 hl)
  rw [h1] at this
  cases this
  have := y' vs' (Q4 hl')
  rw [h1'] at this
  cases this
  have s := QbK (o := .tup [u, u']) hp
  refine ⟨s, G1 ++ G2, Rp.Qhl Qaj ?_, λ z hz => ?_⟩
  ·simp only [Rps]
   exact ⟨u, [u'], G1, G2, rfl, rfl, h2.same s, u', [], G2, [], rfl, by simp, h2'.same s, rfl, rfl⟩
  ·rcases Zy.mp hz with hz | hz
   ·refine ⟨_, Zn, ?_⟩
    have := h3 z hz
    rcases el with rfl | rfl
    ·exact Ze _ this
    ·exact this
   ·refine ⟨_, Ze _ Zn, ?_⟩
    have := h3' z hz
    rcases el' with rfl | rfl
    ·exact Ze _ this
    ·exact this
noncomputable def QbC (fa fb : DE) : DI := λ ρ => (fa ρ).bind λ r => (fb ρ).bind λ r' => match r.d, r'.d with
 | .lst xs, .lst ys => some ⟨Qft xs ys, r.M ++ r'.M⟩
 | _, _ => none
theorem Qsl {es : List Expr} {tk : Nat} {tpos : Pos} (hg : Gl X "zip") (hm : X.mg "zip" = none) (ha : SE X a fa) (hb : SE X b fb) (hs : starEach [a, b] X.env = [(false, eval a X.env), (false, eval b X.env)]) (hs2 : starEach [b] X.env = [(false, eval b X.env)]) :
  SI X (.Tuple es tk tpos) (.Call (.Name "zip" p) [a, b] [] pos) (QbC fa fb) := λ H0 A0 =>
 (Qr5 hg hm (Qay (ha H0 A0) (Qay (hb H0 A0) Qcd hs2) (by rw [hs, hs2])) hs hs2).mono λ σ H Rr ⟨ρ, hs, F, ir, rel, e, q⟩ => by
  obtain ⟨r, e1, e⟩ := bind1 e
  obtain ⟨r', e2, e⟩ := bind1 e
  refine ⟨ρ, hs, F, r, rel, e1, λ v H1 G pp => ⟨ρ, hs, F, r', rel.ext pp.same, e2, λ v' H2 G' pp' => ?_⟩⟩
  have rp := pp.rp.same pp'.same
  have rp' := pp'.rp
  cases hr : r.d with
  | lst xs =>
   cases hr' : r'.d with
   | lst ys =>
    rw [hr, hr'] at e
    rw [hr] at rp
    rw [hr'] at rp'
    cases e
    obtain ⟨c, vs, L, rfl, hl, rl, zl, el⟩ := rp.lst_inv
    obtain ⟨c', vs', L', rfl, hl', rl', zl', el'⟩ := rp'.lst_inv
    refine ⟨c, c', rfl, ⟨vs, Q4 hl⟩, ⟨vs', Q4 hl'⟩, q _ H2 [(.ref c, .lst xs, G), (.ref c', .lst ys, G')] (pp.same.trans pp'.same) QoM (λ t ht => ?_) (pp.own.append pp'.own) (by rw [QgA]; omega)⟩
    have sa := pp.src.append pp'.src pp.same
    rcases Zw.mp ht with rfl | ht
    ·exact ⟨rp, λ z hz => sa z (Zh _ hz)⟩
    ·rw [Zv.mp ht]
     exact ⟨rp', λ z hz => sa z (Zc _ hz)⟩
   | _ => rw [hr, hr'] at e; cases e
  | _ => rw [hr] at e; cases e
end
end HS
namespace HS
open PySem L2
section
variable {X : Cx} {a b c : Expr} {fa fb fc : DE} {pos p : Pos}
end
end HS
namespace HS
open PySem PySem.Spec L2
inductive Tg where
 | nm (i : Nat)
 | tp (is : List Nat)
noncomputable def Tg.slots : Tg -> List Nat
 | .nm i => [i]
 | .tp is => is
noncomputable def QdU : List Nat -> List D -> En -> En
 | i :: is, d :: ds, ρ => QdU is ds (ρ.set i (some (d, d.flat)))
 | _, _, ρ => ρ
noncomputable def Qb8 : Tg -> D -> En -> Option En
 | .nm i, d, ρ => some (ρ.set i (some (d, d.flat)))
 | .tp is, .tup xs, ρ => if xs.length = is.length then some (QdU is xs ρ) else none
 | .tp _, _, _ => none
noncomputable def tG (K : PySem.W.Frag) (H0 : Hp) (A0 : List Addr) (t : Tg) : TG := λ v σ H Q => ∃ ρ hs F d G ρ', Rel K H0 A0 hs ρ F σ H /\ Rp K H d v G /\ Shr H0 A0 ρ F G /\ Qb8 t d ρ = some ρ' ∧
 ∀ σ' F', Rel K H0 A0 hs ρ' F' σ' H -> (∀ j, j ∉ t.slots -> σ'[j]? = σ[j]?) -> (∀ j a, a ∈ F' j -> a ∈ F j ∨ a ∈ G) -> Q σ' H
def SG (X : Cx) (tg : Expr) (t : Tg) : Prop := ∀ H0 A0, PG X tg (tG X.K H0 A0 t)
theorem _root_.L2.PG.mono {X : Cx} {tg : Expr} {t t' : TG} (h : PG X tg t) (m : ∀ v σ H Q, t' v σ H Q -> t v σ H Q) : PG X tg t' := λ pins s σ H v u Q I r q => h pins s σ H v u Q I r (m v σ H Q q)
noncomputable def Qhx : List Nat -> TGs
 | [] => Qsx
 | i :: is => Qpx (QfQ i) (Qhx is)
theorem Shr.set {H0 : Hp} {A0 : List Addr} {ρ : En} {F : Nat -> List Addr} {G G1 : List Addr} {i : Nat} {d : D} (h : Shr H0 A0 ρ F G) (hf : d.flat = true -> G1 = []) : Shr H0 A0 (ρ.set i (some (d, d.flat))) (λ j => if j = i then G1 else F j) G := λ a ha => by
 refine ⟨(h a ha).1, λ j d' e => ?_⟩
 by_cases hj : j = i
 ·subst hj
  show ¬ a ∈ (if j = j then G1 else F j)
  rw [if_pos rfl]
  have hl : j < ρ.length := by
   by_cases hl : j < ρ.length
   ·exact hl
   ·rw [Zr (by simp; omega)] at e; cases e
  rw [Zs hl] at e
  have e1 := Option.some.inj (Option.some.inj e)
  rw [hf (congrArg Prod.snd e1)]
  simp
 ·rw [Zg (Ne.symm hj)] at e
  show ¬ a ∈ (if j = i then G1 else F j)
  rw [if_neg hj]
  exact (h a ha).2 j d' e
theorem Qjo {K : PySem.W.Frag} {H0 : Hp} {A0 : List Addr} {hs : List (V × D × List Addr)} : ∀ (is : List Nat) (ds : List D) (vs : List V) (ρ : En) (F : Nat -> List Addr) (σ : L2.St) (H : Hp) (G : List Addr) (Q : L2.St -> Hp -> Prop),
  Rel K H0 A0 hs ρ F σ H -> Rps K H ds vs G -> Shr H0 A0 ρ F G -> ds.length = is.length →
  (∀ σ' F', Rel K H0 A0 hs (QdU is ds ρ) F' σ' H -> (∀ j, j ∉ is -> σ'[j]? = σ[j]?) -> (∀ j a, a ∈ F' j -> a ∈ F j ∨ a ∈ G) -> Q σ' H) -> Qhx is vs σ H Q
 | [], ds, vs, ρ, F, σ, H, G, Q, rel, rp, sh, hl, q => by
  have : ds = [] := by simpa using hl
  subst this
  simp only [Rps] at rp
  exact ⟨rp.1, q σ F rel (λ _ _ => rfl) λ _ _ h => .inl h⟩
 | i :: is, [], vs, ρ, F, σ, H, G, Q, rel, rp, sh, hl, q => by simp at hl
 | i :: is, d :: ds, vs, ρ, F, σ, H, G, Q, rel, rp, sh, hl, q => by
  simp only [Rps] at rp
  obtain ⟨v, ws, G1, G2, rfl, rfl, r1, r2⟩ := rp
  refine ⟨v, ws, rfl, ?_⟩
  have sh1 : Shr H0 A0 ρ F G1 := λ a ha => sh a (Zh _ ha)
  have sh2 : Shr H0 A0 ρ F G2 := λ a ha => sh a (Zc _ ha)
  refine Qjo is ds ws _ _ _ H G2 Q (rel.Qoy (i := i) r1 sh1) r2 (sh2.set r1.QaZ) (by simpa using hl) λ σ' F' rel' k m => q σ' F' rel' (λ j hj => ?_) λ j a ha => ?_
  ·have h1 : j ≠ i := λ z => hj (by rw [z]; exact Zn)
   rw [k j λ z => hj (Ze _ z), Zg (Ne.symm h1)]
  ·rcases m j a ha with z | z
   ·by_cases hj : j = i
    ·rw [if_pos hj] at z; exact .inr (Zh _ z)
    ·rw [if_neg hj] at z; exact .inl z
   ·exact .inr (Zc _ z)
section
variable {X : Cx} {tg : Expr} {pos : Pos}
theorem Qqd {i : Nat} {x : Str} (h : PG X (.Name x pos) (QfQ i)) : SG X (.Name x pos) (.nm i) := λ H0 A0 => h.mono λ v σ H Q ⟨ρ, hs, F, d, G, ρ', rel, rp, sh, e, q⟩ => by
 cases e
 refine q _ _ (rel.Qoy (i := i) rp sh) (λ j hj => ?_) λ j a ha => ?_
 ·have : j ≠ i := λ z => hj (by simp [Tg.slots, z])
  rw [Zg (Ne.symm this)]
 ·by_cases hj : j = i
  ·rw [if_pos hj] at ha; exact .inr ha
  ·rw [if_neg hj] at ha; exact .inl ha
theorem Qq4 {es : List Expr} {k : Nat} {is : List Nat} (hc : X.calm = true) (h : PGs X es (Qhx is)) (hn : (assignEach es X.env).length = is.length) (hst : (assignEach es X.env).findIdx? (·.1) = none) : SG X (.Tuple es k pos) (.tp is) := λ H0 A0 =>
 (Qss hc h hn hst).mono λ v σ H Q ⟨ρ, hs, F, d, G, ρ', rel, rp, sh, e, q⟩ => by
  cases d with
  | tup xs =>
   simp only [Qb8] at e
   split at e
   ·rename_i hl
    cases e
    obtain ⟨a, vs, rfl, hq, rs⟩ := rp.QaQ
    exact ⟨a, vs, rfl, hq, by rw [← rs.length]; exact hl, Qjo is xs vs ρ F σ H G Q rel rs sh hl q⟩
   ·cases e
  | _ => simp only [Qb8] at e; cases e
end
noncomputable def Qdx (cap : List (Option Nat)) (ρ : En) : En := cap.map λ o => o.bind λ i => match ρ[i]? with
 | some (some (d, _)) => some (d, d.flat)
 | _ => none
noncomputable def Ql4 (cap : List (Option Nat)) (ρ : En) : List Nat := cap.filterMap λ o => o.bind λ i => match ρ[i]? with
 | some (some (d, b)) => if b && !d.flat then some i else none
 | _ => none
noncomputable def Qee (t : Tg) (ft : DT) (fe : DE) (ρc : En) (acc : List D × Bool) (d : D) : Option (List D × Bool) :=
 (Qb8 t d ρc).bind λ ρ1 => (ft ρ1).bind λ c => if c = true then (fe ρ1).map λ r => (acc.1 ++ [r.d], acc.2 && r.norm.fr) else some acc
noncomputable def QK (fi : DI) (t : Tg) (cap : List (Option Nat)) (ft : DT) (fe : DE) : DE := λ ρ => (fi ρ).bind λ ir =>
 (ir.items.foldlM (Qee t ft fe (Qdx cap ρ)) ([], true)).map λ q => if q.2 = true then ⟨.lst q.1, true, []⟩ else ⟨.lst q.1, false, ir.M ++ Ql4 cap ρ⟩
def Qcn (ρ : En) : Prop := ∀ (j : Nat) d, ρ[j]? = some (some (d, true)) -> d.flat = true
theorem Qcn.set {ρ : En} (h : Qcn ρ) (i : Nat) (d : D) : Qcn (ρ.set i (some (d, d.flat))) := λ j d' e => by
 by_cases hj : j = i
 ·subst hj
  have hl : j < ρ.length := by
   by_cases hl : j < ρ.length
   ·exact hl
   ·rw [Zr (by simp; omega)] at e; cases e
  rw [Zs hl] at e
  have e1 := Option.some.inj (Option.some.inj e)
  have h1 : d = d' := congrArg Prod.fst e1
  have h2 : d.flat = true := congrArg Prod.snd e1
  rw [← h1]; exact h2
 ·rw [Zg (Ne.symm hj)] at e
  exact h j d' e
theorem Qcn.QdU : ∀ (is : List Nat) (ds : List D) {ρ : En}, Qcn ρ -> Qcn (QdU is ds ρ)
 | [], _, _, h => h
 | _ :: _, [], _, h => h
 | i :: is, d :: ds, _, h => Qcn.QdU is ds (h.set i d)
theorem Qcn.bind {t : Tg} {d : D} {ρ ρ' : En} (h : Qcn ρ) (e : Qb8 t d ρ = some ρ') : Qcn ρ' := by
 cases t with
 | nm i => cases e; exact h.set i d
 | tp is =>
  cases d with
  | tup xs =>
   simp only [Qb8] at e
   split at e
   ·cases e; exact h.QdU is xs
   ·cases e
  | _ => simp only [Qb8] at e; cases e
theorem Qgx (cap : List (Option Nat)) (ρ : En) : Qcn (Qdx cap ρ) := λ j d e => by
 unfold Qdx at e
 rw [Zm] at e
 cases q : cap[j]? with
 | none => rw [q] at e; cases e
 | some o =>
  rw [q] at e
  cases o with
  | none => cases e
  | some i =>
   simp only [ZX, Za, Option.some.injEq] at e
   split at e
   ·have e1 := Option.some.inj e
    have h1 := congrArg Prod.fst e1
    have h2 := congrArg Prod.snd e1
    dsimp only at h1 h2
    rw [← h1]; exact h2
   ·cases e
theorem Qij {cap : List (Option Nat)} {ρ : En} {j : Nat} {d : D} {b : Bool} (e : (Qdx cap ρ)[j]? = some (some (d, b))) : ∃ i b', cap[j]? = some (some i) /\ ρ[i]? = some (some (d, b')) := by
 unfold Qdx at e
 rw [Zm] at e
 cases q : cap[j]? with
 | none => rw [q] at e; cases e
 | some o =>
  rw [q] at e
  cases o with
  | none => cases e
  | some i =>
   simp only [ZX, Za, Option.some.injEq] at e
   split at e
   ·rename_i d' b' hi
    have e1 := Option.some.inj e
    have h1 : d' = d := congrArg Prod.fst e1
    subst h1
    exact ⟨i, b', rfl, hi⟩
   ·cases e
def QjG (X : Cx) (ifs : List Expr) (f : DT) : Prop := ∀ H0 A0, PTs X ifs (tVT X.K H0 A0 f)
noncomputable def QX : DT := λ _ => some true
theorem Qn0 {X : Cx} : QjG X [] QX := λ H0 A0 pins s σ H Q I ⟨ρ, hs, F, b, rel, e, q⟩ => by
 cases e
 exact Qqo pins s σ H Q I (q H (QH.refl _))
theorem QoV {X : Cx} {c : Expr} {f : DT} (h : ST X c f) : QjG X [c] f := λ H0 A0 => QqS (h H0 A0)
structure QiU (X : Cx) (N' : List Str) (scope : Scope) (cap : List (Option Nat)) (tgs : List Nat) : Prop where
 len : cap.length = N'.length
 get : ∀ (j i : Nat), cap[j]? = some (some i) -> ∃ x, N'[j]? = some x /\ scope.names.lookup x = some .free /\ X.N[i]? = some x /\ (X.env.kindOf x = some .cell ∨ X.env.kindOf x = some .free)
 apart : ∀ (j i : Nat), cap[j]? = some (some i) -> j ∉ tgs
theorem join_some {α : Type} {o : Option (Option α)} {v : α} (h : o.join = some v) : o = some (some v) := by
 cases o with
 | none => cases h
 | some p => cases p with
  | none => cases h
  | some x => exact h ▸ rfl
theorem Qir {X : Cx} {N' : List Str} {scope : Scope} {fi : DI} {t : Tg} {cap : List (Option Nat)} {ft : DT} {fe : DE} {H0 : Hp} {A0 : List Addr} {σ : L2.St} {H : Hp} {Q : VK} (hc : QiU X N' scope cap t.slots) :
  tV X.K H0 A0 (QK fi t cap ft fe) σ H Q -> QiP (tI X.K H0 A0 fi) (Qhz X N' scope) (tG X.K (λ _ => none) [] t) (tVT X.K (λ _ => none) [] ft) (tV X.K (λ _ => none) [] fe) σ H Q := λ ⟨ρ, hs, F, r, rel, e, q⟩ => by
 obtain ⟨ir, e1, e⟩ := bind1 e
 obtain ⟨⟨xs, f⟩, ef, e⟩ := Zb.mp e
 subst e
 refine ⟨ρ, hs, F, ir, rel, e1, λ J H1 ts s1 wk hts ow hz => ?_⟩
 refine ⟨cap.map λ o => o.bind λ i => σ[i]?.join, ⟨by simp [hc.len], λ j x v hN hv => ?_⟩, λ Dl hD => ?_⟩
 ·rw [Zm] at hv
  cases qc : cap[j]? with
  | none => rw [qc] at hv; cases hv
  | some o =>
   rw [qc] at hv
   cases o with
   | none => cases hv
   | some i =>
    simp only [ZX, Za, Option.some.injEq] at hv
    obtain ⟨y, h1, h2, h3, h4⟩ := hc.get j i qc
    rw [hN] at h1; cases h1
    exact ⟨h2, i, h3, join_some hv, h4⟩
 generalize hσc : (cap.map λ o => o.bind λ i => σ[i]?.join) = σc
 generalize hρc : Qdx cap ρ = ρc at ef
 have hF0 : ∃ Fc : Nat -> List Addr, Fc = λ j => match cap[j]? with
  | some (some i) => (match ρ[i]? with
   | some (some _) => F i
   | _ => [])
  | _ => [] := ⟨_, rfl⟩
 obtain ⟨Fc, hFc⟩ := hF0
 have rel1 := rel.ext s1
 have relC : ∀ H2, QH H1 H2 -> Rel X.K (λ _ => none) [] [] ρc Fc σc H2 := λ H2 s2 => by
  refine ⟨by rw [← hρc, ← hσc]; simp [Qdx], λ j d b e => ?_, λ j d e => ?_, λ j d b e a ha => .inl rfl, λ t ht => (by simp at ht), λ b o z => (by cases z)⟩
  ·rw [← hρc] at e
   obtain ⟨i, b', h1, h2⟩ := Qij e
   obtain ⟨v, h3, h4⟩ := (rel1.ext s2).val i d b' h2
   refine ⟨v, ?_, ?_⟩
   ·rw [← hσc, Zm, h1]
    simp only [ZX, Za, h3, Option.join_some]
   ·rw [hFc]; simp only [h1, h2]; exact h4
  ·have hf : d.flat = true := Qgx cap ρ j d (by rw [hρc]; exact e)
   have : Fc j = [] := by
    rw [← hρc] at e
    obtain ⟨i, b', h1, h2⟩ := Qij e
    obtain ⟨v, h3, h4⟩ := rel1.val i d b' h2
    rw [hFc]; simp only [h1, h2]; exact h4.QaZ hf
   rw [this]
   exact ⟨(Qcs d hf).symm, Zac, λ a ha => (by simp at ha), λ _ _ _ _ _ a ha => (by simp at ha), λ t ht => (by simp at ht)⟩
 have shC : ∀ G, Shr (λ _ => none) [] ρc Fc G := λ G a ha => ⟨.inl rfl, λ j d e hj => by
  have h0 := (relC H1 (QH.refl _)).own j d e
  have hf : d.flat = true := Qgx cap ρ j d (by rw [hρc]; exact e)
  have : (Fc j).length = 0 := by rw [h0.1, Qcs d hf]
  rw [Zbh this] at hj
  simp at hj⟩
 have hSh : Qcn ρc := by rw [← hρc]; exact Qgx cap ρ
 have heldOf : ∀ H2, QH H1 H2 -> Qjn X.K H2 ts := λ H2 s2 t ht => (hts t ht).1.same s2
 have oldOf : ∀ a, ((∃ t ∈ ts, a ∈ t.2.2) ∨ ∃ j, a ∈ Fc j) -> (∃ vs, H1 a = some (.lst vs)) /\ (H a = none ∨ ∃ (i : Nat) (d : D) (b : Bool), ρ[i]? = some (some (d, b)) /\ a ∈ F i /\ (b = true -> i ∈ ir.M ++ Ql4 cap ρ)) := λ a ha => by
  rcases ha with ⟨t, ht, ha⟩ | ⟨j, ha⟩
  ·refine ⟨(hts t ht).1.mem a ha, ?_⟩
   rcases (hts t ht).2 a ha with z | ⟨i, d, b, e, m, w⟩
   ·exact .inl z
   ·exact .inr ⟨i, d, b, e, m, λ hb => Zh _ (w hb)⟩
  ·have ha0 := ha
   rw [hFc] at ha
   dsimp only at ha
   split at ha
   ·rename_i i hi
    split at ha
    ·rename_i db hdb
     obtain ⟨d, b⟩ := db
     obtain ⟨v, h3, h4⟩ := rel1.val i d b hdb
     refine ⟨h4.mem a ha, .inr ⟨i, d, b, hdb, ha, λ hb => Zc _ ?_⟩⟩
     unfold Ql4
     refine ZaT.mpr ⟨some i, ZG hi, ?_⟩
     simp only [Za, hdb]
     have hnf : d.flat = false := by
      cases hf : d.flat with
      | false => rfl
      | true => rw [h4.QaZ hf] at ha; simp at ha
     rw [hb, hnf]; rfl
    ·simp at ha
   ·simp at ha
 have fresh5 : ∀ H2, QH H1 H2 -> ∀ a, H2 a = none -> H1 a = none := λ H2 s2 a h => s2.free h
 refine ⟨λ i m acc H2 => m = ir.items.length - i /\ i <= ir.items.length /\ QH H1 H2 /\ H2 Dl = some (.lst acc) /\ ∃ (ys : List D) (g : Bool) (G : List Addr), (ir.items.drop i).foldlM (Qee t ft fe ρc) (ys, g) = some (xs, f) /\ Rps X.K H2 ys acc G /\ ys.length <= i ∧
  (∀ a ∈ G, a ≠ Dl /\ (H1 a = none ∨ (∃ t ∈ ts, a ∈ t.2.2) ∨ ∃ j, a ∈ Fc j)) /\ (g = true -> G.length = nls ys /\ ∀ a, G.count a <= nw H1 a), ⟨ir.items.length, rfl, ZW _, QbK hD, Qaj, [], true, [], by simpa using ef, by simp [Rps], Zi _, λ a ha => (by simp at ha), λ _ => ⟨rfl, λ a => by simp⟩⟩, ?_⟩
 rintro i m acc H2 ⟨rfl, hi, s2, eD, ys, g, G, hfold, rps, hlen, hG, hcnt⟩
 by_cases hlt : i < ir.items.length
 ·refine .inr ⟨wk.go i H2 hlt (heldOf H2 s2), λ x H3 hy => ?_⟩
  obtain ⟨s3, G0, rp0, hG0⟩ := wk.yld i ir.items[i] H2 x H3 (by simp [hlt]) (heldOf H2 s2) hy
  rw [Zak hlt, ZbD] at hfold
  obtain ⟨acc1, hstep, hrest⟩ := bind1 hfold
  unfold Qee at hstep
  obtain ⟨ρ1, eb, hstep⟩ := bind1 hstep
  obtain ⟨c, ec, hstep⟩ := bind1 hstep
  have sh1 : Qcn ρ1 := hSh.bind eb
  refine ⟨ρc, [], Fc, ir.items[i], G0, ρ1, relC H3 (s2.trans s3), rp0, shC G0, eb, λ σ2 F2 rel2 keep mem2 => ⟨λ j v hv => ?_, ρ1, [], F2, c, rel2, ec, λ H5 s5 => ?_⟩⟩
  ·have hj : j ∉ t.slots := λ hj => by
    rw [← hσc, Zm] at hv
    cases qc : cap[j]? with
    | none => rw [qc] at hv; cases hv
    | some o =>
     cases o with
     | none => rw [qc] at hv; cases hv
     | some k => exact hc.apart j k qc hj
   rw [keep j hj]; exact hv
  have s15 : QH H1 H5 := (s2.trans s3).trans s5
  have eD5 : H5 Dl = some (.lst acc) := s5 _ _ (s3 _ _ eD)
  cases c with
  | false =>
   rw [if_neg Zae] at hstep
   refine QoP ?_
   cases hstep
   exact ⟨_, by omega, rfl, hlt, s15, eD5, ys, g, G, hrest, rps.same (s3.trans s5), by omega, hG, hcnt⟩
  | true =>
   rw [if_pos rfl] at hstep
   refine Qod ?_
   obtain ⟨rr, er, hstep⟩ := Zb.mp hstep
   subst hstep
   refine ⟨ρ1, [], F2, rr, rel2.ext s5, er, λ y H6 Ge pe => ?_⟩
   have eD6 : H6 Dl = some (.lst acc) := pe.same _ _ eD5
   have s16 := s15.trans pe.same
   refine ⟨eD6, ?_, _, by omega, rfl, hlt, ?_⟩
   ·rw [← rps.length]; exact Zas hlen (Zq hlt hz)
   have hGe : ∀ a ∈ Ge, a ≠ Dl /\ (H1 a = none ∨ (∃ t ∈ ts, a ∈ t.2.2) ∨ ∃ j, a ∈ Fc j) := λ a ha => by
    rcases pe.src a ha with z | ⟨j, d, b, ej, hj, _⟩
    ·exact ⟨λ w => (by rw [w, eD5] at z; cases z), .inl (s15.free z)⟩
    ·have h1 : (∃ t ∈ ts, a ∈ t.2.2) ∨ ∃ j, a ∈ Fc j := by
      rcases mem2 j a hj with w | w
      ·exact .inr ⟨j, w⟩
      ·exact .inl (hG0 a w)
     obtain ⟨⟨vs, w⟩, _⟩ := oldOf a h1
     exact ⟨λ w' => (by rw [w', hD] at w; cases w), .inr h1⟩
   have nD : Dl ∉ G := λ h => (hG _ h).1 rfl
   have nDe : Dl ∉ Ge := λ h => (hGe _ h).1 rfl
   have sU : QH H1 (L2.upd H6 Dl (.lst (acc ++ [y]))) := λ b o hb => by rw [QP (Qba hb hD)]; exact s16 b o hb
   refine ⟨sU, Qaj, ys ++ [rr.d], g && rr.norm.fr, G ++ Ge, hrest, ?_, by rw [Zl, ZaI]; omega, λ a ha => ?_, λ hg => ?_⟩
   ·refine Rps.append ((rps.same ((s3.trans s5).trans pe.same)).upd eD6 nD) ?_
    simp only [Rps]
    exact ⟨y, [], Ge, [], rfl, by simp, pe.rp.upd eD6 nDe, rfl, rfl⟩
   ·rcases Zy.mp ha with h | h
    ·exact hG a h
    ·exact hGe a h
   ·simp only [Zf] at hg
    obtain ⟨l1, c1⟩ := hcnt hg.1
    have pn := pe.norm
    obtain ⟨c2, l2⟩ := pn.cnt hg.2
    rw [rr.Qcy] at l2
    have nlapp : ∀ (as bs : List D), nls (as ++ bs) = nls as + nls bs := λ as bs => by
     induction as with
     | nil => simp [nls]
     | cons a as ih => simp only [Zbb, nls, ih]; omega
    refine ⟨by rw [Zl, l1, l2, nlapp]; simp [nls], λ a => ?_⟩
    have fl : ((rr.norm.M.map F2).flatten).count a = 0 := by
     rw [ZI]
     intro hm
     obtain ⟨l, hl, hal⟩ := Zbc.mp hm
     obtain ⟨j, hj, rfl⟩ := ZQ.mp hl
     obtain ⟨d, ej⟩ := pn.own j hj
     have hf := sh1 j d ej
     obtain ⟨v, _, rv⟩ := rel2.val j d true ej
     rw [rv.QaZ hf] at hal
     simp at hal
    have h1 := c1 a
    have h2 := c2 a
    rw [fl] at h2
    rw [Zab]
    cases q5 : H5 a with
    | some o => rw [Qda q5] at h2; omega
    | none =>
     rw [QaU q5] at h2
     have h0 : G.count a = 0 := ZI.mpr λ hm => by
      obtain ⟨vs, w⟩ := rps.mem a hm
      rw [s5 _ _ (s3 _ _ w)] at q5; cases q5
     rw [QaU (s15.free q5)]
     omega
 ·have hn : i = ir.items.length := by omega
  subst hn
  refine .inl ⟨wk.stop H2 (heldOf H2 s2), ?_⟩
  rw [List.drop_length] at hfold
  have : (ys, g) = (xs, f) := Option.some.inj hfold
  cases this
  have rp : Rp X.K H2 (.lst xs) (.ref Dl) (Dl :: G) := Rp.QdV eD rps (Zu hlen hz)
  have hHD : H Dl = none := s1.free hD
  split at q
  ·rename_i hg
   have hg : f = true := hg
   obtain ⟨l1, c1⟩ := hcnt hg
   have hn : ∀ a ∈ G, H1 a = none := λ a ha => by
    have := c1 a
    have h2 : 0 < G.count a := Zal.mpr ha
    cases w : H1 a with
    | none => rfl
    | some o => rw [Qda w] at this; omega
   refine q _ H2 (Dl :: G) ⟨s1.trans s2, rp, λ a ha => ?_, λ _ => ⟨λ a => ?_, by simp only [D.nl, ZD, l1]⟩, QaX.nil⟩
   ·rcases Zw.mp ha with rfl | h
    ·exact .inl hHD
    ·exact .inl (s1.free (hn a h))
   ·rw [Zay]
    have h1 := c1 a
    split
    ·rename_i w
     have w : Dl = a := by simpa using w
     subst w
     have h0 : G.count Dl = 0 := ZI.mpr λ h => (hG _ h).1 rfl
     rw [QaU hHD]; omega
    ·cases w : H1 a with
     | none => rw [QaU w] at h1; rw [QaU (s1.free w)]; omega
     | some o => rw [Qda w] at h1; omega
  ·refine q _ H2 (Dl :: G) ⟨s1.trans s2, rp, λ a ha => ?_, λ z => (by cases z), ?_⟩
   ·rcases Zw.mp ha with rfl | h
    ·exact .inl hHD
    ·rcases (hG a h).2 with z | z
     ·exact .inl (s1.free z)
     ·exact (oldOf a z).2
   ·refine ow.append λ i hi => ?_
    unfold Ql4 at hi
    obtain ⟨o, _, ho⟩ := ZaT.mp hi
    cases o with
    | none => cases ho
    | some k =>
     simp only [Za] at ho
     split at ho
     ·rename_i d b hk
      split at ho
      ·rename_i hb
       cases ho
       simp only [Zf] at hb
       rw [hb.1] at hk
       exact ⟨d, hk⟩
      ·cases ho
     ·cases ho
section
variable {X : Cx} {tg iter elt : Expr} {ifs : List Expr} {scope : Scope} {N' : List Str} {pos : Pos} {fi : DI} {t : Tg} {cap : List (Option Nat)} {ft : DT} {fe : DE}
theorem QqA (hcalm : X.calm = true) (S : Qdh X N' scope) (hi : SI X tg iter fi) (hcap : QiU X N' scope cap t.slots)
  (hin : ∀ cl C fp s3 H3, SG (cxc X N' scope cl C fp s3 H3) tg t /\ QjG (cxc X N' scope cl C fp s3 H3) ifs ft /\ SE (cxc X N' scope cl C fp s3 H3) elt fe) (hs : ∀ x, foldedSetIterable iter X.env x = pure x) :
  SE X (.ListComp elt [⟨tg, iter, ifs, 0⟩] scope pos) (QK fi t cap ft fe) := λ H0 A0 =>
 (Qk0 hcalm S (hi H0 A0) (λ cl C fp s3 H3 => ⟨(hin cl C fp s3 H3).1 _ _, (hin cl C fp s3 H3).2.1 _ _, (hin cl C fp s3 H3).2.2 _ _⟩) hs).mono λ σ H Q h => Qir hcap h
end
end HS
namespace HS
open PySem PySem.Spec L2
inductive Out where
 | nx (ρ : En)
 | bk (ρ : En)
 | ct (ρ : En)
 | rt (d : D) (fr : Bool)
noncomputable abbrev DS := En -> Option Out
noncomputable def Fits (K : PySem.W.Frag) (H0 : Hp) (A0 : List Addr) (hs : List (V × D × List Addr)) (E : Ends) : Out -> Prop
 | .nx ρ => ∀ σ H F, Rel K H0 A0 hs ρ F σ H -> E.nx σ H
 | .bk ρ => ∀ σ H F, Rel K H0 A0 hs ρ F σ H -> E.bk σ H
 | .ct ρ => ∀ σ H F, Rel K H0 A0 hs ρ F σ H -> E.ct σ H
 | .rt d fr => ∀ v H G, Ret K H0 A0 d fr v H G -> E.rt v H
noncomputable def tS (K : PySem.W.Frag) (H0 : Hp) (A0 : List Addr) (f : DS) : TS := λ E σ H => ∃ ρ hs F o, Rel K H0 A0 hs ρ F σ H /\ f ρ = some o /\ Fits K H0 A0 hs E o
def S1 (X : Cx) (st : Stmt) (f : DS) : Prop := ∀ H0 A0, PS X st (tS X.K H0 A0 f)
def SS (X : Cx) (sts : List Stmt) (f : DS) : Prop := ∀ H0 A0, PSs X sts (tS X.K H0 A0 f)
theorem _root_.L2.PS.mono {X : Cx} {st : Stmt} {t t' : TS} (h : PS X st t) (m : ∀ D σ H, t' D σ H -> t D σ H) : PS X st t' := λ pins s σ H D I q => h pins s σ H D I (m D σ H q)
theorem _root_.L2.PSs.mono {X : Cx} {st : List Stmt} {t t' : TS} (h : PSs X st t) (m : ∀ D σ H, t' D σ H -> t D σ H) : PSs X st t' := λ pins s σ H D I q => h pins s σ H D I (m D σ H q)
noncomputable def Qk : DS := λ ρ => some (.nx ρ)
noncomputable def Qd (f g : DS) : DS := λ ρ => (f ρ).bind λ o => match o with
 | .nx ρ' => g ρ'
 | .bk ρ' => some (.bk ρ')
 | .ct ρ' => some (.ct ρ')
 | .rt d fr => some (.rt d fr)
noncomputable def Qpa : DS := λ ρ => some (.bk ρ)
noncomputable def QnY : DS := λ ρ => some (.ct ρ)
noncomputable def Qq (i : Nat) (fa : DE) : DS := λ ρ => (fa ρ).bind λ r => some (.nx (asg i r ρ))
noncomputable def QaE (fa : DE) : DE := λ ρ => (fa ρ).map λ r => ⟨r.d, false, r.M⟩
noncomputable def QR (fa : DE) : DS := λ ρ => (fa ρ).bind λ r => some (.rt r.d (r.norm.fr && decide r.norm.M.Nodup))
noncomputable def Ql7 : DS := λ _ => some (.rt .non true)
noncomputable def QfG (fa : DE) : DS := λ ρ => (fa ρ).bind λ _ => some (.nx ρ)
noncomputable def sIf (g : DT) (f1 f2 : DS) : DS := λ ρ => (g ρ).bind λ b => if b = true then f1 ρ else f2 ρ
noncomputable def QcD (t : Tg) (fb : DS) : List D -> DS
 | [], ρ => some (.nx ρ)
 | d :: ds, ρ => (Qb8 t d ρ).bind λ ρ1 => (fb ρ1).bind λ o => match o with
  | .nx ρ2 => QcD t fb ds ρ2
  | .ct ρ2 => QcD t fb ds ρ2
  | .bk ρ2 => some (.nx ρ2)
  | .rt d fr => some (.rt d fr)
noncomputable def Qbh (fi : DI) (t : Tg) (fb : DS) : DS := λ ρ => (fi ρ).bind λ ir => QcD t fb ir.items (QaL ir.M ρ)
noncomputable def QaB (g : DT) (fb : DS) : Nat -> DS
 | 0, _ => none
 | n + 1, ρ => (g ρ).bind λ b => if b = true then (fb ρ).bind λ o => match o with
  | .nx ρ2 => QaB g fb n ρ2
  | .ct ρ2 => QaB g fb n ρ2
  | .bk ρ2 => some (.nx ρ2)
  | .rt d fr => some (.rt d fr)
  else some (.nx ρ)
section
variable {X : Cx} {st : Stmt} {sts : List Stmt} {e : Expr} {fa : DE} {f g : DS} {gc : DT} {pos : Pos}
theorem Qrx : SS X [] Qk := λ H0 A0 => Qqc.mono λ E σ H ⟨ρ, hs, F, o, rel, e, q⟩ => by
 cases e
 exact q σ H F rel
theorem QpE (h1 : S1 X st f) (h2 : SS X sts g) : SS X (st :: sts) (Qd f g) := λ H0 A0 => (Qoq (h1 H0 A0) (h2 H0 A0)).mono λ E σ H ⟨ρ, hs, F, o, rel, e, q⟩ => by
 obtain ⟨o1, e1, e⟩ := bind1 e
 refine ⟨ρ, hs, F, o1, rel, e1, ?_⟩
 cases o1 with
 | nx ρ' => exact λ σ' H' F' rel' => ⟨ρ', hs, F', o, rel', e, q⟩
 | bk ρ' => cases e; exact q
 | ct ρ' => cases e; exact q
 | rt d fr => cases e; exact q
theorem Qqv : S1 X (.Pass pos) Qk := λ H0 A0 => Qqt.mono λ E σ H ⟨ρ, hs, F, o, rel, e, q⟩ => by
 cases e
 exact q σ H F rel
theorem Qox : S1 X (.Break pos) Qpa := λ H0 A0 => Qoi.mono λ E σ H ⟨ρ, hs, F, o, rel, e, q⟩ => by
 cases e
 exact q σ H F rel
theorem Qp2 : S1 X (.Continue pos) QnY := λ H0 A0 => QkW.mono λ E σ H ⟨ρ, hs, F, o, rel, e, q⟩ => by
 cases e
 exact q σ H F rel
theorem Qo7 (h : SE X e fa) : SE X e (QaE fa) := λ H0 A0 => (h H0 A0).mono λ σ H Q ⟨ρ, hs, F, r, rel, e, q⟩ => by
 obtain ⟨r', e1, rfl⟩ := Zb.mp e
 exact ⟨ρ, hs, F, r', rel, e1, λ v H' G p => q v H' G ⟨p.same, p.rp, p.src, λ z => (by cases z), p.own⟩⟩
theorem QjI {i : Nat} (h : ∀ H0 A0, PS X st (QjU (tV X.K H0 A0 fa) (QfQ i))) : S1 X st (Qq i fa) := λ H0 A0 => (h H0 A0).mono λ E σ H ⟨ρ, hs, F, o, rel, e, q⟩ => by
 obtain ⟨r, e1, e⟩ := bind1 e
 cases e
 refine ⟨ρ, hs, F, r, rel, e1, λ v H' G p => ?_⟩
 obtain ⟨F', rel'⟩ := rel.asg (i := i) p
 exact q _ _ F' rel'
theorem Qqi (h : PS X st (QfZ (tV X.K H0 A0 fa))) : PS X st (tS X.K H0 A0 (QfG fa)) := h.mono λ E σ H ⟨ρ, hs, F, o, rel, e, q⟩ => by
 obtain ⟨r, e1, e⟩ := bind1 e
 cases e
 exact ⟨ρ, hs, F, r, rel, e1, λ v H' G p => q σ H' F (rel.ext p.same)⟩
theorem Rel.ret {K : PySem.W.Frag} {H0 H H' : Hp} {A0 : List Addr} {hs : List (V × D × List Addr)} {ρ : En} {F : Nat -> List Addr} {σ : L2.St} (rel : Rel K H0 A0 hs ρ F σ H) {r : R} {v : V} {G : List Addr} (p : QW K ρ F H H' r v G) : Ret K H0 A0 r.d (r.norm.fr && decide r.norm.M.Nodup) v H' G where
 same := rel.same.trans p.same
 rp := p.rp
 src := λ a ha => by
  rcases p.src a ha with z | ⟨i, d, b, e, m, _⟩
  ·exact .inl (rel.same.free z)
  ·exact rel.src i d b e a m
 cnt := λ h => by
  simp only [Zf, decide_eq_true_eq] at h
  have p' := p.norm
  obtain ⟨h1, h2⟩ := p'.fresh rel h.1 h.2
  have h3 := (p'.cnt h.1).2
  rw [r.Qcy] at h3
  exact ⟨h1, h3, λ a ha => (h2 a ha).1⟩
theorem Qrz (he : SE X e fa) : S1 X (.Return (some e) pos) (QR fa) := λ H0 A0 => (QrO (he H0 A0)).mono λ E σ H ⟨ρ, hs, F, o, rel, e, q⟩ => by
 obtain ⟨r, e1, e⟩ := bind1 e
 cases e
 exact ⟨ρ, hs, F, r, rel, e1, λ v H' G p => q v H' G (rel.ret p)⟩
theorem Qql : S1 X (.Return none pos) Ql7 := λ H0 A0 => Qqw.mono λ E σ H ⟨ρ, hs, F, o, rel, e, q⟩ => by
 cases e
 exact q .non H [] ⟨rel.same, .Qg5, λ a ha => (by simp at ha), λ _ => ⟨Zac, rfl, λ a ha => (by simp at ha)⟩⟩
theorem QsM {c : Expr} {a b : List Stmt} (hc : ST X c gc) (ha : SS X a f) (hb : SS X b g) : S1 X (.If c a b pos) (sIf gc f g) := λ H0 A0 => (QsV (hc H0 A0) (ha H0 A0) (hb H0 A0)).mono λ E σ H ⟨ρ, hs, F, o, rel, e, q⟩ => by
 obtain ⟨c, e1, e⟩ := bind1 e
 refine ⟨ρ, hs, F, c, rel, e1, λ H1 s1 => ?_⟩
 cases c with
 | true => exact Qod ⟨ρ, hs, F, o, rel.ext s1, e, q⟩
 | false => exact QoP ⟨ρ, hs, F, o, rel.ext s1, e, q⟩
theorem Qrv {tg iter : Expr} {body : List Stmt} {fi : DI} {t : Tg} (hp : PassesOwn (model X.prog X.w) X.A X.env X.xe) (hc : X.calm = true) (hi : SI X tg iter fi) (hg : SG X tg t) (hb : SS X body f) (hs : ∀ x, foldedSetIterable iter X.env x = pure x) :
  S1 X (.For tg iter body [] pos) (Qbh fi t f) := λ H0 A0 => (Qri hp hc (hi H0 A0) (hg H0 A0) (hb H0 A0) hs).mono λ E σ H ⟨ρ, hs, F, o, rel, e, q⟩ => by
 obtain ⟨ir, e1, e⟩ := bind1 e
 refine ⟨ρ, hs, F, ir, rel, e1, λ J H1 ts s1 wk hts ow hz => ?_⟩
 have rel1 : Rel X.K H0 A0 (ts ++ hs) (QaL ir.M ρ) F σ H1 := ((rel.ext s1).weak (Qbc ir.M ρ)).hold λ t ht => ⟨(hts t ht).1, Shr.of rel (hts t ht).2⟩
 refine ⟨λ i m σ' H' => m = ir.items.length - i /\ i <= ir.items.length /\ ∃ ρi Fi, Rel X.K H0 A0 (ts ++ hs) ρi Fi σ' H' /\ QcD t f (ir.items.drop i) ρi = some o, ⟨_, rfl, ZW _, _, F, rel1, by simpa using e⟩, ?_⟩
 rintro i m σ' H' ⟨rfl, hi', ρi, Fi, reli, ei⟩
 have held : Qjn X.K H' ts := λ t ht => (reli.held t (Zh _ ht)).1
 by_cases hlt : i < ir.items.length
 ·rw [Zak hlt] at ei
  unfold QcD at ei
  obtain ⟨ρ1, eb, ei⟩ := bind1 ei
  obtain ⟨o1, eo, ei⟩ := bind1 ei
  refine .inr ⟨wk.go i H' hlt held, λ σ2 H2 => ∃ ρ2 F2, Rel X.K H0 A0 (ts ++ hs) ρ2 F2 σ2 H2 /\ QcD t f (ir.items.drop (i + 1)) ρ2 = some o, λ σ2 H2 ⟨ρ2, F2, rel2, e2⟩ => ⟨_, by omega, rfl, hlt, ρ2, F2, rel2, e2⟩, λ x H2 hy => ?_⟩
  obtain ⟨s2, G0, rp0, hG0⟩ := wk.yld i ir.items[i] H' x H2 (by simp [hlt]) held hy
  have shr : Shr H0 A0 ρi Fi G0 := λ a ha => by
   obtain ⟨t, ht, hat⟩ := hG0 a ha
   exact ⟨(reli.held t (Zh _ ht)).2 a hat, λ j d ej hj => (reli.own j d ej).2.2.2.2 t (Zh _ ht) a hj hat⟩
  refine ⟨ρi, ts ++ hs, Fi, ir.items[i], G0, ρ1, reli.ext s2, rp0, shr, eb, λ σ3 F3 rel3 _ _ => ⟨ρ1, ts ++ hs, F3, o1, rel3, eo, ?_⟩⟩
  cases o1 with
  | nx ρ2 => exact λ σ4 H4 F4 rel4 => ⟨ρ2, F4, rel4, ei⟩
  | ct ρ2 => exact λ σ4 H4 F4 rel4 => ⟨ρ2, F4, rel4, ei⟩
  | bk ρ2 => cases ei; exact λ σ4 H4 F4 rel4 => q σ4 H4 F4 rel4.Qm4
  | rt d fr => cases ei; exact q
 ·have hn : i = ir.items.length := by omega
  subst hn
  rw [List.drop_length] at ei
  cases ei
  exact .inl ⟨wk.stop H' held, q σ' H' Fi reli.Qm4⟩
theorem QnJ {c : Expr} {body : List Stmt} {n : Nat} (hp : PassesOwn (model X.prog X.w) X.A X.env X.xe) (hc : ST X c gc) (hb : SS X body f) : S1 X (.While c body [] pos) (QaB gc f n) := λ H0 A0 => (QoR hp (hc H0 A0) (hb H0 A0)).mono λ E σ H ⟨ρ, hs, F, o, rel, e, q⟩ => by
 refine ⟨λ m σ' H' => ∃ ρi Fi, Rel X.K H0 A0 hs ρi Fi σ' H' /\ QaB gc f m ρi = some o, ⟨n, ρ, F, rel, e⟩, ?_⟩
 rintro m σ' H' ⟨ρi, Fi, reli, ei⟩
 cases m with
 | zero => cases ei
 | succ m =>
  unfold QaB at ei
  obtain ⟨b, eb, ei⟩ := bind1 ei
  refine ⟨ρi, hs, Fi, b, reli, eb, λ H1 s1 => ?_⟩
  cases b with
  | false =>
   rw [if_neg Zae] at ei
   cases ei
   exact QoP (q σ' H1 Fi (reli.ext s1))
  | true =>
   rw [if_pos rfl] at ei
   obtain ⟨o1, eo, ei⟩ := bind1 ei
   refine Qod ⟨λ σ2 H2 => ∃ ρ2 F2, Rel X.K H0 A0 hs ρ2 F2 σ2 H2 /\ QaB gc f m ρ2 = some o, λ σ2 H2 h => ⟨m, Zba _, h⟩, ρi, hs, Fi, o1, reli.ext s1, eo, ?_⟩
   cases o1 with
   | nx ρ2 => exact λ σ4 H4 F4 rel4 => ⟨ρ2, F4, rel4, ei⟩
   | ct ρ2 => exact λ σ4 H4 F4 rel4 => ⟨ρ2, F4, rel4, ei⟩
   | bk ρ2 => cases ei; exact λ σ4 H4 F4 rel4 => q σ4 H4 F4 rel4
   | rt d fr => cases ei; exact q
end
end HS
namespace HS
open PySem PySem.Spec L2
section
variable {K : PySem.W.Frag} {H H' : Hp}
theorem Rps.split : ∀ {ds : List D} {vs : List V} {F : List Addr} {j : Nat} {d : D}, Rps K H ds vs F -> ds[j]? = some d →
  ∃ F1 G F2 v, F = F1 ++ (G ++ F2) /\ vs[j]? = some v /\ Rps K H (ds.take j) (vs.take j) F1 /\ Rp K H d v G /\ Rps K H (ds.drop (j + 1)) (vs.drop (j + 1)) F2
 | [], _, _, _, _, _, e => by simp at e
 | d :: ds, _, _, 0, _, h, e => by
  simp only [Rps] at h
  obtain ⟨v, ws, F1, F2, rfl, rfl, r, q⟩ := h
  simp at e; subst e
  exact ⟨[], F1, F2, v, rfl, by simp, by simp [Rps], r, by simpa using q⟩
 | d :: ds, _, _, j + 1, _, h, e => by
  simp only [Rps] at h
  obtain ⟨v, ws, F1, F2, rfl, rfl, r, q⟩ := h
  obtain ⟨G1, G, G2, v', h1, h2, h3, h4, h5⟩ := Rps.split q (j := j) (by simpa using e)
  refine ⟨F1 ++ G1, G, G2, v', by rw [h1, ZaA], by simpa using h2, ?_, h4, by simpa using h5⟩
  simp only [Zbn, Rps]
  exact ⟨v, _, F1, G1, rfl, rfl, r, h3⟩
theorem Rps.join {ds : List D} {vs : List V} {F1 G F2 : List Addr} {j : Nat} {d : D} {v : V} (h1 : Rps K H (ds.take j) (vs.take j) F1) (hd : Rp K H d v G) (h2 : Rps K H (ds.drop (j + 1)) (vs.drop (j + 1)) F2) (hj : j < ds.length) (hv : vs[j]? = some v) :
  Rps K H (ds.set j d) vs (F1 ++ (G ++ F2)) := by
 have e1 : ds.set j d = ds.take j ++ d :: ds.drop (j + 1) := Zau .. |>.trans (by rw [if_pos hj])
 have hjv : j < vs.length := (Zd.mp hv).1
 have hve : vs[j] = v := (Zd.mp hv).2
 have e2 : vs = vs.take j ++ v :: vs.drop (j + 1) := by
  rw [← hve, ← Zak hjv, Zat]
 rw [e1, e2]
 refine h1.append ?_
 simp only [Rps]
 refine ⟨v, _, G, F2, rfl, rfl, hd, h2⟩
theorem Rps.Qpy {ds : List D} {vs : List V} {F1 G F2 : List Addr} {j : Nat} {d : D} {v : V} (h1 : Rps K H (ds.take j) (vs.take j) F1) (hd : Rp K H d v G) (h2 : Rps K H (ds.drop (j + 1)) (vs.drop (j + 1)) F2) (hj : j < ds.length) (hv : j < vs.length) :
  Rps K H (ds.set j d) (vs.set j v) (F1 ++ (G ++ F2)) := by
 have e1 : ds.set j d = ds.take j ++ d :: ds.drop (j + 1) := Zau .. |>.trans (by rw [if_pos hj])
 have e2 : vs.set j v = vs.take j ++ v :: vs.drop (j + 1) := Zau .. |>.trans (by rw [if_pos hv])
 rw [e1, e2]
 refine h1.append ?_
 simp only [Rps]
 exact ⟨v, _, G, F2, rfl, rfl, hd, h2⟩
noncomputable def Focus (K : PySem.W.Frag) (H : Hp) : List Int -> D -> V -> List Addr -> D -> V -> List Addr -> Prop
 | [], d, v, F, dm, w, Gm => dm = d /\ w = v /\ Gm = F /\ Rp K H d v F
 | i :: is, d, v, F, dm, w, Gm => ∃ (ds : List D) (a : Addr) (vs : List V) (j : Nat) (F1 G F2 : List Addr) (d' : D) (v' : V), v = .ref a /\ ixN ds.length i = some j ∧
   ((d = .lst ds /\ ds.length <= sizeLine /\ ((F = a :: (F1 ++ (G ++ F2)) /\ H a = some (.lst vs)) ∨ (F = F1 ++ (G ++ F2) /\ Fix K H a vs))) ∨ (d = .tup ds /\ F = F1 ++ (G ++ F2) /\ SqT K H a vs)) ∧
   Rps K H (ds.take j) (vs.take j) F1 /\ Rps K H (ds.drop (j + 1)) (vs.drop (j + 1)) F2 /\ ds[j]? = some d' /\ vs[j]? = some v' /\ ds.length = vs.length /\ Focus K H is d' v' G dm w Gm
theorem Focus.same (s : QH H H') : ∀ {is : List Int} {d : D} {v : V} {F : List Addr} {dm : D} {w : V} {Gm : List Addr}, Focus K H is d v F dm w Gm -> Focus K H' is d v F dm w Gm
 | [], _, _, _, _, _, _, h => ⟨h.1, h.2.1, h.2.2.1, h.2.2.2.same s⟩
 | i :: is, _, _, _, _, _, _, h => by
  obtain ⟨ds, a, vs, j, F1, G, F2, d', v', h1, h2, h3, h4, h5, h6, h7, h8, h9⟩ := h
  refine ⟨ds, a, vs, j, F1, G, F2, d', v', h1, h2, ?_, h4.same s, h5.same s, h6, h7, h8, h9.same s⟩
  rcases h3 with ⟨e, z, q⟩ | ⟨e, eF, q⟩
  ·refine .inl ⟨e, z, ?_⟩
   rcases q with ⟨eF, q⟩ | ⟨eF, q⟩
   ·exact .inl ⟨eF, s _ _ q⟩
   ·exact .inr ⟨eF, Qjc s q⟩
  ·exact .inr ⟨e, eF, Qkh s q⟩
theorem Focus.rp : ∀ {is : List Int} {d : D} {v : V} {F : List Addr} {dm : D} {w : V} {Gm : List Addr}, Focus K H is d v F dm w Gm -> Rp K H dm w Gm
 | [], _, _, _, _, _, _, h => by
  obtain ⟨rfl, rfl, rfl, r⟩ := h
  exact r
 | i :: is, _, _, _, _, _, _, h => by
  obtain ⟨ds, a, vs, j, F1, G, F2, d', v', h1, h2, h3, h4, h5, h6, h7, h8, h9⟩ := h
  exact h9.rp
theorem Focus.Qnl : ∀ {is : List Int} {d : D} {v : V} {F : List Addr} {dm : D} {w : V} {Gm : List Addr}, Focus K H is d v F dm w Gm -> Rp K H d v F
 | [], _, _, _, _, _, _, h => h.2.2.2
 | i :: is, _, _, _, _, _, _, h => by
  obtain ⟨ds, a, vs, j, F1, G, F2, d', v', rfl, h2, h3, h4, h5, h6, h7, h8, h9⟩ := h
  have hjl : j < ds.length := (Zd.mp h6).1
  have hdj : ds[j] = d' := (Zd.mp h6).2
  have j1 := Rps.join h4 h9.Qnl h5 hjl h7
  rw [show ds.set j d' = ds by rw [← hdj]; exact List.set_getElem_self hjl] at j1
  rcases h3 with ⟨rfl, hz, ⟨rfl, q⟩ | ⟨rfl, q⟩⟩ | ⟨rfl, rfl, q⟩
  ·exact Rp.QdV q j1 hz
  ·simp only [Rp]
   exact ⟨hz, a, vs, rfl, .inr ⟨q, j1⟩⟩
  ·simp only [Rp]
   exact ⟨a, vs, rfl, q, j1⟩
theorem Focus.one {d : D} {v : V} {F : List Addr} {ds : List D} {i : Int} {d' : D} (r : Rp K H d v F) (hd : d.items = some ds) (hi : atI ds i = some d') :
  ∃ a vs v' G, v = .ref a /\ ((d = .lst ds /\ SqL K H a vs) ∨ (d = .tup ds /\ SqT K H a vs)) /\ atI vs i = some v' /\ Focus K H [i] d v F d' v' G := by
 unfold atI at hi
 cases hj : ixN ds.length i with
 | none => rw [hj] at hi; cases hi
 | some j =>
  rw [hj] at hi
  have hdj : ds[j]? = some d' := hi
  have fin : ∀ (vs : List V) (L : List Addr), Rps K H ds vs L -> ∃ v' G F1 F2, L = F1 ++ (G ++ F2) /\ vs[j]? = some v' /\ atI vs i = some v' /\ Rps K H (ds.take j) (vs.take j) F1 /\ Rp K H d' v' G /\ Rps K H (ds.drop (j + 1)) (vs.drop (j + 1)) F2 /\ ds.length = vs.length := λ vs L rl => by
   obtain ⟨F1, G, F2, v', h1, h2, h3, h4, h5⟩ := rl.split hdj
   refine ⟨v', G, F1, F2, h1, h2, ?_, h3, h4, h5, rl.length⟩
   unfold atI
   rw [← rl.length, hj]
   exact h2
  cases d with
  | lst xs =>
   cases hd
   simp only [Rp] at r
   obtain ⟨hz, a, vs, rfl, ⟨L, rfl, q, rl⟩ | ⟨q, rl⟩⟩ := r
   ·obtain ⟨v', G, F1, F2, h1, h2, h3, h4, h5, h6, h7⟩ := fin vs L rl
    exact ⟨a, vs, v', G, rfl, .inl ⟨rfl, SqL.of q⟩, h3, ds, a, vs, j, F1, G, F2, d', v', rfl, hj, .inl ⟨rfl, hz, .inl ⟨by rw [h1], q⟩⟩, h4, h6, hdj, h2, h7, rfl, rfl, rfl, h5⟩
   ·obtain ⟨v', G, F1, F2, h1, h2, h3, h4, h5, h6, h7⟩ := fin vs _ rl
    exact ⟨a, vs, v', G, rfl, .inl ⟨rfl, q.sq⟩, h3, ds, a, vs, j, F1, G, F2, d', v', rfl, hj, .inl ⟨rfl, hz, .inr ⟨h1, q⟩⟩, h4, h6, hdj, h2, h7, rfl, rfl, rfl, h5⟩
  | tup xs =>
   cases hd
   obtain ⟨a, vs, rfl, q, rl⟩ := r.QaQ
   obtain ⟨v', G, F1, F2, h1, h2, h3, h4, h5, h6, h7⟩ := fin vs _ rl
   exact ⟨a, vs, v', G, rfl, .inr ⟨rfl, q⟩, h3, ds, a, vs, j, F1, G, F2, d', v', rfl, hj, .inr ⟨rfl, h1, q⟩, h4, h6, hdj, h2, h7, rfl, rfl, rfl, h5⟩
  | _ => cases hd
theorem Focus.snoc : ∀ {is : List Int} {d : D} {v : V} {F : List Addr} {dm : D} {w : V} {Gm : List Addr} {i : Int} {d' : D} {v' : V} {G : List Addr}, Focus K H is d v F dm w Gm -> Focus K H [i] dm w Gm d' v' G -> Focus K H (is ++ [i]) d v F d' v' G
 | [], _, _, _, _, _, _, _, _, _, _, h, g => by
  obtain ⟨rfl, rfl, rfl, r⟩ := h
  exact g
 | k :: is, _, _, _, _, _, _, _, _, _, _, h, g => by
  obtain ⟨ds, a, vs, j, F1, G, F2, d', v', h1, h2, h3, h4, h5, h6, h7, h8, h9⟩ := h
  exact ⟨ds, a, vs, j, F1, G, F2, d', v', h1, h2, h3, h4, h5, h6, h7, h8, h9.snoc g⟩
noncomputable def QaC : D -> List Int -> Option D
 | d, [] => some d
 | d, i :: is => (d.items).bind λ ds => (atI ds i).bind λ d' => QaC d' is
theorem Qhk : ∀ {is : List Int} {d : D} {i : Int} {d' : D}, QaC d (is ++ [i]) = some d' -> ∃ dm ds, QaC d is = some dm /\ dm.items = some ds /\ atI ds i = some d'
 | [], d, i, d', h => by
  obtain ⟨ds, h1, h⟩ := bind1 h
  obtain ⟨d'', h2, h⟩ := bind1 h
  cases h
  exact ⟨d, ds, rfl, h1, h2⟩
 | k :: is, d, i, d', h => by
  obtain ⟨ds, h1, h⟩ := bind1 h
  obtain ⟨d'', h2, h⟩ := bind1 h
  obtain ⟨dm, es, h3, h4, h5⟩ := Qhk h
  refine ⟨dm, es, ?_, h4, h5⟩
  simp only [QaC, h1, h2, Za, h3]
noncomputable def Qah : List Int -> D -> D -> D
 | [], _, new => new
 | i :: is, .lst ds, new => match ixN ds.length i with
  | some j => .lst (ds.set j (Qah is (ds.getD j .non) new))
  | none => .lst ds
 | i :: is, .tup ds, new => match ixN ds.length i with
  | some j => .tup (ds.set j (Qah is (ds.getD j .non) new))
  | none => .tup ds
 | _ :: _, d, _ => d
theorem QfL : ∀ {ds : List D} {j : Nat} {d e : D}, ds[j]? = some d -> nls (ds.set j e) + d.nl = nls ds + e.nl
 | [], _, _, _, h => by simp at h
 | x :: ds, 0, d, e, h => by simp at h; subst h; simp only [List.set_cons_zero, nls]; omega
 | x :: ds, j + 1, d, e, h => by
  have := QfL (ds := ds) (j := j) (e := e) (by simpa using h)
  simp only [List.set_cons_succ, nls]; omega
theorem QbJ : ∀ (as bs : List D), nls (as ++ bs) = nls as + nls bs
 | [], bs => by simp [nls]
 | a :: as, bs => by simp only [Zbb, nls, QbJ as bs]; omega
theorem Focus.mut {p : Addr} {dsm ds' : List D} {vs' : List V} {G' : List Addr} : ∀ {is : List Int} {d : D} {v : V} {F : List Addr} {Gm : List Addr}, Focus K H is d v F (.lst dsm) (.ref p) Gm -> F.Nodup -> F.length = d.nl →
  ∃ vsm Gp, H p = some (.lst vsm) /\ Gm = p :: Gp /\ Rps K H dsm vsm Gp /\ Gp.length = nls dsm /\ p ∈ F /\ (∀ a ∈ Gp, a ∈ F) /\ p ∉ Gp ∧
   (Rps K (upd H p (.lst vs')) ds' vs' G' -> ds'.length <= sizeLine -> G'.length = nls ds' →
    ∃ F', Rp K (upd H p (.lst vs')) (Qah is d (.lst ds')) v F' /\ F'.length = (Qah is d (.lst ds')).nl /\ ∀ a, F'.count a + Gp.count a = F.count a + G'.count a)
 | [], d, v, F, Gm, h, nd, hl => by
  obtain ⟨rfl, rfl, rfl, r⟩ := h
  simp only [Rp] at r
  obtain ⟨hz, a, vs, e, h⟩ := r
  cases e
  rcases h with ⟨L, rfl, q, rl⟩ | ⟨q, rl⟩
  ·obtain ⟨n1, n2⟩ := Zaw.mp nd
   have hl' : L.length = nls dsm := by simp only [D.nl, ZD] at hl; omega
   refine ⟨vs, L, q, rfl, rl, hl', Zn, λ a ha => Ze _ ha, n1, λ r' hz' hl2 => ⟨p :: G', Rp.QdV Qaj r' hz', ?_, λ a => ?_⟩⟩
   ·simp only [Qah, D.nl, ZD, hl2]
   ·rw [Zay, Zay]; omega
  ·have := rl.Qau
   simp only [D.nl] at hl
   omega
 | i :: is, d, v, F, Gm, h, nd, hl => by
  obtain ⟨ds, a, vs, j, F1, G, F2, d', v', rfl, hj, h3, h4, h5, h6, h7, h8, h9⟩ := h
  have hjl : j < ds.length := (Zd.mp h6).1
  have gd : ds.getD j .non = d' := by rw [Zah, h6]; rfl
  have l1 := h4.Qau
  have l2 := h5.Qau
  have l3 := h9.Qnl.Qau
  have nlsplit : nls (ds.take j) + (d'.nl + nls (ds.drop (j + 1))) = nls ds := by
   have e1 : ds = ds.take j ++ d' :: ds.drop (j + 1) := by
    have : ds[j] = d' := (Zd.mp h6).2
    rw [← this, ← Zak hjl, Zat]
   have e2 := congrArg nls e1
   rw [QbJ] at e2
   simp only [nls] at e2
   exact e2.symm
  have core : (F1 ++ (G ++ F2)).Nodup -> (F1 ++ (G ++ F2)).length = nls ds -> _ := λ nd' hl' => by
   simp only [Zl] at hl'
   have hG : G.length = d'.nl := by omega
   have ndG : G.Nodup := (ZaW.mp (ZaW.mp nd').2.1).1
   exact (h9.mut (vs' := vs') (ds' := ds') (G' := G') ndG hG)
  have apart : (F1 ++ (G ++ F2)).Nodup -> p ∈ G -> p ∉ F1 /\ p ∉ F2 := λ nd' hp => by
   have n1 := ZaW.mp nd'
   have n2 := ZaW.mp n1.2.1
   exact ⟨λ h => n1.2.2 p h p (Zh _ hp) rfl, λ h => n2.2.2 p hp p h rfl⟩
  have cnt : ∀ (G'' Gp : List Addr), (∀ a, G''.count a + Gp.count a = G.count a + G'.count a) -> ∀ a, (F1 ++ (G'' ++ F2)).count a + Gp.count a = (F1 ++ (G ++ F2)).count a + G'.count a := λ G'' Gp hc a => by
   have := hc a
   simp only [Zab]; omega
  rcases h3 with ⟨rfl, hz, ⟨rfl, q⟩ | ⟨rfl, q⟩⟩ | ⟨rfl, rfl, q⟩
  ·
   obtain ⟨n1, n2⟩ := Zaw.mp nd
   have hl' : (F1 ++ (G ++ F2)).length = nls ds := by simp only [D.nl, ZD] at hl; omega
   obtain ⟨vsm, Gp, e1, e2, e3, e4, e5, e6, e7, e8⟩ := core n2 hl'
   have ap := apart n2 e5
   have hap : a ≠ p := λ z => n1 (by rw [z]; exact Zc _ (Zh _ e5))
   refine ⟨vsm, Gp, e1, e2, e3, e4, Ze _ (Zc _ (Zh _ e5)), λ b hb => Ze _ (Zc _ (Zh _ (e6 b hb))), e7, λ r' hz' hl2 => ?_⟩
   obtain ⟨G'', f1, f2, f3⟩ := e8 r' hz' hl2
   have j1 := Rps.join (h4.upd (ys := vs') e1 ap.1) f1 (h5.upd (ys := vs') e1 ap.2) hjl h7
   refine ⟨a :: (F1 ++ (G'' ++ F2)), ?_, ?_, λ b => ?_⟩
   ·simp only [Qah, hj, gd]
    exact Rp.QdV (by rw [QP hap]; exact q) j1 (by rw [ZaR]; exact hz)
   ·have := QfL (ds := ds) (j := j) (e := Qah is d' (.lst ds')) h6
    simp only [Qah, hj, gd, D.nl, ZD, Zl, f2] at hl' ⊢
    omega
   ·have := cnt G'' Gp f3 b
    rw [Zay, Zay]; omega
  ·have : (F1 ++ (G ++ F2)).length <= nls ds := by simp only [Zl]; omega
   simp only [D.nl] at hl
   omega
  ·
   have hl' : (F1 ++ (G ++ F2)).length = nls ds := by simpa only [D.nl] using hl
   obtain ⟨vsm, Gp, e1, e2, e3, e4, e5, e6, e7, e8⟩ := core nd hl'
   have ap := apart nd e5
   refine ⟨vsm, Gp, e1, e2, e3, e4, Zc _ (Zh _ e5), λ b hb => Zc _ (Zh _ (e6 b hb)), e7, λ r' hz' hl2 => ?_⟩
   obtain ⟨G'', f1, f2, f3⟩ := e8 r' hz' hl2
   have j1 := Rps.join (h4.upd (ys := vs') e1 ap.1) f1 (h5.upd (ys := vs') e1 ap.2) hjl h7
   refine ⟨F1 ++ (G'' ++ F2), ?_, ?_, cnt G'' Gp f3⟩
   ·simp only [Qah, hj, gd, Rp]
    exact ⟨a, vs, rfl, Qk5 e1 q, j1⟩
   ·have := QfL (ds := ds) (j := j) (e := Qah is d' (.lst ds')) h6
    simp only [Qah, hj, gd, D.nl, Zl, f2] at hl' ⊢
    omega
end
end HS
namespace HS
open PySem PySem.Spec L2
section
variable {K : PySem.W.Frag} {H0 H H1 H2 : Hp} {A0 : List Addr} {hs : List (V × D × List Addr)} {ρ : En} {F : Nat -> List Addr} {σ : L2.St}
theorem Rel.mut (rel : Rel K H0 A0 hs ρ F σ H) {r : R} {vn : V} {Gn : List Addr} (p : QW K ρ F H H1 r vn Gn) (hf : r.fr = true) (nd : r.M.Nodup) (s12 : QH H1 H2) {x : Nat} {d : D} (hx : ρ[x]? = some (some (d, true))) (hxM : x ∉ r.M) {v0 : V} (hv0 : σ[x]? = some (some v0))
  {dnew : D} {q : Addr} {F' : List Addr} {vsm vs' : List V} (e1 : H2 q = some (.lst vsm)) (e5 : q ∈ F x) (f1 : Rp K (upd H2 q (.lst vs')) dnew v0 F') (f2 : F'.length = dnew.nl) (cF : ∀ a, F'.count a <= (F x).count a + Gn.count a) :
  ∃ F', Rel K H0 A0 hs ((kill r.M ρ).set x (some (dnew, true))) F' σ (upd H2 q (.lst vs')) := by
 obtain ⟨ol, on, o0, oap, oh⟩ := rel.own x d hx
 obtain ⟨gn, gs⟩ := p.fresh rel hf nd
 have rel2 := (rel.ext p.same).ext s12
 have relk := rel2.weak (Qce r.M ρ)
 have apn : ∀ a ∈ Gn, a ∉ F x := λ a ha hax => by
  rcases (gs a ha).2 with z | ⟨k, d', hk, ek, hak⟩
  ·obtain ⟨vs, w⟩ := rel.mem hx hax
   rw [z] at w; cases w
  ·have : k ≠ x := λ z => hxM (z ▸ hk)
   exact oap k d' true this ek a hax hak
 have memF : ∀ a ∈ F', a ∈ F x ∨ a ∈ Gn := λ a ha => by
  have h1 := cF a
  have h2 : 0 < F'.count a := Zal.mpr ha
  by_cases h : a ∈ F x
  ·exact .inl h
  ·rw [ZI.mpr h] at h1
   exact .inr (Zal.mp (by omega))
 have apart : ∀ (j : Nat) d' b, j ≠ x -> (kill r.M ρ)[j]? = some (some (d', b)) -> ∀ a ∈ F', a ∉ F j := λ j d' b hj e a ha haj => by
  obtain ⟨b', e', _⟩ := (Qce r.M ρ).2 j d' b e
  rcases memF a ha with h | h
  ·exact oap j d' b' hj e' a h haj
  ·rcases (gs a h).2 with z | ⟨k, d'', hk, ek, hak⟩
   ·obtain ⟨vs, w⟩ := rel.mem e' haj
    rw [z] at w; cases w
   ·have hjk : j ≠ k := λ z => by subst z; exact Qfn r.M ρ j d' b hk e
    exact (rel.own k d'' ek).2.2.2.1 j d' b' hjk e' a hak haj
 have apartH : ∀ t ∈ hs, ∀ a ∈ F', a ∉ t.2.2 := λ t ht a ha hat => by
  rcases memF a ha with h | h
  ·exact oh t ht a h hat
  ·rcases (gs a h).2 with z | ⟨k, d'', hk, ek, hak⟩
   ·obtain ⟨vs, w⟩ := (rel.held t ht).1.mem a hat
    rw [z] at w; cases w
   ·exact (rel.own k d'' ek).2.2.2.2 t ht a hak hat
 have nqj : ∀ (j : Nat) d' b, j ≠ x -> ρ[j]? = some (some (d', b)) -> q ∉ F j := λ j d' b hj e h => oap j d' b hj e q e5 h
 have nF' : F'.Nodup := Zan.mpr λ a => by
  have h1 := cF a
  have h2 := Zan.mp on a
  have h3 := Zan.mp gn a
  by_cases h : a ∈ Gn
  ·rw [ZI.mpr (apn a h)] at h1; omega
  ·rw [ZI.mpr h] at h1; omega
 have lt : ∀ {j : Nat} {z : Option (D × Bool)} {y : D × Bool}, ((kill r.M ρ).set j z)[j]? = some (some y) -> j < (kill r.M ρ).length := λ {j z y} e => by
  by_cases hl : j < (kill r.M ρ).length
  ·exact hl
  ·rw [Zr (by simp; omega)] at e; cases e
 refine ⟨λ j => if j = x then F' else F j, by simp [relk.len], λ j d' b e => ?_, λ j d' e => ?_, λ j d' b e a ha => ?_, λ t ht => ⟨(relk.held t ht).1.upd e1 λ h => oh t ht q e5 h, (relk.held t ht).2⟩, λ b o hb => ?_⟩
 ·by_cases hj : j = x
  ·subst hj
   have hl := lt e
   rw [Zs hl] at e
   cases e
   exact ⟨v0, hv0, by rw [if_pos rfl]; exact f1⟩
  ·rw [Zg (Ne.symm hj)] at e
   obtain ⟨w, h1, h2⟩ := relk.val j d' b e
   obtain ⟨b', e', _⟩ := (Qce r.M ρ).2 j d' b e
   exact ⟨w, h1, by rw [if_neg hj]; exact h2.upd e1 (nqj j d' b' hj e')⟩
 ·by_cases hj : j = x
  ·subst hj
   have hl := lt e
   rw [Zs hl] at e
   cases e
   rw [if_pos rfl]
   refine ⟨f2, nF', λ a ha => ?_, λ k d'' b hk ek a ha => ?_, apartH⟩
   ·rcases memF a ha with h | h
    ·exact o0 a h
    ·exact (gs a h).1
   ·rw [Zg (Ne.symm hk)] at ek
    rw [if_neg hk]
    exact apart k d'' b hk ek a ha
  ·rw [Zg (Ne.symm hj)] at e
   obtain ⟨h1, h2, h3, h4, h5⟩ := relk.own j d' e
   rw [if_neg hj]
   refine ⟨h1, h2, h3, λ k d'' b hk ek a ha => ?_, h5⟩
   by_cases hki : k = x
   ·subst hki
    rw [if_pos rfl]
    exact λ hG => apart j d' true hj e a hG ha
   ·rw [Zg (Ne.symm hki)] at ek
    rw [if_neg hki]
    exact h4 k d'' b hk ek a ha
 ·by_cases hj : j = x
  ·subst hj
   rw [if_pos rfl] at ha
   rcases memF a ha with h | h
   ·exact .inl (o0 a h)
   ·exact .inl (gs a h).1
  ·rw [Zg (Ne.symm hj)] at e
   rw [if_neg hj] at ha
   exact relk.src j d' b e a ha
 ·have hbq : b ≠ q := λ z => by rw [z, o0 q e5] at hb; cases hb
  rw [QP hbq]
  exact relk.same b o hb
end
noncomputable abbrev DP := En -> Option (List Int)
noncomputable def Q1 : DP := λ _ => some []
noncomputable def Qca (p : DP) (fb : DE) : DP := λ ρ => (p ρ).bind λ is => (fb ρ).bind λ r => match r.d with
 | .int i => some (is ++ [i])
 | _ => none
noncomputable def tP (K : PySem.W.Frag) (H0 : Hp) (A0 : List Addr) (x : Nat) (pf : DP) : TE := λ σ H Q => ∃ ρ hs F d b is dm, Rel K H0 A0 hs ρ F σ H /\ ρ[x]? = some (some (d, b)) /\ pf ρ = some is /\ QaC d is = some dm ∧
 ∀ v0 v H' Gm, QH H H' -> σ[x]? = some (some v0) -> Focus K H' is d v0 (F x) dm v Gm -> Q v H'
def SPa (X : Cx) (e : Expr) (x : Nat) (pf : DP) : Prop := ∀ H0 A0, PE X e (tP X.K H0 A0 x pf)
section
variable {X : Cx} {a b e : Expr} {fa fb : DE} {pf : DP} {x : Nat} {pos : Pos}
theorem QgD {y : Str} (h : PE X (.Name y pos) (Qks x)) : SPa X (.Name y pos) x Q1 := λ H0 A0 => h.mono λ σ H Q ⟨ρ, hs, F, d, b, is, dm, rel, hx, hp, hd, q⟩ => by
 cases hp
 cases hd
 obtain ⟨v, h1, h2⟩ := rel.val x d b hx
 exact ⟨v, h1, q v v H (F x) (QH.refl _) h1 ⟨rfl, rfl, rfl, h2⟩⟩
theorem Qp6 (ha : SPa X a x pf) (hb : SE X b fb) (hs : QfP b) : SPa X (.Subscript a b pos) x (Qca pf fb) := λ H0 A0 =>
 (Qpn (Qlu.or Qnq) (ha H0 A0) (hb H0 A0) hs).mono λ σ H Q ⟨ρ, hs, F, d, b', is, dm, rel, hx, hp, hd, q⟩ => by
  obtain ⟨is', e1, hp⟩ := bind1 hp
  obtain ⟨r, e2, hp⟩ := bind1 hp
  cases hr : r.d with
  | int i =>
   rw [hr] at hp
   cases hp
   obtain ⟨dn, ds, g1, g2, g3⟩ := Qhk hd
   refine ⟨ρ, hs, F, d, b', is', dn, rel, hx, e1, g1, λ v0 w H1 Gm s1 hv fo => ⟨ρ, hs, F, r, rel.ext s1, e2, λ u H2 G p2 => ?_⟩⟩
   have rp := p2.rp
   rw [hr] at rp
   rw [rp.int_inv]
   have fo2 := fo.same p2.same
   obtain ⟨c, vs, v', G', rfl, hc, h3, h4⟩ := Focus.one fo2.rp g2 g3
   have fin := q v0 v' H2 G' (s1.trans p2.same) hv (fo2.snoc h4)
   rcases hc with ⟨_, hc⟩ | ⟨_, hc⟩
   ·exact .inl ⟨c, vs, i, v', rfl, rfl, hc, h3, fin⟩
   ·exact .inr ⟨c, vs, i, v', rfl, rfl, hc, h3, fin⟩
  | _ => rw [hr] at hp; cases hp
noncomputable def QaV (x : Nat) (pf : DP) (fi fa : DE) : DS := λ ρ => (fa ρ).bind λ r0 => match ρ[x]? with
 | some (some (d, true)) => (pf ρ).bind λ is => (fi ρ).bind λ ri => match ri.d, QaC d is with
  | .int k, some (.lst ds) => (ixN ds.length k).bind λ j => if r0.norm.fr && decide r0.norm.M.Nodup && !r0.norm.M.contains x then some (.nx ((kill r0.norm.M ρ).set x (some (Qah is d (.lst (ds.set j r0.d)), true)))) else
   if is.isEmpty && !r0.norm.M.contains x then some (.nx ((QaL r0.norm.M ρ).set x (some (.lst (ds.set j r0.d), false)))) else
   none
  | _, _ => none
 | _ => none
theorem set_mk {K : PySem.W.Frag} {H2 : Hp} {q : Addr} {dsm : List D} {vsm : List V} {Gp Gn : List Addr} {j : Nat} {dn : D} {vn : V} (hq : H2 q = some (.lst vsm)) (rs : Rps K H2 dsm vsm Gp) (hl : Gp.length = nls dsm) (nq : q ∉ Gp) (nqn : q ∉ Gn) (hn : Rp K H2 dn vn Gn) (hnl : Gn.length = dn.nl) (hj : j < dsm.length) :
  ∃ G', Rps K (upd H2 q (.lst (vsm.set j vn))) (dsm.set j dn) (vsm.set j vn) G' /\ G'.length = nls (dsm.set j dn) /\ ∀ a, G'.count a <= Gp.count a + Gn.count a := by
 obtain ⟨F1, G, F2, v, e1, e2, h1, h2, h3⟩ := rs.split (j := j) (d := dsm[j]) (by simp [hj])
 subst e1
 have hjv : j < vsm.length := by rw [← rs.length]; exact hj
 have n1 : q ∉ F1 := λ h => nq (Zh _ h)
 have n2 : q ∉ F2 := λ h => nq (Zc _ (Zc _ h))
 refine ⟨F1 ++ (Gn ++ F2), Rps.Qpy (h1.upd hq n1) (hn.upd hq nqn) (h3.upd hq n2) hj hjv, ?_, λ a => ?_⟩
 ·have := QfL (ds := dsm) (j := j) (d := dsm[j]) (e := dn) (by simp [hj])
  have l1 := h1.Qau
  have l2 := h2.Qau
  have l3 := h3.Qau
  have e1 : nls (dsm.take j) + ((dsm[j]).nl + nls (dsm.drop (j + 1))) = nls dsm := by
   have e2 := congrArg nls (Zat j dsm)
   rw [QbJ, Zak hj] at e2
   simpa only [nls] using e2
  simp only [Zl] at hl ⊢
  omega
 ·simp only [Zab]; omega
theorem QW.QiR {K : PySem.W.Frag} {ρ : En} {F : Nat -> List Addr} {H H1 H2 : Hp} {r : R} {v : V} {G : List Addr} (p : QW K ρ F H H1 r v G) (s : QH H1 H2) : QW K ρ F H H2 r v G := ⟨p.same.trans s, p.rp.same s, p.src, p.cnt, p.own⟩
theorem QqL {K : PySem.W.Frag} {H2 : Hp} {q : Addr} {dsm : List D} {vsm : List V} {Gp Gn : List Addr} {j : Nat} {dn : D} {vn : V} (hq : H2 q = some (.lst vsm)) (rs : Rps K H2 dsm vsm Gp) (nq : q ∉ Gp) (nqn : q ∉ Gn) (hn : Rp K H2 dn vn Gn) (hj : j < dsm.length) :
  ∃ G', Rps K (upd H2 q (.lst (vsm.set j vn))) (dsm.set j dn) (vsm.set j vn) G' /\ ∀ a ∈ G', a ∈ Gp ∨ a ∈ Gn := by
 obtain ⟨F1, G, F2, v, e1, e2, h1, h2, h3⟩ := rs.split (j := j) (d := dsm[j]) (by simp [hj])
 subst e1
 have hjv : j < vsm.length := by rw [← rs.length]; exact hj
 have n1 : q ∉ F1 := λ h => nq (Zh _ h)
 have n2 : q ∉ F2 := λ h => nq (Zc _ (Zc _ h))
 refine ⟨F1 ++ (Gn ++ F2), Rps.Qpy (h1.upd hq n1) (hn.upd hq nqn) (h3.upd hq n2) hj hjv, λ a ha => ?_⟩
 rcases Zy.mp ha with h | h
 ·exact .inl (Zh _ h)
 ·rcases Zy.mp h with h | h
  ·exact .inr h
  ·exact .inl (Zc _ (Zc _ h))
theorem Qgq : ∀ (M : List Nat) (ρ : En) (x : Nat), x ∉ M -> (QaL M ρ)[x]? = ρ[x]?
 | [], ρ, x, _ => rfl
 | i :: M, ρ, x, h => by
  have hi : i ≠ x := λ e => h (e ▸ Zn)
  unfold QaL
  rw [Qgq M _ x λ e => h (Ze _ e)]
  split
  ·rw [Zg hi]
  ·rfl
theorem Rel.QtL {K : PySem.W.Frag} {H0 H : Hp} {A0 : List Addr} {hs : List (V × D × List Addr)} {ρ : En} {F : Nat -> List Addr} {σ : L2.St} (rel : Rel K H0 A0 hs ρ F σ H) {x : Nat} {d : D} (hx : ρ[x]? = some (some (d, true))) {Gn : List Addr} (sh : Shr H0 A0 ρ F Gn) {v0 : V} (hv0 : σ[x]? = some (some v0))
  {dnew : D} {q : Addr} {G' : List Addr} {vsm vs' : List V} (e1 : H q = some (.lst vsm)) (e5 : q ∈ F x) (f1 : Rp K (upd H q (.lst vs')) dnew v0 G') (mem : ∀ a ∈ G', a ∈ F x ∨ a ∈ Gn) :
  ∃ F', Rel K H0 A0 hs (ρ.set x (some (dnew, false))) F' σ (upd H q (.lst vs')) := by
 obtain ⟨ol, on, o0, oap, oh⟩ := rel.own x d hx
 have lt : ∀ {j : Nat} {z : Option (D × Bool)} {y : D × Bool}, (ρ.set j z)[j]? = some (some y) -> j < ρ.length := λ {j z y} e => by
  by_cases hl : j < ρ.length
  ·exact hl
  ·rw [Zr (by simp; omega)] at e; cases e
 refine ⟨λ j => if j = x then G' else F j, by simp [rel.len], λ j d' b e => ?_, λ j d' e => ?_, λ j d' b e a ha => ?_, λ t ht => ⟨(rel.held t ht).1.upd e1 λ h => oh t ht q e5 h, (rel.held t ht).2⟩, λ b o hb => ?_⟩
 ·by_cases hj : j = x
  ·subst hj
   have hl := lt e
   rw [Zs hl] at e
   cases e
   exact ⟨v0, hv0, by rw [if_pos rfl]; exact f1⟩
  ·rw [Zg (Ne.symm hj)] at e
   obtain ⟨w, h1, h2⟩ := rel.val j d' b e
   exact ⟨w, h1, by rw [if_neg hj]; exact h2.upd e1 λ h => oap j d' b hj e q e5 h⟩
 ·by_cases hj : j = x
  ·subst hj
   have hl := lt e
   rw [Zs hl] at e
   cases e
  ·rw [Zg (Ne.symm hj)] at e
   obtain ⟨h1, h2, h3, h4, h5⟩ := rel.own j d' e
   rw [if_neg hj]
   refine ⟨h1, h2, h3, λ k d'' b hk ek a ha => ?_, h5⟩
   by_cases hki : k = x
   ·subst hki
    rw [if_pos rfl]
    intro hG
    rcases mem a hG with h | h
    ·exact h4 k d true (Ne.symm hj) hx a ha h
    ·exact (sh a h).2 j d' e ha
   ·rw [Zg (Ne.symm hki)] at ek
    rw [if_neg hki]
    exact h4 k d'' b hk ek a ha
 ·by_cases hj : j = x
  ·subst hj
   rw [if_pos rfl] at ha
   rcases mem a ha with h | h
   ·exact .inl (o0 a h)
   ·exact (sh a h).1
  ·rw [Zg (Ne.symm hj)] at e
   rw [if_neg hj] at ha
   exact rel.src j d' b e a ha
 ·have hbq : b ≠ q := λ z => by rw [z, o0 q e5] at hb; cases hb
  rw [QP hbq]
  exact rel.same b o hb
theorem Qq8 {i : Expr} {pos' : Pos} {fi : DE} (hv : SE X e fa) (ho : SPa X a x pf) (hi : SE X i fi)
  (h : ∀ te to ti, PE X e te -> PE X a to -> PE X i ti -> PS X (.Assign [.Subscript a i pos'] e pos) (QjU te (L2.Qb7 to ti Qpq))) : S1 X (.Assign [.Subscript a i pos'] e pos) (QaV x pf fi fa) := λ H0 A0 =>
 (h _ _ _ (hv H0 A0) (ho H0 A0) (hi H0 A0)).mono λ E σ H ⟨ρ, hs, F, o, rel, e, q⟩ => by
  obtain ⟨r0, e1, e⟩ := bind1 e
  split at e
  ·rename_i d hx
   obtain ⟨is, e2, e⟩ := bind1 e
   obtain ⟨ri, e3, e⟩ := bind1 e
   split at e
   ·rename_i k ds hk hp
    obtain ⟨j, e4, e⟩ := bind1 e
    split at e
    ·rename_i hc
     cases e
     simp only [Zf, decide_eq_true_eq, Zao] at hc
     obtain ⟨⟨c1, c2⟩, c3⟩ := hc
     have c3 : x ∉ r0.norm.M := λ h => by rw [ZaZ.mpr h] at c3; cases c3
     refine ⟨ρ, hs, F, r0, rel, e1, λ vn H1 Gn p => ⟨ρ, hs, F, d, true, is, .lst ds, rel.ext p.same, hx, e2, hp, λ v0 w H2 Gm s2 hv0 fo => ⟨ρ, hs, F, ri, (rel.ext p.same).ext s2, e3, λ u H3 Gi pi => ?_⟩⟩⟩
     have p' := (p.norm.QiR s2).QiR pi.same
     have fo3 := fo.same pi.same
     have rpi := pi.rp
     rw [hk] at rpi
     rw [rpi.int_inv]
     obtain ⟨l, ws, L, rfl, _⟩ := fo3.rp.lst_inv
     obtain ⟨ol, on, _, oap, _⟩ := rel.own x d hx
     have hjl := (QeD e4).2.1
     obtain ⟨gn, gs⟩ := p'.fresh rel c1 c2
     have rn := p'.rp
     rw [r0.Qcy] at rn
     have hnl := (p'.cnt c1).2
     rw [r0.Qcy] at hnl
     obtain ⟨vsm, _, f1, _⟩ := fo3.mut (vs' := []) (ds' := []) (G' := []) on ol
     obtain ⟨_, _, _, _, _, _, zl, _⟩ := fo3.rp.lst_inv
     have key : ∃ F', Rp X.K (upd H3 l (.lst (vsm.set j vn))) (Qah is d (.lst (ds.set j r0.d))) v0 F' /\ F'.length = (Qah is d (.lst (ds.set j r0.d))).nl /\ l ∈ F x /\ ds.length = vsm.length /\ ∀ a, F'.count a <= (F x).count a + Gn.count a := by
      have own5 : ∀ G', _ := λ G' => fo3.mut (vs' := vsm.set j vn) (ds' := ds.set j r0.d) (G' := G') on ol
      obtain ⟨vs1, Gp, g1, g2, g3, g4, g5, g6, g7, _⟩ := own5 []
      rw [f1] at g1; cases g1
      have hq : l ∉ Gn := λ h => by
       rcases (gs l h).2 with z | ⟨k', d', hk', ek, hak⟩
       ·obtain ⟨vs, w⟩ := rel.mem hx g5
        rw [z] at w; cases w
       ·exact oap k' d' true (λ z => c3 (z ▸ hk')) ek l g5 hak
      obtain ⟨G', m1, m2, m3⟩ := set_mk f1 g3 g4 g7 hq rn hnl hjl
      obtain ⟨vs2, Gp2, k1, k2, k3, k4, k5, k6, k7, k8⟩ := own5 G'
      have eG : Gp2 = Gp := by rw [g2] at k2; exact (List.cons.inj k2).2.symm
      subst eG
      obtain ⟨F', h1, h2, h3⟩ := k8 m1 (by rw [ZaR]; exact zl) m2
      exact ⟨F', h1, h2, g5, g3.length, λ a => by have := h3 a; have := m3 a; omega⟩
     obtain ⟨F', k1, k2, k3, k4, k5⟩ := key
     refine ⟨l, vsm, k, j, rfl, rfl, f1, by rw [← k4]; exact e4, ?_⟩
     obtain ⟨F'', rel'⟩ := rel.mut p' c1 c2 (QH.refl _) hx c3 hv0 f1 k3 k1 k2 k5
     exact q _ _ F'' rel'
    ·
     split at e
     ·rename_i hc
      cases e
      simp only [Zf, Zao, List.isEmpty_iff] at hc
      obtain ⟨rfl, c3⟩ := hc
      have c3 : x ∉ r0.norm.M := λ h => by rw [ZaZ.mpr h] at c3; cases c3
      refine ⟨ρ, hs, F, r0, rel, e1, λ vn H1 Gn p => ⟨ρ, hs, F, d, true, [], .lst ds, rel.ext p.same, hx, e2, hp, λ v0 w H2 Gm s2 hv0 fo => ⟨ρ, hs, F, ri, (rel.ext p.same).ext s2, e3, λ u H3 Gi pi => ?_⟩⟩⟩
      have p' := (p.norm.QiR s2).QiR pi.same
      have fo3 := fo.same pi.same
      have rpi := pi.rp
      rw [hk] at rpi
      rw [rpi.int_inv]
      obtain ⟨l, ws, L, rfl, _⟩ := fo3.rp.lst_inv
      obtain ⟨ol, on, _, oap, _⟩ := rel.own x d hx
      have hjl := (QeD e4).2.1
      have rn := p'.rp
      rw [r0.Qcy] at rn
      obtain ⟨vsm, Gp, f1, g2, g3, g4, g5, g6, g7, _⟩ := fo3.mut (vs' := []) (ds' := []) (G' := []) on ol
      obtain ⟨_, _, _, _, _, _, zl, _⟩ := fo3.rp.lst_inv
      have sh := Shr.of rel p'.src
      have relD := (rel.ext p'.same).weak (Qbc r0.norm.M ρ)
      have hxD : (QaL r0.norm.M ρ)[x]? = some (some (d, true)) := by rw [Qgq _ _ _ c3]; exact hx
      have hq : l ∉ Gn := λ h => (sh l h).2 x d hxD g5
      obtain ⟨G', m1, m3⟩ := QqL f1 g3 g7 hq rn hjl
      have e0 : v0 = .ref l := (fo3.2.1).symm
      subst e0
      refine ⟨l, vsm, k, j, rfl, rfl, f1, by rw [← g3.length]; exact e4, ?_⟩
      obtain ⟨F'', rel'⟩ := relD.QtL (dnew := .lst (ds.set j r0.d)) (G' := l :: G') (vs' := vsm.set j vn) hxD sh hv0 f1 g5 (Rp.QdV Qaj m1 (by rw [ZaR]; exact zl)) λ a ha => by
       rcases Zw.mp ha with h | h
       ·exact .inl (h ▸ g5)
       ·rcases m3 a h with h | h
        ·exact .inl (g6 a h)
        ·exact .inr h
      exact q _ _ F'' rel'
     ·
      cases e
   ·cases e
  ·cases e
end
end HS
namespace HS
open PySem PySem.Spec L2
section
variable {K : PySem.W.Frag} {H0 H H1 H2 H3 : Hp} {A0 : List Addr} {hs : List (V × D × List Addr)} {ρ : En} {F : Nat -> List Addr} {σ : L2.St}
theorem Rel.write (rel : Rel K H0 A0 hs ρ F σ H) {r : R} {vn : V} {Gn : List Addr} (p : QW K ρ F H H3 r vn Gn) (hf : r.fr = true) (nd : r.M.Nodup) {x : Nat} {d : D} (hx : ρ[x]? = some (some (d, true))) (hxM : x ∉ r.M) {v0 w : V} (hv0 : σ[x]? = some (some v0))
  {is : List Int} {ds : List D} {Gm : List Addr} (fo : Focus K H3 is d v0 (F x) (.lst ds) w Gm) :
  ∃ l vsm Gp, w = .ref l /\ H3 l = some (.lst vsm) /\ Rps K H3 ds vsm Gp /\ Gp.length = nls ds /\ l ∉ Gp /\ l ∉ Gn /\ ds.length <= sizeLine ∧
   ∀ ds' vs' G', Rps K (upd H3 l (.lst vs')) ds' vs' G' -> ds'.length <= sizeLine -> G'.length = nls ds' -> (∀ a, G'.count a <= Gp.count a + Gn.count a) →
    ∃ F', Rel K H0 A0 hs ((kill r.M ρ).set x (some (Qah is d (.lst ds'), true))) F' σ (upd H3 l (.lst vs')) := by
 obtain ⟨l, ws, L, rfl, _, _, zl, _⟩ := fo.rp.lst_inv
 obtain ⟨ol, on, _, oap, _⟩ := rel.own x d hx
 obtain ⟨gn, gs⟩ := p.fresh rel hf nd
 obtain ⟨vsm, Gp, g1, g2, g3, g4, g5, g6, g7, _⟩ := fo.mut (vs' := []) (ds' := []) (G' := []) on ol
 have hq : l ∉ Gn := λ h => by
  rcases (gs l h).2 with z | ⟨k', d', hk', ek, hak⟩
  ·obtain ⟨vs, w⟩ := rel.mem hx g5
   rw [z] at w; cases w
  ·exact oap k' d' true (λ z => hxM (z ▸ hk')) ek l g5 hak
 refine ⟨l, vsm, Gp, rfl, g1, g3, g4, g7, hq, zl, λ ds' vs' G' m1 m2 m3 m4 => ?_⟩
 obtain ⟨vs2, Gp2, k1, k2, k3, k4, k5, k6, k7, k8⟩ := fo.mut (vs' := vs') (ds' := ds') (G' := G') on ol
 have eG : Gp2 = Gp := by rw [g2] at k2; exact (List.cons.inj k2).2.symm
 subst eG
 obtain ⟨F', h1, h2, h3⟩ := k8 m1 m2 m3
 exact rel.mut p hf nd (QH.refl _) hx hxM hv0 g1 g5 h1 h2 λ a => by have := h3 a; have := m4 a; omega
end
section
variable {X : Cx} {a b e : Expr} {fa fb : DE} {pf : DP} {x : Nat} {pos apos : Pos}
noncomputable def Qhi (r : R) (x : Nat) : Bool := r.norm.fr && decide r.norm.M.Nodup && !r.norm.M.contains x
theorem Qnw {r : R} {x : Nat} (h : Qhi r x = true) : r.norm.fr = true /\ r.norm.M.Nodup /\ x ∉ r.norm.M := by
 unfold Qhi at h
 simp only [Zf, decide_eq_true_eq, Zao] at h
 exact ⟨h.1.1, h.1.2, λ z => by rw [ZaZ.mpr z] at h; cases h.2⟩
noncomputable def Qdo (x : Nat) (pf : DP) (fa : DE) : DS := λ ρ => match ρ[x]? with
 | some (some (d, true)) => (pf ρ).bind λ is => (fa ρ).bind λ r0 => match QaC d is with
  | some (.lst ds) => if Qhi r0 x && decide (ds.length < sizeLine) then some (.nx ((kill r0.norm.M ρ).set x (some (Qah is d (.lst (ds ++ [r0.d])), true)))) else none
  | _ => none
 | _ => none
theorem Qob {H0 : Hp} {A0 : List Addr} {E : Ends} {σ : L2.St} {H : Hp} : tS X.K H0 A0 (Qdo x pf fa) E σ H -> QfZ (tBM X.K "list" Qic (tP X.K H0 A0 x pf) (QcT (tV X.K H0 A0 fa) Qeo)) E σ H := λ ⟨ρ, hs, F, o, rel, e, q⟩ => by
 unfold Qdo at e
 split at e
 ·rename_i d hx
  obtain ⟨is, e2, e⟩ := bind1 e
  obtain ⟨r0, e1, e⟩ := bind1 e
  split at e
  ·rename_i ds hp
   split at e
   ·rename_i hc
    simp only [Zf, decide_eq_true_eq] at hc
    obtain ⟨c1, c2, c3⟩ := Qnw hc.1
    cases e
    refine ⟨ρ, hs, F, d, true, is, .lst ds, rel, hx, e2, hp, λ v0 w H2 Gm s2 hv0 fo => ?_⟩
    have ty : tyV X.K "list" w H2 := by
     obtain ⟨l, ws, L, rfl, hl, _⟩ := fo.rp.lst_inv
     exact .inl ⟨rfl, ws, Q4 hl⟩
    refine ⟨ty, ρ, hs, F, r0, rel.ext s2, e1, λ vn H3 Gn p => ?_⟩
    have p' := p.norm
    obtain ⟨l, vsm, Gp, rfl, g1, g2, g3, g4, g5, g6, g7⟩ := (rel.ext s2).write p' c1 c2 hx c3 hv0 (fo.same p.same)
    refine ⟨l, vsm, vn, rfl, rfl, g1, by rw [← g2.length]; exact hc.2, ?_⟩
    have rn := p'.rp
    rw [r0.Qcy] at rn
    have hnl := (p'.cnt c1).2
    rw [r0.Qcy] at hnl
    have rw1 : Rps X.K (upd H3 l (.lst (vsm ++ [vn]))) [r0.d] [vn] Gn := by
     simp only [Rps]
     exact ⟨vn, [], Gn, [], rfl, by simp, rn.upd g1 g5, rfl, rfl⟩
    obtain ⟨F', rel'⟩ := g7 (ds ++ [r0.d]) (vsm ++ [vn]) (Gp ++ Gn) ((g2.upd g1 g4).append rw1) (by rw [Zl, ZaI]; omega) (by rw [Zl, QbJ, g3, hnl]; simp [nls]) (λ a => by rw [Zab]; omega)
    exact q _ _ F' rel'
   ·cases e
  ·cases e
 ·cases e
open PyProof.Rows in
theorem Qne : Qsj X (Qrb X.K) := by
 intro pins s σ H o i ov iv Q I ro ri h
 obtain ⟨p, xs, k, v, rfl, rfl, hq, ha, q⟩ := h
 cases ro
 obtain ⟨t, rfl⟩ := ri
 obtain ⟨its, r, pl, hz⟩ := I.list hq
 obtain ⟨j, h1, h2, h3, h4, h5⟩ := QhN ha
 obtain ⟨w, ew, rw'⟩ := r.get h2
 have hl := r.length
 have hn := QeH
 by_cases h0 : 0 <= k
 ·refine wpAny_getItem_list pl.isList h0 (by omega) (x := w) ?_ ⟨v, H, I, rw', q⟩
  have : k.toNat = j := by
   rw [seqIndex_of h0 h5] at h1
   exact Option.some.inj h1
  rw [this]; simpa using ew
 ·refine wpAny_getItem_list_neg pl.isList (by omega) (by rw [Zk] <;> omega) (by omega) (x := w) ?_ ⟨v, H, I, rw', q⟩
  have hj : (k + (its.toArray.size : Int)).toNat = j := by
   rw [seqIndex_neg (by omega) h4] at h1
   rw [Zk, ← hl]
   exact Option.some.inj h1
  rw [hj]; simpa using ew
noncomputable def Qd4 (g : D -> D -> Option D) (x : Nat) (pf : DP) (fi fa : DE) : DS := λ ρ => match ρ[x]? with
 | some (some (d, true)) => (pf ρ).bind λ is => (fi ρ).bind λ ri => match ri.d, QaC d is with
  | .int k, some (.lst ds) => (ixN ds.length k).bind λ j => (ds[j]?).bind λ old => (fa ρ).bind λ r => (g old r.d).map λ new => .nx (ρ.set x (some (Qah is d (.lst (ds.set j new)), true)))
  | _, _ => none
 | _ => none
theorem Qqp {op : Operator} {i : Expr} {pos' : Pos} {fi : DE} {g : D -> D -> Option D} {r : R2} (ho : OpR X (inplaceOp op) r) (hg : Qb4 X.K g r) (hv : SE X e fa) (hp : SPa X a x pf) (hi : SE X i fi)
  (ha : ∀ ov iv new, augStore i ov iv new = (do holding [new, ov, iv] (setItem ov iv new); release [new, ov, iv] []; pure .next)) : S1 X (.AugAssign (.Subscript a i pos') op e pos) (Qd4 g x pf fi fa) := λ H0 A0 =>
 (Qqz (hp H0 A0) (hi H0 A0) Qne (hv H0 A0) (λ pins s σ H x y v u Q I rx ry q => QtH ho I rx ry q) set_list ha).mono λ E σ H ⟨ρ, hs, F, o, rel, e, q⟩ => by
  unfold Qd4 at e
  split at e
  ·rename_i d hx
   obtain ⟨is, e2, e⟩ := bind1 e
   obtain ⟨ri, e3, e⟩ := bind1 e
   split at e
   ·rename_i k ds hk hp'
    obtain ⟨j, e4, e⟩ := bind1 e
    obtain ⟨old, e5, e⟩ := bind1 e
    obtain ⟨rv, e6, e⟩ := bind1 e
    obtain ⟨new, e7, e⟩ := Zb.mp e
    subst e
    have hjl := (QeD e4).2.1
    refine ⟨ρ, hs, F, d, true, is, .lst ds, rel, hx, e2, hp', λ v0 w H2 Gm s2 hv0 fo => ⟨ρ, hs, F, ri, rel.ext s2, e3, λ u H3 Gi pi => ?_⟩⟩
    have fo3 := fo.same pi.same
    have rpi := pi.rp
    rw [hk] at rpi
    rw [rpi.int_inv]
    have at3 : atI ds k = some old := by unfold atI; rw [e4]; exact e5
    obtain ⟨l, vs, v', Go, rfl, hc, h3, h4⟩ := Focus.one fo3.rp rfl at3
    have hc : SqL X.K H3 l vs := by
     rcases hc with ⟨_, hc⟩ | ⟨hc, _⟩
     ·exact hc
     ·cases hc
    refine ⟨l, vs, k, v', rfl, rfl, hc, h3, ρ, hs, F, rv, (rel.ext s2).ext pi.same, e6, λ y H4 G4 p4 => ?_⟩
    have fo4 := fo3.same p4.same
    have ro := h4.rp.same p4.same
    refine (hg _ _ _ e7).2 H4 v' y Go G4 _ ro p4.rp λ z hz => ?_
    have rel4 := ((rel.ext s2).ext pi.same).ext p4.same
    have pz : QW X.K ρ F H4 H4 ⟨new, true, []⟩ z [] := .flat (QH.refl _) (hz H4) (hg _ _ _ e7).1
    obtain ⟨l', vsm, Gp, el, g1, g2, g3, g4, g5, g6, g7⟩ := rel4.write pz rfl Zac hx (by simp) hv0 fo4
    cases el
    refine ⟨l, vsm, k, j, rfl, rfl, g1, by rw [← g2.length]; exact e4, ?_⟩
    obtain ⟨G', m1, m2, m3⟩ := set_mk g1 g2 g3 g4 g5 (hz H4) (Qcs new (hg _ _ _ e7).1).symm hjl
    obtain ⟨F', rel'⟩ := g7 _ _ G' m1 (by rw [ZaR]; exact g6) m2 m3
    exact q _ _ F' rel'
   ·cases e
  ·cases e
end
end HS
namespace HS
open PySem PySem.Spec L2 PyProof.Rows
noncomputable def D.Qpt : D -> Option Int
 | .int i => some i
 | _ => none
noncomputable def Qe0 : List D -> Option (List Int)
 | [] => some []
 | d :: ds => (d.Qpt).bind λ i => (Qe0 ds).map λ r => i :: r
theorem Qfr : ∀ {ds : List D} {ns : List Int}, Qe0 ds = some ns -> ds = ns.map .int
 | [], _, h => by cases h; rfl
 | d :: ds, ns, h => by
  unfold Qe0 at h
  obtain ⟨i, h1, h⟩ := bind1 h
  obtain ⟨r, h2, rfl⟩ := Zb.mp h
  cases d with
  | int j => cases h1; rw [Qfr h2]; rfl
  | _ => cases h1
theorem QiY : ∀ (ns : List Int), Qe0 (ns.map D.int) = some ns
 | [] => rfl
 | n :: ns => by simp [Qe0, QiY ns, D.Qpt]
theorem Rps.ints {K : PySem.W.Frag} {H : Hp} : ∀ {ns : List Int} {vs : List V} {F : List Addr}, Rps K H (ns.map .int) vs F -> vs = ns.map .int
 | [], _, _, h => by simp only [List.map_nil, Rps] at h; rw [h.1]; rfl
 | n :: ns, _, _, h => by
  simp only [ZA, Rps] at h
  obtain ⟨v, ws, F1, F2, rfl, rfl, r, q⟩ := h
  rw [r.int_inv, Rps.ints q]; rfl
theorem Qdl {ns : List Int} {us : List Value} (h : Qt (ns.map V.int) us) : IntsAre us ns := intsAre_of h
section
variable {X : Cx} {a b e : Expr} {es : List Expr} {fa fb : DE} {fs : DA} {pos p2 : Pos}
theorem Qhb {us : List Value} {ns : List Int} (hi : IntsAre us ns) : ∃ xs : Array (Int × Tok), us.toArray = intItems xs /\ ns = xs.toList.map (·.1) := by
 obtain ⟨xs, e⟩ := hi.allInts.items
 exact ⟨xs, e, by rw [← hi.numsOf, ← nums_intItems, ← e]⟩
theorem Qke {prog : Program} {w : World} {A : Around} {E : Value -> Shared -> Prop} {s : Shared} {l : Addr} {xs : Array (Int × Tok)} {Q : Value -> Shared -> Prop} (hh : A.handled = none) (hl : s.heap.IsTuple l (intItems xs))
  (h : ∀ h' tk t', (∀ b o, s.heap.get? b = some o -> h'.get? b = some o) -> Q (.int (preSum (numAt xs) xs.size) t') { s with heap := h', toks := tk }) :
  wpAny (model prog w) A (call (.builtin "sum") [.ref l]) Q E s := by
 have hlt : l < s.heap.objs.size := by obtain ⟨_, e, _⟩ := hl; exact Zt e
 refine call_sum_walkG (wpAny_pyIter_tuple hl ?_)
 refine ⟨_, [_, l], [_], _, _, _, numAt xs, rfl, Walks.tuple (A := A.in1) hh _ l (ZL hlt) (intItems xs), ⟨⟨_, ZE _ rfl, rfl, rfl⟩, hl.push _⟩, λ b hb => ?_, (λ _ _ => intItems_at), λ h' tk t' hk => ?_⟩
 ·show b < (s.heap.push _).objs.size
  rw [ZaM]
  rcases Zw.mp hb with rfl | hb
  ·exact Zba _
  ·rcases Zw.mp hb with rfl | hb
   ·exact ZaV hlt
   ·cases hb
 ·have := h h' tk t' λ b o e => by
   refine hk b o (λ hm => ?_) (Zp _ e)
   rcases Zw.mp hm with e1 | hm
   ·exact absurd (e1 ▸ Zt e) (ZP _)
   ·cases hm
  simpa [intItems] using this
noncomputable def Qsy (K : PySem.W.Frag) : List V -> Hp -> VK -> Prop := λ xs H Q => ∃ (p : Addr) (ns : List Int), xs = [.ref p] /\ (SqL K H p (ns.map V.int) ∨ SqT K H p (ns.map V.int)) /\ Q (.int ns.sum) H
theorem Qno (hc : X.calm = true) : Qby X (.builtin "sum") (Qsy X.K) := by
 intro pins s σ H xs us Q I r h
 obtain ⟨p, ns, rfl, hq, q⟩ := h
 obtain ⟨u, rfl, rx⟩ := vals1 r
 cases rx
 rcases hq with hq | hq
 ·obtain ⟨its, r', pl, hz⟩ := I.list hq
  obtain ⟨ys, e, hns⟩ := Qhb (Qdl r')
  have hl := pl.isList
  rw [e] at hl
  refine sum_intListG (I.ok.hd hc) hl λ h' tk t' hk => ?_
  refine ⟨.int ns.sum, H, I.kept hk, ⟨t', ?_⟩, q⟩
  rw [preSum_eq, ZR (by simp), hns]
 ·obtain ⟨its, r', pl, hz⟩ := I.tuple hq
  obtain ⟨ys, e, hns⟩ := Qhb (Qdl r')
  have hl := pl
  rw [e] at hl
  refine Qke (I.ok.hd hc) hl λ h' tk t' hk => ?_
  refine ⟨.int ns.sum, H, I.kept hk, ⟨t', ?_⟩, q⟩
  rw [preSum_eq, ZR (by simp), hns]
noncomputable def Qd9 : List D -> Option D
 | [.lst xs] => (Qe0 xs).map λ ns => .int ns.sum
 | [.tup xs] => (Qe0 xs).map λ ns => .int ns.sum
 | _ => none
theorem Qqh {K : PySem.W.Frag} : Qey K Qd9 (Qsy K) := λ ds d e => by
 unfold Qd9 at e
 split at e
 ·obtain ⟨ns, h1, rfl⟩ := Zb.mp e
  refine ⟨rfl, λ H vs F Q r q => ?_⟩
  obtain ⟨v, rfl, rp⟩ := r.one
  obtain ⟨l, ws, L, rfl, hl, rl, zl, el⟩ := rp.lst_inv
  rw [Qfr h1] at rl
  rw [rl.ints] at hl
  exact ⟨l, ns, rfl, .inl (Q4 hl), q _ λ _ => .int_mk⟩
 ·obtain ⟨ns, h1, rfl⟩ := Zb.mp e
  refine ⟨rfl, λ H vs F Q r q => ?_⟩
  obtain ⟨v, rfl, rp⟩ := r.one
  obtain ⟨l, ws, rfl, hl, rl⟩ := rp.QaQ
  rw [Qfr h1] at rl
  rw [rl.ints] at hl
  exact ⟨l, ns, rfl, .inr hl, q _ λ _ => .int_mk⟩
 ·cases e
theorem QjS : Qby X (.builtin "divmod") (λ xs H Q => ∃ i j, xs = [.int i, .int j] /\ QbI j = true /\ ∀ p, H p = none -> Q (.ref p) (upd H p (.tup [.int (QcJ i j), .int (Qbs i j)]))) := by
 intro pins s σ H xs us Q I r h
 obtain ⟨i, j, rfl, hc, q⟩ := h
 obtain ⟨u, w', rfl, ⟨t, rfl⟩, ⟨t', rfl⟩⟩ := vals2 r
 unfold QbI at hc
 simp only [Zf, decide_eq_true_eq] at hc
 have h0 : j.natAbs ≠ 0 := by omega
 refine PyProof.Rows.divmod_int hc.1 ?_ (.inl (Zbx (Nat.lt_trans ((ZbN h0).mpr hc.2) (by decide))))
 rw [← QfN, ← QfH]
 have hn : H s.heap.objs.size = none := I.hok.fresh (Zi _)
 refine ⟨.ref s.heap.objs.size, _, ?_, rfl, q _ hn⟩
 refine I.laid (λ b o e => Zp _ e) (Zi _) ⟨by simp only [ZD, List.length_nil]; rw [sizeLine_eq]; decide, [.int (QcJ i j) s.toks, .int (Qbs i j) (s.toks + 1)], .cons ⟨_, rfl⟩ (.cons ⟨_, rfl⟩ .nil), ?_⟩
 exact ⟨_, ZE s.heap rfl, rfl, 0, rfl⟩
noncomputable def dDm (fs : DA) : DE := λ ρ => (fs ρ).bind λ r => match r.ds with
 | [.int i, .int j] => if QbI j = true then some ⟨.tup [.int (QcJ i j), .int (Qbs i j)], true, []⟩ else none
 | _ => none
theorem Qtd {x : Str} {p : Pos} (hg : Gl X "divmod") (hm : X.mg "divmod" = none) (ha : SA X (e :: es) fs) (he : starEach (e :: es) X.env = (false, eval e X.env) :: starEach es X.env) (hpl : (backTo pos (starEach es X.env)).any (·.1) = false) :
  SE X (.Call (.Name "divmod" p) (e :: es) [] pos) (dDm fs) := λ H0 A0 =>
 (QgY QjS hg hm PyProof.Rows.boot_divmod (ha H0 A0) (by decide) (by decide) he hpl).mono λ σ H Q ⟨ρ, hs, F, r', rel, e, q⟩ => by
  obtain ⟨ra, e1, e⟩ := bind1 e
  refine ⟨ρ, hs, F, ra, rel, e1, λ vs H1 G p1 => ?_⟩
  split at e
  ·rename_i i j hds
   split at e
   ·rename_i hc
    cases e
    have rp := p1.rp
    rw [hds] at rp
    obtain ⟨v, w, F1, F2, rfl, r1, r2⟩ := rp.two
    refine ⟨i, j, by rw [r1.int_inv, r2.int_inv], hc, λ p hp => q _ _ [] (.flat (p1.same.trans (QbK hp)) (Rp.Qhl Qaj ?_) rfl)⟩
    simp only [Rps]
    exact ⟨_, _, [], [], rfl, rfl, .int_mk, _, _, [], [], rfl, rfl, .int_mk, rfl, rfl⟩
   ·cases e
  ·cases e
end
end HS
namespace HS
open PySem PySem.Spec L2 PyProof.Rows
theorem Qgg : ∀ {vs : List V} {us : List Value}, us.length = vs.length -> (∀ (k : Nat) (v : V), vs[k]? = some v -> ∃ u, us[k]? = some u /\ RelV v u) -> Qt vs us
 | [], [], _, _ => .nil
 | [], _ :: _, h, _ => by simp at h
 | _ :: _, [], h, _ => by simp at h
 | v :: vs, u :: us, h, g => by
  obtain ⟨u', e, r⟩ := g 0 v rfl
  cases e
  exact .cons r (Qgg (by simpa using h) λ k v hk => g (k + 1) v hk)
section
variable {X : Cx} {a b c e tg : Expr} {es : List Expr} {fa fb fc : DE} {fs : DA} {pos p2 : Pos}
theorem Qmp {pins : List (Addr × Obj)} {σ : L2.St} {H : Hp} {s : Shared} {Q : VK} {E : Value -> Shared -> Prop} {j : Int} {t u v : Tok} {tk : Nat} (I : Inv X pins σ H s) (hc : X.calm = true) (h0 : 0 <= j) (h1 : j <= 1000000)
  (q : ∀ l, H l = none -> Q (.ref l) (upd H l (.lst ((List.range j.toNat).map λ (k : Nat) => V.int (k : Int))))) :
  wpAny (model X.prog X.w) X.A (call (.type "list") [.ref s.heap.objs.size]) (EP X pins σ Q) E { s with heap := s.heap.push { cls := .type "range", data := .fields #[.int 0 t, .int j u, .int 1 v] }, toks := tk } := by
 have I2 : Inv X pins σ H { s with heap := s.heap.push { cls := .type "range", data := .fields #[.int 0 t, .int j u, .int 1 v] }, toks := tk } := I.kept λ b o e => Zp _ e
 refine call_list_range (n := j.toNat) (I.ok.hd hc) (IsRange.new ..) (small_one (by omega) (by omega) (by omega) (by omega)) (by rw [rangeSize_one]; split <;> omega) (by omega) λ h' tk' acc' c' hk hS hacc => ?_
 have hv : Qt ((List.range j.toNat).map λ (k : Nat) => V.int (k : Int)) acc'.toList := by
  have hl := hacc.1
  refine Qgg (by simp [hl]) λ k v hk => ?_
  rw [Zm] at hk
  have hkl : k < j.toNat := by
   by_cases z : k < j.toNat
   ·exact z
   ·rw [Zr (by simp; omega)] at hk; cases hk
  rw [ZF hkl] at hk
  cases hk
  obtain ⟨w, hw⟩ : ∃ w, acc'[k]? = some w := ⟨acc'[k]'(by omega), by rw [Array.getElem?_eq_getElem (by omega)]⟩
  obtain ⟨t', rfl⟩ := hacc.2 k w hw
  exact ⟨_, by rw [Array.getElem?_toList]; exact hw, ⟨t', by simp⟩⟩
 refine ⟨.ref _, _, I2.laid hk (Zi _) (show Qb9 X.prog X.w _ h' _ (.lst _) from ⟨by simp [QfS]; omega, acc'.toList, c', hv, by simpa using hS⟩), rfl, q _ (I2.hok.fresh (Zi _))⟩
theorem QmP {p p' pos' : Pos} {ta : TA} (hg : Gl X "list") (hm : X.mg "list" = none) (hg' : Gl X "range") (hm' : X.mg "range" = none) (hc : X.calm = true) (ha : PA X [a] ta) (hs : starEach [a] X.env = [(false, eval a X.env)]) :
  PE X (.Call (.Name "list" p) [.Call (.Name "range" p') [a] [] pos'] [] pos) (λ σ H Q => ta σ H λ vs H1 => ∃ j : Int, vs = [.int j] /\ 0 <= j /\ j <= 1000000 /\ ∀ l, H1 l = none -> Q (.ref l) (upd H1 l (.lst ((List.range j.toNat).map λ (k : Nat) => V.int (k : Int))))) := by
 intro pins s σ H Q I h
 refine wpAny_Call_Name_kw (QcV I hg hm boot_list ?_ (by decide) (by decide))
 refine ZN (Calls.spliced_cons ?_) rfl rfl
 refine Call_ (QcV I hg' hm' boot_range (ZN (thn (ha pos' pins s σ H _ I h) λ us s1 ⟨vs, H1, I1, r1, q1⟩ => ?_) hs rfl))
 obtain ⟨j, e, q1, q2, q⟩ := q1
 subst e
 cases r1 with
 | cons r rr =>
  cases rr
  obtain ⟨t, rfl⟩ := r
  exact call_range_1 (Calls.spliced_nil (Qmp I1 hc q1 q2 q))
noncomputable def QiS (fa : DE) : DE := λ ρ => (fa ρ).bind λ r => match r.d with
 | .int j => if 0 <= j /\ j <= 1000000 then some ⟨.lst ((List.range j.toNat).map λ (k : Nat) => .int (k : Int)), true, []⟩ else none
 | _ => none
theorem Rps.ofInts {K : PySem.W.Frag} {H : Hp} : ∀ ns : List Int, Rps K H (ns.map .int) (ns.map .int) []
 | [] => by simp [Rps]
 | n :: ns => by simp only [ZA, Rps]; exact ⟨_, _, [], [], rfl, rfl, .int_mk, Rps.ofInts ns⟩
theorem Qm9 : ∀ ns : List Int, QI (ns.map .int) = true
 | [] => rfl
 | n :: ns => by simp [QI, D.flat, Qm9 ns]
theorem QpV {p p' pos' : Pos} (hg : Gl X "list") (hm : X.mg "list" = none) (hg' : Gl X "range") (hm' : X.mg "range" = none) (hc : X.calm = true) (ha : SE X a fa) (hs : starEach [a] X.env = [(false, eval a X.env)]) :
  SE X (.Call (.Name "list" p) [.Call (.Name "range" p') [a] [] pos'] [] pos) (QiS fa) := λ H0 A0 =>
 (QmP hg hm hg' hm' hc (Qay (ha H0 A0) Qcd hs) hs).mono λ σ H Q ⟨ρ, hs, F, r', rel, e, q⟩ => by
  obtain ⟨ra, e1, e⟩ := bind1 e
  refine ⟨ρ, hs, F, ra, rel, e1, λ v H1 G p1 => ?_⟩
  cases hd : ra.d with
  | int j =>
   rw [hd] at e
   dsimp only at e
   split at e
   ·rename_i hj
    cases e
    have rp := p1.rp
    rw [hd] at rp
    refine ⟨j, by rw [rp.int_inv], hj.1, hj.2, λ l hl => ?_⟩
    have e2 : ((List.range j.toNat).map λ (k : Nat) => D.int (k : Int)) = ((List.range j.toNat).map λ (k : Nat) => (k : Int)).map D.int := by rw [Zad]; rfl
    have e3 : ((List.range j.toNat).map λ (k : Nat) => V.int (k : Int)) = ((List.range j.toNat).map λ (k : Nat) => (k : Int)).map V.int := by rw [Zad]; rfl
    have := QW.Qal (M := []) (ρ := ρ) (F := F) p1.same hl (Rps.ofInts (K := X.K) (H := H1) ((List.range j.toNat).map λ (k : Nat) => (k : Int))) (by simp [QfS]; omega) Src.nil QaX.nil
    rw [← e2, ← e3] at this
    unfold Qal at this
    rw [if_pos (by rw [e2]; exact Qm9 _)] at this
    exact q _ _ _ this
   ·cases e
  | _ => rw [hd] at e; cases e
end
end HS
namespace HS
open PySem PySem.Spec PyProof.Rows L2
section
variable {X : Cx} {a b c : Expr} {fa fb fc : DE} {pos : Pos}
end
end HS
namespace HS
open PySem PySem.Spec L2
structure FnR where
 n : Nat
 dfl : List D
 den : Den
structure Th where
 N : List Str
 sc : List (Str × NameKind)
 Γ : List (Str × FnR)
 cs : List (Str × Int)
noncomputable def posOf (x : Str) : List Str -> Option Nat
 | [] => none
 | y :: ys => if x = y then some 0 else (posOf x ys).map (· + 1)
theorem Qef : ∀ {x : Str} {ys : List Str} {i : Nat}, posOf x ys = some i -> ys[i]? = some x
 | x, [], i, h => by cases h
 | x, y :: ys, i, h => by
  unfold posOf at h
  split at h
  ·rename_i e; cases h; subst e; rfl
  ·obtain ⟨j, hj, rfl⟩ := Zb.mp h
   simpa using Qef hj
noncomputable def look {α : Type} (x : Str) : List (Str × α) -> Option α
 | [] => none
 | (y, a) :: r => if x = y then some a else look x r
theorem Qa4 {α : Type} : ∀ {x : Str} {l : List (Str × α)}, look x l = l.lookup x
 | x, [] => rfl
 | x, (y, a) :: r => by
  unfold look
  rw [Zo]
  by_cases h : x = y
  ·subst h; simp
  ·rw [if_neg h, Qa4]
   have : (x == y) = false := by simpa using h
   rw [this]
noncomputable def Qpw : NameKind -> Bool
 | .local => true | .cell => true | .free => true | _ => false
noncomputable def Qpo : NameKind -> Bool
 | .local => true | .cell => true | _ => false
noncomputable def QtS : NameKind -> Bool
 | .globalImplicit => true | _ => false
noncomputable def isFree : NameKind -> Bool
 | .free => true | _ => false
noncomputable def odd (x : Str) : Bool := decide (x = "__debug__") || decide (x = "__classdict__") || decide (x = "__name__")
noncomputable def Th.slot (Θ : Th) (x : Str) : Option Nat := if ((look x Θ.sc).map Qpw).getD false && !odd x then posOf x Θ.N else none
noncomputable def Th.Qdy (Θ : Th) (x : Str) : Option Nat := if ((look x Θ.sc).map Qpo).getD false && !odd x then posOf x Θ.N else none
noncomputable def Th.gl (Θ : Th) (x : Str) : Bool := ((look x Θ.sc).map QtS).getD false && !odd x
def QqH (X : Cx) (x : Str) (r : FnR) : Prop := ∃ k f fd ps, Qbt X.prog X.w X.K X.mg X.base CX0 k f fd ps (spV X.K r.n r.den) /\ Qag k X.A /\ X.mg x = some (.ref f) /\ PySem.W.keepIn X.K (.ref f) = true ∧
 ∀ m, m <= r.dfl.length -> ∃ ds dvs, Binds X.K fd ps ds /\ Qt dvs ds /\ ∀ H, Rps X.K H (r.dfl.drop (r.dfl.length - m)) dvs []
noncomputable def Qjg : List Str := ["range", "enumerate", "zip", "len", "list", "min", "max", "sum", "abs", "isinstance", "int", "bool", "tuple", "str", "divmod", "sorted", "any", "all"]
structure Q5 (X : Cx) (Θ : Th) : Prop where
 N : X.N = Θ.N
 nd : Θ.N.Nodup
 lc : ∀ x, look x Θ.sc = some .local -> X.env.scope.names.lookup x = some .local
 ce : ∀ x, look x Θ.sc = some .cell -> X.env.scope.names.lookup x = some .cell /\ X.fn x = true
 fe : ∀ x, look x Θ.sc = some .free -> X.env.scope.names.lookup x = some .cell ∨ X.env.scope.names.lookup x = some .free
 gl : ∀ x, look x Θ.sc = some .globalImplicit -> X.env.scope.names.lookup x = some .globalImplicit
 calm : X.calm = true
 pass : PassesOwn (model X.prog X.w) X.A X.env X.xe
 units : X.A.units + 64 < cLine
 mg : ∀ x ∈ Qjg, X.mg x = none
 fns : ∀ x r, look x Θ.Γ = some r -> QqH X x r
 cs : ∀ x i, look x Θ.cs = some i -> ∃ t, X.mg x = some (.int i t)
section
variable {X : Cx} {Θ : Th} (ok : Q5 X Θ)
theorem Qk4 {x : Str} (h : odd x = false) : (x == ("__debug__" : Str)) = false /\ (x == ("__classdict__" : Str)) = false /\ x ≠ "__name__" := by
 unfold odd at h
 simp only [Bool.or_eq_false_iff, decide_eq_false_iff_not] at h
 exact ⟨by simpa using h.1.1, by simpa using h.1.2, h.2⟩
theorem QfO (ok : Q5 X Θ) {x : Str} {i : Nat} {pos : Pos} (h : Θ.slot x = some i) : PE X (.Name x pos) (Qks i) := by
 unfold Th.slot at h
 split at h
 ·rename_i hc
  simp only [Zf, Zao] at hc
  obtain ⟨h1, h2, _⟩ := Qk4 hc.2
  refine QmX (by rw [ok.N]; exact Qef h) ?_ h1 h2
  cases q : look x Θ.sc with
  | none => rw [q] at hc; cases hc.1
  | some k =>
   rw [q] at hc
   cases k with
   | «local» => exact .inl (ok.lc x q)
   | cell => exact .inr (.inl (ok.ce x q).1)
   | free => exact .inr (ok.fe x q)
   | _ => cases hc.1
 ·cases h
theorem QeY (ok : Q5 X Θ) {x : Str} {i : Nat} (h : Θ.Qdy x = some i) : X.N[i]? = some x /\ Loc X.env.scope x /\ (X.fn x = true ∨ X.env.scope.names.lookup x = some .local) := by
 unfold Th.Qdy at h
 split at h
 ·rename_i hc
  simp only [Zf, Zao] at hc
  refine ⟨by rw [ok.N]; exact Qef h, ?_⟩
  cases q : look x Θ.sc with
  | none => rw [q] at hc; cases hc.1
  | some k =>
   rw [q] at hc
   cases k with
   | «local» => exact ⟨.inl (ok.lc x q), .inr (ok.lc x q)⟩
   | cell => exact ⟨.inr (ok.ce x q).1, .inl (ok.ce x q).2⟩
   | _ => cases hc.1
 ·cases h
theorem Qf9 (ok : Q5 X Θ) {x : Str} (h : Θ.gl x = true) : Gl X x /\ (x == ("__debug__" : Str)) = false /\ x ≠ "__name__" := by
 unfold Th.gl at h
 simp only [Zf, Zao] at h
 obtain ⟨h1, h2, h3⟩ := Qk4 h.2
 refine ⟨?_, h1, h3⟩
 cases q : look x Θ.sc with
 | none => rw [q] at h; cases h.1
 | some k =>
  rw [q] at h
  cases k with
  | globalImplicit => exact ok.gl x q
  | _ => cases h.1
end
noncomputable def isTup : Expr -> Bool
 | .Tuple .. => true
 | _ => false
noncomputable def QmQ : Expr -> Option Str
 | .Name x _ => some x
 | _ => none
noncomputable def Qev (Θ : Th) : Expr -> Option Tg
 | .Name x _ => (Θ.Qdy x).map .nm
 | .Tuple es _ _ => ((es.mapM QmQ).bind λ xs => xs.mapM Θ.Qdy).map .tp
 | _ => none
noncomputable def QlL : CmpOp -> Option (D -> D -> Option D)
 | .Eq => some gEq | .NotEq => some gNe | .Lt => some gLt | .LtE => some gLe | .Gt => some gGt | .GtE => some gGe
 | .Is => none | .IsNot => none
 | .In => some (gIn false) | .NotIn => some (gIn true)
noncomputable def Qop (x : Str) : Option String :=
 if x = "int" then some "int" else if x = "bool" then some "bool" else if x = "list" then some "list" else if x = "tuple" then some "tuple" else if x = "str" then some "str" else none
noncomputable def inner (Θ : Th) (scope : Scope) : Th := { N := (scope.names.filter λ y => Qpw y.2).map (·.1), sc := scope.names, Γ := Θ.Γ, cs := Θ.cs }
noncomputable def Qf4 (Θ : Th) (scope : Scope) : List (Option Nat) := (inner Θ scope).N.map λ x => if ((look x scope.names).map isFree).getD false then posOf x Θ.N else none
noncomputable def Qhy (Θ : Th) (scope : Scope) (t : Tg) : Bool := (scope.kind == .function) && decide (inner Θ scope).N.Nodup &&
 (scope.names.all λ y => match y.2 with
  | .cell => decide (look y.1 scope.names = some .cell)
  | .local => decide (look y.1 scope.names = some .local)
  | .free => match look y.1 Θ.sc with
   | some .cell => true
   | some .free => true
   | _ => false
  | _ => true) &&
 t.slots.all λ j => match (Qf4 Θ scope)[j]? with
  | some (some _) => false
  | _ => true
noncomputable def Qgz (Θ : Th) (x : Str) (a : Expr) : Option Expr := match a with
 | .Call (.Name y _) [b] [] _ => if x = "list" /\ y = "range" /\ Θ.gl y = true /\ (look y Θ.Γ).isNone = true then some b else none
 | _ => none
noncomputable def Qtx : List Expr -> Bool
 | [] => true | [_] => true | _ => false
noncomputable def bf1 (x : Str) (fa : DE) : Option DE :=
 if x = "len" then some (dBf Qae (Qb fa Qe)) else
 if x = "list" then some (dList (Qb fa Qe)) else
 if x = "abs" then some (dBf Ql1 (Qb fa Qe)) else
 if x = "sum" then some (dBf Qd9 (Qb fa Qe)) else
 none
noncomputable def bf2 (x : Str) (fa fb : DE) : Option DE :=
 if x = "min" then some (dBf Qhq (Qb fa (Qb fb Qe))) else
 if x = "max" then some (dBf Qg1 (Qb fa (Qb fb Qe))) else
 if x = "divmod" then some (dDm (Qb fa (Qb fb Qe))) else
 none
mutual
noncomputable def Qn (n : Nat) (Θ : Th) (e : Expr) : Option DE := match n with
 | 0 => none
 | n + 1 => match e with
  | .Name x _ => match Θ.slot x with
   | some i => some (Qa i)
   | none => if Θ.gl x then (look x Θ.cs).map λ i => dC (.int i) else none
  | .Constant (.int i) _ _ => some (dC (.int i))
  | .Constant (.bool b) _ _ => some (dC (.bl b))
  | .Constant .none _ _ => some (dC .non)
  | .Constant (.str x) _ _ => some (dC (.str x))
  | .BinOp a op b _ => (Qn n Θ a).bind λ fa => (Qn n Θ b).bind λ fb => match op with
   | .Add => some (QL fa fb)
   | .Mult => some (Qab fa fb)
   | .Sub => some (dOp Qb7 fa fb)
   | .FloorDiv => some (dOp Qe4 fa fb)
   | .Mod => some (dOp Qan fa fb)
   | .Pow => some (dOp Qdu fa fb)
   | _ => none
  | .UnaryOp .USub a _ => (Qn n Θ a).map Qsi
  | .UnaryOp .Not a _ => (Qn n Θ a).map Qor
  | .BoolOp .And [a] _ => Qn n Θ a
  | .BoolOp .And (a :: b :: r) p => (Qn n Θ a).bind λ fa => (Qn n Θ (.BoolOp .And (b :: r) p)).map λ fb => Qem fa fb
  | .BoolOp .Or [a] _ => Qn n Θ a
  | .BoolOp .Or (a :: b :: r) p => (Qn n Θ a).bind λ fa => (Qn n Θ (.BoolOp .Or (b :: r) p)).map λ fb => dOr fa fb
  | .Compare a [op] [b] _ => (Qn n Θ a).bind λ fa => (Qn n Θ b).bind λ fb => (QlL op).map λ g => dOp g fa fb
  | .IfExp c a b _ => (QaA n Θ c).bind λ g => (Qn n Θ a).bind λ fa => (Qn n Θ b).map λ fb => dIf g fa fb
  | .Tuple es _ _ => (Qa9 n Θ es).map QaK
  | .List es _ => (Qa9 n Θ es).map Qaw
  | .Subscript a (.Slice lo hi none _) _ => (Qn n Θ a).bind λ fa => (QfW n Θ lo).bind λ fl => (QfW n Θ hi).map λ fh => Qar fa fl fh
  | .Subscript a b _ => (Qn n Θ a).bind λ fa => (Qn n Θ b).map λ fb => Qf fa fb
  | .Call (.Name x _) args [] _ => if Θ.gl x then (match look x Θ.Γ with
    | some r => if r.n <= args.length + r.dfl.length /\ args.length <= r.n then (Qa9 n Θ args).map λ fs => Qw r.n r.den (r.dfl.drop (r.dfl.length - (r.n - args.length))) fs else none
    | none => Qhh n Θ x args) else none
  | .ListComp elt [⟨tg, iter, ifs, 0⟩] scope _ => (Qev (inner Θ scope) tg).bind λ t => if Qhy Θ scope t && Qtx ifs then
    (Qed n Θ tg iter).bind λ fi => (Qd2 n (inner Θ scope) ifs).bind λ ft => (Qn n (inner Θ scope) elt).map λ fe => QK fi t (Qf4 Θ scope) ft fe else none
  | _ => none
noncomputable def Qhh (n : Nat) (Θ : Th) (x : Str) (args : List Expr) : Option DE := match n with
  | 0 => none
  | n + 1 => match args with
    | [a] => match Qgz Θ x a with
     | some b => (Qn n Θ b).map QiS
     | none => (Qn n Θ a).bind λ fa => bf1 x fa
    | [a, b] => if x = "isinstance" then (Qn n Θ a).bind λ fa => match b with
        | .Name y _ => if Θ.gl y then (Qop y).map λ T => Qfw T fa else none
        | _ => none
      else (Qn n Θ a).bind λ fa => (Qn n Θ b).bind λ fb => bf2 x fa fb
    | _ => none
noncomputable def QaA (n : Nat) (Θ : Th) (e : Expr) : Option DT := match n with
 | 0 => none
 | n + 1 => match e with
  | .UnaryOp .Not a _ => (QaA n Θ a).map Qb5
  | .BoolOp .And [a] _ => QaA n Θ a
  | .BoolOp .And (a :: b :: r) p => (QaA n Θ a).bind λ fa => (QaA n Θ (.BoolOp .And (b :: r) p)).map λ fb => Qfd fa fb
  | .BoolOp .Or [a] _ => QaA n Θ a
  | .BoolOp .Or (a :: b :: r) p => (QaA n Θ a).bind λ fa => (QaA n Θ (.BoolOp .Or (b :: r) p)).map λ fb => bOr fa fb
  | .Compare a [op] [b] _ => (Qn n Θ a).bind λ fa => (Qn n Θ b).bind λ fb => (QlL op).map λ g => Qz (dOp g fa fb)
  | .BoolOp _ _ _ => none
  | .IfExp _ _ _ _ => none
  | .Compare _ _ _ _ => none
  | e => (Qn n Θ e).map Qz
noncomputable def Qd2 (n : Nat) (Θ : Th) (es : List Expr) : Option DT := match n with
 | 0 => none
 | n + 1 => match es with
  | [] => some QX
  | [c] => QaA n Θ c
  | _ => none
noncomputable def Qa9 (n : Nat) (Θ : Th) (es : List Expr) : Option DA := match n with
 | 0 => none
 | n + 1 => match es with
  | [] => some Qe
  | e :: es => (Qn n Θ e).bind λ fa => (Qa9 n Θ es).map λ fs => Qb fa fs
noncomputable def QfW (n : Nat) (Θ : Th) (e : Option Expr) : Option DO := match n with
 | 0 => none
 | n + 1 => match e with
  | none => some Qat
  | some e => (Qn n Θ e).map QY
noncomputable def Qed (n : Nat) (Θ : Th) (tg e : Expr) : Option DI := match n with
 | 0 => none
 | n + 1 => match e with
  | .Call (.Name x _) args [] _ => if Θ.gl x && (look x Θ.Γ).isNone then (match args with
    | [a] => if x = "range" then (Qn n Θ a).map QaJ else
     if x = "enumerate" then (if isTup tg then (Qn n Θ a).map QeB else none) else
     (Qn n Θ e).map Q2
    | [a, b, c] =>
     (Qn n Θ e).map Q2
    | [a, b] =>
     if x = "range" then (Qn n Θ a).bind λ fa => (Qn n Θ b).map λ fb => QdF fa fb else
     if x = "zip" then (if isTup tg then (Qn n Θ a).bind λ fa => (Qn n Θ b).map λ fb => QbC fa fb else none) else
     (Qn n Θ e).map Q2
    | _ => (Qn n Θ e).map Q2) else (Qn n Θ e).map Q2
  | e => (Qn n Θ e).map Q2
end
end HS
namespace HS
open PySem PySem.Spec L2
theorem Q6 {α β γ : Type} {x : Option α} {y : α -> Option β} {k : α -> β -> γ} {r : γ} (e : (x.bind λ a => (y a).map λ b => k a b) = some r) : ∃ a b, x = some a /\ y a = some b /\ k a b = r := by
 obtain ⟨a, h1, e⟩ := bind1 e
 obtain ⟨b, h2, e⟩ := Zb.mp e
 exact ⟨a, b, h1, h2, e⟩
theorem Qas {n : Nat} {Θ : Th} {e : Expr} {f : DE} (h : Qn n Θ e = some f) (es : List Expr) (env : Env) : starEach (e :: es) env = (false, eval e env) :: starEach es env := by
 cases n with
 | zero => exact nomatch (show (none : Option DE) = some _ from h)
 | succ n => cases e <;> first | rfl | (exact nomatch (show (none : Option DE) = some _ from h))
theorem Qlr : ∀ {n : Nat} {Θ : Th} {es : List Expr} {f : DA}, Qa9 n Θ es = some f -> ∀ (pos : Pos) (env : Env), (backTo pos (starEach es env)).any (·.1) = false
 | 0, _, _, _, h, _, _ => by simp [Qa9] at h
 | n + 1, _, [], _, h, _, _ => rfl
 | n + 1, _, e :: es, _, h, pos, env => by
  simp only [Qa9] at h
  obtain ⟨fa, fs, h1, h2, _⟩ := Q6 h
  rw [Qas h1]
  have := Qlr h2 pos env
  simpa [backTo] using this
theorem Qlh {n : Nat} {Θ : Th} {b : Expr} {f : DE} (h : Qn n Θ b = some f) : QfP b := by
 cases n with
 | zero => exact nomatch (show (none : Option DE) = some _ from h)
 | succ n => cases b <;> first | (intro o i; rfl) | (exact nomatch (show (none : Option DE) = some _ from h))
theorem Qro {n : Nat} {Θ : Th} {e : Expr} {f : DE} (h : Qn n Θ e = some f) (env : Env) : ∀ x, foldedSetIterable e env x = pure x := by
 cases n with
 | zero => exact nomatch (show (none : Option DE) = some _ from h)
 | succ n => cases e <;> first | (intro x; rfl) | (exact nomatch (show (none : Option DE) = some _ from h))
theorem Qnb {n : Nat} {Θ : Th} {e : Expr} {f : DE} (h : Qn n Θ e = some f) (op : CmpOp) : behindInMarks op e = false := by
 cases n with
 | zero => exact nomatch (show (none : Option DE) = some _ from h)
 | succ n => cases e <;> first | rfl | (exact nomatch (show (none : Option DE) = some _ from h))
theorem Qc1 {env : Env} : ∀ {names : List (Str × NameKind)} {x : Str}, names.lookup x = some .cell →
  (names.map λ (n, k) => if (k == NameKind.free && env.scope.kind == .function && env.kindOf n == some .cell) then (n, NameKind.cell) else (n, k)).lookup x = some .cell
 | [], _, h => by simp at h
 | (n, k) :: r, x, h => by
  have ih := @Qc1 env r x
  rw [ZA]
  cases hx : x == n with
  | true =>
   simp only [Zo, hx] at h
   cases h
   dsimp only
   split <;> simp [Zo, hx]
  | false =>
   simp only [Zo, hx] at h
   dsimp only
   split <;> (simp only [Zo, hx]; exact ih h)
theorem Qkq {X : Cx} {Θ : Th} {scope : Scope} {t : Tg} (ok : Q5 X Θ) (h : Qhy Θ scope t = true) : Qdh X (inner Θ scope).N scope /\ QiU X (inner Θ scope).N scope (Qf4 Θ scope) t.slots /\ ∀ cl C fp s3 H3, Q5 (cxc X (inner Θ scope).N scope cl C fp s3 H3) (inner Θ scope) := by
 unfold Qhy at h
 simp only [Zf, decide_eq_true_eq] at h
 obtain ⟨⟨⟨h1, h2⟩, h3⟩, h4⟩ := h
 have hk : scope.kind = .function := by simpa using h1
 have each : ∀ y ∈ scope.names, (y.2 = .cell -> scope.names.lookup y.1 = some .cell) /\ (y.2 = .local -> scope.names.lookup y.1 = some .local) /\ (y.2 = .free -> X.env.kindOf y.1 = some .cell ∨ X.env.kindOf y.1 = some .free) := λ y hy => by
  have := Zar.mp h3 y hy
  obtain ⟨y, k⟩ := y
  cases k with
  | cell => exact ⟨λ _ => (by rw [← Qa4]; simpa using this), λ z => (by cases z), λ z => (by cases z)⟩
  | «local» => exact ⟨λ z => (by cases z), λ _ => by rw [← Qa4]; simpa using this, λ z => by cases z⟩
  | free =>
   refine ⟨λ z => (by cases z), λ z => (by cases z), λ _ => ?_⟩
   dsimp only at this
   split at this
   ·rename_i q; exact .inl (ok.ce _ q).1
   ·rename_i q; exact ok.fe _ q
   ·cases this
  | _ => exact ⟨λ z => (by cases z), λ z => (by cases z), λ z => (by cases z)⟩
 have S : Qdh X (inner Θ scope).N scope := ⟨hk, λ y hy => (each y hy).1, λ y hy => (each y hy).2.1, λ y hy => (each y hy).2.2⟩
 refine ⟨S, ⟨by unfold Qf4; simp, λ j i e => ?_, λ j i e hj => ?_⟩, λ cl C fp s3 H3 => ⟨rfl, h2, λ x e => ?_, λ x e => ?_, λ x e => ?_, λ x e => ?_, ok.calm, PassesOwn.never, ok.units, ok.mg, ok.fns, ok.cs⟩⟩
 ·unfold Qf4 at e
  rw [Zm] at e
  cases q : (inner Θ scope).N[j]? with
  | none => rw [q] at e; cases e
  | some x =>
   rw [q] at e
   simp only [ZX, Option.some.injEq] at e
   split at e
   ·rename_i hf
    cases hl : look x scope.names with
    | none => rw [hl] at hf; cases hf
    | some k =>
     rw [hl] at hf
     cases k with
     | free =>
      rw [Qa4] at hl
      exact ⟨x, rfl, hl, by rw [ok.N]; exact Qef e, (each (x, .free) (ZS hl)).2.2 rfl⟩
     | _ => cases hf
   ·cases e
 ·have := Zar.mp h4 j hj
  rw [e] at this
  cases this
 ·have e' : scope.names.lookup x = some .local := by rw [← Qa4]; exact e
  exact lookup_relabel_local e'
 ·have e' : scope.names.lookup x = some .cell := by rw [← Qa4]; exact e
  exact ⟨Qc1 e', decide_eq_true e'⟩
 ·have e' : scope.names.lookup x = some .free := by rw [← Qa4]; exact e
  exact Qb6 e'
 ·have e' : scope.names.lookup x = some .globalImplicit := by rw [← Qa4]; exact e
  show (relabel scope X.env).names.lookup x = some .globalImplicit
  unfold relabel
  have gen : ∀ {names : List (Str × NameKind)}, names.lookup x = some .globalImplicit →
    (names.map λ (n, k) => if (k == NameKind.free && X.env.scope.kind == .function && X.env.kindOf n == some .cell) then (n, NameKind.cell) else (n, k)).lookup x = some .globalImplicit := by
   intro names
   induction names with
   | nil => intro z; simp at z
   | cons y r ih =>
    intro z
    obtain ⟨n, k⟩ := y
    rw [ZA]
    cases hx : x == n with
    | true =>
     simp only [Zo, hx] at z
     cases z
     simp [Zo, hx]
    | false =>
     simp only [Zo, hx] at z
     dsimp only
     split <;> (simp only [Zo, hx]; exact ih z)
  exact gen e'
theorem QiN {X : Cx} {Θ : Th} (ok : Q5 X Θ) {tg : Expr} {t : Tg} (h : Qev Θ tg = some t) : SG X tg t := by
 have hN : X.N.Nodup := by rw [ok.N]; exact ok.nd
 cases tg with
 | Name x pos =>
  simp only [Qev] at h
  obtain ⟨i, hi, rfl⟩ := Zb.mp h
  obtain ⟨h1, h2, h3⟩ := QeY ok hi
  exact Qqd (Qk6 hN h1 h2 h3)
 | Tuple es k pos =>
  simp only [Qev] at h
  obtain ⟨is, hi, rfl⟩ := Zb.mp h
  obtain ⟨xs, h1, h2⟩ := bind1 hi
  have key : ∀ (es : List Expr) (xs : List Str) (is : List Nat), es.mapM QmQ = some xs -> xs.mapM Θ.Qdy = some is -> PGs X es (Qhx is) /\ (assignEach es X.env).length = is.length /\ (assignEach es X.env).findIdx? (·.1) = none := by
   intro es
   induction es with
   | nil =>
    intro xs is h1 h2
    cases h1
    cases h2
    exact ⟨QqW, rfl, rfl⟩
   | cons e es ih =>
    intro xs is h1 h2
    rw [List.mapM_cons] at h1
    obtain ⟨x, hx, h1⟩ := bind1 h1
    obtain ⟨ys, hy, h1⟩ := bind1 h1
    cases h1
    rw [List.mapM_cons] at h2
    obtain ⟨i, hi, h2⟩ := bind1 h2
    obtain ⟨js, hj, h2⟩ := bind1 h2
    cases h2
    obtain ⟨a1, a2, a3⟩ := ih ys js hy hj
    cases e with
    | Name y p =>
     cases hx
     obtain ⟨g1, g2, g3⟩ := QeY ok hi
     refine ⟨QnR (Qk6 hN g1 g2 g3) a1 rfl, ?_, ?_⟩
     ·show (assignEach es X.env).length + 1 = _
      rw [a2]; rfl
     ·show List.findIdx? (·.1) ((false, assign (.Name x p) X.env) :: assignEach es X.env) = none
      rw [List.findIdx?_cons]
      simp only [a3]; rfl
    | _ => cases hx
  obtain ⟨a1, a2, a3⟩ := key es xs is h1 h2
  exact Qq4 ok.calm a1 a2 a3
 | _ => simp only [Qev] at h; cases h
theorem QlE {f : Int -> Int -> Bool} : ∀ a b d, gI (λ i j => some (.bl (f i j))) a b = some d -> ∃ k, d = .bl k := λ a b d h => by
 obtain ⟨i, j, _, _, e⟩ := QmC h
 cases e
 exact ⟨_, rfl⟩
theorem QnE {X : Cx} {Θ : Th} (ok : Q5 X Θ) {op : CmpOp} {g : D -> D -> Option D} (h : QlL op = some g) : ∃ r, OpR X (compareOp op) r /\ Qb4 X.K g r /\ ∀ a b d, g a b = some d -> ∃ k, d = .bl k := by
 cases op <;> cases h
 ·exact ⟨_, Qra ok.units, QsP, λ a b d h => by unfold gEq at h; split at h <;> cases h; exact ⟨_, rfl⟩⟩
 ·exact ⟨_, Qrn ok.units, Qta, λ a b d h => by unfold gNe at h; split at h <;> cases h; exact ⟨_, rfl⟩⟩
 ·exact ⟨_, QtA, Qs9, QlE⟩
 ·exact ⟨_, Qtw, QsQ, QlE⟩
 ·exact ⟨_, QsR, Qti, QlE⟩
 ·exact ⟨_, QtB, Qs6, QlE⟩
 ·exact ⟨_, QrZ ok.units, Qpu, λ a b d h => by unfold gIn at h; split at h <;> first | (split at h <;> cases h; exact ⟨_, rfl⟩) | cases h⟩
 ·exact ⟨_, Qms ok.units, Qpu, λ a b d h => by unfold gIn at h; split at h <;> first | (split at h <;> cases h; exact ⟨_, rfl⟩) | cases h⟩
structure Qhu (n : Nat) : Prop where
 E : ∀ X Θ e f, Q5 X Θ -> Qn n Θ e = some f -> SE X e f
 B : ∀ X Θ x args f p pos, Q5 X Θ -> Θ.gl x = true -> Qhh n Θ x args = some f -> SE X (.Call (.Name x p) args [] pos) f
 T : ∀ X Θ e f, Q5 X Θ -> QaA n Θ e = some f -> ST X e f
 Ts : ∀ X Θ e f, Q5 X Θ -> Qd2 n Θ e = some f -> QjG X e f
 A : ∀ X Θ e f, Q5 X Θ -> Qa9 n Θ e = some f -> SA X e f
 O : ∀ X Θ e f, Q5 X Θ -> QfW n Θ e = some f -> SO X e f
 I : ∀ X Θ tg e f, Q5 X Θ -> Qed n Θ tg e = some f -> SI X tg e f /\ ∀ x, foldedSetIterable e X.env x = pure x
theorem callArgs {X : Cx} {n : Nat} {Θ : Th} {es : List Expr} {fs : DA} (h : Qa9 n Θ es = some fs) {e : Expr} {es' : List Expr} (he : es = e :: es') (pos : Pos) : starEach (e :: es') X.env = (false, eval e X.env) :: starEach es' X.env /\ (backTo pos (starEach es' X.env)).any (·.1) = false := by
 subst he
 cases n with
 | zero => simp [Qa9] at h
 | succ n =>
  simp only [Qa9] at h
  obtain ⟨fa, fs', h1, h2, _⟩ := Q6 h
  exact ⟨Qas h1 es' X.env, Qlr h2 pos X.env⟩
theorem Qtn {n : Nat} (ih : Qhu n) : ∀ X Θ e f, Q5 X Θ -> Qn (n + 1) Θ e = some f -> SE X e f := by
  intro X Θ e f ok h
  cases e with
  | Name x pos =>
    (conv at h => lhs; whnf)
    cases q : Θ.slot x with
    | some i => rw [q] at h; cases h; exact QrA (QfO ok q)
    | none =>
      rw [q] at h
      dsimp only at h
      split at h
      · rename_i hg
        obtain ⟨i, hi, rfl⟩ := Zb.mp h
        obtain ⟨g1, g2, g3⟩ := Qf9 ok hg
        obtain ⟨t, hm⟩ := ok.cs x i hi
        exact Qi7 (v := .int i) (QpP g1 hm ⟨t, rfl⟩ g2) (λ _ _ => .int_mk) rfl
      · cases h
  | Constant c k pos =>
    cases c with
    | int i => (conv at h => lhs; whnf); cases h; exact Qi7 Qr4 (λ _ _ => .int_mk) rfl
    | bool b => (conv at h => lhs; whnf); cases h; exact Qi7 Qtm (λ _ _ => .QcS) rfl
    | none => (conv at h => lhs; whnf); cases h; exact Qi7 Qsw (λ _ _ => .Qg5) rfl
    | str x => (conv at h => lhs; whnf); cases h; exact Qi7 Qq2 (λ _ _ => .str_mk) rfl
    | _ => exact nomatch (show (none : Option DE) = some _ from h)
  | BinOp a op b pos =>
    (conv at h => lhs; whnf)
    obtain ⟨fa, h1, h⟩ := bind1 h
    obtain ⟨fb, h2, h⟩ := bind1 h
    have ha := ih.E X Θ a fa ok h1
    have hb := ih.E X Θ b fb ok h2
    cases op with
    | Add => cases h; exact Qr8 ha hb
    | Mult => cases h; exact Qq5 ha hb
    | Sub => cases h; exact QiQ QsB QmG ha hb
    | FloorDiv => cases h; exact QiQ QqX Qsc ha hb
    | Mod => cases h; exact QiQ Qp9 Qr1 ha hb
    | Pow => cases h; exact QiQ Qqa QrW ha hb
    | _ => cases h
  | UnaryOp op a pos =>
    cases op with
    | USub =>
      (conv at h => lhs; whnf)
      obtain ⟨fa, h1, rfl⟩ := Zb.mp h
      exact QsD (ih.E X Θ a fa ok h1)
    | Not =>
      (conv at h => lhs; whnf)
      obtain ⟨fa, h1, rfl⟩ := Zb.mp h
      exact QrF (ih.E X Θ a fa ok h1)
    | _ => exact nomatch (show (none : Option DE) = some _ from h)
  | BoolOp op es pos =>
    cases op with
    | And =>
      match es, h with
      | [], h => exact nomatch (show (none : Option DE) = some _ from h)
      | [a], h => (conv at h => lhs; whnf); exact Qnm (ih.E X Θ a f ok h)
      | a :: b :: r, h =>
        (conv at h => lhs; whnf)
        obtain ⟨fa, fb, h1, h2, rfl⟩ := Q6 h
        exact QrN (ih.E X Θ a fa ok h1) (ih.E X Θ _ fb ok h2)
    | Or =>
      match es, h with
      | [], h => exact nomatch (show (none : Option DE) = some _ from h)
      | [a], h => (conv at h => lhs; whnf); exact Qnm (ih.E X Θ a f ok h)
      | a :: b :: r, h =>
        (conv at h => lhs; whnf)
        obtain ⟨fa, fb, h1, h2, rfl⟩ := Q6 h
        exact Qth (ih.E X Θ a fa ok h1) (ih.E X Θ _ fb ok h2)
  | Compare a ops bs pos =>
    match ops, bs, h with
    | [op], [b], h =>
      (conv at h => lhs; whnf)
      obtain ⟨fa, h1, h⟩ := bind1 h
      obtain ⟨fb, g, h2, h3, rfl⟩ := Q6 h
      obtain ⟨r, o1, o2, _⟩ := QnE ok h3
      exact Qsu o1 o2 (ih.E X Θ a fa ok h1) (ih.E X Θ b fb ok h2) (Qnb h2 op)
    | [], _, h => exact nomatch (show (none : Option DE) = some _ from h)
    | [_], [], h => exact nomatch (show (none : Option DE) = some _ from h)
    | [_], _ :: _ :: _, h => exact nomatch (show (none : Option DE) = some _ from h)
    | _ :: _ :: _, _, h => exact nomatch (show (none : Option DE) = some _ from h)
  | IfExp c a b pos =>
    (conv at h => lhs; whnf)
    obtain ⟨g, h1, h⟩ := bind1 h
    obtain ⟨fa, fb, h2, h3, rfl⟩ := Q6 h
    exact Qtt (ih.T X Θ c g ok h1) (ih.E X Θ a fa ok h2) (ih.E X Θ b fb ok h3)
  | Tuple es k pos =>
    (conv at h => lhs; whnf)
    obtain ⟨fs, h1, rfl⟩ := Zb.mp h
    exact QsC (ih.A X Θ es fs ok h1)
  | List es pos =>
    (conv at h => lhs; whnf)
    obtain ⟨fs, h1, rfl⟩ := Zb.mp h
    exact Qr2 (ih.A X Θ es fs ok h1)
  | Subscript a b pos =>
    by_cases hb : ∃ lo hi p2, b = .Slice lo hi none p2
    · obtain ⟨lo, hi, p2, rfl⟩ := hb
      (conv at h => lhs; whnf)
      obtain ⟨fa, h1, h⟩ := bind1 h
      obtain ⟨fl, fh, h2, h3, rfl⟩ := Q6 h
      exact Qr6 (ih.E X Θ a fa ok h1) (ih.O X Θ lo fl ok h2) (ih.O X Θ hi fh ok h3)
    · have h' : ((Qn n Θ a).bind λ fa => (Qn n Θ b).map λ fb => Qf fa fb) = some f := by
        cases b <;> first
          | (exact h)
          | (rename_i lo hi st p2; cases lo <;> cases hi <;> cases st <;> first | (exact absurd ⟨_, _, _, rfl⟩ hb) | (exact h))
      obtain ⟨fa, fb, h1, h2, rfl⟩ := Q6 h'
      exact Qrt (ih.E X Θ a fa ok h1) (ih.E X Θ b fb ok h2) (Qlh h2)
  | Call fn args kws pos =>
    cases fn with
    | Name x p =>
     cases kws with
     | cons k ks => exact nomatch (show (none : Option DE) = some _ from h)
     | nil =>
      have h : (if Θ.gl x then (match look x Θ.Γ with | some r => if r.n <= args.length + r.dfl.length /\ args.length <= r.n then (Qa9 n Θ args).map λ fs => Qw r.n r.den (r.dfl.drop (r.dfl.length - (r.n - args.length))) fs else none | none => Qhh n Θ x args) else none) = some f := h
      split at h
      · rename_i hg
        obtain ⟨g1, g2, g3⟩ := Qf9 ok hg
        split at h
        · rename_i r hr
          split at h
          · rename_i hn
            obtain ⟨fs, h1, rfl⟩ := Zb.mp h
            obtain ⟨k, fa, fd, ps, F1, F2, F3, F4, F5⟩ := ok.fns x r hr
            obtain ⟨ds, dvs, b1, b2, b3⟩ := F5 (r.n - args.length) (by omega)
            cases args with
            | nil =>
              cases n with
              | zero => simp [Qa9] at h1
              | succ n =>
                simp only [Qa9] at h1
                cases h1
                exact Qoo F1 F2 g1 F3 F4 b1 b2 b3 g2
            | cons e es =>
              obtain ⟨s1, s2⟩ := callArgs (X := X) h1 rfl pos
              exact Qqj F1 F2 g1 F3 F4 b1 b2 b3 (ih.A X Θ _ fs ok h1) g2 s1 s2
          · cases h
        · exact ih.B X Θ x args f p pos ok hg h
      · cases h
    | _ => exact nomatch (show (none : Option DE) = some _ from h)
  | ListComp elt gens scope pos =>
    match gens, h with
    | [⟨tg, iter, ifs, k⟩], h =>
      by_cases hk : k = 0
      · subst hk
        (conv at h => lhs; whnf)
        obtain ⟨t, ht, h⟩ := bind1 h
        split at h
        · rename_i hc
          simp only [Zf] at hc
          obtain ⟨fi, h1, h⟩ := bind1 h
          obtain ⟨ft, fe, h2, h3, rfl⟩ := Q6 h
          obtain ⟨S, cap, inn⟩ := Qkq ok hc.1
          obtain ⟨i1, i2⟩ := ih.I X Θ tg iter fi ok h1
          exact QqA ok.calm S i1 cap (λ cl C fp s3 H3 => ⟨QiN (inn cl C fp s3 H3) ht, ih.Ts _ _ ifs ft (inn cl C fp s3 H3) h2, ih.E _ _ elt fe (inn cl C fp s3 H3) h3⟩) i2
        · cases h
      · exfalso
        cases k with
        | ofNat k =>
          cases k with
          | zero => exact hk rfl
          | succ k => exact nomatch (show (none : Option DE) = some _ from h)
        | negSucc k => exact nomatch (show (none : Option DE) = some _ from h)
    | [], h => exact nomatch (show (none : Option DE) = some _ from h)
    | ⟨_, _, _, .ofNat 0⟩ :: _ :: _, h => exact nomatch (show (none : Option DE) = some _ from h)
    | ⟨_, _, _, .ofNat (k + 1)⟩ :: _ :: _, h => exact nomatch (show (none : Option DE) = some _ from h)
    | ⟨_, _, _, .negSucc k⟩ :: _ :: _, h => exact nomatch (show (none : Option DE) = some _ from h)
  | _ => exact nomatch (show (none : Option DE) = some _ from h)
theorem QrK {X : Cx} {Θ : Th} {x : Str} {a : Expr} {fa f : DE} {p pos : Pos} (ok : Q5 X Θ) (g1 : Gl X x) (sa : SA X [a] (Qb fa Qe)) (st : starEach [a] X.env = (false, eval a X.env) :: starEach [] X.env) (h : bf1 x fa = some f) : SE X (.Call (.Name x p) [a] [] pos) f := by
 unfold bf1 at h
 by_cases e : x = "len"
 ·rw [if_pos e] at h; cases h; subst e; have hm := ok.mg "len" (by decide +kernel)
  exact Qhw Qkp Qsn g1 hm PySem.boot_len sa (by decide) (by decide) st rfl
 rw [if_neg e] at h; clear e
 by_cases e : x = "list"
 ·rw [if_pos e] at h; cases h; subst e; have hm := ok.mg "list" (by decide +kernel)
  exact QqO g1 hm sa st rfl
 rw [if_neg e] at h; clear e
 by_cases e : x = "abs"
 ·rw [if_pos e] at h; cases h; subst e; have hm := ok.mg "abs" (by decide +kernel)
  exact Qhw QoJ Qrf g1 hm PyProof.Rows.boot_abs sa (by decide) (by decide) st rfl
 rw [if_neg e] at h; clear e
 by_cases e : x = "sum"
 ·rw [if_pos e] at h; cases h; subst e; have hm := ok.mg "sum" (by decide +kernel)
  exact Qhw (Qno ok.calm) Qqh g1 hm PyProof.Rows.boot_sum sa (by decide) (by decide) st rfl
 rw [if_neg e] at h; clear e
 cases h
theorem Qsp {X : Cx} {Θ : Th} {x : Str} {a b : Expr} {fa fb f : DE} {p pos : Pos} (ok : Q5 X Θ) (g1 : Gl X x) (sa : SA X [a, b] (Qb fa (Qb fb Qe))) (st : starEach [a, b] X.env = (false, eval a X.env) :: starEach [b] X.env) (pl : (backTo pos (starEach [b] X.env)).any (·.1) = false) (h : bf2 x fa fb = some f) : SE X (.Call (.Name x p) [a, b] [] pos) f := by
 unfold bf2 at h
 by_cases e : x = "min"
 ·rw [if_pos e] at h; cases h; subst e; have hm := ok.mg "min" (by decide +kernel)
  exact Qhw (Qmk ok.calm) QqC g1 hm PyProof.Rows.boot_min sa (by decide) (by decide) st pl
 rw [if_neg e] at h; clear e
 by_cases e : x = "max"
 ·rw [if_pos e] at h; cases h; subst e; have hm := ok.mg "max" (by decide +kernel)
  exact Qhw (Qnk ok.calm) QpW g1 hm PyProof.Rows.boot_max sa (by decide) (by decide) st pl
 rw [if_neg e] at h; clear e
 by_cases e : x = "divmod"
 ·rw [if_pos e] at h; cases h; subst e; have hm := ok.mg "divmod" (by decide +kernel)
  exact Qtd (x := "divmod") g1 hm sa st pl
 rw [if_neg e] at h; clear e
 cases h
theorem QsT {n : Nat} (ih : Qhu n) : ∀ X Θ x args f p pos, Q5 X Θ -> Θ.gl x = true -> Qhh (n + 1) Θ x args = some f -> SE X (.Call (.Name x p) args [] pos) f := by
 intro X Θ x args f p pos ok hg h
 obtain ⟨g1, g2, g3⟩ := Qf9 ok hg
 match args, h with
 | [], h => exact nomatch (show (none : Option DE) = some _ from h)
 | [a], h =>
  change (match Qgz Θ x a with | some b => (Qn n Θ b).map QiS | none => (Qn n Θ a).bind λ fa => bf1 x fa) = some f at h
  split at h
  ·rename_i b hr
   obtain ⟨fb, h1, rfl⟩ := Zb.mp h
   unfold Qgz at hr
   split at hr
   ·rename_i y p' b' pos'
    split at hr
    ·rename_i hc
     cases hr
     obtain ⟨c1, c2, c3, _⟩ := hc
     subst c1
     subst c2
     obtain ⟨y1, y2, y3⟩ := Qf9 ok c3
     exact QpV g1 (ok.mg _ (by decide +kernel)) y1 (ok.mg _ (by decide +kernel)) ok.calm (ih.E X Θ b fb ok h1) (Qas h1 [] X.env)
    ·cases hr
   ·cases hr
  obtain ⟨fa, h1, h⟩ := bind1 h
  have ha := ih.E X Θ a fa ok h1
  have st := Qas h1 [] X.env
  exact QrK ok g1 (Qf0 ha Qkj st) st h
 | [a, b], h =>
  change (if x = "isinstance" then (Qn n Θ a).bind λ fa => (match b with | .Name y _ => if Θ.gl y then (Qop y).map λ T => Qfw T fa else none | _ => none) else (Qn n Θ a).bind λ fa => (Qn n Θ b).bind λ fb => bf2 x fa fb) = some f at h
  split at h
  ·rename_i e
   obtain ⟨fa, h1, h⟩ := bind1 h
   have ha := ih.E X Θ a fa ok h1
   split at h
   ·rename_i y p2
    split at h
    ·rename_i hy
     obtain ⟨T, hT, rfl⟩ := Zb.mp h
     obtain ⟨y1, y2, y3⟩ := Qf9 ok hy
     clear h
     subst e
     refine QrQ g1 (ok.mg _ (by decide +kernel)) ha ?_ (Qas h1 _ X.env)
     unfold Qop at hT
     split at hT
     ·rename_i e; cases hT; subst e
      exact QeC y1 (ok.mg _ (by decide +kernel)) PyProof.Rows.boot_int rfl
     ·split at hT
      ·rename_i e; cases hT; subst e
       exact QeC y1 (ok.mg _ (by decide +kernel)) PyProof.Rows.boot_bool rfl
      ·split at hT
       ·rename_i e; cases hT; subst e
        exact QeC y1 (ok.mg _ (by decide +kernel)) ZbH rfl
       ·split at hT
        ·rename_i e; cases hT; subst e
         exact QeC y1 (ok.mg _ (by decide +kernel)) PyProof.Rows.boot_tuple rfl
        ·split at hT
         ·rename_i e; cases hT; subst e
          exact QeC y1 (ok.mg _ (by decide +kernel)) PyProof.Rows.boot_str rfl
         ·cases hT
    ·cases h
   ·cases h
  ·obtain ⟨fa, h1, h⟩ := bind1 h
   obtain ⟨fb, h2, h⟩ := bind1 h
   have ha := ih.E X Θ a fa ok h1
   have hb := ih.E X Θ b fb ok h2
   have sb : SA X [b] (Qb fb Qe) := Qf0 hb Qkj (Qas h2 [] X.env)
   have sa : SA X [a, b] (Qb fa (Qb fb Qe)) := Qf0 ha sb (Qas h1 [b] X.env)
   have pl : (backTo pos (starEach [b] X.env)).any (·.1) = false := by rw [Qas h2 [] X.env]; rfl
   exact Qsp ok g1 sa (Qas h1 [b] X.env) pl h
 | _ :: _ :: _ :: _, h => exact nomatch (show (none : Option DE) = some _ from h)
theorem QsO {n : Nat} (ih : Qhu n) : ∀ X Θ e f, Q5 X Θ -> QaA (n + 1) Θ e = some f -> ST X e f := by
 intro X Θ e f ok h
 have dflt : (Qn n Θ e).map Qz = some f -> (∀ whole, isTrue e X.env whole = (do let v ← whole; standAt e.pos; holding [v] (truthy v))) -> ST X e f := λ h he => by
  obtain ⟨fa, h1, rfl⟩ := Zb.mp h
  exact Qsg (ih.E X Θ e fa ok h1) he
 cases e with
 | UnaryOp op a pos =>
  cases op with
  | Not =>
   change (QaA n Θ a).map Qb5 = some f at h
   obtain ⟨fa, h1, rfl⟩ := Zb.mp h
   exact Qrs (ih.T X Θ a fa ok h1)
  | _ => exact dflt h λ _ => rfl
 | BoolOp op es pos =>
  cases op with
  | And =>
   match es, h with
   | [], h => exact nomatch (show (none : Option DT) = some _ from h)
   | [a], h => exact (QpI (ih.T X Θ a f ok h)).st
   | a :: b :: r, h =>
    change ((QaA n Θ a).bind λ fa => (QaA n Θ (.BoolOp .And (b :: r) pos)).map λ fb => Qfd fa fb) = some f at h
    obtain ⟨fa, fb, h1, h2, rfl⟩ := Q6 h
    have hb := ih.T X Θ _ fb ok h2
    exact (Qrh (ih.T X Θ a fa ok h1) (λ H0 A0 wh pins s σ H Q I q => by have := hb H0 A0 pins s σ H Q I q; exact this)).st
  | Or =>
   match es, h with
   | [], h => exact nomatch (show (none : Option DT) = some _ from h)
   | [a], h => exact (Qrj (ih.T X Θ a f ok h)).st
   | a :: b :: r, h =>
    change ((QaA n Θ a).bind λ fa => (QaA n Θ (.BoolOp .Or (b :: r) pos)).map λ fb => bOr fa fb) = some f at h
    obtain ⟨fa, fb, h1, h2, rfl⟩ := Q6 h
    have hb := ih.T X Θ _ fb ok h2
    exact (QsW (ih.T X Θ a fa ok h1) (λ H0 A0 wh pins s σ H Q I q => by have := hb H0 A0 pins s σ H Q I q; exact this)).st
 | Compare a ops bs pos =>
  match ops, bs, h with
  | [op], [b], h =>
   change ((Qn n Θ a).bind λ fa => (Qn n Θ b).bind λ fb => (QlL op).map λ g => Qz (dOp g fa fb)) = some f at h
   obtain ⟨fa, h1, h⟩ := bind1 h
   obtain ⟨fb, g, h2, h3, rfl⟩ := Q6 h
   obtain ⟨r, o1, o2, o3⟩ := QnE ok h3
   exact QsF o1 o2 o3 (ih.E X Θ a fa ok h1) (ih.E X Θ b fb ok h2) (Qnb h2 op)
  | [], _, h => exact nomatch (show (none : Option DT) = some _ from h)
  | [_], [], h => exact nomatch (show (none : Option DT) = some _ from h)
  | [_], _ :: _ :: _, h => exact nomatch (show (none : Option DT) = some _ from h)
  | _ :: _ :: _, _, h => exact nomatch (show (none : Option DT) = some _ from h)
 | IfExp c a b pos => exact nomatch (show (none : Option DT) = some _ from h)
 | _ => exact dflt h λ _ => rfl
theorem QsN {n : Nat} (ih : Qhu n) : ∀ X Θ tg e f, Q5 X Θ -> Qed (n + 1) Θ tg e = some f -> SI X tg e f /\ ∀ x, foldedSetIterable e X.env x = pure x := by
 intro X Θ tg e f ok h
 have dflt : (Qn n Θ e).map Q2 = some f -> SI X tg e f /\ ∀ x, foldedSetIterable e X.env x = pure x := λ h => by
  obtain ⟨fa, h1, rfl⟩ := Zb.mp h
  exact ⟨Qr9 (ih.E X Θ e fa ok h1), Qro h1 X.env⟩
 cases e with
 | Call fn args kws pos =>
  cases fn with
  | Name x p =>
   cases kws with
   | cons k ks => exact dflt h
   | nil =>
    simp only [Qed] at h
    split at h
    ·rename_i hg
     simp only [Zf] at hg
     obtain ⟨g1, g2, g3⟩ := Qf9 ok hg.1
     match args, h with
     | [], h => exact dflt h
     | [a], h =>
      dsimp only at h
      by_cases er : x = "range"
      ·rw [if_pos er] at h
       obtain ⟨fa, h1, rfl⟩ := Zb.mp h
       subst er
       exact ⟨QmB g1 (ok.mg _ (by decide +kernel)) (ih.E X Θ a fa ok h1) (Qas h1 [] X.env), λ _ => rfl⟩
      rw [if_neg er] at h
      by_cases ez : x = "enumerate"
      ·rw [if_pos ez] at h
       split at h
       ·rename_i ht
        obtain ⟨fa, h1, rfl⟩ := Zb.mp h
        subst ez
        cases tg with
        | Tuple es k tp => exact ⟨Qp3 g1 (ok.mg _ (by decide +kernel)) (ih.E X Θ a fa ok h1) (Qas h1 [] X.env), λ _ => rfl⟩
        | _ => exact nomatch (show false = true from ht)
       ·cases h
      rw [if_neg ez] at h
      exact dflt h
     | [a, b], h =>
      dsimp only at h
      by_cases er : x = "range"
      ·rw [if_pos er] at h
       obtain ⟨fa, fb, h1, h2, rfl⟩ := Q6 h
       subst er
       exact ⟨Qm2 g1 (ok.mg _ (by decide +kernel)) (ih.E X Θ a fa ok h1) (ih.E X Θ b fb ok h2) (by rw [Qas h1 [b] X.env, Qas h2 [] X.env]; rfl) (Qas h2 [] X.env), λ _ => rfl⟩
      rw [if_neg er] at h
      by_cases ez : x = "zip"
      ·rw [if_pos ez] at h
       split at h
       ·rename_i ht
        obtain ⟨fa, fb, h1, h2, rfl⟩ := Q6 h
        subst ez
        cases tg with
        | Tuple es k tp => exact ⟨Qsl g1 (ok.mg _ (by decide +kernel)) (ih.E X Θ a fa ok h1) (ih.E X Θ b fb ok h2) (by rw [Qas h1 [b] X.env, Qas h2 [] X.env]; rfl) (Qas h2 [] X.env), λ _ => rfl⟩
        | _ => exact nomatch (show false = true from ht)
       ·cases h
      rw [if_neg ez] at h
      exact dflt h
     | [a, b, c], h =>
      dsimp only at h
      exact dflt h
     | _ :: _ :: _ :: _ :: _, h => exact dflt h
    ·exact dflt h
  | _ => exact dflt h
 | _ => exact dflt h
theorem QbL : ∀ n, Qhu n
 | 0 => ⟨λ _ _ _ _ _ h => (nomatch (show (none : Option DE) = some _ from h)), λ _ _ _ _ _ _ _ _ _ h => by simp [Qhh] at h, λ _ _ _ _ _ h => by simp [QaA] at h, λ _ _ _ _ _ h => by simp [Qd2] at h, λ _ _ _ _ _ h => by simp [Qa9] at h, λ _ _ _ _ _ h => by simp [QfW] at h, λ _ _ _ _ _ _ h => by simp [Qed] at h⟩
 | n + 1 => by
  have ih := QbL n
  refine ⟨Qtn ih, QsT ih, QsO ih, λ X Θ e f ok h => ?_, λ X Θ e f ok h => ?_, λ X Θ e f ok h => ?_, QsN ih⟩
  ·match e, h with
   | [], h => simp only [Qd2] at h; cases h; exact Qn0
   | [c], h => simp only [Qd2] at h; exact QoV (ih.T X Θ c f ok h)
   | _ :: _ :: _, h => simp only [Qd2] at h; cases h
  ·match e, h with
   | [], h => simp only [Qa9] at h; cases h; exact Qkj
   | e :: es, h =>
    simp only [Qa9] at h
    obtain ⟨fa, fs, h1, h2, rfl⟩ := Q6 h
    exact Qf0 (ih.E X Θ e fa ok h1) (ih.A X Θ es fs ok h2) (Qas h1 es X.env)
  ·match e, h with
   | none, h => simp only [QfW] at h; cases h; exact QqT
   | some e, h =>
    simp only [QfW] at h
    obtain ⟨fa, h1, rfl⟩ := Zb.mp h
    exact Qqm (ih.E X Θ e fa ok h1)
section
variable {X : Cx} {st : Stmt} {sts : List Stmt} {e : Expr} {fa : DE} {f g : DS} {gc : DT} {pos : Pos}
noncomputable def QF : DS := λ _ => none
theorem QoF : S1 X st QF := λ H0 A0 => QoT.mono λ E σ H ⟨ρ, hs, F, o, rel, e, q⟩ => by cases e
theorem QeV {g : DT} {fb : DS} : ∀ {n : Nat} {ρ : En} {o : Out}, QaB g fb n ρ = some o -> QaB g fb (n + 1) ρ = some o
 | 0, _, _, h => by cases h
 | n + 1, ρ, o, h => by
  unfold QaB at h ⊢
  obtain ⟨b, hb, h⟩ := bind1 h
  rw [hb]
  cases b with
  | false => exact h
  | true =>
   rw [if_pos rfl] at h
   obtain ⟨o1, ho, h⟩ := bind1 h
   rw [Za, if_pos rfl, ho]
   cases o1 with
   | nx ρ2 => exact QeV h
   | ct ρ2 => exact QeV h
   | bk ρ2 => exact h
   | rt d fr => exact h
theorem Qjx {g : DT} {fb : DS} {ρ : En} {o : Out} {n m : Nat} (h : QaB g fb n ρ = some o) (hm : n <= m) : QaB g fb m ρ = some o := by
 induction hm with
 | refl => exact h
 | step _ ih => exact QeV ih
open Classical in
noncomputable def QcB (g : DT) (fb : DS) : DS := λ ρ => if h : ∃ n, (QaB g fb n ρ).isSome = true then QaB g fb h.choose ρ else none
theorem Qct {g : DT} {fb : DS} {ρ : En} {o : Out} : QcB g fb ρ = some o ↔ ∃ n, QaB g fb n ρ = some o := by
 unfold QcB
 constructor
 ·intro h
  split at h
  ·exact ⟨_, h⟩
  ·cases h
 ·rintro ⟨n, h⟩
  have hx : ∃ n, (QaB g fb n ρ).isSome = true := ⟨n, by rw [h]; rfl⟩
  rw [dif_pos hx]
  obtain ⟨o', ho'⟩ := Zbw.mp hx.choose_spec
  have h1 := Qjx h (Nat.le_max_left n hx.choose)
  have h2 := Qjx ho' (Nat.le_max_right n hx.choose)
  rw [h1] at h2
  rw [ho', ← h2]
theorem QmI {c : Expr} {body : List Stmt} (hp : PassesOwn (model X.prog X.w) X.A X.env X.xe) (hc : ST X c gc) (hb : SS X body f) : S1 X (.While c body [] pos) (QcB gc f) := λ H0 A0 pins s σ H D I h => by
 obtain ⟨ρ, hs, F, o, rel, e, q⟩ := h
 obtain ⟨n, hn⟩ := Qct.mp e
 exact QnJ (n := n) hp hc hb H0 A0 pins s σ H D I ⟨ρ, hs, F, o, rel, hn, q⟩
theorem Qml (g : DT) (fb : DS) (ρ : En) : QcB g fb ρ = (g ρ).bind λ b => if b = true then (fb ρ).bind λ o => match o with
  | .nx ρ2 => QcB g fb ρ2
  | .ct ρ2 => QcB g fb ρ2
  | .bk ρ2 => some (.nx ρ2)
  | .rt d fr => some (.rt d fr)
  else some (.nx ρ) := by
 apply Option.ext
 intro o
 rw [Qct]
 constructor
 ·rintro ⟨n, h⟩
  cases n with
  | zero => cases h
  | succ n =>
   unfold QaB at h
   obtain ⟨b, hb, h⟩ := bind1 h
   rw [hb]
   cases b with
   | false => exact h
   | true =>
    rw [if_pos rfl] at h
    obtain ⟨o1, ho, h⟩ := bind1 h
    rw [Za, if_pos rfl, ho]
    cases o1 with
    | nx ρ2 => exact Qct.mpr ⟨n, h⟩
    | ct ρ2 => exact Qct.mpr ⟨n, h⟩
    | bk ρ2 => exact h
    | rt d fr => exact h
 ·intro h
  obtain ⟨b, hb, h⟩ := bind1 h
  cases b with
  | false => exact ⟨1, by unfold QaB; rw [hb]; exact h⟩
  | true =>
   rw [if_pos rfl] at h
   obtain ⟨o1, ho, h⟩ := bind1 h
   cases o1 with
   | nx ρ2 =>
    obtain ⟨n, hn⟩ := Qct.mp h
    exact ⟨n + 1, by unfold QaB; rw [hb]; rw [Za, if_pos rfl, ho]; exact hn⟩
   | ct ρ2 =>
    obtain ⟨n, hn⟩ := Qct.mp h
    exact ⟨n + 1, by unfold QaB; rw [hb]; rw [Za, if_pos rfl, ho]; exact hn⟩
   | bk ρ2 => exact ⟨1, by unfold QaB; rw [hb]; rw [Za, if_pos rfl, ho]; exact h⟩
   | rt d fr => exact ⟨1, by unfold QaB; rw [hb]; rw [Za, if_pos rfl, ho]; exact h⟩
noncomputable def Qdg (t : Tg) (fa : DE) : DS := λ ρ => (fa ρ).bind λ r => (Qb8 t r.d (QaL r.norm.M ρ)).map .nx
theorem QqY {tg : Expr} {t : Tg} (he : SE X e fa) (hg : SG X tg t) (hs : swapsWithSole [tg] e pos.line X.env = pure false) (hw : swappedStores [tg] e X.env = pure none) (h1 : (assignEach [tg] X.env).map (·.2) = [assign tg X.env]) :
  S1 X (.Assign [tg] e pos) (Qdg t fa) := λ H0 A0 => (Qnd (he H0 A0) (hg H0 A0) hs hw h1).mono λ E σ H ⟨ρ, hs, F, o, rel, e, q⟩ => by
 obtain ⟨r, e1, e⟩ := bind1 e
 obtain ⟨ρ', e2, rfl⟩ := Zb.mp e
 refine ⟨ρ, hs, F, r, rel, e1, λ v H' G p => ?_⟩
 have p' := p.norm
 have rp := p'.rp
 rw [r.Qcy] at rp
 exact ⟨QaL r.norm.M ρ, hs, F, r.d, G, ρ', (rel.ext p'.same).weak (Qbc _ _), rp, Shr.of rel p'.src, e2, λ σ' F' rel' _ _ => q _ _ F' rel'⟩
theorem Qqf {tg iter elt : Expr} {ifs : List Expr} {scope : Scope} {N' : List Str} {fi : DI} {t : Tg} {cap : List (Option Nat)} {ft : DT} {fe : DE} {i : Nat} {x : Str} {pos' spos : Pos} (hN : X.N.Nodup) (hx1 : X.N[i]? = some x) (hx : Loc X.env.scope x) (hf : X.fn x = true ∨ X.env.scope.names.lookup x = some .local)
  (hcalm : X.calm = true) (S : Qdh X N' scope) (hi : SI X tg iter fi) (hcap : QiU X N' scope cap t.slots)
  (hin : ∀ cl C fp s3 H3, SG (cxc X N' scope cl C fp s3 H3) tg t /\ QjG (cxc X N' scope cl C fp s3 H3) ifs ft /\ SE (cxc X N' scope cl C fp s3 H3) elt fe) (hs : ∀ x, foldedSetIterable iter X.env x = pure x) :
  S1 X (.Assign [.Name x pos'] (.ListComp elt [⟨tg, iter, ifs, 0⟩] scope pos) spos) (Qq i (QK fi t cap ft fe)) :=
 QjI λ H0 A0 => (Qq0 hN hx1 hx hf hcalm S (hi H0 A0) (λ cl C fp s3 H3 => ⟨(hin cl C fp s3 H3).1 _ _, (hin cl C fp s3 H3).2.1 _ _, (hin cl C fp s3 H3).2.2 _ _⟩) hs).mono λ E σ H h => Qir hcap h
end
end HS
namespace HS
open PySem PySem.Spec L2 PyProof.Rows
section
variable {X : Cx} {a b e : Expr} {fa fb : DE} {pf : DP} {x : Nat} {pos apos : Pos}
theorem Qf6 {X : Cx} {H : Hp} {ds : List D} {w : V} {Gm : List Addr} (h : Rp X.K H (.lst ds) w Gm) : tyV X.K "list" w H := by
 obtain ⟨l, ws, L, rfl, hl, _⟩ := h.lst_inv
 exact .inl ⟨rfl, ws, Q4 hl⟩
theorem QW.unit {K : PySem.W.Frag} {ρ : En} {F : Nat -> List Addr} {H : Hp} : QW K ρ F H H ⟨.non, true, []⟩ .non [] := .flat (QH.refl _) .Qg5
noncomputable def QnT (x : Nat) (pf : DP) : DS := λ ρ => match ρ[x]? with
 | some (some (d, true)) => (pf ρ).bind λ is => match QaC d is with
  | some (.lst _) => some (.nx (ρ.set x (some (Qah is d (.lst []), true))))
  | _ => none
 | _ => none
theorem QoG {H0 : Hp} {A0 : List Addr} {E : Ends} {σ : L2.St} {H : Hp} : tS X.K H0 A0 (QnT x pf) E σ H -> QfZ (QrU X.K "list" Qnc (tP X.K H0 A0 x pf)) E σ H := λ ⟨ρ, hs, F, o, rel, e, q⟩ => by
 unfold QnT at e
 split at e
 ·rename_i d hx
  obtain ⟨is, e2, e⟩ := bind1 e
  split at e
  ·rename_i ds hp
   cases e
   refine ⟨ρ, hs, F, d, true, is, .lst ds, rel, hx, e2, hp, λ v0 w H2 Gm s2 hv0 fo => ⟨Qf6 fo.rp, ?_⟩⟩
   obtain ⟨l, vsm, Gp, rfl, g1, g2, g3, g4, g5, g6, g7⟩ := (rel.ext s2).write .unit rfl Zac hx (by simp) hv0 fo
   refine ⟨l, vsm, rfl, rfl, g1, ?_⟩
   obtain ⟨F', rel'⟩ := g7 [] [] [] (by simp [Rps]) (ZW _) rfl (λ a => by simp)
   exact q _ _ F' rel'
  ·cases e
 ·cases e
noncomputable def Qad (xs : List α) (k : Nat) (y : α) : List α := xs.take k ++ y :: xs.drop k
noncomputable def QrP : V -> List V -> Hp -> VK -> Prop := λ x vs H Q => ∃ l xs i y, x = .ref l /\ vs = [.int i, y] /\ H l = some (.lst xs) /\ 0 <= i /\ i < 2 ^ 62 /\ xs.length < sizeLine /\ Q .non (upd H l (.lst (Qad xs (min i.toNat xs.length) y)))
theorem Qq3 : MtM X "list.insert" QrP := by
 intro pins s σ H x vs v us Q I rx rv h
 obtain ⟨l, xs, i, y, rfl, rfl, hH, h0, h1, hz, q⟩ := h
 cases rx
 obtain ⟨u, w', rfl, ⟨t, rfl⟩, rw'⟩ := vals2 rv
 obtain ⟨z, its, n, r, hl, e⟩ := I.QjR hH
 have hfit : ¬ (!Builtin.List.listFitsIndex i) = true := by
  unfold Builtin.List.listFitsIndex
  simp only [Zao, Bool.and_eq_false_iff, decide_eq_false_iff_not]
  omega
 refine call_meets F.slot_list_insert ⟨_, e, rfl⟩ F.entry_list_insert (F.args_list_insert_3 _ _ _) (AutoSeq1.list_insert_list_int_val_1 l its.toArray n i t w' hfit (by rw [Zk]; omega)) ⟨e, ?_⟩
 refine ⟨.non, _, I.QlO (its' := Qad its (min i.toNat its.length) w') hH e ?_ ?_ ?_, rfl, q⟩
 ·dsimp only
  rw [if_neg (by omega)]
  apply Array.ext'
  simp [Qad]
  rw [ZR (by simp)]
 ·rw [hl]
  unfold Qad
  exact (r.take _).append (.cons rw' (r.drop _))
 ·unfold Qad
  rw [Zl, ZD, Zaf, Zaq]
  omega
theorem Rps.Qre {K : PySem.W.Frag} {H : Hp} {d : D} {v : V} (hd : Rp K H d v []) : ∀ {ds : List D} {vs : List V} {F : List Addr} (k : Nat), Rps K H ds vs F -> Rps K H (Qad ds k d) (Qad vs k v) F
 | ds, vs, F, 0, h => by
  simp only [Qad, List.take_zero, ZaX, ZaS, Rps]
  exact ⟨v, vs, [], F, rfl, rfl, hd, h⟩
 | [], vs, F, k + 1, h => by
  simp only [Rps] at h
  obtain ⟨rfl, rfl⟩ := h
  simp only [Qad, List.take_nil, List.drop_nil, ZaS, Rps]
  exact ⟨v, [], [], [], rfl, rfl, hd, rfl, rfl⟩
 | d' :: ds, vs, F, k + 1, h => by
  simp only [Rps] at h
  obtain ⟨w, ws, F1, F2, rfl, rfl, r, q⟩ := h
  have ih := Rps.Qre hd k q
  simp only [Qad, Zbn, List.drop_succ_cons, Zbb, Rps] at ih ⊢
  exact ⟨w, _, F1, F2, rfl, rfl, r, ih⟩
theorem QqK {d : D} (hd : d.flat = true) (ds : List D) (k : Nat) : nls (Qad ds k d) = nls ds := by
 unfold Qad
 rw [QbJ]
 simp only [nls, Qcs d hd]
 have := congrArg nls (Zat k ds)
 rw [QbJ] at this
 omega
noncomputable def QgS (x : Nat) (pf : DP) (fi fa : DE) : DS := λ ρ => match ρ[x]? with
 | some (some (d, true)) => (pf ρ).bind λ is => (fi ρ).bind λ ri => (fa ρ).bind λ r0 => match QaC d is, ri.d with
  | some (.lst ds), .int i => if r0.d.flat = true /\ 0 <= i /\ i < 2 ^ 62 /\ ds.length < sizeLine then some (.nx (ρ.set x (some (Qah is d (.lst (Qad ds (min i.toNat ds.length) r0.d)), true)))) else none
  | _, _ => none
 | _ => none
theorem Qou {fi : DE} {H0 : Hp} {A0 : List Addr} {E : Ends} {σ : L2.St} {H : Hp} : tS X.K H0 A0 (QgS x pf fi fa) E σ H -> QfZ (tBM X.K "list" QrP (tP X.K H0 A0 x pf) (QcT (tV X.K H0 A0 fi) (QcT (tV X.K H0 A0 fa) Qeo))) E σ H := λ ⟨ρ, hs, F, o, rel, e, q⟩ => by
 unfold QgS at e
 split at e
 ·rename_i d hx
  obtain ⟨is, e2, e⟩ := bind1 e
  obtain ⟨ri, e3, e⟩ := bind1 e
  obtain ⟨r0, e1, e⟩ := bind1 e
  split at e
  ·rename_i ds i hp hr
   split at e
   ·rename_i hc
    cases e
    refine ⟨ρ, hs, F, d, true, is, .lst ds, rel, hx, e2, hp, λ v0 w H2 Gm s2 hv0 fo => ⟨Qf6 fo.rp, ρ, hs, F, ri, rel.ext s2, e3, λ vi H3 Gi pi => ⟨ρ, hs, F, r0, (rel.ext s2).ext pi.same, e1, λ vn H4 Gn p => ?_⟩⟩⟩
    have rel4 := ((rel.ext s2).ext pi.same).ext p.same
    obtain ⟨l, vsm, Gp, rfl, g1, g2, g3, g4, g5, g6, g7⟩ := rel4.write .unit rfl Zac hx (by simp) hv0 ((fo.same pi.same).same p.same)
    have ri' := pi.rp
    rw [hr] at ri'
    have rn := p.rp
    have z := rn.QaZ hc.1
    subst z
    have n1 := g2.length
    rw [ri'.int_inv]
    refine ⟨l, vsm, i, vn, rfl, rfl, g1, hc.2.1, hc.2.2.1, by omega, ?_⟩
    obtain ⟨F', rel'⟩ := g7 (Qad ds (min i.toNat ds.length) r0.d) (Qad vsm (min i.toNat vsm.length) vn) Gp (by rw [← n1]; exact Rps.Qre (rn.upd g1 (by simp)) _ (g2.upd g1 g4)) (by unfold Qad; rw [Zl, ZD, Zaf, Zaq]; omega) (by rw [QqK hc.1, g3]) (λ a => by omega)
    exact q _ _ F' rel'
   ·cases e
  ·cases e
 ·cases e
theorem Rps.erase {K : PySem.W.Frag} {H : Hp} : ∀ {ds : List D} {vs : List V} {F : List Addr} (k : Nat), QI ds = true -> Rps K H ds vs F -> Rps K H (ds.eraseIdx k) (vs.eraseIdx k) []
 | [], vs, F, k, _, h => by
  simp only [Rps] at h
  obtain ⟨rfl, rfl⟩ := h
  simp [Rps]
 | d :: ds, vs, F, 0, hf, h => by
  have hF := h.QaZ hf
  subst hF
  simp only [Rps] at h
  obtain ⟨w, ws, F1, F2, rfl, eF, r, q⟩ := h
  have : F2 = [] := (ZbI.mp eF.symm).2
  subst this
  simpa using q
 | d :: ds, vs, F, k + 1, hf, h => by
  have hF := h.QaZ hf
  subst hF
  simp only [Rps] at h
  obtain ⟨w, ws, F1, F2, rfl, eF, r, q⟩ := h
  obtain ⟨rfl, rfl⟩ := ZbI.mp eF.symm
  simp only [QI, Zf] at hf
  have ih := Rps.erase k hf.2 q
  simp only [ZaD, Rps]
  exact ⟨w, _, [], [], rfl, rfl, r, ih⟩
theorem Qgb : ∀ (ds : List D) (k : Nat), QI ds = true -> QI (ds.eraseIdx k) = true
 | [], _, _ => rfl
 | d :: ds, 0, h => by simp only [QI, Zf] at h; exact h.2
 | d :: ds, k + 1, h => by
  simp only [QI, Zf] at h
  simp only [ZaD, QI, Zf]
  exact ⟨h.1, Qgb ds k h.2⟩
noncomputable def QdB (x y : Nat) (fi : DE) : DS := λ ρ => match ρ[x]?, ρ[y]? with
 | some (some (.lst xs, true)), some (some (.lst ys, true)) => (fi ρ).bind λ ri => match ri.d with
  | .int i => if x ≠ y /\ QI ys = true /\ 0 <= i /\ i < 2 ^ 62 /\ xs.length < sizeLine then (ys[i.toNat]?).map λ d => .nx ((ρ.set y (some (.lst (ys.eraseIdx i.toNat), true))).set x (some (.lst (xs ++ [d]), true))) else none
  | _ => none
 | _, _ => none
theorem Qkx {y : Nat} {fi : DE} {H0 : Hp} {A0 : List Addr} {E : Ends} {σ : L2.St} {H : Hp} : tS X.K H0 A0 (QdB x y fi) E σ H -> QfZ (tBM X.K "list" Qic (tP X.K H0 A0 x Q1) (QcT (tBM X.K "list" QjA (tP X.K H0 A0 y Q1) (QcT (tV X.K H0 A0 fi) Qeo)) Qeo)) E σ H := λ ⟨ρ, hs, F, o, rel, e, q⟩ => by
 unfold QdB at e
 split at e
 ·rename_i xs ys hx hy
  obtain ⟨ri, e3, e⟩ := bind1 e
  split at e
  ·rename_i i hr
   split at e
   ·rename_i hc
    obtain ⟨hxy, hfl, h0, h1, hz⟩ := hc
    obtain ⟨d, hd, rfl⟩ := Zb.mp e
    refine ⟨ρ, hs, F, .lst xs, true, [], .lst xs, rel, hx, rfl, rfl, λ v0 w H2 Gm s2 hv0 fo => ⟨Qf6 fo.rp, ρ, hs, F, .lst ys, true, [], .lst ys, rel.ext s2, hy, rfl, rfl, λ v1 w1 H3 Gm1 s3 hv1 fo1 => ⟨Qf6 fo1.rp, ρ, hs, F, ri, (rel.ext s2).ext s3, e3, λ vi H4 Gi pi => ?_⟩⟩⟩
    have rel4 := ((rel.ext s2).ext s3).ext pi.same
    obtain ⟨l, vsm, Gp, rfl, g1, g2, g3, g4, g5, g6, g7⟩ := rel4.write .unit rfl Zac hy (by simp) hv1 (fo1.same pi.same)
    have ri' := pi.rp
    rw [hr] at ri'
    rw [ri'.int_inv]
    have n1 := g2.length
    have hil : i.toNat < ys.length := (Zd.mp hd).1
    obtain ⟨yv, Gy, hyv, ryv, _⟩ := g2.nth hd
    have gz := ryv.QaZ (by
     have gen : ∀ (l : List D) (k : Nat) (d : D), QI l = true -> l[k]? = some d -> d.flat = true := by
      intro l
      induction l with
      | nil => intro k d _ h; simp at h
      | cons a l ih =>
       intro k d hf h
       simp only [QI, Zf] at hf
       cases k with
       | zero => simp at h; rw [← h]; exact hf.1
       | succ k => exact ih k d hf.2 (by simpa using h)
     exact gen ys _ _ hfl hd)
    subst gz
    refine ⟨l, vsm, i, i.toNat, yv, rfl, rfl, g1, by omega, by omega, ?_, hyv, ?_⟩
    ·unfold seqIndex?
     simp only [if_neg (by omega : ¬ i < 0)]
     rw [if_pos (by simp; omega)]
    obtain ⟨F', rel'⟩ := g7 (ys.eraseIdx i.toNat) (vsm.eraseIdx i.toNat) [] (Rps.erase i.toNat hfl (g2.upd g1 g4)) (by rw [List.length_eraseIdx]; split <;> omega) (by rw [QeW _ (Qgb ys _ hfl)]; rfl) (λ a => by simp)
    simp only [Qah, kill] at rel'
    have hx' : (ρ.set y (some (.lst (ys.eraseIdx i.toNat), true)))[x]? = some (some (.lst xs, true)) := by rw [Zg (Ne.symm hxy)]; exact hx
    obtain ⟨v0', hv0', rp0⟩ := rel'.val x _ _ hx'
    rw [hv0] at hv0'
    cases hv0'
    have hw : w = v0 := fo.2.1
    subst hw
    obtain ⟨l2, vs2, Gp2, el2, k1, k2, k3, k4, k5, k6, k7⟩ := rel'.write .unit rfl Zac hx' (by simp) hv0 (is := []) ⟨rfl, rfl, rfl, rp0⟩
    cases el2
    refine ⟨l2, vs2, yv, rfl, rfl, k1, by rw [← k2.length]; exact hz, ?_⟩
    have ryv' : Rps X.K (upd (upd H4 l (.lst (vsm.eraseIdx i.toNat))) l2 (.lst (vs2 ++ [yv]))) [d] [yv] [] := by
     simp only [Rps]
     exact ⟨yv, [], [], [], rfl, rfl, (ryv.upd g1 (by simp)).upd k1 (by simp), rfl, rfl⟩
    have hfd : d.flat = true := by
     have gen : ∀ (l : List D) (k : Nat) (d : D), QI l = true -> l[k]? = some d -> d.flat = true := by
      intro l
      induction l with
      | nil => intro k d _ h; simp at h
      | cons a l ih =>
       intro k d hf h
       simp only [QI, Zf] at hf
       cases k with
       | zero => simp at h; rw [← h]; exact hf.1
       | succ k => exact ih k d hf.2 (by simpa using h)
     exact gen ys _ _ hfl hd
    obtain ⟨F'', rel''⟩ := k7 (xs ++ [d]) (vs2 ++ [yv]) (Gp2 ++ []) ((k2.upd k1 k4).append ryv') (by rw [Zl, ZaI]; omega) (by rw [ZaQ, QbJ, k3]; simp [nls, Qcs d hfd]) (λ a => by rw [ZaQ]; omega)
    exact q _ _ F'' rel''
   ·cases e
  ·cases e
 ·cases e
end
noncomputable def Qew : Expr -> Bool
 | .ListComp .. => false
 | .SetComp .. => false
 | .DictComp .. => false
 | _ => true
theorem Qfq {e : Expr} {t : Option Expr} {l : Nat} {env : Env} (h : Qew e = true) : swapsWith e t l env = pure false := by
 cases e <;> first | rfl | cases h
noncomputable def QmK : Expr -> Bool
 | .Tuple .. => true
 | _ => false
noncomputable def Qbe (n : Nat) (Θ : Th) (e : Expr) : Option (Nat × DP) := match n with
 | 0 => none
 | n + 1 => match e with
  | .Name x _ => (Θ.slot x).map λ i => (i, Q1)
  | .Subscript a b _ => (Qbe n Θ a).bind λ q => (Qn n Θ b).map λ fb => (q.1, Qca q.2 fb)
  | _ => none
theorem Qe5 : ∀ (n : Nat) (X : Cx) (Θ : Th) (e : Expr) (q : Nat × DP), Q5 X Θ -> Qbe n Θ e = some q -> SPa X e q.1 q.2 /\ attributeBase e = λ _ env w => w
 | 0, _, _, _, _, _, h => by simp [Qbe] at h
 | n + 1, X, Θ, e, q, ok, h => by
  cases e with
  | Name x pos =>
   simp only [Qbe] at h
   obtain ⟨i, hi, rfl⟩ := Zb.mp h
   exact ⟨QgD (QfO ok hi), by funext a b c; rfl⟩
  | Subscript a b pos =>
   simp only [Qbe] at h
   obtain ⟨q', fb, h1, h2, rfl⟩ := Q6 h
   exact ⟨Qp6 (Qe5 n X Θ a q' ok h1).1 ((QbL n).E X Θ b fb ok h2) (Qlh h2), by funext a b c; rfl⟩
  | _ => simp [Qbe] at h
noncomputable def QhS : Expr -> Bool
 | .Name .. => true
 | .Subscript _ (.Slice ..) _ => false
 | .Subscript (.Call ..) _ _ => false
 | .Subscript .. => true
 | _ => false
noncomputable def QnS : Operator -> Option (D -> D -> Option D)
 | .Add => some (gI λ i j => some (.int (i + j)))
 | .Sub => some Qb7
 | _ => none
theorem Qst {X : Cx} {op : Operator} {g : D -> D -> Option D} (h : QnS op = some g) : ∃ r, OpR X (inplaceOp op) r /\ Qb4 X.K g r := by
 cases op <;> cases h
 ·exact ⟨_, QpO, Qfb (λ i j d e => by cases e; rfl) λ i j d e H Q q => by cases e; exact ⟨i, j, rfl, rfl, q _ λ _ => .int_mk⟩⟩
 ·exact ⟨_, QpS, QmG⟩
noncomputable def QpY : Expr -> Bool
 | .Slice .. => true
 | _ => false
noncomputable def Qhj (n : Nat) (Θ : Th) (o : Expr) (m : Str) (args : List Expr) : Option DS := match args with
  | [] => (Qbe n Θ o).bind λ q => if m = "clear" then some (QnT q.1 q.2) else
    none
  | [e] => if m = "append" then
     (match o, e with
      | .Name x _, .Call (.Attribute (.Name y _) pm apos) [i] [] cpos => if pm = "pop" /\ (apos.endLine == cpos.line) = true then (Θ.slot x).bind λ sx => (Θ.slot y).bind λ sy => (Qn n Θ i).map λ fi => QdB sx sy fi else none
      | o, e => (Qbe n Θ o).bind λ q => (Qn n Θ e).map λ fa => Qdo q.1 q.2 fa)
    else
    none
  | [i, e] => if m = "insert" then (Qbe n Θ o).bind λ q => (Qn n Θ i).bind λ fi => (Qn n Θ e).map λ fa => QgS q.1 q.2 fi fa else none
  | _ => none
theorem Qo6 {n : Nat} {X : Cx} {Θ : Th} {o : Expr} {m : Str} {args : List Expr} {f : DS} {apos cpos pos : Pos} (ok : Q5 X Θ) (h : Qhj n Θ o m args = some f) (hl : (apos.endLine == cpos.line) = true) :
  S1 X (.Expr (.Call (.Attribute o m apos) args [] cpos) pos) f := by
 have base : ∀ {q : Nat × DP}, Qbe n Θ o = some q -> SPa X o q.1 q.2 /\ attributeBase o m X.env (eval o X.env) = eval o X.env := λ {q} h1 => by
  obtain ⟨sp, ab⟩ := Qe5 n X Θ o _ ok h1
  exact ⟨sp, by rw [ab]⟩
 have app : ∀ {e : Expr} {f : DS}, m = "append" -> ((Qbe n Θ o).bind λ q => (Qn n Θ e).map λ fa => Qdo q.1 q.2 fa) = some f -> S1 X (.Expr (.Call (.Attribute o m apos) [e] [] cpos) pos) f := λ {e f} em h => by
  obtain ⟨q, fa, h1, h2, rfl⟩ := Q6 h
  obtain ⟨sp, hb⟩ := base h1
  subst em
  have he := (QbL n).E X Θ e fa ok h2
  have st := Qas h2 [] X.env
  have sa : ∀ H0 A0, PA X [e] (QcT (tV X.K H0 A0 fa) Qeo) := λ H0 A0 => Qay (he H0 A0) Qcd st
  exact λ H0 A0 => (QeJ (QiV Zap Zby Zbz Qfs (sp H0 A0) (sa H0 A0) hb (by rw [st]; rfl) hl st rfl) rfl).mono λ E σ H q => Qob q
 match args, h with
 | [], h =>
  unfold Qhj at h
  dsimp only at h
  obtain ⟨⟨x, pf⟩, h1, h⟩ := bind1 h
  obtain ⟨sp, hb⟩ := base h1
  by_cases e : m = "clear"
  ·rw [if_pos e] at h; cases h; subst e
   exact λ H0 A0 => (QeJ (Qrk Zap PySem.F.slot_list_clear PySem.F.type_list_clear QnQ (sp H0 A0) hb hl) rfl).mono λ E σ H q => QoG q
  rw [if_neg e] at h
  cases h
 | [e], h =>
  unfold Qhj at h
  dsimp only at h
  by_cases em : m = "append"
  ·rw [if_pos em] at h
   split at h
   ·rename_i x p y p' pm apos' i cpos' hz
    split at h
    ·rename_i hc
     obtain ⟨sx, h1, h⟩ := bind1 h
     obtain ⟨sy, fi, h2, h3, rfl⟩ := Q6 h
     obtain ⟨rfl, hl2⟩ := hc
     subst em
     have spx := QgD (QfO ok h1 (pos := p))
     have spy := QgD (QfO ok h2 (pos := p'))
     have hi := (QbL n).E X Θ i fi ok h3
     have st := Qas h3 [] X.env
     have sa : ∀ H0 A0, PA X [i] (QcT (tV X.K H0 A0 fi) Qeo) := λ H0 A0 => Qay (hi H0 A0) Qcd st
     have pop : ∀ H0 A0, PE X (.Call (.Attribute (.Name y p') "pop" apos') [i] [] cpos') (tBM X.K "list" QjA (tP X.K H0 A0 sy Q1) (QcT (tV X.K H0 A0 fi) Qeo)) := λ H0 A0 =>
      QiV Zap PySem.F.slot_list_pop PySem.F.type_list_pop QoK (spy H0 A0) (sa H0 A0) rfl (by rw [st]; rfl) hl2 st rfl
     exact λ H0 A0 => (QeJ (QiV Zap Zby Zbz Qfs (spx H0 A0) (Qay (pop H0 A0) Qcd rfl) rfl rfl hl rfl rfl) rfl).mono λ E σ H q => Qkx q
    ·cases h
   ·exact app em h
  rw [if_neg em] at h
  clear em
  clear app
  cases h
 | [i, e], h =>
  change (if m = "insert" then (Qbe n Θ o).bind λ q => (Qn n Θ i).bind λ fi => (Qn n Θ e).map λ fa => QgS q.1 q.2 fi fa else none) = some f at h
  split at h
  ·rename_i em
   obtain ⟨q, h1, h⟩ := bind1 h
   obtain ⟨fi, fa, h2, h3, rfl⟩ := Q6 h
   obtain ⟨sp, hb⟩ := base h1
   subst em
   have hi := (QbL n).E X Θ i fi ok h2
   have he := (QbL n).E X Θ e fa ok h3
   have st2 := Qas h3 [] X.env
   have st := Qas h2 [e] X.env
   have sa : ∀ H0 A0, PA X [i, e] (QcT (tV X.K H0 A0 fi) (QcT (tV X.K H0 A0 fa) Qeo)) := λ H0 A0 => Qay (hi H0 A0) (Qay (he H0 A0) Qcd st2) st
   exact λ H0 A0 => (QeJ (QiV Zap PySem.F.slot_list_insert PySem.F.type_list_insert Qq3 (sp H0 A0) (sa H0 A0) hb (by rw [st, st2]; rfl) hl st (by rw [st2]; rfl)) rfl).mono λ E σ H q => Qou q
  ·cases h
 | _ :: _ :: _ :: _, h => exact nomatch (show (none : Option DS) = some _ from h)
end HS
namespace HS
open PySem PySem.Spec L2 PyProof.Rows
mutual
noncomputable def QiT (n : Nat) (Θ : Th) (st : Stmt) : Option DS := match n with
 | 0 => none
 | n + 1 => match st with
  | .Pass _ => some Qk
  | .Break _ => some Qpa
  | .Continue _ => some QnY
  | .Raise _ _ _ => some QF
  | .Return none _ => some Ql7
  | .Return (some e) _ => (Qn n Θ e).map QR
  | .Expr (.Constant (.str _) _ _) _ => some Qk
  | .Expr (.Call (.Attribute o m apos) args [] cpos) _ => if (apos.endLine == cpos.line) = true then Qhj n Θ o m args else none
  | .Expr (.Call (.Name x p) args [] cpos) _ => (Qn n Θ (.Call (.Name x p) args [] cpos)).map QfG
  | .Assign [.Name x _] e _ => (Θ.Qdy x).bind λ i => (Qn n Θ e).map λ fa => Qq i (if QhS e = true then QaE fa else fa)
  | .Assign [.Tuple es k p] e _ => if Qew e = true /\ QmK e = false then (Qev Θ (.Tuple es k p)).bind λ t => (Qn n Θ e).map λ fa => Qdg t fa else none
  | .Assign [.Subscript a i _] e _ => (Qbe n Θ a).bind λ q => (Qn n Θ i).bind λ fi => (Qn n Θ e).map λ fa => QaV q.1 q.2 fi fa
  | .AugAssign (.Subscript a i _) op e _ => (Qbe n Θ a).bind λ q => (Qn n Θ i).bind λ fi => (QnS op).bind λ g => (Qn n Θ e).map λ fa => Qd4 g q.1 q.2 fi fa
  | .If c a b _ => (QaA n Θ c).bind λ g => (QaY n Θ a).bind λ f1 => (QaY n Θ b).map λ f2 => sIf g f1 f2
  | .For tg iter body [] _ => (Qev Θ tg).bind λ t => (Qed n Θ tg iter).bind λ fi => (QaY n Θ body).map λ fb => Qbh fi t fb
  | .While c body [] _ => (QaA n Θ c).bind λ g => (QaY n Θ body).map λ fb => QcB g fb
  | _ => none
noncomputable def QaY (n : Nat) (Θ : Th) (sts : List Stmt) : Option DS := match n with
 | 0 => none
 | n + 1 => match sts with
  | [] => some Qk
  | st :: r => (QiT n Θ st).bind λ f => (QaY n Θ r).map λ g => Qd f g
end
theorem Qlj {n : Nat} {Θ : Th} {e : Expr} {f : DE} (h : Qn n Θ e = some f) : QpY e = false := by
 cases n with
 | zero => exact nomatch (show (none : Option DE) = some _ from h)
 | succ n => cases e <;> first | rfl | (exact nomatch (show (none : Option DE) = some _ from h))
theorem QqD {n : Nat} {Θ : Th} {elt : Expr} {gens : List Comprehension} {scope : Scope} {pos : Pos} {f : DE} (h : Qn n Θ (.ListComp elt gens scope pos) = some f) : ∃ m tg iter ifs t fi ft fe, n = m + 1 /\ gens = [⟨tg, iter, ifs, 0⟩] /\ Qev (inner Θ scope) tg = some t /\ Qhy Θ scope t = true ∧
  Qed m Θ tg iter = some fi /\ Qd2 m (inner Θ scope) ifs = some ft /\ Qn m (inner Θ scope) elt = some fe /\ f = QK fi t (Qf4 Θ scope) ft fe := by
 cases n with
 | zero => exact nomatch (show (none : Option DE) = some _ from h)
 | succ n =>
  match gens, h with
  | [⟨tg, iter, ifs, k⟩], h =>
   by_cases hk : k = 0
   ·subst hk
    (conv at h => lhs; whnf)
    obtain ⟨t, ht, h⟩ := bind1 h
    split at h
    ·rename_i hc
     simp only [Zf] at hc
     obtain ⟨fi, h1, h⟩ := bind1 h
     obtain ⟨ft, fe, h2, h3, rfl⟩ := Q6 h
     exact ⟨n, tg, iter, ifs, t, fi, ft, fe, rfl, rfl, ht, hc.1, h1, h2, h3, rfl⟩
    ·cases h
   ·exfalso
    cases k with
    | ofNat k =>
     cases k with
     | zero => exact hk rfl
     | succ k => exact nomatch (show (none : Option DE) = some _ from h)
    | negSucc k => exact nomatch (show (none : Option DE) = some _ from h)
  | [], h => exact nomatch (show (none : Option DE) = some _ from h)
  | ⟨_, _, _, .ofNat 0⟩ :: _ :: _, h => exact nomatch (show (none : Option DE) = some _ from h)
  | ⟨_, _, _, .ofNat (k + 1)⟩ :: _ :: _, h => exact nomatch (show (none : Option DE) = some _ from h)
  | ⟨_, _, _, .negSucc k⟩ :: _ :: _, h => exact nomatch (show (none : Option DE) = some _ from h)
theorem QqZ {n : Nat} {X : Cx} {Θ : Th} {x : Str} {p pos : Pos} {e : Expr} {fa : DE} {i : Nat} (ok : Q5 X Θ) (hx : Θ.Qdy x = some i) (h : Qn n Θ e = some fa) : S1 X (.Assign [.Name x p] e pos) (Qq i fa) := by
 have hN : X.N.Nodup := by rw [ok.N]; exact ok.nd
 obtain ⟨h1, h2, h3⟩ := QeY ok hx
 by_cases hc : Qew e = true
 ·have he := (QbL n).E X Θ e fa ok h
  exact QjI λ H0 A0 => Qkk hN h1 h2 (he H0 A0) (Qfq hc) h3
 ·cases e with
  | ListComp elt gens scope cpos =>
   obtain ⟨m, tg, iter, ifs, t, fi, ft, fe, rfl, rfl, ht, hco, g1, g2, g3, rfl⟩ := QqD h
   obtain ⟨S, cap, inn⟩ := Qkq ok hco
   obtain ⟨i1, i2⟩ := (QbL m).I X Θ tg iter fi ok g1
   exact Qqf hN h1 h2 h3 ok.calm S i1 cap (λ cl C fp s3 H3 => ⟨QiN (inn cl C fp s3 H3) ht, (QbL m).Ts _ _ ifs ft (inn cl C fp s3 H3) g2, (QbL m).E _ _ elt fe (inn cl C fp s3 H3) g3⟩) i2
  | SetComp _ _ _ _ => cases n <;> exact nomatch (show (none : Option DE) = some _ from h)
  | DictComp _ _ _ _ _ => cases n <;> exact nomatch (show (none : Option DE) = some _ from h)
  | _ => exact absurd rfl hc
theorem Qpk {X : Cx} {x : Str} {p pos : Pos} {e : Expr} {fa : DE} {i : Nat} {n : Nat} {Θ : Th} (ok : Q5 X Θ) (hx : Θ.Qdy x = some i) (h : Qn n Θ e = some fa) (ha : QhS e = true) : S1 X (.Assign [.Name x p] e pos) (Qq i (QaE fa)) := by
 have hN : X.N.Nodup := by rw [ok.N]; exact ok.nd
 obtain ⟨h1, h2, h3⟩ := QeY ok hx
 have hc : Qew e = true := by cases e <;> first | rfl | cases ha
 have he := Qo7 ((QbL n).E X Θ e fa ok h)
 exact QjI λ H0 A0 => Qkk hN h1 h2 (he H0 A0) (Qfq hc) h3
theorem QmD {a i e : Expr} {p : Pos} {l : Nat} {env : Env} : swapsWithSole [.Subscript a i p] e l env = pure false := by
 cases e <;> rfl
structure Qrw (n : Nat) : Prop where
 S : ∀ X Θ st f, Q5 X Θ -> QiT n Θ st = some f -> S1 X st f
 Ss : ∀ X Θ sts f, Q5 X Θ -> QaY n Θ sts = some f -> SS X sts f
theorem Qrr {n : Nat} (ih : Qrw n) : ∀ X Θ st f, Q5 X Θ -> QiT (n + 1) Θ st = some f -> S1 X st f := by
 intro X Θ st f ok h
 have hN : X.N.Nodup := by rw [ok.N]; exact ok.nd
 have E := QbL n
 cases st with
 | Pass pos => change some Qk = some f at h; cases h; exact Qqv
 | Break pos => change some Qpa = some f at h; cases h; exact Qox
 | Continue pos => change some QnY = some f at h; cases h; exact Qp2
 | Raise a b pos => change some QF = some f at h; cases h; exact QoF
 | Return e pos =>
  cases e with
  | none => change some Ql7 = some f at h; cases h; exact Qql
  | some e =>
   change (Qn n Θ e).map QR = some f at h
   obtain ⟨fa, h1, rfl⟩ := Zb.mp h
   exact Qrz (E.E X Θ e fa ok h1)
 | Expr e pos =>
  cases e with
  | Constant c k p =>
   cases c with
   | str x =>
    change some Qk = some f at h
    cases h
    exact λ H0 A0 => QrG.mono λ E σ H ⟨ρ, hs, F, o, rel, e, q⟩ => by cases e; exact q σ H F rel
   | _ => exact nomatch (show (none : Option DS) = some _ from h)
  | Call fn args kws cpos =>
   cases fn with
   | Attribute o m apos =>
    cases kws with
    | nil =>
     change (if (apos.endLine == cpos.line) = true then Qhj n Θ o m args else none) = some f at h
     split at h
     ·rename_i hl
      exact Qo6 ok h hl
     ·cases h
    | cons _ _ => exact nomatch (show (none : Option DS) = some _ from h)
   | Name x p =>
    cases kws with
    | nil =>
     change (Qn n Θ (.Call (.Name x p) args [] cpos)).map QfG = some f at h
     obtain ⟨fa, h1, rfl⟩ := Zb.mp h
     exact λ H0 A0 => Qqi (QeJ (E.E X Θ _ fa ok h1 H0 A0) rfl)
    | cons _ _ => exact nomatch (show (none : Option DS) = some _ from h)
   | _ => exact nomatch (show (none : Option DS) = some _ from h)
  | _ => exact nomatch (show (none : Option DS) = some _ from h)
 | Assign ts e pos =>
  match ts, h with
  | [t], h =>
   cases t with
   | Name x p =>
    change ((Θ.Qdy x).bind λ i => (Qn n Θ e).map λ fa => Qq i (if QhS e = true then QaE fa else fa)) = some f at h
    obtain ⟨i, fa, h1, h2, rfl⟩ := Q6 h
    split
    ·rename_i ha; exact Qpk ok h1 h2 ha
    ·exact QqZ ok h1 h2
   | Tuple es k p =>
    change (if Qew e = true /\ QmK e = false then (Qev Θ (.Tuple es k p)).bind λ t => (Qn n Θ e).map λ fa => Qdg t fa else none) = some f at h
    split at h
    ·rename_i hc
     obtain ⟨t, fa, h1, h2, rfl⟩ := Q6 h
     refine QqY (E.E X Θ e fa ok h2) (QiN ok h1) (by show swapsWith e (some (.Tuple es k p)) pos.line X.env = pure false; exact Qfq hc.1) ?_ rfl
     cases e <;> first | rfl | (cases hc.2)
    ·cases h
   | Subscript a i p =>
    change ((Qbe n Θ a).bind λ q => (Qn n Θ i).bind λ fi => (Qn n Θ e).map λ fa => QaV q.1 q.2 fi fa) = some f at h
    obtain ⟨q, h1, h⟩ := bind1 h
    obtain ⟨fi, fa, h2, h3, rfl⟩ := Q6 h
    obtain ⟨sp, _⟩ := Qe5 n X Θ a q ok h1
    have ns := Qlj h2
    refine Qq8 (E.E X Θ e fa ok h3) sp (E.E X Θ i fi ok h2) λ te to ti he ho hi => Qnd he (Qrg ho hi set_list ?_) QmD ?_ rfl
    ·intro v; cases i <;> first | rfl | (cases ns)
    ·cases e <;> rfl
   | _ => exact nomatch (show (none : Option DS) = some _ from h)
  | [], h => exact nomatch (show (none : Option DS) = some _ from h)
  | t :: _ :: _, h => cases t <;> exact nomatch (show (none : Option DS) = some _ from h)
 | AugAssign t op e pos =>
  cases t with
  | Subscript a i p =>
   change ((Qbe n Θ a).bind λ q => (Qn n Θ i).bind λ fi => (QnS op).bind λ g => (Qn n Θ e).map λ fa => Qd4 g q.1 q.2 fi fa) = some f at h
   obtain ⟨q, h1, h⟩ := bind1 h
   obtain ⟨fi, h2, h⟩ := bind1 h
   obtain ⟨g, fa, h3, h4, rfl⟩ := Q6 h
   obtain ⟨r, o1, o2⟩ := Qst (X := X) h3
   obtain ⟨sp, _⟩ := Qe5 n X Θ a q ok h1
   have ns := Qlj h2
   exact Qqp o1 o2 (E.E X Θ e fa ok h4) sp (E.E X Θ i fi ok h2) λ ov iv new => by cases i <;> first | rfl | (cases ns)
  | _ => exact nomatch (show (none : Option DS) = some _ from h)
 | If c a b pos =>
  change ((QaA n Θ c).bind λ g => (QaY n Θ a).bind λ f1 => (QaY n Θ b).map λ f2 => sIf g f1 f2) = some f at h
  obtain ⟨g, h1, h⟩ := bind1 h
  obtain ⟨f1, f2, h2, h3, rfl⟩ := Q6 h
  exact QsM (E.T X Θ c g ok h1) (ih.Ss X Θ a f1 ok h2) (ih.Ss X Θ b f2 ok h3)
 | For tg iter body els pos =>
  cases els with
  | nil =>
   change ((Qev Θ tg).bind λ t => (Qed n Θ tg iter).bind λ fi => (QaY n Θ body).map λ fb => Qbh fi t fb) = some f at h
   obtain ⟨t, h1, h⟩ := bind1 h
   obtain ⟨fi, fb, h2, h3, rfl⟩ := Q6 h
   obtain ⟨i1, i2⟩ := E.I X Θ tg iter fi ok h2
   exact Qrv ok.pass ok.calm i1 (QiN ok h1) (ih.Ss X Θ body fb ok h3) i2
  | cons _ _ => exact nomatch (show (none : Option DS) = some _ from h)
 | While c body els pos =>
  cases els with
  | nil =>
   change ((QaA n Θ c).bind λ g => (QaY n Θ body).map λ fb => QcB g fb) = some f at h
   obtain ⟨g, fb, h1, h2, rfl⟩ := Q6 h
   exact QmI ok.pass (E.T X Θ c g ok h1) (ih.Ss X Θ body fb ok h2)
  | cons _ _ => exact nomatch (show (none : Option DS) = some _ from h)
 | _ => exact nomatch (show (none : Option DS) = some _ from h)
theorem Qpm : ∀ n, Qrw n
 | 0 => ⟨λ _ _ _ _ _ h => (nomatch (show (none : Option DS) = some _ from h)), λ _ _ _ _ _ h => (nomatch (show (none : Option DS) = some _ from h))⟩
 | n + 1 => by
  have ih := Qpm n
  refine ⟨Qrr ih, λ X Θ sts f ok h => ?_⟩
  match sts, h with
  | [], h => change some Qk = some f at h; cases h; exact Qrx
  | st :: r, h =>
   change ((QiT n Θ st).bind λ f => (QaY n Θ r).map λ g => Qd f g) = some f at h
   obtain ⟨fs, fr, h1, h2, rfl⟩ := Q6 h
   exact QpE (ih.S X Θ st fs ok h1) (ih.Ss X Θ r fr ok h2)
noncomputable def QaI (k : Nat) (ds : List D) : En := ds.map (λ d => some (d, d.flat)) ++ List.replicate (k - ds.length) none
noncomputable def outD : Out -> Option (D × Bool)
 | .rt d fr => some (d, fr)
 | .nx _ => some (.non, true)
 | _ => none
noncomputable def Qp (k : Nat) (f : DS) : Den := λ ds => (f (QaI k ds)).bind outD
theorem Rps.parts {K : PySem.W.Frag} {H : Hp} : ∀ {ds : List D} {vs : List V} {F : List Addr}, Rps K H ds vs F →
  ∃ Fs : List (List Addr), (∀ L ∈ Fs, ∀ a ∈ L, a ∈ F) /\ ∀ (i : Nat) (d : D), ds[i]? = some d -> ∃ v, vs[i]? = some v /\ Rp K H d v (Fs.getD i [])
 | [], _, _, h => ⟨[], λ L hL => by simp at hL, λ i d e => by simp at e⟩
 | d :: ds, _, _, h => by
  simp only [Rps] at h
  obtain ⟨v, ws, F1, F2, rfl, rfl, r, q⟩ := h
  obtain ⟨Fs, h1, h2⟩ := Rps.parts q
  refine ⟨F1 :: Fs, λ L hL a ha => ?_, λ i d' e => ?_⟩
  ·rcases Zw.mp hL with rfl | hL
   ·exact Zh _ ha
   ·exact Zc _ (h1 L hL a ha)
  ·cases i with
   | zero => simp at e; subst e; exact ⟨v, by simp, by simpa using r⟩
   | succ i => obtain ⟨w, hw, hr⟩ := h2 i d' (by simpa using e); exact ⟨w, by simpa using hw, by simpa using hr⟩
theorem Qgr {k : Nat} {ds : List D} {i : Nat} {d : D} {b : Bool} (h : (QaI k ds)[i]? = some (some (d, b))) : ds[i]? = some d /\ b = d.flat := by
 unfold QaI at h
 by_cases hi : i < ds.length
 ·rw [ZY (by simpa using hi), Zm] at h
  cases e : ds[i]? with
  | none => rw [e] at h; cases h
  | some a => rw [e] at h; cases h; exact ⟨rfl, rfl⟩
 ·rw [ZaN (by simpa using hi), ZbC] at h
  split at h <;> cases h
theorem Qnt {K : PySem.W.Frag} {H : Hp} {ds : List D} {vs : List V} {F : List Addr} {N : List Str} (r : Rps K H ds vs F) : ∃ F0, Rel K H F [] (QaI N.length ds) F0 (start N vs) H := by
 obtain ⟨Fs, h1, h2⟩ := r.parts
 have hl := r.length
 have src : ∀ i a, a ∈ Fs.getD i [] -> a ∈ F := λ i a ha => by
  by_cases hi : i < Fs.length
  ·have : Fs.getD i [] ∈ Fs := by rw [Zah, ZM hi]; exact List.getElem_mem hi
   exact h1 _ this a ha
  ·rw [Zah, Zr (by omega)] at ha; simp at ha
 refine ⟨λ i => Fs.getD i [], ?_, λ i d b e => ?_, λ i d e => ?_, λ i d b e a ha => .inr (src i a ha), λ t ht => absurd ht (by simp), QH.refl _⟩
 ·unfold QaI L2.start; simp [hl]
 ·obtain ⟨e1, _⟩ := Qgr e
  obtain ⟨v, hv, hr⟩ := h2 i d e1
  refine ⟨v, ?_, hr⟩
  have hi : i < vs.length := (Zd.mp hv).1
  unfold L2.start
  rw [ZY (by simpa using hi), Zm, hv]; rfl
 ·obtain ⟨e1, e2⟩ := Qgr e
  obtain ⟨v, hv, hr⟩ := h2 i d e1
  have z : Fs.getD i [] = [] := hr.QaZ e2.symm
  simp only [z]
  exact ⟨(Qcs d e2.symm).symm, Zac, λ a ha => by simp at ha, λ _ _ _ _ _ a ha => by simp at ha, λ _ _ a ha => by simp at ha⟩
section
variable (P : Program) (w : World) (K : PySem.W.Frag) (mg : Str -> Option Value) (base : Heap)
def Known (k : Nat) (x : Str) (r : FnR) : Prop := ∃ f fd ps, Qbt P w K mg base CX0 k f fd ps (spV K r.n r.den) /\ mg x = some (.ref f) /\ PySem.W.keepIn K (.ref f) = true ∧
 ∀ m, m <= r.dfl.length -> ∃ ds dvs, Binds K fd ps ds /\ Qt dvs ds /\ ∀ H, Rps K H (r.dfl.drop (r.dfl.length - m)) dvs []
def QcX (k : Nat) (Γ : List (Str × FnR)) : Prop := ∀ x r, look x Γ = some r -> Known P w K mg base k x r
structure QfV (cs : List (Str × Int)) : Prop where
 bn : ∀ x ∈ Qjg, mg x = none
 cs : ∀ x i, look x cs = some i -> ∃ t, mg x = some (.int i t)
end
section
variable {P : Program} {w : World} {K : PySem.W.Frag} {mg : Str -> Option Value} {base : Heap}
theorem QcX.nil {k : Nat} : QcX P w K mg base k [] := λ x r h => by cases h
theorem Known.mono {j k : Nat} {x : Str} {r : FnR} (h : Known P w K mg base j x r) (hk : j <= k) : Known P w K mg base k x r := by
 obtain ⟨f, fd, ps, h1, h2⟩ := h
 exact ⟨f, fd, ps, h1.mono hk, h2⟩
theorem QcX.cons {k : Nat} {Γ : List (Str × FnR)} {x : Str} {r : FnR} (t : QcX P w K mg base k Γ) (h : Known P w K mg base (k + 1) x r) : QcX P w K mg base (k + 1) ((x, r) :: Γ) := λ y q e => by
 unfold look at e
 split at e
 ·rename_i z; cases e; subst z; exact h
 ·exact (t y q e).mono (Zbf _)
noncomputable def namesOf (sc : Scope) : List Str := (sc.names.filter λ y => Qpo y.2).map (·.1)
noncomputable def QjE (st : Stmt) (Γ : List (Str × FnR)) (cs : List (Str × Int)) : Th := ⟨namesOf (Qx st), (Qx st).names, Γ, cs⟩
theorem QrI {st : Stmt} {ps : List Str} {qual : Str} {f : Addr} {cdv : Value} {A : Around} {outer : List Env} {s : Shared} {H : Hp} {E : XK} {k : Nat} {Γ : List (Str × FnR)} {cs : List (Str × Int)} (S : QcQ (namesOf (Qx st)) ps (Qx st)) (M : QfV mg cs) (tab : QcX P w K mg base k Γ)
  (hr : Qag k (A.deeper (envOfC qual (Qx st) s.heap.objs.size f cdv))) : Q5 (QgG CX0 P w K mg base (namesOf (Qx st)) qual (Qx st) f cdv A outer s H E).nox (QjE st Γ cs) where
 N := rfl
 nd := S.nd
 lc := λ x h => by rw [Qa4] at h; exact h
 ce := λ x h => by rw [Qa4] at h; exact ⟨h, rfl⟩
 fe := λ x h => by rw [Qa4] at h; exact absurd rfl (S.nofree _ (ZS h))
 gl := λ x h => by rw [Qa4] at h; exact h
 calm := rfl
 pass := PassesOwn.never
 units := hr.units
 mg := M.bn
 fns := λ x r h => by
  obtain ⟨f', fd, ps', h1, h2, h3, h4⟩ := tab x r h
  exact ⟨k, f', fd, ps', h1, hr, h2, h3, h4⟩
 cs := M.cs
theorem Qm7 {x qual : Str} {st : Stmt} {f : Addr} {fd : FuncData} {ps : List Str} {k n : Nat} {Γ : List (Str × FnR)} {cs : List (Str × Int)} {g : DS} (F : Fun K x qual st f fd) (S : QcQ (namesOf (Qx st)) ps (Qx st)) (M : QfV mg cs) (tab : QcX P w K mg base k Γ)
  (hc : QaY n (QjE st Γ cs) (Qbx st) = some g) : Qbt P w K mg base CX0 (k + 1) f fd ps (spV K ps.length (Qp (namesOf (Qx st)).length g)) := by
 refine F.ok S (QpH rfl) λ cdv A outer s H vs Q E hr h => ?_
 obtain ⟨ds, L, d, fr, rps, hl, hd, q⟩ := h
 refine ⟨_, (Qpm n).Ss _ _ _ g (QrI S M tab hr) hc H L, ?_⟩
 obtain ⟨F0, rel⟩ := Qnt (N := namesOf (Qx st)) rps
 unfold Qp at hd
 obtain ⟨o, ho, hd⟩ := bind1 hd
 refine ⟨_, [], F0, o, rel, ho, ?_⟩
 cases o with
 | nx ρ =>
  cases hd
  exact λ σ H' F' rel' => q .non H' [] ⟨rel'.same, .Qg5, λ a ha => by simp at ha, λ _ => ⟨Zac, rfl, λ a ha => by simp at ha⟩⟩
 | bk ρ => cases hd
 | ct ρ => cases hd
 | rt d' fr' =>
  cases hd
  exact λ v H' G r => q v H' G r
structure Fact (K : PySem.W.Frag) (x : Str) (st : Stmt) : Prop where
 ex : ∃ f fd, Fun K x x st f fd /\ PySem.W.nsIn K mainGlobals x = some (some (.ref f))
theorem fact_mk {x : Str} {st : Stmt} {f : Addr} {oc : Value} {od an : Option Addr} {osl : Array (Option Value)} {kV doc pm cdv ct : Value} (a : PySem.W.nsIn K mainGlobals x = some (some (.ref f))) (l : K.lookup f = some ⟨oc, od, .func (PySem.W.fnOf x x (QdG st) (Qbx st) (Qx st) .none kV doc pm an cdv ct), osl⟩)
  (c : PySem.W.codeIn K cdv x = true) (k : PySem.W.keepIn K (.ref f) = true) : Fact K x st := ⟨f, _, Qsr l c k, a⟩
def QB (x : Str) (st : Stmt) (ps : List Str) : Prop := ∀ (kV doc pm : Value) (an : Option Addr) (cdv ct : Value) (us : List Value), us.length = ps.length -> bindArgs (PySem.W.fnOf x x (QdG st) (Qbx st) (Qx st) .none kV doc pm an cdv ct) ⟨us, []⟩ = pure (ps.zip us)
theorem QA {h : Heap} {x : Str} {st : Stmt} {ps : List Str} {k n : Nat} {Γ : List (Str × FnR)} {cs : List (Str × Int)} {g : DS} (X : K.In h) (G : h.Ns mainGlobals mg) (F : Fact K x st) (S : QcQ (namesOf (Qx st)) ps (Qx st)) (B : QB x st ps) (M : QfV mg cs) (tab : QcX P w K mg base k Γ)
  (hc : QaY n (QjE st Γ cs) (Qbx st) = some g) : Known P w K mg base (k + 1) x ⟨ps.length, [], Qp (namesOf (Qx st)).length g⟩ := by
 obtain ⟨f, fd, Fn, a⟩ := F.ex
 refine ⟨f, fd, ps, Qm7 Fn S M tab hc, ZbP X G a, Fn.kp, λ m hm => ⟨[], [], Fn.binds (B ·), .nil, λ H => by simp [Rps]⟩⟩
end
end HS
namespace HS
open PySem PySem.Spec L2 PyProof.Rows
theorem Qpe {l : PySem.W.OpenLaw} {k : Nat} {q : Program} {loose : List Str} {XP : (Str -> Option Value) -> Heap -> Prop} {YP : World -> Heap -> Prop} {d : DefRec} {K : Params -> PySem.W.Frag} {den : Den} {x : Str}
  (hn : l.most = some 63) (hdf : d.params.defaults = []) (hr : Qag k callerA) (hY : ∀ (w : World) (h : Heap), YP w h -> (K w.params).In h)
  (hden : ∀ ns : List Int, ns.length <= 63 -> ∃ fr, den [.lst (ns.map .int)] = some (.bl true, fr))
  (F : ∀ (w : World) (mg : Str -> Option Value) (fa : Addr) (h : Heap), (K w.params).In h -> h.Ns mainGlobals mg -> mg d.name = some (.ref fa) →
   ∃ fd : FuncData, (∀ (s : Shared) (u : Value), BindsTo s fd ⟨[u], []⟩ [(x, u)]) ∧
    ∀ base : Heap, (K w.params).In base -> base.Ns mainGlobals mg -> Qbt l.prog w (K w.params) mg base CX0 k fa fd [x] (spV (K w.params) 1 den)) :
  PySem.W.WalkO q loose XP YP l.row.toRowW d [] (λ f vs => PySem.call f vs) := by
 refine Att.Qgo hn hdf λ w s₀ s₁ mg mb fa o pm cd doc a vs ns G Y ho hd hcd hmg hobj hints hlen hg => ?_
 have KX := hY w _ Y
 obtain ⟨fd, hb, hF⟩ := F w mg fa _ KX G.T.g hmg
 have h63 : (63 : Nat) <= sizeLine := by decide
 refine QjW KX G.T.g G.T.b G.T.builtins G.T.nolimit hg hobj hints (Zu hlen h63) hr hF hb (λ H hO hS => ?_) λ H e s' z => z
 have fx : Fix (K w.params) H a (ns.map V.int) := by
  rcases hS with (h | ⟨o, h⟩) | ⟨o, its, n, hk, hc, hdn, hda, hz, rv⟩
  ·rcases hO a with z | ⟨o, xs, z⟩ <;> rw [h] at z <;> cases z
  ·exact .inl ⟨o, h⟩
  ·have e := KX a o hk
   rw [hobj] at e
   cases e
   cases hda
   exact .inr ⟨vs, _, hk, by rw [Zj]; exact Zu hlen h63, by simpa using rv⟩
 obtain ⟨fr, hfr⟩ := hden ns hlen
 have rp : Rp (K w.params) H (.lst (ns.map .int)) (.ref a) [] := by
  simp only [Rp]
  refine ⟨by rw [Zj]; exact Zu hlen h63, a, _, rfl, .inr ⟨fx, ?_⟩⟩
  have gen : ∀ ns : List Int, Rps (K w.params) H (ns.map .int) (ns.map .int) [] := by
   intro ns
   induction ns with
   | nil => simp [Rps]
   | cons n ns ih => simp only [ZA, Rps]; exact ⟨_, _, [], [], rfl, rfl, .int_mk, ih⟩
  exact gen ns
 refine ⟨[.lst (ns.map .int)], [], .bl true, fr, ?_, rfl, hfr, λ v H' G r => r.rp.Qfk⟩
 simp only [Rps]
 exact ⟨_, _, [], [], rfl, rfl, rp, rfl, rfl⟩
theorem Qty {P : Program} {w : World} {K : PySem.W.Frag} {mg : Str -> Option Value} {h : Heap} {x y : Str} {st : Stmt} {fa : Addr} {k n : Nat} {Γ : List (Str × FnR)} {cs : List (Str × Int)} {g : DS} (X : K.In h) (G : h.Ns mainGlobals mg) (hmg : mg x = some (.ref fa))
  (F : Fact K x st) (S : QcQ (namesOf (Qx st)) [y] (Qx st)) (B : QB x st [y]) (M : QfV mg cs) (tab : ∀ base : Heap, QcX P w K mg base k Γ) (hc : QaY n (QjE st Γ cs) (Qbx st) = some g) :
  ∃ fd : FuncData, (∀ (s : Shared) (u : Value), BindsTo s fd ⟨[u], []⟩ [(y, u)]) ∧
    ∀ base : Heap, K.In base -> base.Ns mainGlobals mg -> Qbt P w K mg base CX0 (k + 1) fa fd [y] (spV K 1 (Qp (namesOf (Qx st)).length g)) := by
 obtain ⟨f, fd, Fn, a⟩ := F.ex
 have e := hmg.symm.trans (ZbP X G a)
 cases e
 refine ⟨fd, λ s u => ?_, λ base _ _ => Qm7 Fn S M (tab base) hc⟩
 obtain ⟨oc, od, kV, doc, pm, an, cdv, ct, osl, rfl, lk, hcd⟩ := Fn.ex
 exact .of_eq (B kV doc pm an cdv ct [u] rfl)
end HS
namespace HS
open PySem PySem.Spec PyProof.Rows L2
section
variable {P : Program} {w : World} {K : PySem.W.Frag} {mg : Str -> Option Value} {base : Heap}
theorem Qma {h : Heap} {x : Str} {st : Stmt} {ps : List Str} {k : Nat} (X : K.In h) (G : h.Ns mainGlobals mg) (F : Fact K x st) (B : QB x st ps) : Known P w K mg base k x ⟨ps.length, [], λ _ => none⟩ := by
 obtain ⟨f, fd, Fn, a⟩ := F.ex
 refine ⟨f, fd, ps, ⟨λ vs H Q E h => ?_, λ A outer s H args us vs Q E _ _ _ _ h => ?_⟩, ZbP X G a, Fn.kp, λ m hm => ⟨[], [], Fn.binds (B ·), .nil, λ H => by simp [Rps]⟩⟩
 ·obtain ⟨ds, L, d, fr, rps, hl, hd, q⟩ := h
  cases hd
 ·obtain ⟨ds, L, d, fr, rps, hl, hd, q⟩ := h
  cases hd
end
end HS
namespace HS
open PySem L2
noncomputable def pairD (p : Int × Int) : D := .tup [.int p.1, .int p.2]
noncomputable def Qcc (p : Int × Int × Bool) : D := .tup [.int p.1, .int p.2.1, .bl p.2.2]
noncomputable def Qj (ns : List Int) : D := .lst (ns.map .int)
noncomputable def QU (ps : List (Int × Int)) : D := .lst (ps.map pairD)
noncomputable def QE (m : Int) (R L : List (Int × Int)) : D := .tup [.int m, QU R, QU L]
theorem Qcj {α : Type} {f : α -> D} (h : ∀ a, (f a).flat = true) : ∀ l : List α, QI (l.map f) = true
 | [] => rfl
 | a :: l => by simp [QI, h a, Qcj h l]
@[simp] theorem QtZ (i : Int) : (D.int i).flat = true := rfl
@[simp] theorem Quo (i : Bool) : (D.bl i).flat = true := rfl
@[simp] theorem QtR : D.non.flat = true := rfl
@[simp] theorem Qt8 (x : Str) : (D.str x).flat = true := rfl
@[simp] theorem Quk (xs : List D) : (D.lst xs).flat = false := rfl
@[simp] theorem Qub (xs : List D) : (D.tup xs).flat = QI xs := rfl
@[simp] theorem QtF : QI [] = true := rfl
@[simp] theorem QsU (d : D) (ds : List D) : QI (d :: ds) = (d.flat && QI ds) := rfl
@[simp] theorem QtG (p : Int × Int) : (pairD p).flat = true := rfl
@[simp] theorem QtM (p : Int × Int × Bool) : (Qcc p).flat = true := rfl
@[simp] theorem QtD (ns : List Int) : (Qj ns).flat = false := rfl
@[simp] theorem Qs4 (ns : List (Int × Int)) : (QU ns).flat = false := rfl
@[simp] theorem QsG (ps : List (Int × Int)) : QI (ps.map pairD) = true := Qcj (λ _ => rfl) _
@[simp] theorem QlR (ps : List (Int × Int × Bool)) : QI (ps.map Qcc) = true := Qcj (λ _ => rfl) _
@[simp] theorem QeR (ns : List Int) : QI (ns.map .int) = true := Qcj (λ _ => rfl) _
@[simp] theorem QtC (xs ys : List D) : QI (xs ++ ys) = (QI xs && QI ys) := QcY xs ys
def Run (f : DS) (ρ : En) (Q : Out -> Prop) : Prop := ∃ o, f ρ = some o /\ Q o
noncomputable def Nx (Q : En -> Prop) : Out -> Prop
 | .nx ρ => Q ρ
 | _ => False
noncomputable def Rt (Q : D -> Bool -> Prop) : Out -> Prop
 | .rt d fr => Q d fr
 | _ => False
theorem Run.mono {f : DS} {ρ : En} {Q Q' : Out -> Prop} (h : Run f ρ Q) (m : ∀ o, Q o -> Q' o) : Run f ρ Q' := let ⟨o, h1, h2⟩ := h; ⟨o, h1, m o h2⟩
theorem Qm {ρ : En} {Q : Out -> Prop} (h : Q (.nx ρ)) : Run Qk ρ Q := ⟨_, rfl, h⟩
theorem run_seq {f g : DS} {ρ : En} {Q : Out -> Prop} (h : Run f ρ (Nx λ ρ' => Run g ρ' Q)) : Run (Qd f g) ρ Q := by
 obtain ⟨o, h1, h2⟩ := h
 cases o with
 | nx ρ' =>
  obtain ⟨o', h3, h4⟩ := h2
  exact ⟨o', by simp [Qd, h1, h3], h4⟩
 | _ => exact False.elim h2
theorem QG {f g : DS} {ρ : En} {Q : Out -> Prop} (h : Run f ρ λ o => match o with | .nx ρ' => Run g ρ' Q | o => Q o) : Run (Qd f g) ρ Q := by
 obtain ⟨o, h1, h2⟩ := h
 cases o with
 | nx ρ' =>
  obtain ⟨o', h3, h4⟩ := h2
  exact ⟨o', by simp [Qd, h1, h3], h4⟩
 | bk ρ' => exact ⟨_, by simp [Qd, h1], h2⟩
 | ct ρ' => exact ⟨_, by simp [Qd, h1], h2⟩
 | rt d fr => exact ⟨_, by simp [Qd, h1], h2⟩
theorem Qh {i : Nat} {fa : DE} {r : R} {ρ : En} {Q : Out -> Prop} (h : fa ρ = some r) (q : Q (.nx (asg i r ρ))) : Run (Qq i fa) ρ Q := ⟨_, by simp [Qq, h], q⟩
theorem QeK {fa : DE} {r : R} {ρ : En} {Q : Out -> Prop} (h : fa ρ = some r) (q : Q (.rt r.d (r.norm.fr && decide r.norm.M.Nodup))) : Run (QR fa) ρ Q := ⟨_, by simp [QR, h], q⟩
theorem QQ {g : DT} {f1 f2 : DS} {b : Bool} {ρ : En} {Q : Out -> Prop} (h : g ρ = some b) (q1 : b = true -> Run f1 ρ Q) (q2 : b = false -> Run f2 ρ Q) : Run (sIf g f1 f2) ρ Q := by
 cases b with
 | true => obtain ⟨o, h1, h2⟩ := q1 rfl; exact ⟨o, by simp [sIf, h, h1], h2⟩
 | false => obtain ⟨o, h1, h2⟩ := q2 rfl; exact ⟨o, by simp [sIf, h, h1], h2⟩
theorem Q8 {k : Nat} {f : DS} {ds : List D} {d : D} {fr : Bool} (h : Run f (QaI k ds) (Rt λ d' fr' => d' = d /\ fr' = fr)) : Qp k f ds = some (d, fr) := by
 obtain ⟨o, h1, h2⟩ := h
 unfold Qp
 cases o with
 | rt d' fr' => obtain ⟨rfl, rfl⟩ := h2; rw [h1]; rfl
 | _ => exact False.elim h2
theorem Qkd {α : Type} {t : Tg} {fb : DS} {toD : α -> D} {Q : Out -> Prop} (I : Nat -> En -> Prop) : ∀ (xs ys : List α) (ρ : En), I ys.length ρ →
  (∀ i x ρ, (ys ++ xs)[i]? = some x -> ys.length <= i -> I i ρ -> ∃ ρ1, Qb8 t (toD x) ρ = some ρ1 /\ Run fb ρ1 λ o => match o with | .nx ρ2 => I (i + 1) ρ2 | .ct ρ2 => I (i + 1) ρ2 | .bk ρ2 => Q (.nx ρ2) | .rt d fr => Q (.rt d fr)) →
  (∀ ρ, I (ys ++ xs).length ρ -> Q (.nx ρ)) -> Run (QcD t fb (xs.map toD)) ρ Q
 | [], ys, ρ, h0, _, fin => ⟨_, rfl, fin ρ (by simpa using h0)⟩
 | x :: xs, ys, ρ, h0, turn, fin => by
  obtain ⟨ρ1, h1, o, h2, h3⟩ := turn ys.length x ρ (by simp) (Zi _) h0
  have next : ∀ ρ2, I (ys.length + 1) ρ2 -> Run (QcD t fb (xs.map toD)) ρ2 Q := λ ρ2 hi =>
   Qkd I xs (ys ++ [x]) ρ2 (by simpa using hi) (λ i y ρ' e hl => turn i y ρ' (by simpa using e) (by simp at hl; omega)) (λ ρ' h => fin ρ' (by simpa using h))
  cases o with
  | nx ρ2 => obtain ⟨o', e1, e2⟩ := next ρ2 h3; exact ⟨o', by simp [QcD, h1, h2, e1], e2⟩
  | ct ρ2 => obtain ⟨o', e1, e2⟩ := next ρ2 h3; exact ⟨o', by simp [QcD, h1, h2, e1], e2⟩
  | bk ρ2 => exact ⟨_, by simp [QcD, h1, h2], h3⟩
  | rt d fr => exact ⟨_, by simp [QcD, h1, h2], h3⟩
theorem QaH {α : Type} {fi : DI} {t : Tg} {fb : DS} {toD : α -> D} {ρ : En} {ir : IR} {Q : Out -> Prop} (xs : List α) (I : Nat -> En -> Prop) (h : fi ρ = some ir) (hx : ir.items = xs.map toD) (h0 : I 0 (QaL ir.M ρ))
  (turn : ∀ i x ρ, xs[i]? = some x -> I i ρ -> ∃ ρ1, Qb8 t (toD x) ρ = some ρ1 /\ Run fb ρ1 λ o => match o with | .nx ρ2 => I (i + 1) ρ2 | .ct ρ2 => I (i + 1) ρ2 | .bk ρ2 => Q (.nx ρ2) | .rt d fr => Q (.rt d fr))
  (fin : ∀ ρ, I xs.length ρ -> Q (.nx ρ)) : Run (Qbh fi t fb) ρ Q := by
 obtain ⟨o, h1, h2⟩ := Qkd (t := t) (fb := fb) (toD := toD) (Q := Q) I xs [] (QaL ir.M ρ) h0 (λ i x ρ e _ => turn i x ρ (by simpa using e)) (λ ρ h => fin ρ (by simpa using h))
 exact ⟨o, by simp [Qbh, h, hx, h1], h2⟩
theorem Qip {α : Type} {t : Tg} {ft : DT} {fe : DE} {ρc : En} {toD : α -> D} {keep : α -> Bool} {out : α -> D} : ∀ (xs : List α) (acc : List D),
  (∀ x ∈ xs, ∃ ρ1, Qb8 t (toD x) ρc = some ρ1 /\ ft ρ1 = some (keep x) /\ (keep x = true -> ∃ r, fe ρ1 = some r /\ r.d = out x /\ r.norm.fr = true)) →
  (xs.map toD).foldlM (Qee t ft fe ρc) (acc, true) = some (acc ++ (xs.filter keep).map out, true)
 | [], acc, _ => by simp
 | x :: xs, acc, h => by
  obtain ⟨ρ1, h1, h2, h3⟩ := h x Zn
  have ih := λ acc => Qip xs acc (λ y hy => h y (Ze _ hy))
  cases hk : keep x with
  | false =>
   have e : Qee t ft fe ρc (acc, true) (toD x) = some (acc, true) := by simp [Qee, h1, h2, hk]
   simp [ZbD, e, ih, hk]
  | true =>
   obtain ⟨r, h4, h5, h6⟩ := h3 hk
   have e : Qee t ft fe ρc (acc, true) (toD x) = some (acc ++ [out x], true) := by simp [Qee, h1, h2, hk, h4, h5, h6]
   simp [ZbD, e, ih, hk]
theorem QdE {α : Type} {fi : DI} {t : Tg} {cap : List (Option Nat)} {ft : DT} {fe : DE} {ρ : En} {ir : IR} {toD : α -> D} {keep : α -> Bool} {out : α -> D} (xs : List α) (h : fi ρ = some ir) (hx : ir.items = xs.map toD)
  (turn : ∀ x ∈ xs, ∃ ρ1, Qb8 t (toD x) (Qdx cap ρ) = some ρ1 /\ ft ρ1 = some (keep x) /\ (keep x = true -> ∃ r, fe ρ1 = some r /\ r.d = out x /\ r.norm.fr = true)) :
  QK fi t cap ft fe ρ = some ⟨.lst ((xs.filter keep).map out), true, []⟩ := by
 unfold QK
 rw [h, Za, hx, Qip xs [] turn]
 simp
theorem QT {α : Type} {fi : DI} {t : Tg} {cap : List (Option Nat)} {fe : DE} {ρ : En} {ir : IR} {toD : α -> D} {out : α -> D} (xs : List α) (h : fi ρ = some ir) (hx : ir.items = xs.map toD)
  (turn : ∀ x ∈ xs, ∃ ρ1, Qb8 t (toD x) (Qdx cap ρ) = some ρ1 /\ ∃ r, fe ρ1 = some r /\ r.d = out x /\ r.norm.fr = true) :
  QK fi t cap QX fe ρ = some ⟨.lst (xs.map out), true, []⟩ := by
 have := QdE (keep := λ _ => true) (ft := QX) xs h hx (cap := cap) (t := t) (fe := fe) (out := out) λ x hx => by
  obtain ⟨ρ1, h1, h2⟩ := turn x hx
  exact ⟨ρ1, h1, rfl, λ _ => h2⟩
 rw [this, List.filter_eq_self.mpr λ _ _ => rfl]
@[simp] theorem QoW (d : D) : R.norm ⟨d, true, []⟩ = ⟨d, true, []⟩ := by unfold R.norm; split <;> rfl
@[simp] theorem Qo (i : Nat) (d : D) (ρ : En) : asg i ⟨d, true, []⟩ ρ = ρ.set i (some (d, true)) := by unfold asg; simp [kill]
theorem Qck {i : Nat} {d : D} {fr : Bool} {M : List Nat} {ρ : En} (h : d.flat = true) : asg i ⟨d, fr, M⟩ ρ = ρ.set i (some (d, true)) := by
 unfold asg R.norm; simp [h, kill]
theorem Qam {i : Nat} {ρ : En} {d : D} {b : Bool} (h : ρ[i]? = some (some (d, b))) : Qa i ρ = some (if d.flat then ⟨d, true, []⟩ else if b then ⟨d, true, [i]⟩ else ⟨d, false, []⟩) := by
 unfold Qa
 rw [h]
 dsimp only
 split
 ·simp_all
 ·split <;> simp_all
theorem Qj1 {i : Nat} {ρ : En} {n : Int} {b : Bool} (h : ρ[i]? = some (some (.int n, b))) : Qa i ρ = some ⟨.int n, true, []⟩ := by rw [Qam h]; rfl
@[simp] theorem Qaq (d : D) (ρ : En) : dC d ρ = some ⟨d, true, []⟩ := rfl
theorem Qa1 {g : D -> D -> Option D} {fa fb : DE} {ρ : En} {ra rb : R} {d : D} (ha : fa ρ = some ra) (hb : fb ρ = some rb) (h : g ra.d rb.d = some d) : dOp g fa fb ρ = some ⟨d, true, []⟩ := by simp [dOp, ha, hb, h]
theorem Qg {fa : DE} {fs : DA} {ρ : En} {r : R} {rs : RA} (ha : fa ρ = some r) (hs : fs ρ = some rs) : Qb fa fs ρ = some ⟨r.d :: rs.ds, r.fr && rs.fr, r.M ++ rs.M⟩ := by simp [Qb, ha, hs]
@[simp] theorem QS (ρ : En) : Qe ρ = some ⟨[], true, []⟩ := rfl
noncomputable def vf (d : D) (b : Bool) (i : Nat) : R := if d.flat then ⟨d, true, []⟩ else if b then ⟨d, true, [i]⟩ else ⟨d, false, []⟩
@[simp] theorem Qut (d : D) (b : Bool) (i : Nat) : (vf d b i).d = d := by unfold vf; split; rfl; split <;> rfl
@[simp] theorem Qi6 (i j : Int) (h : 0 <= j) : Qbs i j = i % j := by unfold Qbs; rw [if_pos h]
@[simp] theorem Qje (i j : Int) (h : 0 <= j) : QcJ i j = i / j := by unfold QcJ; rw [if_pos h]
theorem QbV {i j : Int} (h : i.natAbs < 2 ^ 64) : QcC i j = true := by unfold QcC; simp [h]
theorem Qdc {i j : Int} (h : j.natAbs < 2 ^ 64) : QcC i j = true := by unfold QcC; simp [h]
theorem QfY {i j : Int} (h1 : Builtin.Int.intBits i <= 2 ^ 20) (h2 : Builtin.Int.intBits j <= 2 ^ 20) : QcC i j = true := by
 unfold QcC
 rw [decide_eq_true h1, decide_eq_true h2, Bool.and_self, Bool.or_true]
theorem Qd5 : (sizeLine : Nat) = 16777216 := sizeLine_eq
noncomputable def Qc (m : Nat) (f : Nat -> Int) : D := .lst ((List.range m).map λ i => .int (f i))
noncomputable def Qi (m n : Nat) (f : Nat -> Nat -> Int) : D := .lst ((List.range m).map λ i => Qc n (f i))
@[simp] theorem Qt7 (m : Nat) (f : Nat -> Int) : (Qc m f).flat = false := rfl
@[simp] theorem Qul (m n : Nat) (f : Nat -> Nat -> Int) : (Qi m n f).flat = false := rfl
@[simp] theorem QmF (m : Nat) (f : Nat -> Int) : QI ((List.range m).map λ i => D.int (f i)) = true := Qcj (f := λ i => D.int (f i)) (λ _ => rfl) _
noncomputable def up (f : Nat -> Int) (i : Nat) (v : Int) : Nat -> Int := λ j => if j = i then v else f j
noncomputable def up2 (f : Nat -> Nat -> Int) (i j : Nat) (v : Int) : Nat -> Nat -> Int := λ k => if k = i then up (f k) j v else f k
theorem QcM {n : Nat} {i : Int} (h0 : 0 <= i) (h : i < n) : ixN n i = some i.toNat := by
 unfold ixN; rw [if_pos (by omega), if_pos (by omega)]
theorem QfU {α : Type} {xs : List α} {i : Int} (h0 : 0 <= i) (h : i < xs.length) : atI xs i = xs[i.toNat]? := by
 unfold atI; rw [QcM h0 h]; rfl
theorem Qdw {α : Type} {m : Nat} {f : Nat -> α} {i : Nat} {v : α} : ((List.range m).map f).set i v = (List.range m).map λ j => if j = i then v else f j := by
 apply ZaK
 intro k
 rw [List.getElem?_set]
 simp only [Zj, Zx, Zm]
 by_cases hk : k < m
 ·rw [ZF hk]
  by_cases e : i = k
  ·subst e; simp [hk]
  ·simp [e, Ne.symm e]
 ·rw [Zr (by simp; omega)]
  by_cases e : i = k
  ·subst e; simp [hk]
  ·simp [e]
theorem Qf7 {m : Nat} {f : Nat -> Int} {i : Nat} {v : Int} : ((List.range m).map λ j => D.int (f j)).set i (.int v) = (List.range m).map λ j => D.int (up f i v j) := by
 rw [Qdw]
 congr 1; funext j; unfold up; split <;> rfl
theorem Qqn {m : Nat} {f : Nat -> Int} {i : Int} (h0 : 0 <= i) (h : i < m) : atI ((List.range m).map λ j => D.int (f j)) i = some (.int (f i.toNat)) := by
 rw [QfU h0 (by simpa using h), Zm, ZF (by omega)]; rfl
theorem QhW {m n : Nat} {f : Nat -> Nat -> Int} {i : Int} (h0 : 0 <= i) (h : i < m) : atI ((List.range m).map λ j => Qc n (f j)) i = some (Qc n (f i.toNat)) := by
 rw [QfU h0 (by simpa using h), Zm, ZF (by omega)]; rfl
theorem QjC {x m : Nat} {f : Nat -> Int} {fi fa : DE} {ρ : En} {i : Int} {v : Int} {ri ra : R} {Q : Out -> Prop} (hx : ρ[x]? = some (some (Qc m f, true))) (hi : fi ρ = some ri) (ei : ri.d = .int i) (ha : fa ρ = some ra) (ea : ra.d = .int v) (h0 : 0 <= i) (h : i < m)
  (q : Q (.nx (ρ.set x (some (Qc m (up f i.toNat v), true))))) : Run (QaV x Q1 fi fa) ρ Q := by
 refine ⟨_, ?_, q⟩
 have hn : ra.norm = ⟨.int v, true, []⟩ := by unfold R.norm; rw [ea]; rfl
 unfold QaV
 rw [ha, Za, hx]
 simp only [Q1, Za, hi, ei, QaC, Qc, Zj, Zx, QcM h0 h, hn, ea, Qah, Qf7]
 simp [kill]
theorem QjO {g : D -> D -> Option D} {x m n : Nat} {f : Nat -> Nat -> Int} {fp fi fa : DE} {ρ : En} {i j w : Int} {rp ri ra : R} {Q : Out -> Prop} (hx : ρ[x]? = some (some (Qi m n f, true))) (hp : fp ρ = some rp) (ep : rp.d = .int i) (hi : fi ρ = some ri) (ei : ri.d = .int j) (ha : fa ρ = some ra)
  (h0 : 0 <= i) (h : i < m) (k0 : 0 <= j) (k : j < n) (hg : g (.int (f i.toNat j.toNat)) ra.d = some (.int w)) (q : Q (.nx (ρ.set x (some (Qi m n (up2 f i.toNat j.toNat w), true))))) : Run (Qd4 g x (Qca Q1 fp) fi fa) ρ Q := by
 refine ⟨_, ?_, q⟩
 have hj : ((List.range n).map λ k => D.int (f i.toNat k))[j.toNat]? = some (.int (f i.toNat j.toNat)) := by rw [Zm, ZF (by omega)]; rfl
 have hd : QaC (Qi m n f) [i] = some (Qc n (f i.toNat)) := by
  simp only [QaC, Qi, D.items, Za, QhW h0 h]
 have hu : Qah [i] (Qi m n f) (.lst (((List.range n).map λ k => D.int (f i.toNat k)).set j.toNat (.int w))) = Qi m n (up2 f i.toNat j.toNat w) := by
  simp only [Qah, Qi, Zj, Zx, QcM h0 h, Qf7]
  rw [Qdw]
  congr 2; funext k
  unfold up2
  split
  ·rename_i e; subst e; rfl
  ·rfl
 unfold Qd4
 rw [hx]
 simp only [Qca, Q1, Za, hp, ep, ZaS, hi, ei, hd, Qc, Zj, Zx, QcM k0 k, hj, ha, hg, ZX]
 rw [hu]
theorem Qbd {fa : DE} {ρ : En} {r : R} {n : Nat} (h : fa ρ = some r) (e : r.d = .int n) (hn : n <= 16777216) : QaJ fa ρ = some ⟨(List.range n).map λ (k : Nat) => .int (k : Int), []⟩ := by
 unfold QaJ
 rw [h, Za, e]
 dsimp only
 rw [if_pos ⟨by omega, by omega⟩]
 simp [QfE]
theorem Qld {α : Type} (x : α) : ∀ n : Nat, (List.replicate n [x]).flatten = (List.range n).map λ _ => x
 | 0 => rfl
 | n + 1 => by
  rw [ZT, Zaa, Qld x n, ZaY, ZA, Zad]; rfl
theorem QjP {fb : DE} {ρ : En} {r : R} {n : Nat} {z : Int} (h : fb ρ = some r) (e : r.d = .int n) (hn : n <= 16777216) : Qab (Qaw (Qb (dC (.int z)) Qe)) fb ρ = some ⟨Qc n (λ _ => z), true, []⟩ := by
 have h1 : Qaw (Qb (dC (.int z)) Qe) ρ = some ⟨.lst [.int z], true, []⟩ := rfl
 unfold Qab
 rw [h1, Za, h, Za, e]
 dsimp only
 rw [if_pos ⟨by simp [Qd5]; omega, by omega, by omega, rfl⟩]
 simp only [Zaz, Qld]
 rfl
noncomputable def QhU : DS := (Qd (Qq 2 (QK (Q2 (Qa 0)) (.tp [1, 2]) [none, none, none] QX (QaK (Qb (Qa 1) (Qb (Qa 2) Qe))))) (Qd (Qq 3 (QK (Q2 (Qa 0)) (.tp [1, 2]) [none, none, none] QX (QaK (Qb (Qa 2) (Qb (Qa 1) Qe))))) (Qd (QR (QL (QL (Qa 2) (Qa 3)) (dList (Qb (Qa 1) Qe)))) Qk)))
theorem QfM {fa fb : DE} {ρ : En} {ra rb : R} {A B : List (Int × Int)} (ha : fa ρ = some ra) (ea : ra.d = QU A) (hb : fb ρ = some rb) (eb : rb.d = QU B) (hl : A.length + B.length <= 16777216) : QL fa fb ρ = some ⟨QU (A ++ B), true, []⟩ := by
 unfold QL
 rw [ha, Za, hb, Za, ea, eb]
 simp only [QU, Zj, Qd5, if_pos hl, Qal]
 simp
theorem Qgt {ρ : En} {A : List (Int × Int)} {fs : DA} {rs : RA} (h : fs ρ = some rs) (e : rs.ds = [QU A]) (_ : True = True) : dList fs ρ = some ⟨QU A, true, []⟩ := by
 unfold dList
 rw [h, Za, e]
 simp [QU, Qal]
theorem QJ {fa : DE} {r : R} {g : DS} {ρ : En} {Q : D -> Bool -> Prop} (h : fa ρ = some r) (q : Q r.d (r.norm.fr && decide r.norm.M.Nodup)) : Run (Qd (QR fa) g) ρ (Rt Q) := QG (QeK h q)
theorem QmW {R L : List (Int × Int)} (hl : R.length + R.length + L.length <= 16777216) : Qp 4 QhU [QU R, QU L] = some (QU (R ++ R.map Prod.swap ++ L), true) := by
 refine Q8 ?_
 refine run_seq (Qh (QT (toD := pairD) (out := pairD) R rfl rfl λ x _ => ⟨[none, some (.int x.1, true), some (.int x.2, true)], rfl, ⟨pairD x, true, []⟩, rfl, rfl, rfl⟩) ?_)
 refine run_seq (Qh (QT (toD := pairD) (out := λ x => pairD x.swap) R rfl rfl λ x _ => ⟨[none, some (.int x.1, true), some (.int x.2, true)], rfl, ⟨pairD x.swap, true, []⟩, rfl, rfl, rfl⟩) ?_)
 have e1 : (R.map λ x => pairD x.swap) = (R.map Prod.swap).map pairD := by simp [Zad, Function.comp_def]
 rw [e1]
 exact QJ (QfM (QfM rfl rfl rfl rfl (by simpa using (by omega : R.length + R.length <= 16777216))) rfl (Qgt rfl rfl rfl) rfl (by simpa using hl)) ⟨rfl, rfl⟩
theorem Qy {n : Nat} {den : Den} {dfl : List D} {fs : DA} {ρ : En} {r : RA} {d : D} (h : fs ρ = some r) (hd : den (r.ds ++ dfl) = some (d, true)) (hl : r.ds.length + dfl.length = n) : Qw n den dfl fs ρ = some ⟨d, true, []⟩ := by
 unfold Qw
 rw [h, Za, if_pos hl, hd]
 simp
theorem Q7 {fa : DE} {ρ : En} {r : R} {xs : List D} (h : fa ρ = some r) (e : r.d = .lst xs) : Q2 fa ρ = some ⟨xs, r.M⟩ := by
 unfold Q2
 rw [h, Za, e]
noncomputable def stepT (m : Nat) (f : Nat -> Nat -> Int) (s : Int × Int) : Nat -> Nat -> Int :=
 let f1 := if s.1 < m then up2 f s.1.toNat s.1.toNat (f s.1.toNat s.1.toNat - 1) else f
 if s.1 < m /\ s.2 < m then up2 f1 s.1.toNat s.2.toNat (f1 s.1.toNat s.2.toNat + 1) else f1
noncomputable def Qu (m : Nat) (S : List (Int × Int)) : Nat -> Nat -> Int := S.foldl (stepT m) λ _ _ => 0
noncomputable def QdO (QcN : Den) : DS := (Qd (Qq 1 (QaE (Qf (Qa 0) (dC (.int 0))))) (Qd (Qq 2 (QK (QaJ (Qa 1)) (.nm 1) [none, none, some 1] QX (Qab (Qaw (Qb (dC (.int 0)) Qe)) (Qa 2)))) (Qd (Qbh (Q2 (Qw 2 QcN [] (Qb (Qf (Qa 0) (dC (.int 1))) (Qb (Qf (Qa 0) (dC (.int 2))) Qe)))) (.tp [3, 4]) (Qd (sIf (Qz (dOp gLt (Qa 3) (Qa 1))) (Qd (Qd4 Qb7 2 (Qca Q1 (Qa 3)) (Qa 3) (dC (.int 1))) Qk) Qk) (Qd (sIf (Qfd (Qz (dOp gLt (Qa 3) (Qa 1))) (Qz (dOp gLt (Qa 4) (Qa 1)))) (Qd (Qd4 (gI λ i j => some (.int (i + j))) 2 (Qca Q1 (Qa 3)) (Qa 4) (dC (.int 1))) Qk) Qk) Qk))) (Qd (QR (Qa 2)) Qk))))
theorem Qoc {QcN : Den} {m : Nat} {R L S : List (Int × Int)} (hm : m <= 16777216) (hs : QcN [QU R, QU L] = some (QU S, true)) (hS : ∀ s ∈ S, 0 <= s.1 /\ 0 <= s.2) : Qp 5 (QdO QcN) [QE m R L] = some (Qi m m (Qu m S), true) := by
 refine Q8 ?_
 refine run_seq (Qh (r := ⟨.int m, false, []⟩) rfl ?_)
 refine run_seq (Qh (QT (out := λ _ => Qc m λ _ => 0) (List.range m) (Qbd (n := m) (r := ⟨.int m, true, []⟩) rfl rfl hm) rfl λ x _ => ⟨[none, some (.int x, true), some (.int m, true)], rfl, _, QjP (r := ⟨.int m, true, []⟩) rfl rfl hm, rfl, rfl⟩) ?_)
 refine run_seq (QaH (toD := pairD) S (λ i ρ => ∃ j1 j2, ρ = [some (QE m R L, false), some (.int m, true), some (Qi m m (Qu m (S.take i)), true), j1, j2]) (ir := ⟨S.map pairD, []⟩) ?_ rfl ⟨none, none, rfl⟩ ?_ ?_)
 ·exact Q7 (Qy (r := ⟨[QU R, QU L], false, []⟩) (d := QU S) rfl hs rfl) rfl
 ·rintro i s ρ hi ⟨j1, j2, rfl⟩
  refine ⟨_, rfl, ?_⟩
  obtain ⟨s1, s2⟩ := hS s (ZG hi)
  refine run_seq (f := sIf _ _ _) (Run.mono (Q := Nx λ ρ => ρ = [some (QE m R L, false), some (.int m, true), some (Qi m m (if s.1 < m then up2 (Qu m (S.take i)) s.1.toNat s.1.toNat (Qu m (S.take i) s.1.toNat s.1.toNat - 1) else Qu m (S.take i)), true), some (.int s.1, true), some (.int s.2, true)]) ?_ ?_)
  ·refine QQ (b := decide (s.1 < m)) rfl (λ h => ?_) (λ h => ?_)
   ·have h := of_decide_eq_true h
    rw [if_pos h]
    exact run_seq (QjO (i := s.1) (j := s.1) rfl rfl rfl rfl rfl rfl s1 h s1 h rfl (Qm rfl))
   ·have h := of_decide_eq_false h
    rw [if_neg h]
    exact Qm rfl
  ·intro o ho
   cases o with
   | nx ρ =>
    subst ho
    have fin : Qu m (S.take (i + 1)) = stepT m (Qu m (S.take i)) s := by
     unfold Qu
     rw [List.take_add_one, hi, List.foldl_append]; rfl
    refine run_seq (f := sIf _ _ _) (Run.mono (Q := Nx λ ρ => ρ = [some (QE m R L, false), some (.int m, true), some (Qi m m (stepT m (Qu m (S.take i)) s), true), some (.int s.1, true), some (.int s.2, true)]) ?_ ?_)
    ·refine QQ (b := decide (s.1 < m /\ s.2 < m)) ?_ (λ h => ?_) (λ h => ?_)
     ·by_cases h : s.1 < (m : Int)
      ·simp [Qfd, Qz, dOp, Qa, gLt, gI, D.tru, h]
      ·simp [Qfd, Qz, dOp, Qa, gLt, gI, D.tru, h]
     ·have h := of_decide_eq_true h
      refine run_seq (QjO (i := s.1) (j := s.2) rfl rfl rfl rfl rfl rfl s1 h.1 s2 h.2 rfl (Qm ?_))
      unfold stepT
      rw [if_pos h]; rfl
     ·have h := of_decide_eq_false h
      refine Qm ?_
      unfold stepT
      rw [if_neg h]; rfl
    ·intro o ho
     cases o with
     | nx ρ =>
      subst ho
      exact Qm ⟨_, _, by rw [fin]⟩
     | _ => exact False.elim ho
   | _ => exact False.elim ho
 ·rintro ρ ⟨j1, j2, rfl⟩
  rw [ZbE]
  exact QJ rfl ⟨rfl, rfl⟩
noncomputable def hit (i j : Nat) (s : Int × Int) : Int := (if s.1 = i /\ s.2 = j then 1 else 0) - (if s.1 = i /\ i = j then 1 else 0)
theorem Qls {f : Nat -> Nat -> Int} {a b : Nat} {v : Int} {i j : Nat} : up2 f a b v i j = if i = a /\ j = b then v else f i j := by
 unfold up2 up
 by_cases h1 : i = a
 ·by_cases h2 : j = b
  ·simp [h1, h2]
  ·simp [h1, h2]
 ·simp [h1]
theorem Qnp {m : Nat} {f : Nat -> Nat -> Int} {s : Int × Int} {i j : Nat} (hi : i < m) (hj : j < m) (h1 : 0 <= s.1) (h2 : 0 <= s.2) : stepT m f s i j = f i j + hit i j s := by
 unfold stepT hit
 have e1 : (s.1 = (i : Int)) ↔ (i = s.1.toNat) := by omega
 have e2 : (s.2 = (j : Int)) ↔ (j = s.2.toNat) := by omega
 simp only [e1, e2]
 by_cases c1 : s.1 < (m : Int)
 ·by_cases c2 : s.2 < (m : Int)
  ·simp only [c1, c2, and_self, if_true, Qls]
   generalize s.1.toNat = a
   generalize s.2.toNat = b
   by_cases d1 : i = a
   ·subst d1
    by_cases d2 : j = b
    ·subst d2
     by_cases d3 : i = j
     ·subst d3; simp
     ·have d4 : ¬ j = i := λ z => d3 z.symm
      simp [d3, d4]
    ·by_cases d3 : i = j
     ·subst d3; simp [d2]; omega
     ·have d4 : ¬ j = i := λ z => d3 z.symm
      simp [d2, d3, d4]
   ·simp [d1]
  ·have d2 : ¬ (j = s.2.toNat) := by omega
   simp only [c1, c2, and_false, if_false, if_true, Qls, d2]
   generalize s.1.toNat = a
   by_cases d1 : i = a
   ·subst d1
    by_cases d3 : i = j
    ·subst d3; simp; omega
    ·have d4 : ¬ j = i := λ z => d3 z.symm
     simp [d3, d4]
   ·simp [d1]
 ·have d1 : ¬ (i = s.1.toNat) := by omega
  simp [c1, d1]
theorem Qiu {m : Nat} {i j : Nat} (hi : i < m) (hj : j < m) : ∀ (S : List (Int × Int)) (f : Nat -> Nat -> Int), (∀ s ∈ S, 0 <= s.1 /\ 0 <= s.2) -> S.foldl (stepT m) f i j = f i j + (S.map (hit i j)).sum
 | [], f, _ => by simp
 | s :: S, f, h => by
  obtain ⟨h1, h2⟩ := h s Zn
  rw [List.foldl_cons, Qiu hi hj S _ (λ t ht => h t (Ze _ ht)), Qnp hi hj h1 h2, ZA, Zam]
  omega
theorem QcE {m : Nat} {S : List (Int × Int)} {i j : Nat} (hi : i < m) (hj : j < m) (h : ∀ s ∈ S, 0 <= s.1 /\ 0 <= s.2) : Qu m S i j = (S.map (hit i j)).sum := by
 unfold Qu
 rw [Qiu hi hj S _ h]; simp
noncomputable def isI (i : Nat) (a : Int) : Int := if a = i then 1 else 0
noncomputable def QlM (R L : List (Int × Int)) (i : Nat) : Int := (R.map λ r => isI i r.1 + isI i r.2).sum + (L.map λ l => isI i l.1).sum
theorem sum_neg (S : List (Int × Int)) (i : Nat) (h : ∀ s ∈ S, s.1 ≠ s.2) : (S.map (hit i i)).sum = - (S.map λ s => isI i s.1).sum := by
 induction S with
 | nil => rfl
 | cons s S ih =>
  rw [ZA, Zam, ih λ t ht => h t (Ze _ ht), ZA, Zam]
  have hn := h s Zn
  unfold hit isI
  by_cases e : s.1 = (i : Int)
  ·have : ¬ (s.2 = (i : Int)) := λ z => hn (e.trans z.symm)
   simp [e, this]; omega
  ·simp [e]
noncomputable def Qs (R L : List (Int × Int)) : List (Int × Int) := R ++ R.map Prod.swap ++ L
theorem Qm3 (R L : List (Int × Int)) (i : Nat) : ((Qs R L).map λ s => isI i s.1).sum = QlM R L i := by
 unfold Qs QlM
 rw [Zax, Zax, Zbo, Zbo]
 have : (R.map λ r => isI i r.1 + isI i r.2).sum = (R.map λ s => isI i s.1).sum + ((R.map Prod.swap).map λ s => isI i s.1).sum := by
  induction R with
  | nil => rfl
  | cons r R ih => simp only [ZA, Zam, ih, Prod.fst_swap]; omega
 omega
def Good (m : Nat) (s : Int × Int) : Prop := 0 <= s.1 /\ 0 <= s.2 /\ s.1 <= m /\ s.2 <= m /\ s.1 ≠ s.2
theorem QcW {m : Nat} {R L : List (Int × Int)} (hR : ∀ s ∈ R, Good m s) (hL : ∀ s ∈ L, Good m s) : ∀ s ∈ Qs R L, Good m s := λ s hs => by
 unfold Qs at hs
 rcases Zy.mp hs with hs | hs
 ·rcases Zy.mp hs with hs | hs
  ·exact hR s hs
  ·obtain ⟨t, ht, rfl⟩ := ZQ.mp hs
   obtain ⟨h1, h2, h3, h4, h5⟩ := hR t ht
   exact ⟨h2, h1, h4, h3, λ z => h5 z.symm⟩
 ·exact hL s hs
def Qjy (d : Den) : Prop := ∀ (m : Nat) (R L : List (Int × Int)), m <= 1000 -> R.length + R.length + L.length <= 1000000 -> (∀ s ∈ R, Good m s) -> (∀ s ∈ L, Good m s) -> d [QE m R L] = some (Qi m m (Qu m (Qs R L)), true)
theorem QqE : Qjy (Qp 5 (QdO (Qp 4 QhU))) := λ m R L hm hl hR hL => by
 refine Qoc (by omega) (QmW (by omega)) λ s hs => ?_
 obtain ⟨h1, h2, _⟩ := QcW hR hL s hs
 exact ⟨h1, h2⟩
theorem QlX {α : Type} (m : Nat) (f : Nat -> D) : Qdz ((List.range m).map f) = (List.range m).map λ i => .tup [.int i, f i] := by
 apply ZaK
 intro k
 unfold Qdz
 simp only [Zm, List.getElem?_zipIdx, Nat.zero_add]
 by_cases hk : k < m
 ·rw [ZF hk]; rfl
 ·rw [Zr (by simp; omega)]; rfl
theorem Qlf (a b : Int) : deq (.int a) (.int b) = decide (a = b) := by
 show PyData.eqv (.int a) (.int b) = _
 unfold PyData.eqv
 exact Bool.beq_eq_decide_eq a b
theorem Qav {fa fb : DE} {ρ : En} {ra rb : R} {a b : Int} (ha : fa ρ = some ra) (ea : ra.d = .int a) (hb : fb ρ = some rb) (eb : rb.d = .int b) : dOp gEq fa fb ρ = some ⟨.bl (decide (a = b)), true, []⟩ := by
 refine Qa1 ha hb ?_
 rw [ea, eb]
 show some (D.bl (deq (.int a) (.int b))) = _
 rw [Qlf]
theorem Qcg {fa fb : DE} {ρ : En} {ra rb : R} {a b : Int} (ha : fa ρ = some ra) (ea : ra.d = .int a) (hb : fb ρ = some rb) (eb : rb.d = .int b) : dOp gNe fa fb ρ = some ⟨.bl (!decide (a = b)), true, []⟩ := by
 refine Qa1 ha hb ?_
 rw [ea, eb]
 show some (D.bl (!deq (.int a) (.int b))) = _
 rw [Qlf]
theorem Qpl {fa fb : DE} {ρ : En} {a b : Bool} (ha : fa ρ = some ⟨.bl a, true, []⟩) (hb : fb ρ = some ⟨.bl b, true, []⟩) : dOr fa fb ρ = some ⟨.bl (a || b), true, []⟩ := by
 unfold dOr
 rw [ha]
 cases a <;> simp [D.tru, hb]
theorem Qfy {fa fb : DE} {ρ : En} {a b : Bool} (ha : fa ρ = some ⟨.bl a, true, []⟩) (hb : fb ρ = some ⟨.bl b, true, []⟩) : Qem fa fb ρ = some ⟨.bl (a && b), true, []⟩ := by
 unfold Qem
 rw [ha]
 cases a <;> simp [D.tru, hb]
theorem Qv {fa : DE} {ρ : En} {r : R} {b : Bool} (ha : fa ρ = some r) (e : r.d = .bl b) : Qz fa ρ = some b := by
 unfold Qz
 rw [ha, Za, e]; rfl
theorem Qa7 {g : DT} {ρ : En} {b : Bool} (h : g ρ = some b) : Qb5 g ρ = some (!b) := by unfold Qb5; rw [h]; rfl
theorem Qa6 {g1 g2 : DT} {ρ : En} {a b : Bool} (ha : g1 ρ = some a) (hb : g2 ρ = some b) : bOr g1 g2 ρ = some (a || b) := by
 unfold bOr; rw [ha]; cases a <;> simp [hb]
theorem Qqu {g1 g2 : DT} {ρ : En} {a b : Bool} (ha : g1 ρ = some a) (hb : g2 ρ = some b) : Qfd g1 g2 ρ = some (a && b) := by
 unfold Qfd; rw [ha]; cases a <;> simp [hb]
theorem Qac {fa fb : DE} {ρ : En} {ra rb : R} {a b : Int} (ha : fa ρ = some ra) (ea : ra.d = .int a) (hb : fb ρ = some rb) (eb : rb.d = .int b) (h : QcC a b = true) : Qab fa fb ρ = some ⟨.int (a * b), true, []⟩ := by
 unfold Qab
 rw [ha, Za, hb, Za, ea, eb]
 simp [h]
theorem Q0 {fa fb : DE} {ρ : En} {ra rb : R} {a b : Int} (ha : fa ρ = some ra) (ea : ra.d = .int a) (hb : fb ρ = some rb) (eb : rb.d = .int b) : QL fa fb ρ = some ⟨.int (a + b), true, []⟩ := by
 unfold QL
 rw [ha, Za, hb, Za, ea, eb]
theorem Qao {fa fb : DE} {ρ : En} {ra rb : R} {a b : Int} (ha : fa ρ = some ra) (ea : ra.d = .int a) (hb : fb ρ = some rb) (eb : rb.d = .int b) (h : 0 < b) : dOp Qan fa fb ρ = some ⟨.int (a % b), true, []⟩ := by
 refine Qa1 ha hb ?_
 rw [ea, eb]
 show (if b ≠ 0 then some (D.int (Qbs a b)) else none) = _
 rw [if_pos (by omega), Qi6 _ _ (by omega)]
theorem Qm0 {fa fb : DE} {ρ : En} {ra rb : R} {a b : Int} (ha : fa ρ = some ra) (ea : ra.d = .int a) (hb : fb ρ = some rb) (eb : rb.d = .int b) (h : 0 < b) (h2 : b < 2 ^ 64) : dOp Qe4 fa fb ρ = some ⟨.int (a / b), true, []⟩ := by
 refine Qa1 ha hb ?_
 rw [ea, eb]
 have : QbI b = true := by
  unfold QbI
  have h3 : b.natAbs < 2 ^ 8000 := Zq (by omega : b.natAbs < 2 ^ 64) (ZaB (by decide) (by decide))
  simp only [Zf, decide_eq_true_eq]
  exact ⟨by omega, h3⟩
 show (if QbI b = true then some (D.int (QcJ a b)) else none) = _
 rw [if_pos this, Qje _ _ (by omega)]
theorem Qdf {fa : DE} {ρ : En} {r : R} (h : fa ρ = some r) : QaE fa ρ = some ⟨r.d, false, r.M⟩ := by unfold QaE; rw [h]; rfl
theorem Qga {fa fb : DE} {ρ : En} {ra rb : R} {m : Nat} {f : Nat -> Int} {i : Int} (ha : fa ρ = some ra) (ea : ra.d = Qc m f) (hb : fb ρ = some rb) (eb : rb.d = .int i) (h0 : 0 <= i) (h : i < m) : Qf fa fb ρ = some ⟨.int (f i.toNat), true, []⟩ := by
 unfold Qf
 rw [ha, Za, hb, Za, ea, eb]
 simp only [Qc, D.items, Za, Qqn h0 h, ZX]
 rfl
theorem Qcv {fa fb : DE} {ρ : En} {ra rb : R} {ns : List Int} {i : Int} {v : Int} (ha : fa ρ = some ra) (ea : ra.d = .lst (ns.map .int)) (hb : fb ρ = some rb) (eb : rb.d = .int i) (h0 : 0 <= i) (h : ns[i.toNat]? = some v) : Qf fa fb ρ = some ⟨.int v, true, []⟩ := by
 have hl : i < ns.length := by have := (Zd.mp h).1; omega
 unfold Qf
 rw [ha, Za, hb, Za, ea, eb]
 simp only [D.items, Za]
 rw [QfU h0 (by simpa using hl), Zm, h]
 rfl
theorem Qmo {m n : Nat} {f : Nat -> Int} (h : n <= m) : cutD ((List.range m).map λ i => D.int (f i)) none (some (n : Int)) = (List.range n).map λ i => D.int (f i) := by
 unfold cutD
 simp only [Zj, Zx, HT.Qdd, HT.Qc7, ZaX, Zbp, Zaj h]
 rw [← ZaH, List.take_range, Zaj h]
theorem Qk2 {fa fb : DE} {ρ : En} {ra rb : R} {m n : Nat} {f : Nat -> Int} (ha : fa ρ = some ra) (ea : ra.d = Qc m f) (hb : fb ρ = some rb) (eb : rb.d = .int n) (h : n <= m) : Qar fa Qat (QY fb) ρ = some ⟨Qc n f, true, []⟩ := by
 unfold Qar Qat QY
 rw [ha, Za, hb, ea]
 simp only [Za, eb, Qc, Qmo h, Qal, QmF, if_true]
theorem Qpb {n : Nat} {den : Den} {dfl : List D} {fs : DA} {ρ : En} {r : RA} {d : D} {fr : Bool} (h : fs ρ = some r) (hd : den (r.ds ++ dfl) = some (d, fr)) (hl : r.ds.length + dfl.length = n) : Qw n den dfl fs ρ = some (if fr = true then ⟨d, true, []⟩ else HS.R.norm ⟨d, false, r.M⟩) := by
 unfold Qw
 rw [h, Za, if_pos hl, hd]
 rfl
theorem QmA {i : Nat} {d : D} {fr : Bool} {ρ : En} (h : d.flat = false) : asg i (if fr = true then ⟨d, true, []⟩ else HS.R.norm ⟨d, false, []⟩) ρ = ρ.set i (some (d, fr)) := by
 cases fr
 ·simp [HS.R.norm, h, asg, QaL]
 ·simp
noncomputable def QfC : DS := (Qd (QR (Qem (Qfw "int" (Qa 0)) (Qor (Qfw "bool" (Qa 0))))) Qk)
def Qf2 (d : Den) : Prop := ∀ i : Int, d [.int i] = some (.bl true, true)
theorem Qof : Qf2 (Qp 1 QfC) := λ i => rfl
noncomputable def QoB (t k : Int) : Int := (t + 17) * (k * k + 7 * k + 11) * 69621 % 2147483647
noncomputable def QtQ (m t k : Int) : Int := if QoB t k % (k + 1) < k then (QoB t k % (k + 1) + t) % m else m
noncomputable def Quf (m t kind : Int) (k : Int) : Int × Int × Bool := ((k + t) % m, QtQ m t k, decide (kind = 2) || (decide (kind = 3) && decide (QoB t k / 64 % 2 = 1)))
noncomputable def Qs8 (m : Nat) (t kind : Int) : List (Int × Int × Bool) := (List.range m).map λ (k : Nat) => Quf m t kind k
def GoodW (m : Nat) (w : Int × Int × Bool) : Prop := Good m (w.1, w.2.1) /\ (w.2.2 = true -> w.1 < m)
noncomputable def QO (W : List (Int × Int × Bool)) : D := .lst (W.map Qcc)
@[simp] theorem Qtp (W : List (Int × Int × Bool)) : (QO W).flat = false := rfl
theorem QrJ {a x n : Int} (h1 : 0 < x) (h2 : x < n) : (a + x) % n ≠ a % n := λ h => by
 have h3 : (a + x - a) % n = 0 := Int.emod_eq_emod_iff_emod_sub_eq_zero.mp h
 rw [show a + x - a = x by omega, Int.emod_eq_of_lt (by omega) h2] at h3
 omega
theorem Qp5 {x : Nat} {fa : DE} {ρ : En} {r : R} {xs : List D} {Q : Out -> Prop} (hx : ρ[x]? = some (some (.lst xs, true))) (ha : fa ρ = some r) (hf : r.d.flat = true) (hl : xs.length < 16777216) (q : Q (.nx (ρ.set x (some (.lst (xs ++ [r.d]), true))))) : Run (Qdo x Q1 fa) ρ Q := by
 refine ⟨_, ?_, q⟩
 have hn : r.norm = ⟨r.d, true, []⟩ := by unfold HS.R.norm; rw [if_pos hf]
 unfold Qdo
 rw [hx]
 simp only [Q1, Za, ha, QaC, Qhi, hn, Qah, kill, Qd5]
 simp [hl]
theorem Qla {x y m : Nat} {f : Nat -> Int} {ρ : En} {i : Int} {b : Bool} {Q : Out -> Prop} (hx : ρ[x]? = some (some (Qc m f, true))) (hy : ρ[y]? = some (some (.int i, b))) (h0 : 0 <= i) (h : i < m)
  (q : Q (.nx (ρ.set x (some (Qc m (up f i.toNat (f i.toNat + 1)), true))))) : Run (QaV x Q1 (Qa y) (QL (Qf (Qa x) (Qa y)) (dC (.int 1)))) ρ Q := by
 have e1 : Qa y ρ = some ⟨.int i, true, []⟩ := Qj1 hy
 have e2 := Qam hx
 exact QjC hx e1 rfl (Q0 (Qga e2 (by simp) e1 rfl h0 h) rfl (Qaq (.int 1) _) rfl) rfl h0 h q
theorem Run.nx {f : DS} {ρ : En} {Q Q' : En -> Prop} (h : Run f ρ (Nx Q)) (m : ∀ ρ, Q ρ -> Q' ρ) : Run f ρ (Nx Q') := h.mono λ o ho => by
 cases o with
 | nx ρ => exact m ρ ho
 | _ => exact ho.elim
theorem Qaa {f g : DS} {ρ : En} {P : En -> Prop} {Q : Out -> Prop} (h : Run f ρ (Nx P)) (k : ∀ ρ', P ρ' -> Run g ρ' Q) : Run (Qd f g) ρ Q := run_seq (h.nx k)
theorem Qh0 {fa fb : DE} {ρ : En} {ra rb : R} {A B : List (Int × Int × Bool)} (ha : fa ρ = some ra) (ea : ra.d = QO A) (hb : fb ρ = some rb) (eb : rb.d = QO B) (hl : A.length + B.length <= 16777216) : QL fa fb ρ = some ⟨QO (A ++ B), true, []⟩ := by
 unfold QL
 rw [ha, Za, hb, Za, ea, eb]
 simp only [QO, Zj, Qd5, if_pos hl, Qal]
 simp
noncomputable def QcZ (w : Int × Int × Bool) : Int × Int := (if w.2.1 < w.1 then w.2.1 else w.1, if w.2.1 > w.1 then w.2.1 else w.1)
noncomputable def Qkc (w : Int × Int × Bool) : Int × Int := (w.1, w.2.1)
noncomputable def Qbg (W : List (Int × Int × Bool)) : List (Int × Int) := (W.filter λ w => !w.2.2).map QcZ
noncomputable def QbX (W : List (Int × Int × Bool)) : List (Int × Int) := (W.filter λ w => w.2.2).map Qkc
theorem QeP {m : Nat} {W : List (Int × Int × Bool)} (h : ∀ w ∈ W, GoodW m w) : ∀ s ∈ Qbg W, Good m s /\ s.1 < s.2 := λ s hs => by
 obtain ⟨w, hw, rfl⟩ := ZQ.mp hs
 obtain ⟨⟨h1, h2, h3, h4, h5⟩, _⟩ := h w (Zai.mp hw).1
 simp only at h1 h2 h3 h4 h5
 unfold QcZ Good
 simp only
 split <;> split <;> omega
theorem QeX {m : Nat} {W : List (Int × Int × Bool)} (h : ∀ w ∈ W, GoodW m w) : ∀ s ∈ QbX W, Good m s /\ s.1 < m := λ s hs => by
 obtain ⟨w, hw, rfl⟩ := ZQ.mp hs
 obtain ⟨h1, h2⟩ := h w (Zai.mp hw).1
 exact ⟨h1, h2 (by simpa using (Zai.mp hw).2)⟩
theorem Qim (W : List (Int × Int × Bool)) : (Qbg W).length <= W.length := by unfold Qbg; rw [Zj]; exact List.length_filter_le _ _
theorem Qiq (W : List (Int × Int × Bool)) : (QbX W).length <= W.length := by unfold QbX; rw [Zj]; exact List.length_filter_le _ _
structure QrR (m : Nat) (t kind : Int) (R L : List (Int × Int)) : Prop where
 ex : ∃ W, (∀ w ∈ Qs8 m t kind, w ∈ W) /\ (∀ w ∈ W, GoodW m w) /\ W.length <= 100 /\ R = Qbg W /\ L = QbX W
theorem QrR.good {m : Nat} {t kind : Int} {R L : List (Int × Int)} (h : QrR m t kind R L) : (∀ s ∈ R, Good m s) /\ (∀ s ∈ L, Good m s) /\ R.length <= 100 /\ L.length <= 100 := by
 obtain ⟨W, _, h2, h3, rfl, rfl⟩ := h.ex
 exact ⟨λ s hs => (QeP h2 s hs).1, λ s hs => (QeX h2 s hs).1, Zu (Qim W) h3, Zu (Qiq W) h3⟩
theorem Qog {fa : DE} {ρ : En} {r : R} {W : List (Int × Int × Bool)} (h : fa ρ = some r) (e : r.d = QO W) : QK (Q2 fa) (.tp [1, 2, 3]) [none, none, none, none] (Qb5 (Qz (Qa 3))) (QaK (Qb (dBf Qhq (Qb (Qa 1) (Qb (Qa 2) Qe))) (Qb (dBf Qg1 (Qb (Qa 1) (Qb (Qa 2) Qe))) Qe))) ρ = some ⟨QU (Qbg W), true, []⟩ := by
 rw [QdE (toD := Qcc) (keep := λ w => !w.2.2) (out := λ w => pairD (QcZ w)) W (Q7 h e) rfl λ w _ => ⟨[none, some (.int w.1, true), some (.int w.2.1, true), some (.bl w.2.2, true)], rfl, Qa7 (Qv (b := w.2.2) rfl rfl), λ _ => ⟨⟨pairD (QcZ w), true, []⟩, rfl, rfl, rfl⟩⟩]
 unfold QU Qbg
 rw [Zad]; rfl
theorem Qo1 {fa : DE} {ρ : En} {r : R} {W : List (Int × Int × Bool)} (h : fa ρ = some r) (e : r.d = QO W) : QK (Q2 fa) (.tp [1, 2, 3]) [none, none, none, none] (Qz (Qa 3)) (QaK (Qb (Qa 1) (Qb (Qa 2) Qe))) ρ = some ⟨QU (QbX W), true, []⟩ := by
 rw [QdE (toD := Qcc) (keep := λ w => w.2.2) (out := λ w => pairD (Qkc w)) W (Q7 h e) rfl λ w _ => ⟨[none, some (.int w.1, true), some (.int w.2.1, true), some (.bl w.2.2, true)], rfl, Qv (b := w.2.2) rfl rfl, λ _ => ⟨⟨pairD (Qkc w), true, []⟩, rfl, rfl, rfl⟩⟩]
 unfold QU QbX
 rw [Zad]; rfl
theorem Qdi {f : Nat -> Int} {i k : Nat} {v : Int} : up f i v k = if k = i then v else f k := rfl
theorem Qco {fa : DE} {ρ : En} {r : R} {m : Int} {R L : List (Int × Int)} (h : fa ρ = some r) (e : r.d = QE m R L) :
  Qf fa (dC (.int 0)) ρ = some ⟨.int m, true, []⟩ /\ Qf fa (dC (.int 1)) ρ = some ⟨QU R, r.fr, r.M⟩ /\ Qf fa (dC (.int 2)) ρ = some ⟨QU L, r.fr, r.M⟩ := by
 unfold Qf
 rw [h]
 simp only [Za, e, Qaq]
 exact ⟨rfl, rfl, rfl⟩
theorem Qdk {fa : DE} {ρ : En} {r : R} {xs : List D} (h : fa ρ = some r) (e : r.d = .lst xs) : dBf Qae (Qb fa Qe) ρ = some ⟨.int xs.length, true, []⟩ := by
 unfold dBf
 rw [Qg h (QS _), Za]
 simp [e, Qae]
theorem Qix (n : Nat) (ps : List (Int × Int)) : (QU ps).sim (n + 2) = true := by
 unfold QU
 simp only [D.sim, List.all_map, Zar]
 intro p _
 cases n <;> rfl
theorem QeI {fa fb : DE} {ρ : En} {ra rb : R} {d : D} (ha : fa ρ = some ra) (ea : ra.d = d) (hb : fb ρ = some rb) (eb : rb.d = d) (hs : d.sim 8 = true) : dOp gNe fa fb ρ = some ⟨.bl false, true, []⟩ := by
 refine Qa1 ha hb ?_
 rw [ea, eb]
 unfold gNe
 rw [hs, QjK hs]; rfl
theorem Qsh {fa fb : DE} {ρ : En} {ra rb : R} (ha : fa ρ = some ra) (hb : fb ρ = some rb) (h1 : ra.d.sim 8 = true) (h2 : rb.d.sim 8 = true) : dOp gEq fa fb ρ = some ⟨.bl (deq ra.d rb.d), true, []⟩ := by
 refine Qa1 ha hb ?_
 unfold gEq
 rw [h1, h2]; rfl
theorem Qna {b : Int} (h : 0 < b) (h2 : b < 2 ^ 200) : QbI b = true := by
 unfold QbI
 have h3 : b.natAbs < 2 ^ 8000 := Zq (by omega : b.natAbs < 2 ^ 200) (ZaB (by decide) (by decide))
 simp only [Zf, decide_eq_true_eq]
 exact ⟨by omega, h3⟩
theorem QfA {i j : Nat} {fa fb : DE} {ρ : En} {ra rb : R} {a b : Int} {Q : Out -> Prop} (ha : fa ρ = some ra) (ea : ra.d = .int a) (hb : fb ρ = some rb) (eb : rb.d = .int b) (h : 0 < b) (h2 : b < 2 ^ 200)
  (q : Q (.nx ((ρ.set i (some (.int (a / b), true))).set j (some (.int (a % b), true))))) : Run (Qdg (.tp [i, j]) (dDm (Qb fa (Qb fb Qe)))) ρ Q := by
 have e : dDm (Qb fa (Qb fb Qe)) ρ = some ⟨.tup [.int (a / b), .int (a % b)], true, []⟩ := by
  unfold dDm
  rw [Qg ha (Qg hb (QS _)), Za]
  simp only [ea, eb]
  rw [if_pos (Qna h h2), Qje _ _ (by omega), Qi6 _ _ (by omega)]
 refine ⟨_, ?_, q⟩
 unfold Qdg
 rw [e]
 rfl
theorem QtT (xs : List D) : deq (.lst xs) (.lst []) = xs.isEmpty := by cases xs <;> rfl
theorem Qt2 (n : Nat) (ns : List Int) : (Qj ns).sim (n + 1) = true := by
 unfold Qj
 simp only [D.sim, List.all_map, Zar]
 intro p _
 cases n <;> rfl
theorem Qju {fa : DE} {ρ : En} {r : R} {ns : List Int} (ha : fa ρ = some r) (e : r.d = .lst (ns.map .int)) : Qz (dOp gNe fa (Qaw Qe)) ρ = some (!ns.isEmpty) := by
 refine Qv (Qa1 ha (rb := ⟨.lst [], true, []⟩) rfl (d := .bl (!ns.isEmpty)) ?_) rfl
 rw [e]
 unfold gNe
 have : (D.lst (ns.map .int)).sim 8 = true := Qt2 7 ns
 rw [this]
 show some (D.bl (!deq (.lst (ns.map .int)) (.lst []))) = _
 rw [QtT]; simp
theorem Qmy {fa fb : DE} {ρ : En} {ra rb : R} {a b : Int} (ha : fa ρ = some ra) (ea : ra.d = .int a) (hb : fb ρ = some rb) (eb : rb.d = .int b) (h : 0 <= b /\ b <= 1000 /\ a.natAbs < 2 ^ 200) : dOp Qdu fa fb ρ = some ⟨.int (a ^ b.toNat), true, []⟩ := by
 refine Qa1 ha hb ?_
 rw [ea, eb]
 show (if 0 <= b /\ b <= 1000 /\ a.natAbs < 2 ^ 200 then some (D.int (a ^ b.toNat)) else none) = _
 rw [if_pos h]
theorem QjT {x : Nat} {fa : DE} {ρ : En} {r : R} {A : List Int} {n : Int} {Q : Out -> Prop} (hx : ρ[x]? = some (some (Qj A, true))) (ha : fa ρ = some r) (hf : r.d = .int n) (hl : A.length < 16777216) (q : Q (.nx (ρ.set x (some (Qj (A ++ [n]), true))))) : Run (Qdo x Q1 fa) ρ Q := by
 refine Qp5 (xs := A.map .int) hx ha (by rw [hf]; rfl) (by simpa using hl) ?_
 rw [hf]
 unfold Qj at q
 rw [Zax] at q
 exact q
noncomputable abbrev B40 : Int := 10000000000000000000000000000000000000000
noncomputable def QdQ : DS := (Qd (Qq 2 (dOp Qdu (dC (.int 10)) (dC (.int 40)))) (Qd (Qq 3 (dC (.int 0))) (Qd (sIf (Qz (dOp gNe (Qa 0) (Qaw Qe))) (Qd (Qq 3 (QaE (Qf (Qa 0) (dC (.int 0))))) Qk) Qk) (Qd (Qq 4 (Qaw Qe)) (Qd (Qbh (QaJ (Qa 1)) (.nm 5) (Qd (Qdg (.tp [3, 6]) (dDm (Qb (Qa 3) (Qb (Qa 2) Qe)))) (Qd (Qdo 4 Q1 (Qa 6)) Qk))) (Qd (sIf (Qz (dOp gGt (Qa 3) (dC (.int 0)))) (Qd (QR (Qa 4)) Qk) Qk) (Qd (Qq 7 (Qaw Qe)) (Qd (Qbh (QaJ (Qa 1)) (.nm 5) (Qd (Qq 8 (dC (.int 7919))) (Qd (sIf (Qz (dOp gNe (Qa 0) (Qaw Qe))) (Qd (Qq 8 (QaE (Qf (Qa 0) (dOp Qan (Qa 5) (dBf Qae (Qb (Qa 0) Qe)))))) Qk) Qk) (Qd (Qq 8 (dOp Qan (Qab (QL (QL (QL (Qa 8) (Qab (Qab (Qa 5) (Qa 5)) (dC (.int 7919)))) (Qab (Qa 5) (dC (.int 104729)))) (dC (.int 31))) (dC (.int 48271))) (dC (.int 2147483647)))) (Qd (Qq 8 (dOp Qan (Qab (dOp Qan (Qab (Qa 8) (Qa 8)) (dC (.int 2147483629))) (QL (Qab (dC (.int 2)) (Qa 5)) (dC (.int 69621)))) (dC (.int 2147483587)))) (Qd (Qdo 7 Q1 (dOp Qan (Qab (Qa 8) (dOp Qdu (dC (.int 618970019642690137449562111)) (dC (.int 2)))) (Qa 2))) Qk)))))) (Qd (QR (Qa 7)) Qk)))))))))
def CellsOk (d : Den) : Prop := ∀ (ns : List Int) (n : Nat), ns.length <= 63 -> n <= 200 -> ∃ cs : List Int, d [.lst (ns.map .int), .int n] = some (Qj cs, true) /\ cs.length = n /\ ∀ c ∈ cs, 0 <= c /\ c < B40
theorem QnI : CellsOk (Qp 9 QdQ) := λ ns n hl hn => by
 have key : Run QdQ (QaI 9 [.lst (ns.map .int), .int n]) (Rt λ d fr => ∃ cs : List Int, d = Qj cs /\ fr = true /\ cs.length = n /\ ∀ c ∈ cs, 0 <= c /\ c < B40) := by
  refine run_seq (Qh (r := ⟨.int B40, true, []⟩) ?_ ?_)
  ·exact Qmy (a := 10) (b := 40) rfl rfl rfl rfl (by decide)
  rw [Qo]
  refine run_seq (Qh (r := ⟨.int 0, true, []⟩) rfl ?_)
  rw [Qo]
  refine Qaa (P := λ ρ => ∃ z : Int, ρ = [some (.lst (ns.map .int), false), some (.int n, true), some (.int B40, true), some (.int z, true), none, none, none, none, none]) ?_ ?_
  ·refine QQ (Qju (ns := ns) (r := ⟨.lst (ns.map .int), false, []⟩) rfl rfl) (λ h => ?_) (λ _ => Qm ⟨0, rfl⟩)
   cases ns with
   | nil => cases h
   | cons a r => exact run_seq (Qh (r := ⟨.int a, false, []⟩) (Qdf (Qcv (ns := a :: r) (i := 0) rfl rfl rfl rfl (by decide) rfl)) (Qm ⟨a, by rw [Qck rfl]; rfl⟩))
  rintro ρ ⟨z, rfl⟩
  refine run_seq (Qh (r := ⟨Qj [], true, []⟩) rfl ?_)
  rw [Qo]
  refine Qaa (P := λ ρ => ∃ (z : Int) (cs : List Int) (j5 j6 : Option (D × Bool)), cs.length = n /\ (∀ c ∈ cs, 0 <= c /\ c < B40) /\ ρ = [some (.lst (ns.map .int), false), some (.int n, true), some (.int B40, true), some (.int z, true), some (Qj cs, true), j5, j6, none, none]) ?_ ?_
  ·refine QaH (List.range n) (λ i ρ => ∃ (z : Int) (cs : List Int) (j5 j6 : Option (D × Bool)), cs.length = i /\ (∀ c ∈ cs, 0 <= c /\ c < B40) /\ ρ = [some (.lst (ns.map .int), false), some (.int n, true), some (.int B40, true), some (.int z, true), some (Qj cs, true), j5, j6, none, none]) (Qbd (n := n) (r := ⟨.int n, true, []⟩) rfl rfl (by omega)) rfl ⟨z, [], none, none, rfl, by simp, rfl⟩ ?_ ?_
   ·rintro i k ρ hi ⟨z, cs, j5, j6, h1, h2, rfl⟩
    have hin : i < n := by have := (Zd.mp hi).1; simpa using this
    refine ⟨_, rfl, ?_⟩
    refine run_seq (QfA (a := z) (b := B40) rfl rfl rfl rfl (by decide) (by decide) ?_)
    refine run_seq (QjT (A := cs) (n := z % B40) rfl rfl rfl (by omega) (Qm ⟨z / B40, cs ++ [z % B40], _, _, by simp [h1], λ c hc => ?_, rfl⟩))
    rcases Zy.mp hc with hc | hc
    ·exact h2 c hc
    ·rw [Zv.mp hc]; exact ⟨ZH _ (by decide), ZC _ (by decide)⟩
   ·rintro ρ ⟨z, cs, j5, j6, h1, h2, rfl⟩
    exact ⟨z, cs, j5, j6, by simpa using h1, h2, rfl⟩
  rintro ρ ⟨z, cs, j5, j6, h1, h2, rfl⟩
  refine QG (QQ (b := decide (0 < z)) (Qv (b := decide (0 < z)) rfl rfl) (λ _ => QJ (Q := λ d fr => ∃ cs : List Int, d = Qj cs /\ fr = true /\ cs.length = n /\ ∀ c ∈ cs, 0 <= c /\ c < B40) (r := ⟨Qj cs, true, [4]⟩) rfl ⟨cs, rfl, rfl, h1, h2⟩ |> λ h => h.mono λ o ho => by cases o <;> first | exact ho | exact ho.elim) (λ _ => Qm ?_))
  refine run_seq (Qh (r := ⟨Qj [], true, []⟩) rfl ?_)
  rw [Qo]
  refine Qaa (P := λ ρ => ∃ (cs' : List Int) (j5 j8 : Option (D × Bool)), cs'.length = n /\ (∀ c ∈ cs', 0 <= c /\ c < B40) /\ ρ = [some (.lst (ns.map .int), false), some (.int n, true), some (.int B40, true), some (.int z, true), some (Qj cs, true), j5, j6, some (Qj cs', true), j8]) ?_ ?_
  ·refine QaH (List.range n) (λ i ρ => ∃ (cs' : List Int) (j5 j8 : Option (D × Bool)), cs'.length = i /\ (∀ c ∈ cs', 0 <= c /\ c < B40) /\ ρ = [some (.lst (ns.map .int), false), some (.int n, true), some (.int B40, true), some (.int z, true), some (Qj cs, true), j5, j6, some (Qj cs', true), j8]) (Qbd (n := n) (r := ⟨.int n, true, []⟩) rfl rfl (by omega)) rfl ⟨[], _, none, rfl, by simp, rfl⟩ ?_ ?_
   ·rintro i k ρ hi ⟨cs', j5, j8, h3, h4, rfl⟩
    have hin : i < n := by have := (Zd.mp hi).1; simpa using this
    have hk : k < n := by have := ZG hi; simpa using this
    refine ⟨_, rfl, ?_⟩
    refine run_seq (Qh (r := ⟨.int 7919, true, []⟩) rfl ?_)
    rw [Qo]
    refine Qaa (P := λ ρ => ∃ y : Int, ρ = [some (.lst (ns.map .int), false), some (.int n, true), some (.int B40, true), some (.int z, true), some (Qj cs, true), some (.int k, true), j6, some (Qj cs', true), some (.int y, true)]) ?_ ?_
    ·refine QQ (Qju (ns := ns) (r := ⟨.lst (ns.map .int), false, []⟩) rfl rfl) (λ h => ?_) (λ _ => Qm ⟨7919, rfl⟩)
     have hne : 0 < ns.length := by cases ns with
      | nil => cases h
      | cons a r => simp
     have m1 := ZH (k : Int) (by omega : (ns.length : Int) ≠ 0)
     have m2 := ZC (k : Int) (by omega : (0 : Int) < ns.length)
     have hg : ns[((k : Int) % ns.length).toNat]? = some (ns[((k : Int) % ns.length).toNat]'(by omega)) := ZM _
     have elen : dBf Qae (Qb (Qa 0) Qe) [some (.lst (ns.map .int), false), some (.int n, true), some (.int B40, true), some (.int z, true), some (Qj cs, true), some (.int k, true), j6, some (Qj cs', true), some (.int 7919, true)] = some ⟨.int ns.length, true, []⟩ := by
      rw [Qdk (r := ⟨.lst (ns.map .int), false, []⟩) (xs := ns.map D.int) rfl rfl, Zj]
     exact run_seq (Qh (Qdf (Qcv (ns := ns) (i := (k : Int) % ns.length) rfl rfl (Qao (a := (k : Int)) (b := ns.length) rfl rfl elen rfl (by omega)) rfl m1 hg)) (Qm ⟨_, by rw [Qck rfl]; rfl⟩))
    rintro ρ ⟨y, rfl⟩
    refine run_seq (Qh (Qao (b := 2147483647) (Qac (b := 48271) (Q0 (b := 31) (Q0 (Q0 (a := y) rfl rfl (Qac (b := 7919) (Qac (a := (k : Int)) (b := k) rfl rfl rfl rfl (QbV (by omega))) rfl rfl rfl (Qdc (by decide))) rfl) rfl (Qac (a := (k : Int)) (b := 104729) rfl rfl rfl rfl (Qdc (by decide))) rfl) rfl rfl rfl) rfl rfl rfl (Qdc (by decide))) rfl rfl rfl (by decide)) ?_)
    rw [Qo]
    generalize ew : (y + (k : Int) * k * 7919 + (k : Int) * 104729 + 31) * 48271 % 2147483647 = w
    have w1 : 0 <= w := by rw [← ew]; exact ZH _ (by decide)
    have w2 : w < 2147483647 := by rw [← ew]; exact ZC _ (by decide)
    refine run_seq (Qh (Qao (b := 2147483587) (Qac (Qao (b := 2147483629) (Qac (a := w) (b := w) rfl rfl rfl rfl (QbV (by omega))) rfl rfl rfl (by decide)) rfl (Q0 (b := 69621) (Qac (a := 2) (b := (k : Int)) rfl rfl rfl rfl (QbV (by decide))) rfl rfl rfl) rfl (Qdc (by omega))) rfl rfl rfl (by decide)) ?_)
    rw [Qo]
    generalize eu : w * w % 2147483629 * (2 * (k : Int) + 69621) % 2147483587 = u
    have u1 : 0 <= u := by rw [← eu]; exact ZH _ (by decide)
    have u2 : u < 2147483587 := by rw [← eu]; exact ZC _ (by decide)
    have epow : dOp Qdu (dC (.int 618970019642690137449562111)) (dC (.int 2)) [some (.lst (ns.map .int), false), some (.int n, true), some (.int B40, true), some (.int z, true), some (Qj cs, true), some (.int k, true), j6, some (Qj cs', true), some (.int u, true)] = some ⟨.int (618970019642690137449562111 ^ 2), true, []⟩ := Qmy (a := 618970019642690137449562111) (b := 2) rfl rfl rfl rfl (by decide)
    refine run_seq (QjT (A := cs') rfl (Qao (b := B40) (Qac (a := u) rfl rfl epow rfl (QbV (by omega))) rfl rfl rfl (by decide)) rfl (by omega) (Qm ⟨_, _, _, ?_, λ c hc => ?_, rfl⟩))
    ·simp [h3]
    ·rcases Zy.mp hc with hc | hc
     ·exact h4 c hc
     ·rw [Zv.mp hc]; exact ⟨ZH _ (by decide), ZC _ (by decide)⟩
   ·rintro ρ ⟨cs', j5, j8, h3, h4, rfl⟩
    exact ⟨cs', j5, j8, by simpa using h3, h4, rfl⟩
  rintro ρ ⟨cs', j5, j8, h3, h4, rfl⟩
  exact QJ (r := ⟨Qj cs', true, [7]⟩) rfl ⟨cs', rfl, rfl, h3, h4⟩
 obtain ⟨o, h1, h2⟩ := key
 cases o with
 | rt d fr =>
  obtain ⟨cs, rfl, rfl, h3, h4⟩ := h2
  exact ⟨cs, by unfold Qp; rw [h1]; rfl, h3, h4⟩
 | _ => exact h2.elim
theorem QqV {α β : Type} (f : α -> β) (xs : List α) (k : Nat) (y : α) : (Qad xs k y).map f = Qad (xs.map f) k (f y) := by
 unfold Qad; simp [ZaH, ZbA]
theorem Qf5 {α : Type} {xs : List α} {k : Nat} {y z : α} : z ∈ Qad xs k y ↔ z = y ∨ z ∈ xs := by
 unfold Qad
 rw [Zy, Zw]
 constructor
 ·rintro (h | h | h)
  ·exact .inr (List.mem_of_mem_take h)
  ·exact .inl h
  ·exact .inr (List.mem_of_mem_drop h)
 ·rintro (h | h)
  ·exact .inr (.inl h)
  ·rw [← Zat k xs, Zy] at h
   rcases h with h | h
   ·exact .inl h
   ·exact .inr (.inr h)
theorem QpZ {α : Type} (xs : List α) (k : Nat) (y : α) : (Qad xs k y).length = xs.length + 1 := by
 unfold Qad; rw [Zl, ZD, Zaf, Zaq]; omega
theorem Qig {α β : Type} (f : α -> β) : ∀ (l : List α) (k : Nat), (l.map f).eraseIdx k = (l.eraseIdx k).map f
 | [], _ => rfl
 | _ :: _, 0 => rfl
 | a :: l, k + 1 => by simp only [ZA, ZaD, Qig f l k]
theorem Qg9 {α : Type} : ∀ (l : List α) (k : Nat) (b : α), l[k]? = some b -> (b :: l.eraseIdx k).Perm l
 | [], _, _, h => by simp at h
 | a :: l, 0, b, h => by simp at h; subst h; exact .refl _
 | a :: l, k + 1, b, h => by
  have := Qg9 l k b (by simpa using h)
  simp only [ZaD]
  exact (List.Perm.swap a b _).trans (this.cons a)
theorem Qol {x : Nat} {fi fa : DE} {ρ : En} {ri r : R} {W : List (Int × Int × Bool)} {w : Int × Int × Bool} {i : Int} {Q : Out -> Prop} (hx : ρ[x]? = some (some (QO W, true))) (hi : fi ρ = some ri) (ei : ri.d = .int i) (ha : fa ρ = some r) (hf : r.d = Qcc w) (h0 : 0 <= i) (h1 : i < 2 ^ 62) (hl : W.length < 16777216)
  (q : Q (.nx (ρ.set x (some (QO (Qad W (min i.toNat W.length) w), true))))) : Run (QgS x Q1 fi fa) ρ Q := by
 refine ⟨_, ?_, q⟩
 unfold QgS
 rw [hx]
 simp only [Q1, Za, hi, ha, QaC, QO, ei, hf, Zj, Qd5]
 rw [if_pos ⟨rfl, h0, h1, hl⟩]
 simp only [Qah, QqV]
theorem QlS {x y : Nat} {fi : DE} {ρ : En} {ri : R} {A B : List Int} {i b : Int} {Q : Out -> Prop} (hx : ρ[x]? = some (some (Qj A, true))) (hy : ρ[y]? = some (some (Qj B, true))) (hi : fi ρ = some ri) (ei : ri.d = .int i) (hxy : x ≠ y) (h0 : 0 <= i) (h1 : i < 2 ^ 62) (hb : B[i.toNat]? = some b) (hl : A.length < 16777216)
  (q : Q (.nx ((ρ.set y (some (Qj (B.eraseIdx i.toNat), true))).set x (some (Qj (A ++ [b]), true))))) : Run (QdB x y fi) ρ Q := by
 refine ⟨_, ?_, q⟩
 unfold QdB
 rw [hx, hy]
 simp only [Qj, Za, hi, ei, Zj, Qd5]
 rw [if_pos ⟨hxy, QeR B, h0, h1, hl⟩, Zm, hb]
 simp only [ZX, Zax]
 rw [Qig]
 rfl
noncomputable def Qdq : DS := (Qd (Qq 3 (QiS (Qa 1))) (Qd (Qq 4 (Qaw Qe)) (Qd (Qq 5 (Qaw Qe)) (Qd (Qbh (QaJ (Qa 1)) (.nm 6) (Qd (Qdg (.tp [7, 8]) (dDm (Qb (Qf (Qa 0) (Qa 6)) (Qb (dBf Qae (Qb (Qa 3) Qe)) Qe)))) (Qd (Qdg (.tp [7, 9]) (dDm (Qb (Qa 7) (Qb (QL (Qa 6) (dC (.int 1))) Qe)))) (Qd (Qq 10 (QaE (Qa 1))) (Qd (sIf (Qz (dOp gLt (Qa 9) (Qa 6))) (Qd (Qq 10 (QaE (Qf (Qa 4) (Qa 9)))) Qk) Qk) (Qd (QdB 4 3 (Qa 8)) (Qd (Qq 11 (dOr (dOp gEq (Qa 2) (dC (.int 2))) (Qem (dOp gEq (Qa 2) (dC (.int 3))) (dOp gEq (dOp Qan (Qa 7) (dC (.int 2))) (dC (.int 1)))))) (Qd (QgS 5 Q1 (dOp Qan (dOp Qe4 (Qa 7) (dC (.int 2))) (QL (Qa 6) (dC (.int 1)))) (QaK (Qb (Qf (Qa 4) (Qa 6)) (Qb (Qa 10) (Qb (Qa 11) Qe))))) Qk)))))))) (Qd (QR (Qa 5)) Qk)))))
def Esc (m : Nat) (W : List (Int × Int × Bool)) : Prop := ∀ A : Nat -> Prop, (∃ p, p < m /\ A p) -> ∃ w ∈ W, w.1 < m /\ A w.1.toNat /\ (w.2.1 = m ∨ ¬ A w.2.1.toNat)
theorem Esc.mono {m : Nat} {W W' : List (Int × Int × Bool)} (h : Esc m W) (s : ∀ w ∈ W, w ∈ W') : Esc m W' := λ A hA => let ⟨w, hw, r⟩ := h A hA; ⟨w, s w hw, r⟩
def Qfu (m : Nat) (O : List Int) (w : Int × Int × Bool) (j : Nat) : Prop := O[j]? = some w.1 /\ (w.2.1 = m ∨ ∃ i, i < j /\ O[i]? = some w.2.1)
theorem Qfu.app {m : Nat} {O O' : List Int} {w : Int × Int × Bool} {j : Nat} (h : Qfu m O w j) : Qfu m (O ++ O') w j := by
 obtain ⟨h1, h2⟩ := h
 have hj : j < O.length := (Zd.mp h1).1
 refine ⟨by rw [ZY hj]; exact h1, ?_⟩
 rcases h2 with h2 | ⟨i, hi, h2⟩
 ·exact .inl h2
 ·exact .inr ⟨i, hi, by rw [ZY (by omega)]; exact h2⟩
theorem Qq7 {m : Nat} {O : List Int} {W : List (Int × Int × Bool)} (hp : O.Perm ((List.range m).map λ (k : Nat) => (k : Int))) (hW : ∀ j, j < m -> ∃ w ∈ W, Qfu m O w j) : Esc m W := λ A ⟨p, hp1, hp2⟩ => by
 have hl : O.length = m := by rw [hp.length_eq]; simp
 have nd : O.Nodup := hp.nodup_iff.mpr (by
  rw [Zbr, List.pairwise_map]
  exact List.Pairwise.imp (λ h z => h (by omega)) List.nodup_range)
 have mem : ∀ x ∈ O, 0 <= x /\ x < m := λ x hx => by
  obtain ⟨k, hk, rfl⟩ := ZQ.mp (hp.mem_iff.mp hx)
  have := Zz.mp hk
  omega
 have ex : ∃ (j : Nat) (x : Int), O[j]? = some x /\ A x.toNat := by
  have : (p : Int) ∈ O := hp.mem_iff.mpr (ZQ.mpr ⟨p, Zz.mpr hp1, rfl⟩)
  obtain ⟨j, hj⟩ := List.getElem?_of_mem this
  exact ⟨j, _, hj, by simpa using hp2⟩
 have least : ∃ (j : Nat), (∃ x : Int, O[j]? = some x /\ A x.toNat) /\ ∀ i : Nat, i < j -> ¬ ∃ x : Int, O[i]? = some x /\ A x.toNat := by
  obtain ⟨j, hj⟩ := ex
  induction j using Nat.strongRecOn with
  | _ j ih =>
   by_cases h : ∃ i : Nat, i < j /\ ∃ x : Int, O[i]? = some x /\ A x.toNat
   ·obtain ⟨i, hi, h⟩ := h; exact ih i hi h
   ·exact ⟨j, hj, λ i hi hx => h ⟨i, hi, hx⟩⟩
 obtain ⟨j, ⟨x, hx, hA⟩, hmin⟩ := least
 have hj : j < m := by rw [← hl]; exact (Zd.mp hx).1
 obtain ⟨w, hw, h1, h2⟩ := hW j hj
 rw [hx] at h1
 cases h1
 refine ⟨w, hw, (mem _ (ZG hx)).2, hA, ?_⟩
 rcases h2 with h2 | ⟨i, hi, h2⟩
 ·exact .inl h2
 ·exact .inr λ hA' => hmin i hi ⟨_, h2, hA'⟩
theorem Qmw {m : Nat} {O : List Int} {w : Int × Int × Bool} {j : Nat} (nd : O.Nodup) (mem : ∀ x ∈ O, 0 <= x /\ x < m) (h : Qfu m O w j) : GoodW m w := by
 obtain ⟨h1, h2⟩ := h
 have a := mem _ (ZG h1)
 refine ⟨⟨a.1, ?_, by dsimp only; omega, ?_, ?_⟩, λ _ => a.2⟩
 ·rcases h2 with h2 | ⟨i, hi, h2⟩
  ·dsimp only; omega
  ·exact (mem _ (ZG h2)).1
 ·rcases h2 with h2 | ⟨i, hi, h2⟩
  ·dsimp only; omega
  ·have := mem _ (ZG h2); dsimp only; omega
 ·rcases h2 with h2 | ⟨i, hi, h2⟩
  ·dsimp only; omega
  ·dsimp only
   intro z
   rw [z, ← h2] at h1
   have hil : i < O.length := (Zd.mp h2).1
   have hjl : j < O.length := by
    by_cases q : j < O.length
    ·exact q
    ·rw [Zr (by omega), h2] at h1; cases h1
   have := (List.getElem?_inj hjl nd).mp h1
   omega
def QhX (d : Den) : Prop := ∀ (m : Nat) (cs : List Int) (kind : Int), 0 < m -> m <= 1000 -> m <= cs.length -> (∀ c ∈ cs, 0 <= c /\ c < B40) -> ∃ W, d [Qj cs, .int m, .int kind] = some (QO W, true) /\ W.length = m /\ (∀ w ∈ W, GoodW m w) /\ Esc m W
theorem Qoh : QhX (Qp 12 Qdq) := λ m cs kind m0 hm hcl hcs => by
 have key : Run Qdq (QaI 12 [Qj cs, .int m, .int kind]) (Rt λ d fr => ∃ W, d = QO W /\ fr = true /\ W.length = m /\ (∀ w ∈ W, GoodW m w) /\ Esc m W) := by
  refine run_seq (Qh (r := ⟨Qj ((List.range m).map λ (k : Nat) => (k : Int)), true, []⟩) ?_ ?_)
  ·show (if 0 <= (m : Int) /\ (m : Int) <= 1000000 then some (HS.R.mk (.lst ((List.range (m : Int).toNat).map λ (k : Nat) => .int (k : Int))) true []) else none) = _
   rw [if_pos ⟨by omega, by omega⟩]
   unfold Qj
   rw [Zad]; rfl
  rw [Qo]
  refine run_seq (Qh (r := ⟨Qj [], true, []⟩) rfl ?_)
  rw [Qo]
  refine run_seq (Qh (r := ⟨QO [], true, []⟩) rfl ?_)
  rw [Qo]
  refine run_seq (QaH (List.range m) (λ k ρ => ∃ (Rs O : List Int) (W : List (Int × Int × Bool)) (j6 j7 j8 j9 j10 j11 : Option (D × Bool)), O.length = k /\ (O ++ Rs).Perm ((List.range m).map λ (k : Nat) => (k : Int)) /\ W.length = k /\ (∀ w ∈ W, ∃ j, Qfu m O w j) /\ (∀ j, j < k -> ∃ w ∈ W, Qfu m O w j) ∧
    ρ = [some (Qj cs, false), some (.int m, true), some (.int kind, true), some (Qj Rs, true), some (Qj O, true), some (QO W, true), j6, j7, j8, j9, j10, j11]) (Qbd (n := m) (r := ⟨.int m, true, []⟩) rfl rfl (by omega)) rfl ⟨_, [], [], none, none, none, none, none, none, rfl, by simp, rfl, by simp, λ j hj => absurd hj (by omega), rfl⟩ ?_ ?_)
  ·rintro k k' ρ hk ⟨Rs, O, W, j6, j7, j8, j9, j10, j11, hO, hP, hWl, hW1, hW2, rfl⟩
   have hk' : k < m /\ k = k' := by
    obtain ⟨h1, h2⟩ := Zd.mp hk
    simp at h1 h2; exact ⟨h1, h2⟩
   obtain ⟨hkm, rfl⟩ := hk'
   have hRl : Rs.length = m - k := by have := hP.length_eq; simp at this; omega
   obtain ⟨c, hc⟩ : ∃ c, cs[k]? = some c := ⟨cs[k]'(by omega), ZM (by omega)⟩
   have hc0 := (hcs c (ZG hc))
   refine ⟨_, rfl, ?_⟩
   have elen : dBf Qae (Qb (Qa 3) Qe) [some (Qj cs, false), some (.int m, true), some (.int kind, true), some (Qj Rs, true), some (Qj O, true), some (QO W, true), some (.int k, true), j7, j8, j9, j10, j11] = some ⟨.int Rs.length, true, []⟩ := by
    rw [Qdk (r := ⟨Qj Rs, true, [3]⟩) (xs := Rs.map D.int) rfl rfl, Zj]
   refine run_seq (QfA (a := c) (b := Rs.length) (Qcv (ns := cs) (i := k) rfl rfl rfl rfl (by omega) (by simpa using hc)) rfl elen rfl (by omega) (by omega) ?_)
   have a1 := ZH c (by omega : (Rs.length : Int) ≠ 0)
   have a2 := ZC c (by omega : (0 : Int) < Rs.length)
   have a3 : 0 <= c / Rs.length := Zbk hc0.1 (by omega)
   generalize c % (Rs.length : Int) = at' at a1 a2
   generalize c / (Rs.length : Int) = nb at a3
   refine run_seq (QfA (a := nb) (b := (k : Int) + 1) rfl rfl (Q0 (a := (k : Int)) (b := 1) rfl rfl rfl rfl) rfl (by omega) (by omega) ?_)
   have b1 := ZH nb (by omega : (k : Int) + 1 ≠ 0)
   have b2 := ZC nb (by omega : (0 : Int) < (k : Int) + 1)
   have b3 : 0 <= nb / ((k : Int) + 1) := Zbk a3 (by omega)
   generalize nb % ((k : Int) + 1) = to at b1 b2
   generalize nb / ((k : Int) + 1) = nc at b3
   refine run_seq (Qh (r := ⟨.int m, false, []⟩) rfl ?_)
   rw [Qck rfl]
   refine Qaa (P := λ ρ => ∃ e : Int, (e = m ∨ ∃ i, i < k /\ O[i]? = some e) /\ ρ = [some (Qj cs, false), some (.int m, true), some (.int kind, true), some (Qj Rs, true), some (Qj O, true), some (QO W, true), some (.int k, true), some (.int nc, true), some (.int at', true), some (.int to, true), some (.int e, true), j11]) ?_ ?_
   ·refine QQ (b := decide (to < k)) (Qv (b := decide (to < k)) rfl rfl) (λ h => ?_) (λ _ => Qm ⟨m, .inl rfl, rfl⟩)
    have h := of_decide_eq_true h
    obtain ⟨e, he⟩ : ∃ e, O[to.toNat]? = some e := ⟨O[to.toNat]'(by omega), ZM (by omega)⟩
    exact run_seq (Qh (Qdf (Qcv (ns := O) (i := to) (ra := ⟨Qj O, true, [4]⟩) rfl rfl rfl rfl b1 he)) (Qm ⟨e, .inr ⟨to.toNat, by omega, he⟩, by rw [Qck rfl]; rfl⟩))
   rintro ρ ⟨e, he, rfl⟩
   obtain ⟨b, hb⟩ : ∃ b, Rs[at'.toNat]? = some b := ⟨Rs[at'.toNat]'(by omega), ZM (by omega)⟩
   refine run_seq (QlS (A := O) (B := Rs) (i := at') (b := b) rfl rfl rfl rfl (by decide) a1 (by omega) hb (by omega) ?_)
   refine run_seq (Qh (Qpl (Qav (a := kind) (b := 2) rfl rfl rfl rfl) (Qfy (Qav (a := kind) (b := 3) rfl rfl rfl rfl) (Qav (a := nc % 2) (b := 1) (Qao (a := nc) (b := 2) rfl rfl rfl rfl (by decide)) rfl rfl rfl))) ?_)
   rw [Qo]
   generalize (decide (kind = 2) || (decide (kind = 3) && decide (nc % 2 = 1))) = ln
   have c1 := ZH (nc / 2) (by omega : (k : Int) + 1 ≠ 0)
   have c2 := ZC (nc / 2) (by omega : (0 : Int) < (k : Int) + 1)
   have hOb : (O ++ [b])[k]? = some b := by rw [ZaN (by omega)]; simp [hO]
   have eidx := Qcv (fa := Qa 4) (fb := Qa 6) (ns := O ++ [b]) (i := k) (v := b) (ra := ⟨Qj (O ++ [b]), true, [4]⟩) (ρ := [some (Qj cs, false), some (.int m, true), some (.int kind, true), some (Qj (Rs.eraseIdx at'.toNat), true), some (Qj (O ++ [b]), true), some (QO W, true), some (.int k, true), some (.int nc, true), some (.int at', true), some (.int to, true), some (.int e, true), some (.bl ln, true)]) rfl rfl rfl rfl (by omega) (by simpa using hOb)
   have ew : QaK (Qb (Qf (Qa 4) (Qa 6)) (Qb (Qa 10) (Qb (Qa 11) Qe))) [some (Qj cs, false), some (.int m, true), some (.int kind, true), some (Qj (Rs.eraseIdx at'.toNat), true), some (Qj (O ++ [b]), true), some (QO W, true), some (.int k, true), some (.int nc, true), some (.int at', true), some (.int to, true), some (.int e, true), some (.bl ln, true)] = some ⟨Qcc (b, e, ln), true, []⟩ := by
    unfold QaK
    rw [Qg eidx (Qg (r := ⟨.int e, true, []⟩) rfl (Qg (r := ⟨.bl ln, true, []⟩) rfl (QS _)))]
    rfl
   have fr : Qfu m (O ++ [b]) (b, e, ln) k := by
    refine ⟨hOb, ?_⟩
    rcases he with he | ⟨i, hi, he⟩
    ·exact .inl he
    ·exact .inr ⟨i, hi, by rw [ZY (by omega)]; exact he⟩
   refine run_seq (Qol (W := W) (w := (b, e, ln)) rfl (Qao (a := nc / 2) (b := (k : Int) + 1) (Qm0 (a := nc) (b := 2) rfl rfl rfl rfl (by decide) (by decide)) rfl (Q0 (a := (k : Int)) (b := 1) rfl rfl rfl rfl) rfl (by omega)) rfl ew rfl c1 (by omega) (by omega) (Qm ⟨_, _, _, _, _, _, _, _, _, by simp [hO], ?_, by rw [QpZ, hWl], ?_, ?_, rfl⟩))
   ·refine List.Perm.trans ?_ hP
    rw [ZaA]
    refine List.Perm.append_left O ?_
    exact Qg9 Rs _ b hb
   ·intro w hw
    rcases Qf5.mp hw with rfl | hw
    ·exact ⟨k, fr⟩
    ·obtain ⟨j, hj⟩ := hW1 w hw; exact ⟨j, hj.app⟩
   ·intro j hj
    by_cases hjk : j = k
    ·subst hjk; exact ⟨_, Qf5.mpr (.inl rfl), fr⟩
    ·obtain ⟨w, hw, hf⟩ := hW2 j (by omega); exact ⟨w, Qf5.mpr (.inr hw), hf.app⟩
  ·rintro ρ ⟨Rs, O, W, j6, j7, j8, j9, j10, j11, hO, hP, hWl, hW1, hW2, rfl⟩
   rw [Zx] at *
   have hR0 : Rs = [] := by have := hP.length_eq; simp at this; exact Zbh (by omega)
   subst hR0
   rw [ZaQ] at hP
   have nd : O.Nodup := hP.nodup_iff.mpr (by
    rw [Zbr, List.pairwise_map]
    exact List.Pairwise.imp (λ h z => h (by omega)) List.nodup_range)
   have mem : ∀ x ∈ O, 0 <= x /\ x < m := λ x hx => by
    obtain ⟨k, hk, rfl⟩ := ZQ.mp (hP.mem_iff.mp hx)
    have := Zz.mp hk
    omega
   exact QJ (r := ⟨QO W, true, [5]⟩) rfl ⟨W, rfl, rfl, hWl, λ w hw => let ⟨j, hj⟩ := hW1 w hw; Qmw nd mem hj, Qq7 hP hW2⟩
 obtain ⟨o, h1, h2⟩ := key
 cases o with
 | rt d fr =>
  obtain ⟨W, rfl, rfl, h3, h4, h5⟩ := h2
  exact ⟨W, by unfold Qp; rw [h1]; rfl, h3, h4, h5⟩
 | _ => exact h2.elim
noncomputable def Qdv : DS := (Qd (Qq 3 (Qab (Qaw (Qb (dC (.int 0)) Qe)) (QL (Qa 0) (dC (.int 1))))) (Qd (Qbh (Q2 (Qa 1)) (.tp [4, 5, 6]) (Qd (QaV 3 Q1 (Qa 4) (QL (Qf (Qa 3) (Qa 4)) (dC (.int 1)))) (Qd (sIf (Qb5 (Qz (Qa 6))) (Qd (QaV 3 Q1 (Qa 5) (QL (Qf (Qa 3) (Qa 5)) (dC (.int 1)))) Qk) Qk) Qk))) (Qd (Qq 7 (dC (.int 1))) (Qd (Qbh (Q2 (Qar (Qa 3) Qat (QY (Qa 0)))) (.nm 8) (Qd (Qq 7 (Qab (Qa 7) (Qa 8))) Qk)) (Qd (QR (dOp gLe (Qa 7) (Qa 2))) Qk)))))
def QhK (d : Den) : Prop := ∀ (m : Nat) (W : List (Int × Int × Bool)) (room : Int), m <= 1000 -> W.length <= 100000 -> (∀ w ∈ W, GoodW m w) -> ∃ b, d [.int m, QO W, .int room] = some (.bl b, true)
theorem Ql6 {m : Nat} {W : List (Int × Int × Bool)} {r0 r1 r2 : Option (D × Bool)} (hg : ∀ w ∈ W, GoodW m w) :
  Run (Qbh (Q2 (Qa 1)) (.tp [4, 5, 6]) (Qd (QaV 3 Q1 (Qa 4) (QL (Qf (Qa 3) (Qa 4)) (dC (.int 1)))) (Qd (sIf (Qb5 (Qz (Qa 6))) (Qd (QaV 3 Q1 (Qa 5) (QL (Qf (Qa 3) (Qa 5)) (dC (.int 1)))) Qk) Qk) Qk)))
   [some (.int m, true), some (QO W, false), r0, some (Qc (m + 1) λ _ => 0, true), none, none, none, r1, r2] (Nx λ ρ => ∃ f j3 j4 j5, (∀ k, 0 <= f k /\ f k <= 2 * (W.length : Int)) /\ ρ = [some (.int m, true), some (QO W, false), r0, some (Qc (m + 1) f, true), j3, j4, j5, r1, r2]) := by
 refine QaH (toD := Qcc) W (λ i ρ => ∃ f j3 j4 j5, (∀ k, 0 <= f k /\ f k <= 2 * (i : Int)) /\ ρ = [some (.int m, true), some (QO W, false), r0, some (Qc (m + 1) f, true), j3, j4, j5, r1, r2]) (ir := ⟨W.map Qcc, []⟩) rfl rfl ⟨λ _ => 0, none, none, none, λ k => ⟨by simp, by simp⟩, rfl⟩ ?_ ?_
 ·rintro i w ρ hi ⟨f, j3, j4, j5, hf, rfl⟩
  obtain ⟨⟨h1, h2, h3, h4, h5⟩, h6⟩ := hg w (ZG hi)
  refine ⟨_, rfl, ?_⟩
  refine run_seq (Qla (i := w.1) rfl rfl h1 (by omega) ?_)
  have hf1 : ∀ k, 0 <= up f w.1.toNat (f w.1.toNat + 1) k /\ up f w.1.toNat (f w.1.toNat + 1) k <= 2 * (i : Int) + 1 := λ k => by
   have a := hf k
   have b := hf w.1.toNat
   unfold up; split <;> omega
  refine run_seq (QQ (b := !w.2.2) (Qa7 (Qv (b := w.2.2) rfl rfl)) (λ _ => run_seq (Qla (i := w.2.1) rfl rfl h2 (by omega) (Qm (Qm ⟨_, _, _, _, λ k => ?_, rfl⟩)))) (λ _ => Qm (Qm ⟨_, _, _, _, λ k => ?_, rfl⟩)))
  ·have a := hf1 k
   have b := hf1 w.2.1.toNat
   unfold up at a b ⊢
   split <;> omega
  ·have a := hf1 k
   omega
 ·rintro ρ ⟨f, j3, j4, j5, hf, rfl⟩
  exact ⟨f, j3, j4, j5, hf, rfl⟩
theorem Qo4 : QhK (Qp 9 Qdv) := λ m W room hm hl hg => by
 have key : Run Qdv (QaI 9 [.int m, QO W, .int room]) (Rt λ d fr => ∃ b, d = .bl b /\ fr = true) := by
  refine run_seq (Qh (QjP (n := m + 1) (Q0 (a := (m : Int)) (b := 1) rfl rfl rfl rfl) rfl (by omega)) ?_)
  rw [Qo]
  refine Qaa (Ql6 hg) ?_
  rintro ρ ⟨f, j3, j4, j5, hf, rfl⟩
  refine run_seq (Qh (r := ⟨.int 1, true, []⟩) rfl ?_)
  rw [Qo]
  refine Qaa (P := λ ρ => ∃ (z : Int) (j : Option (D × Bool)), ρ = [some (.int m, true), some (QO W, false), some (.int room, true), some (Qc (m + 1) f, true), j3, j4, j5, some (.int z, true), j]) ?_ ?_
  ·refine QaH (toD := λ (k : Nat) => .int (f k)) (List.range m) (λ i ρ => ∃ (z : Int) (j : Option (D × Bool)), ρ = [some (.int m, true), some (QO W, false), some (.int room, true), some (Qc (m + 1) f, true), j3, j4, j5, some (.int z, true), j]) (Q7 (Qk2 (m := m + 1) (n := m) (f := f) rfl rfl rfl rfl (by omega)) rfl) rfl ⟨1, none, rfl⟩ ?_ ?_
   ·rintro i k ρ _ ⟨z, j, rfl⟩
    have := hf k
    exact ⟨_, rfl, run_seq (Qh (Qac (a := z) (b := f k) rfl rfl rfl rfl (Qdc (by omega))) (Qm ⟨z * f k, _, rfl⟩))⟩
   ·rintro ρ ⟨z, j, rfl⟩
    exact ⟨z, j, rfl⟩
  rintro ρ ⟨z, j, rfl⟩
  exact QJ (Qa1 (ra := ⟨.int z, true, []⟩) (rb := ⟨.int room, true, []⟩) rfl rfl rfl) ⟨_, rfl, rfl⟩
 obtain ⟨o, h1, h2⟩ := key
 cases o with
 | rt d fr =>
  obtain ⟨b, rfl, rfl⟩ := h2
  exact ⟨b, by unfold Qp; rw [h1]; rfl⟩
 | _ => exact h2.elim
noncomputable def Qds (QbU : Den) : DS := (Qd (Qbh (Q2 (Qa 1)) (.nm 5) (Qd (Qdg (.tp [6, 7]) (dDm (Qb (Qa 5) (Qb (QL (Qa 2) (dC (.int 1))) Qe)))) (Qd (Qdg (.tp [6, 8]) (dDm (Qb (Qa 6) (Qb (Qa 2) Qe)))) (Qd (Qq 9 (Qem (dOp gLt (Qa 7) (Qa 2)) (dOr (dOp gEq (Qa 3) (dC (.int 2))) (Qem (dOp gEq (Qa 3) (dC (.int 3))) (dOp gEq (dOp Qan (Qa 6) (dC (.int 3))) (dC (.int 1))))))) (Qd (Qq 10 (QaK (Qb (Qa 7) (Qb (dOp Qan (QL (QL (Qa 7) (dC (.int 1))) (Qa 8)) (QL (Qa 2) (dC (.int 1)))) (Qb (Qa 9) Qe))))) (Qd (Qq 11 (dOp Qan (dOp Qe4 (Qa 6) (dC (.int 3))) (QL (dBf Qae (Qb (Qa 0) Qe)) (dC (.int 1))))) (Qd (sIf (bOr (Qfd (Qz (dOp gNe (Qa 3) (dC (.int 2)))) (Qz (dOp gNe (Qa 3) (dC (.int 3))))) (Qz (Qw 3 QbU [] (Qb (Qa 2) (Qb (QL (Qa 0) (Qaw (Qb (Qa 10) Qe))) (Qb (Qa 4) Qe)))))) (Qd (Qq 0 (QL (QL (Qar (Qa 0) Qat (QY (Qa 11))) (Qaw (Qb (Qa 10) Qe))) (Qar (Qa 0) (QY (Qa 11)) Qat))) Qk) Qk) Qk))))))) (Qd (QR (Qa 0)) Qk))
theorem QhC {W : List (Int × Int × Bool)} {n : Nat} : cutD (W.map Qcc) none (some (n : Int)) = (W.take n).map Qcc /\ cutD (W.map Qcc) (some (n : Int)) none = (W.drop n).map Qcc := by
 unfold cutD
 simp only [Zj, HT.Qdd, HT.Qc7, ZaX, Zbp]
 constructor
 ·rw [← ZaH]
  by_cases h : n <= W.length
  ·rw [Zaj h]
  ·rw [Nat.min_eq_right (by omega), ZR (by omega), ZR (by omega)]
 ·rw [← ZbA, ← ZaH]
  congr 1
  by_cases h : n <= W.length
  ·rw [Zaj h, ZR (by simp)]
  ·rw [Nat.min_eq_right (by omega), ZbJ (by omega), ZbJ (by omega)]; simp
theorem QqJ {fa fb : DE} {ρ : En} {ra rb : R} {W : List (Int × Int × Bool)} {n : Nat} (ha : fa ρ = some ra) (ea : ra.d = QO W) (hb : fb ρ = some rb) (eb : rb.d = .int n) :
  Qar fa Qat (QY fb) ρ = some ⟨QO (W.take n), true, []⟩ /\ Qar fa (QY fb) Qat ρ = some ⟨QO (W.drop n), true, []⟩ := by
 unfold Qar Qat QY
 simp only [ha, hb, Za, ea, eb, QO, QhC.1, QhC.2, Qal, QlR, if_true]
 exact ⟨trivial, trivial⟩
theorem QnK {m : Nat} {a s : Int} {ln : Bool} (h0 : 0 <= a) (h1 : a <= m) (hs : 0 <= s) (hs2 : s < m) (hl : ln = true -> a < m) : GoodW m (a, (a + 1 + s) % (m + 1), ln) := by
 have h5 := ZH (a + 1 + s) (by omega : (m : Int) + 1 ≠ 0)
 have h6 := ZC (a + 1 + s) (by omega : (0 : Int) < m + 1)
 have h7 := QrJ (a := a) (x := 1 + s) (n := (m : Int) + 1) (by omega) (by omega)
 rw [← Int.add_assoc, show a % ((m : Int) + 1) = a from Int.emod_eq_of_lt h0 (by omega)] at h7
 exact ⟨⟨h0, h5, h1, by dsimp only; omega, λ z => h7 z.symm⟩, hl⟩
def Qh5 (d : Den) : Prop := ∀ (m : Nat) (W : List (Int × Int × Bool)) (cs : List Int) (kind room : Int), 0 < m -> m <= 1000 -> W.length + cs.length <= 10000 -> (∀ w ∈ W, GoodW m w) -> (∀ c ∈ cs, 0 <= c /\ c < B40) →
 ∃ W' fr, d [QO W, Qj cs, .int m, .int kind, .int room] = some (QO W', fr) /\ W'.length <= W.length + cs.length /\ (∀ w ∈ W', GoodW m w) /\ (∀ w ∈ W, w ∈ W')
theorem QnV {df : Den} (hf : QhK df) : Qh5 (Qp 12 (Qds df)) := λ m W cs kind room h0 hm hl hg hcs => by
 have key : Run (Qds df) (QaI 12 [QO W, Qj cs, .int m, .int kind, .int room]) (Rt λ d fr => ∃ W', d = QO W' /\ W'.length <= W.length + cs.length /\ (∀ w ∈ W', GoodW m w) /\ (∀ w ∈ W, w ∈ W')) := by
  refine run_seq (QaH (toD := D.int) cs (λ i ρ => ∃ W' b j5 j6 j7 j8 j9 j10 j11, W'.length <= W.length + i /\ (∀ w ∈ W', GoodW m w) /\ (∀ w ∈ W, w ∈ W') /\ ρ = [some (QO W', b), some (Qj cs, false), some (.int m, true), some (.int kind, true), some (.int room, true), j5, j6, j7, j8, j9, j10, j11]) (ir := ⟨cs.map .int, []⟩) rfl rfl ⟨W, false, none, none, none, none, none, none, none, by omega, hg, λ w hw => hw, rfl⟩ ?_ ?_)
  ·rintro i c ρ hi ⟨W', b, j5, j6, j7, j8, j9, j10, j11, hw1, hw2, hw3, rfl⟩
   have hil : i < cs.length := (Zd.mp hi).1
   have hc := hcs c (ZG hi)
   refine ⟨_, rfl, ?_⟩
   refine run_seq (QfA (a := c) (b := (m : Int) + 1) rfl rfl (Q0 (a := (m : Int)) (b := 1) rfl rfl rfl rfl) rfl (by omega) (by omega) ?_)
   have a1 := ZH c (by omega : (m : Int) + 1 ≠ 0)
   have a2 := ZC c (by omega : (0 : Int) < (m : Int) + 1)
   have a3 : 0 <= c / ((m : Int) + 1) := Zbk hc.1 (by omega)
   generalize c % ((m : Int) + 1) = st at a1 a2
   generalize c / ((m : Int) + 1) = nb at a3
   refine run_seq (QfA (a := nb) (b := m) rfl rfl rfl rfl (by omega) (by omega) ?_)
   have b1 := ZH nb (by omega : (m : Int) ≠ 0)
   have b2 := ZC nb (by omega : (0 : Int) < (m : Int))
   have b3 : 0 <= nb / (m : Int) := Zbk a3 (by omega)
   generalize nb % (m : Int) = sp at b1 b2
   generalize nb / (m : Int) = nc at b3
   refine run_seq (Qh (Qfy (Qa1 (g := gLt) (ra := ⟨.int st, true, []⟩) (rb := ⟨.int m, true, []⟩) rfl rfl rfl) (Qpl (Qav (a := kind) (b := 2) rfl rfl rfl rfl) (Qfy (Qav (a := kind) (b := 3) rfl rfl rfl rfl) (Qav (a := nc % 3) (b := 1) (Qao (a := nc) (b := 3) rfl rfl rfl rfl (by decide)) rfl rfl rfl)))) ?_)
   rw [Qo]
   generalize eln : (decide (st < m) && (decide (kind = 2) || (decide (kind = 3) && decide (nc % 3 = 1)))) = ln
   have hln : ln = true -> st < m := λ h => by rw [← eln, Zf, decide_eq_true_eq] at h; exact h.1
   have gw := QnK (m := m) (a := st) (s := sp) (ln := ln) a1 (by omega) b1 b2 hln
   refine run_seq (Qh (r := ⟨Qcc (st, (st + 1 + sp) % (m + 1), ln), true, []⟩) ?_ ?_)
   ·unfold QaK
    refine (congrArg (λ z => Option.bind z _) (Qg (r := ⟨.int st, true, []⟩) rfl (Qg (Qao (a := st + 1 + sp) (b := (m : Int) + 1) (Q0 (Q0 (a := st) (b := 1) rfl rfl rfl rfl) rfl rfl rfl) rfl (Q0 (a := (m : Int)) (b := 1) rfl rfl rfl rfl) rfl (by omega)) (Qg (r := ⟨.bl ln, true, []⟩) rfl (QS _))))).trans ?_
    rfl
   rw [Qo]
   generalize ewy : (st, (st + 1 + sp) % ((m : Int) + 1), ln) = wy at gw
   have elen : ∀ {ρ : En}, ρ[0]? = some (some (QO W', b)) -> dBf Qae (Qb (Qa 0) Qe) ρ = some ⟨.int W'.length, true, []⟩ := λ {ρ} h => by
    rw [Qdk (xs := W'.map Qcc) (Qam h) (by cases b <;> rfl), Zj]
   refine run_seq (Qh (Qao (a := nc / 3) (b := (W'.length : Int) + 1) (Qm0 (a := nc) (b := 3) rfl rfl rfl rfl (by decide) (by decide)) rfl (Q0 (a := (W'.length : Int)) (b := 1) (elen rfl) rfl rfl rfl) rfl (by omega)) ?_)
   rw [Qo]
   obtain ⟨at', eat⟩ : ∃ n : Nat, nc / 3 % ((W'.length : Int) + 1) = n := ⟨(nc / 3 % ((W'.length : Int) + 1)).toNat, by have := ZH (nc / 3) (by omega : (W'.length : Int) + 1 ≠ 0); omega⟩
   rw [eat]
   have gg : ∀ w ∈ W' ++ [wy], GoodW m w := λ w hw => (Zy.mp hw).elim (hw2 w) (λ h => by rw [Zv.mp h]; exact gw)
   obtain ⟨bf, hbf⟩ := hf m (W' ++ [wy]) room hm (by simp; omega) gg
   have eadd := Qh0 (A := W') (B := [wy]) (fa := Qa 0) (fb := Qaw (Qb (Qa 10) Qe)) (rb := ⟨QO [wy], true, []⟩) (ρ := [some (QO W', b), some (Qj cs, false), some (.int m, true), some (.int kind, true), some (.int room, true), some (.int c, true), some (.int nc, true), some (.int st, true), some (.int sp, true), some (.bl ln, true), some (Qcc wy, true), some (.int at', true)]) (Qam rfl) (by cases b <;> rfl) rfl rfl (by simp; omega)
   have esl := QqJ (fa := Qa 0) (fb := Qa 11) (W := W') (n := at') (rb := ⟨.int at', true, []⟩) (ρ := [some (QO W', b), some (Qj cs, false), some (.int m, true), some (.int kind, true), some (.int room, true), some (.int c, true), some (.int nc, true), some (.int st, true), some (.int sp, true), some (.bl ln, true), some (Qcc wy, true), some (.int at', true)]) (Qam rfl) (by cases b <;> rfl) rfl rfl
   refine run_seq (QQ (Qa6 (Qqu (Qv (Qcg (a := kind) (b := 2) rfl rfl rfl rfl) rfl) (Qv (Qcg (a := kind) (b := 3) rfl rfl rfl rfl) rfl)) (Qv (Qy (Qg (r := ⟨.int m, true, []⟩) rfl (Qg eadd (Qg (r := ⟨.int room, true, []⟩) rfl (QS _)))) hbf rfl) rfl)) (λ _ => ?_) (λ _ => Qm (Qm ⟨W', b, _, _, _, _, _, _, _, by omega, hw2, hw3, rfl⟩)))
   refine run_seq (Qh (Qh0 (A := W'.take at' ++ [wy]) (B := W'.drop at') (Qh0 (A := W'.take at') (B := [wy]) (rb := ⟨QO [wy], true, []⟩) esl.1 rfl rfl rfl (by simp; omega)) rfl esl.2 rfl (by simp; omega)) (Qm ?_))
   rw [Qo]
   have meq : ∀ w, w ∈ W'.take at' ++ [wy] ++ W'.drop at' ↔ w = wy ∨ w ∈ W' := λ w => by
    rw [ZaA]
    exact Qf5 (xs := W') (k := at') (y := wy)
   refine Qm ⟨W'.take at' ++ [wy] ++ W'.drop at', true, _, _, _, _, _, _, _, by simp; omega, λ w hw => ?_, λ w hw => (meq w).mpr (.inr (hw3 w hw)), rfl⟩
   rcases (meq w).mp hw with rfl | h
   ·exact gw
   ·exact hw2 w h
  ·rintro ρ ⟨W', b, j5, j6, j7, j8, j9, j10, j11, hw1, hw2, hw3, rfl⟩
   exact QJ (Qam rfl) ⟨W', by cases b <;> rfl, hw1, hw2, hw3⟩
 obtain ⟨o, h1, h2⟩ := key
 cases o with
 | rt d fr =>
  obtain ⟨W', rfl, h3, h4, h5⟩ := h2
  exact ⟨W', fr, by unfold Qp; rw [h1]; rfl, h3, h4, h5⟩
 | _ => exact h2.elim
noncomputable def Ql (m : Nat) (g : Nat -> Int) : Int := ((List.range m).map g).sum
theorem Q3 (m : Nat) (g : Nat -> Int) : Ql (m + 1) g = Ql m g + g m := by
 unfold Ql; rw [List.range_succ, Zax, Zbo]; simp
theorem QD {m : Nat} {f g : Nat -> Int} (h : ∀ i, i < m -> f i = g i) : Ql m f = Ql m g := by
 unfold Ql; rw [ZO λ i hi => h i (Zz.mp hi)]
theorem Qci (m : Nat) (f g : Nat -> Int) : Ql m (λ i => f i + g i) = Ql m f + Ql m g := by
 induction m with
 | zero => rfl
 | succ m ih => rw [Q3, Q3, Q3, ih]; omega
theorem QdN (m : Nat) (f : Nat -> Int) : Ql m (λ i => - f i) = - Ql m f := by
 induction m with
 | zero => rfl
 | succ m ih => rw [Q3, Q3, ih]; omega
theorem QaN (m : Nat) : Ql m (λ _ => 0) = 0 := by
 induction m with
 | zero => rfl
 | succ m ih => rw [Q3, ih]; rfl
theorem Qbz (m : Nat) (c : Int) (f : Nat -> Int) : Ql m (λ i => c * f i) = c * Ql m f := by
 induction m with
 | zero => simp [Ql]
 | succ m ih => rw [Q3, Q3, ih, Zbi]
theorem Qd8 (m n : Nat) (f : Nat -> Nat -> Int) : Ql m (λ i => Ql n λ j => f i j) = Ql n λ j => Ql m λ i => f i j := by
 induction m with
 | zero => show 0 = Ql n λ j => 0; rw [QaN]
 | succ m ih =>
  rw [Q3, ih, ← Qci]
  exact QD λ j _ => by rw [Q3]
theorem QbS {m : Nat} {p : Nat} (hp : p < m) (v : Int) (f : Nat -> Int) : Ql m (λ i => (if i = p then v else 0) * f i) = v * f p := by
 induction m with
 | zero => omega
 | succ m ih =>
  rw [Q3]
  by_cases h : p = m
  ·subst h
   rw [if_pos rfl, QD (g := λ _ => 0) λ i hi => by rw [if_neg (by omega)]; simp, QaN]; simp
  ·rw [ih (by omega), if_neg (λ z => h z.symm)]; simp
noncomputable def Qr (m : Nat) (T : Nat -> Nat -> Int) (f c : Nat -> Int) : Nat -> Int := λ j => f j + Ql m λ i => c i * T i j
theorem Qlg {m : Nat} {f g : Nat -> Int} (h : ∀ i, i < m -> f i = g i) : Qc m f = Qc m g := by
 unfold Qc
 congr 1
 refine ZO λ i hi => ?_
 rw [h i (Zz.mp hi)]
noncomputable def Qet : DS := (Qd (Qbh (Q2 (Qa 1)) (.nm 2) (Qd (sIf (Qz (dOp gNe (dBf Qae (Qb (Qa 2) Qe)) (Qf (Qa 0) (dC (.int 0))))) (Qd QF Qk) Qk) Qk)) Qk)
def QjH (d : Den) : Prop := ∀ (m : Nat) (R L : List (Int × Int)) (fs : List (Nat -> Int)), d [QE m R L, .lst (fs.map λ f => Qc m f)] = some (.non, true)
theorem Qp0 : QjH (Qp 3 Qet) := λ m R L fs => by
 have key : Run Qet (QaI 3 [QE m R L, .lst (fs.map λ f => Qc m f)]) (Nx λ _ => True) := by
  refine run_seq (QaH (toD := λ f => Qc m f) fs (λ _ ρ => ∃ j2, ρ = [some (QE m R L, false), some (.lst (fs.map λ f => Qc m f), false), j2]) (ir := ⟨fs.map λ f => Qc m f, []⟩) rfl rfl ⟨none, rfl⟩ ?_ ?_)
  ·rintro i f ρ _ ⟨j2, rfl⟩
   refine ⟨_, rfl, ?_⟩
   refine run_seq (QQ (b := false) (Qv (Qcg (Qdk (xs := (List.range m).map λ i => .int (f i)) (r := ⟨Qc m f, false, []⟩) rfl rfl) rfl (Qco (m := m) (R := R) (L := L) (r := ⟨QE m R L, false, []⟩) rfl rfl).1 rfl) (by simp)) (λ h => by cases h) (λ _ => Qm (Qm ⟨_, rfl⟩)))
  ·rintro ρ ⟨j2, rfl⟩
   exact Qm trivial
 obtain ⟨o, h1, h2⟩ := key
 unfold Qp
 rw [h1]
 cases o with
 | nx ρ => rfl
 | _ => exact h2.elim
theorem QnL {fa : DE} {r : R} {ρ : En} {Q : Out -> Prop} (h : fa ρ = some r) (q : Q (.nx ρ)) : Run (QfG fa) ρ Q := ⟨_, by simp [QfG, h], q⟩
theorem QlB {m : Nat} (f g : Nat -> D) : Qft ((List.range m).map f) ((List.range m).map g) = (List.range m).map λ i => .tup [f i, g i] := by
 generalize List.range m = l
 induction l with
 | nil => rfl
 | cons n ns ih => unfold Qft at ih ⊢; simp only [ZA, List.zip_cons_cons, ih]
theorem Qe8 {ρ : En} {m : Nat} {f : Nat -> Int} {fs : DA} {rs : RA} (h : fs ρ = some rs) (e : rs.ds = [Qc m f]) : dList fs ρ = some ⟨Qc m f, true, []⟩ := by
 unfold dList
 rw [h, Za, e]
 simp [Qc, Qal]
theorem Qcl {fa fb : DE} {ρ : En} {ra rb : R} {m : Nat} {f g : Nat -> D} (ha : fa ρ = some ra) (ea : ra.d = .lst ((List.range m).map f)) (hb : fb ρ = some rb) (eb : rb.d = .lst ((List.range m).map g)) : QbC fa fb ρ = some ⟨(List.range m).map λ i => .tup [f i, g i], ra.M ++ rb.M⟩ := by
 unfold QbC
 rw [ha, Za, hb, Za, ea, eb]
 simp only [QlB]
theorem QqR (i j : Nat) (s : Int × Int) : (hit i j s).natAbs <= 1 := by unfold hit; split <;> split <;> decide
theorem Qes (i j : Nat) : ∀ S : List (Int × Int), ((S.map (hit i j)).sum).natAbs <= S.length
 | [] => by simp
 | s :: S => by
  have := Qes i j S
  have := QqR i j s
  rw [ZA, Zam, ZD]
  omega
theorem Qll {fa fl fh : DE} {ρ : En} {ra rl rh : R} {cs : List Int} {a b : Nat} (ha : fa ρ = some ra) (ea : ra.d = Qj cs) (hl : fl ρ = some rl) (el : rl.d = .int a) (hh : fh ρ = some rh) (eh : rh.d = .int b) : Qar fa (QY fl) (QY fh) ρ = some ⟨Qj ((cs.drop (min a cs.length)).take (min b cs.length - min a cs.length)), true, []⟩ := by
 unfold Qar QY
 simp only [ha, hl, hh, Za, ea, el, eh, Qj, cutD, Zj, HT.Qc7, ← ZbA, ← ZaH, Qal, QeR, if_true]
theorem Qlt {cs : List Int} {a b : Nat} {c : Int} (h : c ∈ (cs.drop a).take b) : c ∈ cs := List.mem_of_mem_drop (List.mem_of_mem_take h)
structure Qc0 (m : Nat) (R L : List (Int × Int)) : Prop where
 ex : ∃ W, Esc m W /\ (∀ w ∈ W, GoodW m w) /\ W.length <= 200 /\ R = Qbg W /\ L = QbX W
theorem Qc0.good {m : Nat} {R L : List (Int × Int)} (h : Qc0 m R L) : (∀ s ∈ R, Good m s) /\ (∀ s ∈ L, Good m s) /\ R.length <= 200 /\ L.length <= 200 /\ (∀ s ∈ R, s.1 < s.2) /\ ∀ s ∈ L, s.1 < m := by
 obtain ⟨W, _, h2, h3, rfl, rfl⟩ := h.ex
 exact ⟨λ s hs => (QeP h2 s hs).1, λ s hs => (QeX h2 s hs).1, Zu (Qim W) h3, Zu (Qiq W) h3, λ s hs => (QeP h2 s hs).2, λ s hs => (QeX h2 s hs).2⟩
theorem Qin {α : Type} (m : Nat) (g : Nat -> α -> Int) : ∀ S : List α, Ql m (λ j => (S.map (g j)).sum) = (S.map λ s => Ql m λ j => g j s).sum
 | [] => by simp [QaN]
 | s :: S => by
  simp only [ZA, Zam]
  rw [Qci, Qin m g S]
theorem Qk8 {α : Type} (c : Int) (f : α -> Int) : ∀ S : List α, c * (S.map f).sum = (S.map λ s => c * f s).sum
 | [] => by simp
 | s :: S => by simp only [ZA, Zam, Zbi, Qk8 c f S]
theorem QqQ {fa : DE} {ρ : En} {r : R} {m : Nat} {f : Nat -> Int} (h : fa ρ = some r) (e : r.d = Qc m f) : dBf Qd9 (Qb fa Qe) ρ = some ⟨.int (Ql m f), true, []⟩ := by
 unfold dBf
 rw [Qg h (QS _), Za]
 have : Qc m f = .lst (((List.range m).map f).map .int) := by unfold Qc; rw [Zad]; rfl
 simp only [e, this, Qd9, QiY, ZX]
 rfl
theorem Qf3 {fa fb : DE} {ρ : En} {ra rb : R} {d : D} (ha : fa ρ = some ra) (ea : ra.d = d) (hb : fb ρ = some rb) (eb : rb.d = d) (hs : d.sim 8 = true) : dOp gEq fa fb ρ = some ⟨.bl true, true, []⟩ := by
 refine Qa1 ha hb ?_
 rw [ea, eb]
 unfold gEq
 rw [hs, QjK hs]; rfl
structure TP (m : Nat) (T : Nat -> Nat -> Int) : Prop where
 neg : ∀ p, p < m -> T p p < 0
 pos : ∀ i j, i < m -> j < m -> i ≠ j -> 0 <= T i j
 bnd : ∀ i j, i < m -> j < m -> (T i j).natAbs < 2 ^ 64
 wt : ∃ w : Nat -> Int, (∀ j, 0 <= w j) /\ ∀ i, i < m -> Ql m (λ j => T i j * w j) <= -1
inductive Leg (m : Nat) (T : Nat -> Nat -> Int) (f : Nat -> Int) : (Nat -> Int) -> Prop where
 | nil : Leg m T f λ _ => 0
 | step {c : Nat -> Int} {p : Nat} {t : Int} : Leg m T f c -> p < m -> 0 <= t -> t * (0 - T p p) <= Qr m T f c p -> Leg m T f (up c p (c p + t))
def Stb (m : Nat) (T : Nat -> Nat -> Int) (g : Nat -> Int) : Prop := ∀ p, p < m -> g p < 0 - T p p
theorem Leg.nonneg {m : Nat} {T : Nat -> Nat -> Int} {f c : Nat -> Int} (h : Leg m T f c) : ∀ i, 0 <= c i := by
 induction h with
 | nil => intro i; exact ZaU _
 | step _ _ ht _ ih =>
  intro i
  unfold up
  split
  ·have := ih ‹Nat›; rename_i p _ _ _ _ _; have := ih p; omega
  ·exact ih i
theorem QdD {m : Nat} {f g : Nat -> Int} (h : ∀ i, i < m -> f i <= g i) : Ql m f <= Ql m g := by
 induction m with
 | zero => exact ZaU _
 | succ m ih =>
  rw [Q3, Q3]
  have := ih λ i hi => h i (by omega)
  have := h m (by omega)
  omega
theorem Leg.least {m : Nat} {T : Nat -> Nat -> Int} (tp : TP m T) {f c : Nat -> Int} (h : Leg m T f c) {c' : Nat -> Int} (h0 : ∀ i, i < m -> 0 <= c' i) (hs : Stb m T (Qr m T f c')) : ∀ i, i < m -> c i <= c' i := by
 induction h with
 | nil => exact h0
 | @step c p t _ hp ht hle ih =>
  intro i hi
  unfold up
  split
  ·rename_i e
   subst e
   have key : Qr m T f c i + (c' i - c i) * T i i <= Qr m T f c' i := by
    unfold Qr
    have e1 : Ql m (λ k => c k * T k i) + (c' i - c i) * T i i = Ql m (λ k => c k * T k i + (if k = i then c' i - c i else 0) * T k i) := by rw [Qci, QbS hi]
    have e2 : Ql m (λ k => c k * T k i + (if k = i then c' i - c i else 0) * T k i) <= Ql m (λ k => c' k * T k i) := by
     refine QdD λ k hk => ?_
     by_cases hki : k = i
     ·subst hki; rw [if_pos rfl, ← Zag]; rw [show c k + (c' k - c k) = c' k by omega]; exact ZaU _
     ·rw [if_neg hki, ZU, Zbq]
      exact Zbe (ih k hk) (tp.pos k i hk hi hki)
    omega
   have h1 := hs i hi
   have h2 := tp.neg i hi
   by_cases hlt : c i + t <= c' i
   ·exact hlt
   ·exfalso
    have h3 : (c' i - c i + 1) <= t := by omega
    have h4 : (c' i - c i + 1) * (0 - T i i) <= t * (0 - T i i) := Zbe h3 (by omega)
    have h5 : (c' i - c i + 1) * (0 - T i i) = (0 - T i i) - (c' i - c i) * T i i := by rw [Zag, ZaO, Int.mul_sub, ZV]; omega
    omega
  ·exact ih i hi
theorem Leg.unique {m : Nat} {T : Nat -> Nat -> Int} (tp : TP m T) {f c d : Nat -> Int} (hc : Leg m T f c) (hd : Leg m T f d) (sc : Stb m T (Qr m T f c)) (sd : Stb m T (Qr m T f d)) : ∀ i, i < m -> c i = d i := λ i hi => by
 have h1 := hc.least tp (λ i _ => hd.nonneg i) sd i hi
 have h2 := hd.least tp (λ i _ => hc.nonneg i) sc i hi
 omega
theorem QcP {m : Nat} {T : Nat -> Nat -> Int} {f g c d : Nat -> Int} (j : Nat) (h1 : f j = g j) (h2 : ∀ i, i < m -> c i = d i) : Qr m T f c j = Qr m T g d j := by
 unfold Qr
 rw [h1, QD λ i hi => by rw [h2 i hi]]
theorem Leg.cast {m : Nat} {T : Nat -> Nat -> Int} {f c d : Nat -> Int} (h : Leg m T f c) (e : ∀ i, c i = d i) : Leg m T f d := by
 have : c = d := funext e
 rw [← this]; exact h
theorem Leg.Qpp {m : Nat} {T : Nat -> Nat -> Int} {f g c : Nat -> Int} (h : Leg m T f c) (e : ∀ i, i < m -> f i = g i) : Leg m T g c := by
 induction h with
 | nil => exact .nil
 | @step c p t _ hp ht hle ih => exact .step ih hp ht (by rw [← QcP (f := f) (g := g) p (e p hp) (λ _ _ => rfl)]; exact hle)
theorem QmR {g : DT} {fb : DS} {Q : Out -> Prop} (I : Nat -> En -> Prop) (step : ∀ n ρ, I n ρ -> ∃ b, g ρ = some b /\ (b = false -> Q (.nx ρ)) /\ (b = true -> Run fb ρ λ o => match o with | .nx ρ2 => ∃ n', n' < n /\ I n' ρ2 | .ct ρ2 => ∃ n', n' < n /\ I n' ρ2 | .bk ρ2 => Q (.nx ρ2) | .rt d fr => Q (.rt d fr))) :
  ∀ (n : Nat) (ρ : En), I n ρ -> Run (QcB g fb) ρ Q := by
 intro n
 induction n using Nat.strongRecOn with
 | _ n ih =>
  intro ρ h
  obtain ⟨b, hb, hf, ht⟩ := step n ρ h
  unfold Run
  rw [Qml, hb, Za]
  cases b with
  | false => exact ⟨_, by simp, hf rfl⟩
  | true =>
   obtain ⟨o, ho, hq⟩ := ht rfl
   rw [if_pos rfl, ho, Za]
   cases o with
   | nx ρ2 => obtain ⟨n', hn, hI⟩ := hq; exact ih n' hn ρ2 hI
   | ct ρ2 => obtain ⟨n', hn, hI⟩ := hq; exact ih n' hn ρ2 hI
   | bk ρ2 => exact ⟨_, rfl, hq⟩
   | rt d fr => exact ⟨_, rfl, hq⟩
theorem Qcf {fa fb : DE} {ρ : En} {ra rb : R} {m : Nat} {f : Nat -> Int} {i : Nat} (ha : fa ρ = some ra) (ea : ra.d = Qc m f) (hb : fb ρ = some rb) (eb : rb.d = .int i) (h : i < m) : Qf fa fb ρ = some ⟨.int (f i), true, []⟩ := by
 have := Qga ha ea hb eb (by omega) (by omega)
 rw [Zaz] at this
 exact this
def QlV (m : Nat) (S : List (Int × Int)) : Prop := ∀ A : Nat -> Prop, (∃ p, p < m /\ A p) -> ∃ s ∈ S, s.1 < m /\ A s.1.toNat /\ (s.2 = m ∨ ¬ A s.2.toNat)
theorem QmO {m : Nat} {W : List (Int × Int × Bool)} (h : Esc m W) : QlV m (Qs (Qbg W) (QbX W)) := λ A hA => by
 obtain ⟨w, hw, h1, h2, h3⟩ := h A hA
 refine ⟨(w.1, w.2.1), ?_, h1, h2, h3⟩
 unfold Qs
 cases e : w.2.2 with
 | true => exact Zc _ (ZQ.mpr ⟨w, Zai.mpr ⟨hw, e⟩, rfl⟩)
 | false =>
  have hr : QcZ w ∈ Qbg W := ZQ.mpr ⟨w, Zai.mpr ⟨hw, by simp [e]⟩, rfl⟩
  by_cases hlt : w.2.1 < w.1
  ·refine Zh _ (Zc _ (ZQ.mpr ⟨QcZ w, hr, ?_⟩))
   unfold QcZ
   rw [if_pos hlt, if_neg (by omega)]; rfl
  ·refine Zh _ (Zh _ ?_)
   have : QcZ w = (w.1, w.2.1) := by
    unfold QcZ
    rw [if_neg hlt]
    by_cases hgt : w.2.1 > w.1
    ·rw [if_pos hgt]
    ·rw [if_neg hgt]; rw [show w.2.1 = w.1 by omega]
   rw [← this]; exact hr
inductive Rk (m : Nat) (S : List (Int × Int)) : Nat -> Nat -> Prop where
 | pit {s : Int × Int} {n : Nat} : s ∈ S -> s.2 = m -> Rk m S (n + 1) s.1.toNat
 | step {s : Int × Int} {k n : Nat} : s ∈ S -> s.2 ≠ m -> Rk m S k s.2.toNat -> k < n -> Rk m S n s.1.toNat
theorem Qow {P : Nat -> Prop} (h : ∃ n, P n) : ∃ n, P n /\ ∀ k, k < n -> ¬ P k := by
 obtain ⟨n, hn⟩ := h
 induction n using Nat.strongRecOn with
 | _ n ih =>
  by_cases h : ∃ k, k < n /\ P k
  ·obtain ⟨k, hk, h⟩ := h; exact ih k hk h
  ·exact ⟨n, hn, λ k hk hx => h ⟨k, hk, hx⟩⟩
theorem QsJ {m : Nat} {S : List (Int × Int)} (he : QlV m S) : ∀ p, p < m -> ∃ n, Rk m S n p := λ p hp => by
 by_cases h : ∃ n, Rk m S n p
 ·exact h
 ·exfalso
  obtain ⟨s, hs, h1, h2, h3⟩ := he (λ p => ¬ ∃ n, Rk m S n p) ⟨p, hp, h⟩
  by_cases e : s.2 = m
  ·exact h2 ⟨1, .pit hs e⟩
  ·rcases h3 with h3 | h3
   ·exact e h3
   ·have : ∃ n, Rk m S n s.2.toNat := ZZ λ z => h3 z
    obtain ⟨k, hk⟩ := this
    exact h2 ⟨k + 1, .step hs e hk (by omega)⟩
theorem Qqx {m : Nat} {S : List (Int × Int)} (hg : ∀ s ∈ S, Good m s) (he : QlV m S) : ∃ r : Nat -> Nat, r m = 0 /\ ∀ p, p < m -> ∃ s ∈ S, s.1 = p /\ r s.2.toNat < r p := by
 have h : ∀ p, ∃ n, (p < m -> Rk m S n p /\ ∀ k, k < n -> ¬ Rk m S k p) /\ (p = m -> n = 0) := λ p => by
  by_cases hp : p < m
  ·obtain ⟨n, hn⟩ := Qow (QsJ he p hp)
   exact ⟨n, λ _ => hn, λ z => by omega⟩
  ·exact ⟨0, λ z => absurd z hp, λ _ => rfl⟩
 obtain ⟨r, hr⟩ := Classical.axiomOfChoice h
 refine ⟨r, (hr m).2 rfl, λ p hp => ?_⟩
 have h1 := ((hr p).1 hp).1
 generalize r p = n at h1
 cases h1 with
 | @pit s n hs e =>
  obtain ⟨g1, g2, g3, g4, g5⟩ := hg s hs
  exact ⟨s, hs, by omega, by rw [e, Zaz, (hr m).2 rfl]; omega⟩
 | @step s k n hs e hk hkn =>
  obtain ⟨g1, g2, g3, g4, g5⟩ := hg s hs
  refine ⟨s, hs, by omega, ?_⟩
  have hl : s.2.toNat < m := by omega
  have := ((hr s.2.toNat).1 hl).2 k
  have : ¬ k < r s.2.toNat := λ z => this z hk
  omega
theorem Qkn (r : Nat -> Nat) : ∀ m : Nat, ∃ N, ∀ p, p <= m -> r p <= N
 | 0 => ⟨r 0, λ p hp => by rw [show p = 0 by omega]; exact Zi _⟩
 | m + 1 => by
  obtain ⟨N, hN⟩ := Qkn r m
  refine ⟨N + r (m + 1), λ p hp => ?_⟩
  by_cases e : p = m + 1
  ·subst e; omega
  ·have := hN p (by omega); omega
theorem QnF {m : Nat} {i : Nat} {s : Int × Int} (hi : i < m) (g : Good m s) (w : Nat -> Int) (hw : w m = 0) : Ql m (λ j => hit i j s * w j) = if s.1 = i then w s.2.toNat - w i else 0 := by
 obtain ⟨g1, g2, g3, g4, g5⟩ := g
 by_cases h : s.1 = i
 ·rw [if_pos h]
  have e : Ql m (λ j => hit i j s * w j) = Ql m (λ j => (if j = s.2.toNat then 1 else 0) * w j + (if j = i then -1 else 0) * w j) := QD λ j _ => by
   have : hit i j s = (if j = s.2.toNat then 1 else 0) + (if j = i then -1 else 0) := by
    unfold hit
    by_cases a : s.2 = j
    ·by_cases b : i = j
     ·rw [if_pos ⟨h, a⟩, if_pos ⟨h, b⟩, if_pos (by omega), if_pos b.symm]; omega
     ·rw [if_pos ⟨h, a⟩, if_neg (λ z => b z.2), if_pos (by omega), if_neg (λ z => b z.symm)]; omega
    ·by_cases b : i = j
     ·rw [if_neg (λ z => a z.2), if_pos ⟨h, b⟩, if_neg (by omega), if_pos b.symm]; omega
     ·rw [if_neg (λ z => a z.2), if_neg (λ z => b z.2), if_neg (by omega), if_neg (λ z => b z.symm)]; omega
   rw [this, Zag]
  rw [e, Qci, QbS hi]
  by_cases hm : s.2.toNat < m
  ·rw [QbS hm]; omega
  ·have e2 : Ql m (λ j => (if j = s.2.toNat then 1 else 0) * w j) = 0 := by
    rw [QD (g := λ _ => 0) λ j hj => by rw [if_neg (by omega), ZU], QaN]
   rw [e2, show s.2.toNat = m by omega, hw]; omega
 ·rw [if_neg h]
  rw [QD (g := λ _ => 0) λ j hj => by
   unfold hit
   rw [if_neg (λ z => h z.1), if_neg (λ z => h z.1)]; rw [Int.sub_self, ZU], QaN]
theorem QgZ {α : Type} {g : α -> Int} {X : Int} : ∀ S : List α, (∀ s ∈ S, g s <= X) -> (S.map g).sum <= S.length * X
 | [], _ => by simp
 | a :: S, h => by
  have h1 := h a (by simp)
  have h2 := QgZ S λ s hs => h s (by simp [hs])
  simp only [ZA, Zam, ZD, Zbl, Zag]
  rw [show ((1 : Nat) : Int) * X = X by simp]
  omega
theorem Qhc {α : Type} {g : α -> Int} {X Y : Int} : ∀ (S : List α), (∀ s ∈ S, g s <= X) -> (∃ s ∈ S, g s <= Y) -> (S.map g).sum <= S.length * X - X + Y
 | [], _, h => by obtain ⟨s, hs, _⟩ := h; exact absurd hs (by simp)
 | a :: S, h, h2 => by
  obtain ⟨s, hs, hy⟩ := h2
  have hb : ∀ s ∈ S, g s <= X := λ s hs => h s (by simp [hs])
  simp only [ZA, Zam, ZD, Zbl, Zag]
  rw [show ((1 : Nat) : Int) * X = X by simp]
  rcases Zw.mp hs with e | hs
  ·subst e
   have := QgZ S hb
   omega
  ·have := Qhc S hb ⟨s, hs, hy⟩
   have := h a (by simp)
   omega
theorem Qhg {α : Type} {g : α -> Int} : ∀ S : List α, (∀ s ∈ S, 0 <= g s) -> 0 <= (S.map g).sum
 | [], _ => by simp
 | a :: S, h => by
  have h1 := h a (by simp)
  have h2 := Qhg S λ s hs => h s (by simp [hs])
  simp only [ZA, Zam]
  omega
theorem QoO {m : Nat} {S : List (Int × Int)} (hg : ∀ s ∈ S, Good m s) (he : QlV m S) (hl : S.length < 2 ^ 60) : TP m (Qu m S) := by
 have hn : ∀ s ∈ S, 0 <= s.1 /\ 0 <= s.2 := λ s hs => ⟨(hg s hs).1, (hg s hs).2.1⟩
 have pos : ∀ i j, i < m -> j < m -> i ≠ j -> 0 <= Qu m S i j := λ i j hi hj hij => by
  rw [QcE hi hj hn]
  refine Qhg S λ s _ => ?_
  unfold hit
  rw [if_neg (λ z => hij z.2) (c := s.1 = i /\ i = j)]
  split <;> omega
 obtain ⟨r, r0, hr⟩ := Qqx hg he
 obtain ⟨N, hN⟩ := Qkn r m
 have M1 : 1 <= S.length + 1 := by omega
 have wt : ∃ w : Nat -> Int, (∀ j, 0 <= w j) /\ ∀ i, i < m -> Ql m (λ j => Qu m S i j * w j) <= -1 := by
  refine ⟨λ v => (((S.length + 1) ^ N : Nat) : Int) - (((S.length + 1) ^ (N - r v) : Nat) : Int), λ j => ?_, λ i hi => ?_⟩
  ·have := ZaB M1 (Nat.sub_le N (r j))
   show (0 : Int) <= (((S.length + 1) ^ N : Nat) : Int) - (((S.length + 1) ^ (N - r j) : Nat) : Int)
   omega
  ·generalize hw : (λ v => (((S.length + 1) ^ N : Nat) : Int) - (((S.length + 1) ^ (N - r v) : Nat) : Int)) = w
   have hw' : ∀ v, w v = (((S.length + 1) ^ N : Nat) : Int) - (((S.length + 1) ^ (N - r v) : Nat) : Int) := λ v => by rw [← hw]
   have wm : w m = 0 := by rw [hw', r0, Zbp]; omega
   have e : Ql m (λ j => Qu m S i j * w j) = (S.map λ s => if s.1 = (i : Int) then w s.2.toNat - w i else 0).sum := by
    rw [QD (g := λ j => (S.map λ s => hit i j s * w j).sum) λ j hj => by
     rw [QcE hi hj hn, ZJ, Qk8]
     congr 1
     exact ZO λ s _ => ZJ _ _]
    rw [Qin m (λ j s => hit i j s * w j) S]
    congr 1
    exact ZO λ s hs => QnF hi (hg s hs) w wm
   rw [e]
   obtain ⟨s0, hs0, e0, hlt⟩ := hr i hi
   generalize hX : (((S.length + 1) ^ (N - r i) : Nat) : Int) = X
   have X1 : 1 <= X := by
    have : 0 < (S.length + 1) ^ (N - r i) := Nat.pow_pos (by omega)
    omega
   have key := Qhc (g := λ s : Int × Int => if s.1 = i then w s.2.toNat - w i else 0) (X := X) (Y := X - (S.length + 1) * X) S (λ s _ => by
    show (if s.1 = i then w s.2.toNat - w i else 0) <= X
    split
    ·rw [hw', hw' i, hX]
     have : 0 <= (((S.length + 1) ^ (N - r s.2.toNat) : Nat) : Int) := Int.natCast_nonneg _
     omega
    ·omega) ⟨s0, hs0, by
    show (if s0.1 = i then w s0.2.toNat - w i else 0) <= _
    rw [if_pos e0, hw', hw' i, hX]
    have hb := hN i (by omega)
    have h1 : (S.length + 1) ^ (N - r i + 1) <= (S.length + 1) ^ (N - r s0.2.toNat) := ZaB M1 (by omega)
    rw [Nat.pow_succ] at h1
    have h2 : ((((S.length + 1) ^ (N - r i) * (S.length + 1) : Nat)) : Int) <= (((S.length + 1) ^ (N - r s0.2.toNat) : Nat) : Int) := by exact_mod_cast h1
    rw [Int.natCast_mul, hX, ZJ] at h2
    rw [show ((S.length + 1 : Nat) : Int) = (S.length : Int) + 1 by omega] at h2
    omega⟩
   have : ((S.length : Int) + 1) * X = S.length * X + X := by rw [Zag, ZaO]
   omega
 refine ⟨λ p hp => ?_, pos, λ i j hi hj => ?_, wt⟩
 ·obtain ⟨w, w0, hw⟩ := wt
  have h1 := hw p hp
  by_cases hneg : Qu m S p p < 0
  ·exact hneg
  ·exfalso
   have : 0 <= Ql m (λ j => Qu m S p j * w j) := by
    have := QdD (m := m) (f := λ _ => 0) (g := λ j => Qu m S p j * w j) λ j hj => by
     by_cases e : p = j
     ·subst e; exact ZaE (by omega) (w0 _)
     ·exact ZaE (pos p j hp hj e) (w0 _)
    rw [QaN] at this
    exact this
   omega
 ·rw [QcE hi hj hn]
  have := Qes i j S
  omega
theorem Qc0.tp {m : Nat} {R L : List (Int × Int)} (h : Qc0 m R L) : TP m (Qu m (Qs R L)) := by
 have hg := h.good
 refine QoO (QcW hg.1 hg.2.1) ?_ ?_
 ·obtain ⟨W, h1, _, _, rfl, rfl⟩ := h.ex
  exact QmO h1
 ·unfold Qs
  simp only [Zl, Zj]
  omega
theorem Qc0.neg {m : Nat} {R L : List (Int × Int)} (h : Qc0 m R L) {i : Nat} (hi : i < m) : 0 - Qu m (Qs R L) i i = QlM R L i := by
 have hg := h.good
 have hs := QcW hg.1 hg.2.1
 rw [QcE hi hi (λ s z => ⟨(hs s z).1, (hs s z).2.1⟩), sum_neg _ _ (λ s z => (hs s z).2.2.2.2), Qm3]
 omega
structure Told (m : Nat) (T : Nat -> Nat -> Int) (f c : Nat -> Int) : Prop where
 leg : Leg m T f c
 pos : ∀ j, j < m -> 0 <= Qr m T f c j
 stb : Stb m T (Qr m T f c)
theorem Qlm {a : Int} {k : Nat} {ρ : En} (h1 : a.natAbs < 2 ^ 200) (h2 : k <= 1000) : dOp Qdu (dC (.int a)) (dC (.int k)) ρ = some ⟨.int (a ^ k), true, []⟩ := by
 refine Qa1 (ra := ⟨.int a, true, []⟩) (rb := ⟨.int k, true, []⟩) rfl rfl ?_
 show (if 0 <= (k : Int) /\ (k : Int) <= 1000 /\ a.natAbs < 2 ^ 200 then some (D.int (a ^ (k : Int).toNat)) else none) = _
 rw [if_pos ⟨by omega, by omega, h1⟩, Zaz]
theorem QfK {fa : DE} {ρ : En} {r : R} {m : Nat} {f : Nat -> Int} (h : fa ρ = some r) (e : r.d = Qc m f) : dBf Qae (Qb fa Qe) ρ = some ⟨.int m, true, []⟩ := by
 rw [Qdk h e]; simp
theorem Qnx {fs : DA} {ρ : En} {rs : RA} (h : fs ρ = some rs) (hl : rs.ds.length <= 64) : Qaw fs ρ = some ⟨.lst rs.ds, rs.fr, rs.M⟩ := by
 unfold Qaw
 rw [h, Za, if_pos hl]
theorem QfR (n m : Nat) (f : Nat -> Int) : (Qc m f).sim (n + 1) = true := by
 unfold Qc
 simp only [D.sim, List.all_map, Zar]
 intro p _
 cases n <;> rfl
theorem Qm5 {m n : Nat} {f g : Nat -> Nat -> Int} (h : ∀ i, i < m -> ∀ j, j < n -> f i j = g i j) : Qi m n f = Qi m n g := by
 unfold Qi Qc
 congr 1
 refine ZO λ i hi => ?_
 congr 1
 refine ZO λ j hj => ?_
 rw [h i (Zz.mp hi) j (Zz.mp hj)]
theorem QfT {fa fb : DE} {ρ : En} {ra rb : R} {m n : Nat} {f : Nat -> Nat -> Int} {i : Int} (ha : fa ρ = some ra) (ea : ra.d = Qi m n f) (hb : fb ρ = some rb) (eb : rb.d = .int i) (h0 : 0 <= i) (h : i < m) : Qf fa fb ρ = some ⟨Qc n (f i.toNat), ra.fr, ra.M⟩ := by
 unfold Qf
 rw [ha, Za, hb, Za, ea, eb]
 simp only [Qi, D.items, Za, QhW h0 h, ZX]
 rfl
theorem Qjb {x m n : Nat} {f : Nat -> Nat -> Int} {fp fi fa : DE} {ρ : En} {i j v : Int} {rp ri ra : R} {Q : Out -> Prop} (hx : ρ[x]? = some (some (Qi m n f, true))) (hp : fp ρ = some rp) (ep : rp.d = .int i) (hi : fi ρ = some ri) (ei : ri.d = .int j) (ha : fa ρ = some ra) (ea : ra.d = .int v)
  (h0 : 0 <= i) (h : i < m) (k0 : 0 <= j) (k : j < n) (q : Q (.nx (ρ.set x (some (Qi m n (up2 f i.toNat j.toNat v), true))))) : Run (QaV x (Qca Q1 fp) fi fa) ρ Q := by
 refine ⟨_, ?_, q⟩
 have hn : ra.norm = ⟨.int v, true, []⟩ := by unfold HS.R.norm; rw [ea]; rfl
 have hd : QaC (Qi m n f) [i] = some (Qc n (f i.toNat)) := by
  simp only [QaC, Qi, D.items, Za, QhW h0 h]
 have hu : Qah [i] (Qi m n f) (.lst (((List.range n).map λ k => D.int (f i.toNat k)).set j.toNat (.int v))) = Qi m n (up2 f i.toNat j.toNat v) := by
  simp only [Qah, Qi, Zj, Zx, QcM h0 h, Qf7]
  rw [Qdw]
  congr 2; funext k
  unfold up2
  split
  ·rename_i e; subst e; rfl
  ·rfl
 unfold QaV
 rw [ha, Za, hx]
 simp only [Qca, Q1, Za, hp, ep, ZaS, hi, ei, hd, Qc, Zj, Zx, QcM k0 k, hn, ea]
 simp only [kill, List.contains_nil, Bool.not_false, ZbQ, decide_true, Zac, if_true]
 rw [hu]
noncomputable def QeM : DS := (Qd (Qq 1 (QL (Qf (Qa 0) (dC (.int 0))) (dC (.int 1)))) (Qd (Qq 2 (QK (QaJ (Qa 1)) (.nm 1) [none, none, some 1] QX (Qab (Qaw (Qb (dC (.int 0)) Qe)) (Qa 2)))) (Qd (Qq 5 (QL (Qf (Qa 0) (dC (.int 1))) (QK (Q2 (Qf (Qa 0) (dC (.int 1)))) (.tp [1, 2]) [none, none, none] QX (QaK (Qb (Qa 2) (Qb (Qa 1) Qe)))))) (Qd (Qbh (Q2 (QL (Qa 5) (Qf (Qa 0) (dC (.int 2))))) (.tp [3, 4]) (Qd (QaV 2 (Qca Q1 (Qa 3)) (Qa 3) (dOp Qb7 (Qf (Qf (Qa 2) (Qa 3)) (Qa 3)) (dC (.int 1)))) (Qd (QaV 2 (Qca Q1 (Qa 3)) (Qa 4) (QL (Qf (Qf (Qa 2) (Qa 3)) (Qa 4)) (dC (.int 1)))) Qk))) (Qd (QR (QK (Q2 (Qar (Qa 2) Qat (QY (Qf (Qa 0) (dC (.int 0)))))) (.nm 1) [none, none, some 0] QX (Qar (Qa 1) Qat (QY (Qf (Qa 2) (dC (.int 0))))))) Qk)))))
theorem Qnh {m n k : Nat} {f : Nat -> Nat -> Int} (h : n <= m) : cutD ((List.range m).map λ i => Qc k (f i)) none (some (n : Int)) = (List.range n).map λ i => Qc k (f i) := by
 unfold cutD
 simp only [Zj, Zx, HT.Qdd, HT.Qc7, ZaX, Zbp, Zaj h]
 rw [← ZaH, List.take_range, Zaj h]
def TabsOk (d : Den) : Prop := ∀ (m : Nat) (R L : List (Int × Int)), 0 < m -> m <= 1000 -> R.length + R.length + L.length <= 1000000 -> (∀ s ∈ R, Good m s) -> (∀ s ∈ L, Good m s) -> d [QE m R L] = some (Qi m m (Qu m (Qs R L)), true)
theorem QqP : TabsOk (Qp 6 QeM) := λ m R L m0 hm hl hR hL => by
 have gS := QcW hR hL
 have it : ∀ {ρ : En}, ρ[0]? = some (some (QE m R L, false)) -> Qa 0 ρ = some ⟨QE m R L, false, []⟩ := λ h => Qam h
 have fin : Qi m m (Qu (m + 1) (Qs R L)) = Qi m m (Qu m (Qs R L)) := Qm5 λ i hi j hj => by
  rw [QcE (m := m + 1) (by omega) (by omega) λ s hs => ⟨(gS s hs).1, (gS s hs).2.1⟩, QcE hi hj λ s hs => ⟨(gS s hs).1, (gS s hs).2.1⟩]
 rw [← fin]
 refine Q8 ?_
 refine run_seq (Qh (Q0 (a := (m : Int)) (b := 1) (Qco (it rfl) rfl).1 rfl rfl rfl) ?_)
 rw [Qo]
 refine run_seq (Qh (QT (out := λ _ => Qc (m + 1) λ _ => 0) (List.range (m + 1)) (Qbd (n := m + 1) (r := ⟨.int (m + 1 : Nat), true, []⟩) rfl rfl (by omega)) rfl λ x _ => ⟨[none, some (.int x, true), some (.int (m + 1 : Nat), true)], rfl, _, QjP (n := m + 1) (r := ⟨.int (m + 1 : Nat), true, []⟩) rfl rfl (by omega), rfl, rfl⟩) ?_)
 rw [Qo]
 refine run_seq (Qh (QfM (A := R) (B := R.map Prod.swap) (rb := ⟨QU (R.map Prod.swap), true, []⟩) (Qco (it rfl) rfl).2.1 rfl ?_ rfl (by simp; omega)) ?_)
 ·have e1 : (R.map λ x => pairD x.swap) = (R.map Prod.swap).map pairD := by simp [Zad, Function.comp_def]
  unfold QU
  rw [← e1]
  exact QT (toD := pairD) (out := λ x => pairD x.swap) R (Q7 (Qco (it rfl) rfl).2.1 rfl) rfl λ x _ => ⟨[none, some (.int x.1, true), some (.int x.2, true)], rfl, ⟨pairD x.swap, true, []⟩, rfl, rfl, rfl⟩
 rw [Qo]
 refine Qaa (P := λ ρ => ∃ j3 j4, ρ = [some (QE m R L, false), some (.int (m + 1 : Nat), true), some (Qi (m + 1) (m + 1) (Qu (m + 1) (Qs R L)), true), j3, j4, some (QU (R ++ R.map Prod.swap), true)]) ?_ ?_
 ·refine QaH (toD := pairD) (Qs R L) (λ i ρ => ∃ j3 j4, ρ = [some (QE m R L, false), some (.int (m + 1 : Nat), true), some (Qi (m + 1) (m + 1) (Qu (m + 1) ((Qs R L).take i)), true), j3, j4, some (QU (R ++ R.map Prod.swap), true)]) (ir := ⟨(Qs R L).map pairD, []⟩) ?_ rfl ⟨none, none, rfl⟩ ?_ ?_
  ·exact Q7 (QfM (A := R ++ R.map Prod.swap) (B := L) (ra := ⟨QU (R ++ R.map Prod.swap), true, [5]⟩) rfl rfl (Qco (it rfl) rfl).2.2 rfl (by simp; omega)) rfl
  ·rintro i s ρ hi ⟨j3, j4, rfl⟩
   obtain ⟨s1, s2, s3, s4, s5⟩ := gS s (ZG hi)
   have c1 : s.1 < ((m + 1 : Nat) : Int) := by omega
   have c2 : s.2 < ((m + 1 : Nat) : Int) := by omega
   refine ⟨_, rfl, ?_⟩
   have step : Qu (m + 1) ((Qs R L).take (i + 1)) = stepT (m + 1) (Qu (m + 1) ((Qs R L).take i)) s := by
    unfold Qu
    rw [List.take_add_one, hi, List.foldl_append]; rfl
   have e1 : ∀ {ρ : En} {f : Nat -> Nat -> Int} (y : Nat) (k : Int), ρ[2]? = some (some (Qi (m + 1) (m + 1) f, true)) -> ρ[3]? = some (some (.int s.1, true)) -> ρ[y]? = some (some (.int k, true)) -> 0 <= k -> k < ((m + 1 : Nat) : Int) -> Qf (Qf (Qa 2) (Qa 3)) (Qa y) ρ = some ⟨.int (f s.1.toNat k.toNat), true, []⟩ := λ {ρ f} y k h2 h3 hy k0 kl =>
    Qga (QfT (Qam h2) rfl (Qj1 h3) rfl s1 c1) rfl (Qj1 hy) rfl k0 kl
   refine run_seq (Qjb (i := s.1) (j := s.1) (m := m + 1) (n := m + 1) rfl rfl rfl rfl rfl (Qa1 (e1 3 s.1 rfl rfl rfl s1 c1) rfl rfl) rfl s1 c1 s1 c1 ?_)
   refine run_seq (Qjb (i := s.1) (j := s.2) (m := m + 1) (n := m + 1) rfl rfl rfl rfl rfl (Q0 (e1 4 s.2 rfl rfl rfl s2 c2) rfl (Qaq (.int 1) _) rfl) rfl s1 c1 s2 c2 (Qm ⟨some (.int s.1, true), some (.int s.2, true), ?_⟩))
   rw [step]
   unfold stepT
   rw [if_pos ⟨c1, c2⟩, if_pos c1]
   rfl
  ·rintro ρ ⟨j3, j4, rfl⟩
   rw [ZbE]
   exact ⟨j3, j4, rfl⟩
 rintro ρ ⟨j3, j4, rfl⟩
 refine QJ (QT (toD := λ (i : Nat) => Qc (m + 1) (Qu (m + 1) (Qs R L) i)) (out := λ (i : Nat) => Qc m (Qu (m + 1) (Qs R L) i)) (ir := ⟨(List.range m).map λ i => Qc (m + 1) (Qu (m + 1) (Qs R L) i), [2]⟩) (List.range m) ?_ rfl λ i hi => ⟨[none, some (Qc (m + 1) (Qu (m + 1) (Qs R L) i), false), some (QE m R L, false)], rfl, _, Qk2 (m := m + 1) (n := m) (ra := ⟨Qc (m + 1) (Qu (m + 1) (Qs R L) i), false, []⟩) rfl rfl (Qco (r := ⟨QE m R L, false, []⟩) rfl rfl).1 rfl (by omega), rfl, rfl⟩) ⟨rfl, rfl⟩
 refine Q7 (r := ⟨.lst ((List.range m).map λ i => Qc (m + 1) (Qu (m + 1) (Qs R L) i)), false, [2]⟩) ?_ rfl
 unfold Qar Qat QY
 rw [Qam (d := Qi (m + 1) (m + 1) (Qu (m + 1) (Qs R L))) (b := true) rfl, (Qco (it rfl) rfl).1]
 show some (Qal (cutD ((List.range (m + 1)).map λ i => Qc (m + 1) (Qu (m + 1) (Qs R L) i)) none (some (m : Int))) [2]) = _
 rw [Qnh (by omega)]
 unfold Qal
 have : QI ((List.range m).map λ i => Qc (m + 1) (Qu (m + 1) (Qs R L) i)) = false := by
  cases m with
  | zero => omega
  | succ m => rw [ZaY]; rfl
 rw [this]; rfl
theorem QoI {x : Nat} {pf : DP} {is : List Int} {fa : DE} {ρ : En} {d0 d : D} {xs : List D} {Q : Out -> Prop} (hx : ρ[x]? = some (some (d0, true))) (hp : pf ρ = some is) (hd : QaC d0 is = some (.lst xs)) (ha : fa ρ = some ⟨d, true, []⟩) (hl : xs.length < 16777216) (q : Q (.nx (ρ.set x (some (Qah is d0 (.lst (xs ++ [d])), true))))) : Run (Qdo x pf fa) ρ Q := by
 refine ⟨_, ?_, q⟩
 unfold Qdo
 rw [hx]
 simp only [hp, Za, ha, hd, Qhi, QoW, kill, Qd5]
 simp [hl]
noncomputable def Qlw (l : List Nat) : D := .lst (l.map λ (p : Nat) => .int (p : Int))
theorem Qm6 (l : List Nat) : Qlw l = .lst ((l.map λ (p : Nat) => (p : Int)).map D.int) := by unfold Qlw; rw [Zad]; rfl
noncomputable def Qlx : Option Int -> D
 | none => .non
 | some i => .int i
@[simp] theorem QnN (o : Option Int) : (Qlx o).flat = true := by cases o <;> rfl
noncomputable def Qt4 (m : Nat) (F : Nat -> Option Int) : D := .lst ((List.range m).map λ i => Qlx (F i))
@[simp] theorem Qt1 (m : Nat) (F : Nat -> Option Int) : (Qt4 m F).flat = false := rfl
@[simp] theorem QtE (m : Nat) (F : Nat -> Option Int) : QI ((List.range m).map λ i => Qlx (F i)) = true := Qcj (f := λ i => Qlx (F i)) (λ _ => QnN _) _
theorem QmJ {fa fb : DE} {ρ : En} {ra rb : R} {i j : Int} {n : Nat} (ha : fa ρ = some ra) (ea : ra.d = .int i) (hb : fb ρ = some rb) (eb : rb.d = .int j) (hn : (n : Int) = j - i) (hl : n <= 16777216) (h1 : -(2 ^ 62) <= i) (h2 : i < 2 ^ 61) : QdF fa fb ρ = some ⟨(List.range n).map λ (k : Nat) => .int (i + k), []⟩ := by
 unfold QdF
 rw [ha, Za, hb, Za, ea, eb]
 show (if j - i <= 16777216 /\ _ then _ else _) = _
 rw [if_pos ⟨by omega, by omega, by omega, by omega, by omega⟩]
 rw [show (j - i).toNat = n by omega]
 rfl
theorem Leg.mono {m : Nat} {T : Nat -> Nat -> Int} {f g c : Nat -> Int} (h : Leg m T f c) (e : ∀ i, i < m -> f i <= g i) : Leg m T g c := by
 induction h with
 | nil => exact .nil
 | @step c p t _ hp ht hle ih =>
  refine .step ih hp ht ?_
  have := e p hp
  unfold Qr at hle ⊢
  omega
theorem QgT {m : Nat} {T : Nat -> Nat -> Int} {f c d : Nat -> Int} (j : Nat) : Qr m T (Qr m T f c) d j = Qr m T f (λ i => c i + d i) j := by
 unfold Qr
 have e : (λ i => (c i + d i) * T i j) = λ i => c i * T i j + d i * T i j := by funext i; rw [Zag]
 rw [e, Qci]
 show f j + Ql m (λ i => c i * T i j) + _ = _
 omega
theorem Qqs {m : Nat} {T : Nat -> Nat -> Int} {f g c d : Nat -> Int} (j : Nat) : Qr m T (λ i => f i + g i) (λ i => c i + d i) j = Qr m T f c j + Qr m T g d j := by
 unfold Qr
 have e : (λ i => (c i + d i) * T i j) = λ i => c i * T i j + d i * T i j := by funext i; rw [Zag]
 rw [e, Qci]
 show f j + g j + _ = _
 omega
theorem Leg.trans {m : Nat} {T : Nat -> Nat -> Int} {f c d : Nat -> Int} (h : Leg m T f c) (h2 : Leg m T (Qr m T f c) d) : Leg m T f (λ i => c i + d i) := by
 induction h2 with
 | nil => exact h.cast λ i => by simp
 | @step d p t _ hp ht hle ih =>
  rw [QgT] at hle
  refine (Leg.step ih hp ht hle).cast λ i => ?_
  unfold up
  split
  ·rename_i e; subst e; show c i + d i + t = c i + (d i + t); omega
  ·rfl
theorem Told.lay {m : Nat} {T : Nat -> Nat -> Int} {F C F' h c : Nat -> Int} (hC : Told m T F C) (hF : ∀ j, j < m -> F j <= F' j) (hh : ∀ j, j < m -> h j = Qr m T F C j + (F' j - F j)) (hc : Told m T h c) : Told m T F' (λ i => C i + c i) /\ ∀ j, j < m -> Qr m T h c j = Qr m T F' (λ i => C i + c i) j := by
 have e1 : ∀ j, j < m -> h j = Qr m T F' C j := λ j hj => by
  rw [hh j hj]
  unfold Qr
  omega
 have e2 : ∀ j, j < m -> Qr m T h c j = Qr m T F' (λ i => C i + c i) j := λ j hj => by
  rw [← QgT]
  exact QcP j (e1 j hj) λ _ _ => rfl
 exact ⟨⟨(hC.leg.mono hF).trans (hc.leg.Qpp e1), λ j hj => by rw [← e2 j hj]; exact hc.pos j hj, λ j hj => by rw [← e2 j hj]; exact hc.stb j hj⟩, e2⟩
theorem Told.both {m : Nat} {T : Nat -> Nat -> Int} {f g c d e : Nat -> Int} (hf : Told m T f c) (hg : Told m T g d) (g0 : ∀ j, j < m -> 0 <= g j) (he : Told m T (λ j => Qr m T f c j + Qr m T g d j) e) : Told m T (λ j => f j + g j) (λ i => c i + d i + e i) /\ ∀ j, j < m -> Qr m T (λ j => Qr m T f c j + Qr m T g d j) e j = Qr m T (λ j => f j + g j) (λ i => c i + d i + e i) j := by
 have l1 : Leg m T (λ j => f j + g j) c := hf.leg.mono λ j hj => by have := g0 j hj; show f j <= f j + g j; omega
 have a1 : ∀ j, Qr m T (λ j => f j + g j) c j = Qr m T f c j + g j := λ j => by unfold Qr; show f j + g j + _ = _; omega
 have l2 : Leg m T (Qr m T (λ j => f j + g j) c) d := hg.leg.mono λ j hj => by rw [a1]; have := hf.pos j hj; omega
 have l3 : Leg m T (λ j => f j + g j) (λ i => c i + d i) := l1.trans l2
 have a3 : ∀ j, j < m -> Qr m T f c j + Qr m T g d j = Qr m T (λ j => f j + g j) (λ i => c i + d i) j := λ j _ => (Qqs j).symm
 have e2 : ∀ j, j < m -> Qr m T (λ j => Qr m T f c j + Qr m T g d j) e j = Qr m T (λ j => f j + g j) (λ i => c i + d i + e i) j := λ j hj => by
  rw [← QgT (c := λ i => c i + d i) (d := e)]
  exact QcP j (a3 j hj) λ _ _ => rfl
 exact ⟨⟨l3.trans (he.leg.Qpp a3), λ j hj => by rw [← e2 j hj]; exact he.pos j hj, λ j hj => by rw [← e2 j hj]; exact he.stb j hj⟩, e2⟩
theorem Told.one {m : Nat} {T : Nat -> Nat -> Int} (tp : TP m T) {f c d : Nat -> Int} (h : Told m T f c) (g : Told m T f d) : ∀ i, i < m -> c i = d i := h.leg.unique tp g.leg h.stb g.stb
abbrev QsY (i : Int) : Prop := Builtin.Int.intBits i <= 2 ^ 20
noncomputable def Qjs : DS := (Qd (QR (QK (Q2 (Qa 0)) (.nm 1) [none, none, some 1] QX (Qf (Qa 1) (Qa 2)))) Qk)
def QeZ (d : Den) : Prop := ∀ (n m : Nat) (f : Nat -> Nat -> Int) (j : Nat), j < m -> d [Qi n m f, .int j] = some (Qc n (λ i => f i j), true)
theorem QmU : QeZ (Qp 2 Qjs) := λ n m f j hj =>
 Q8 (QJ (QT (toD := λ (i : Nat) => Qc m (f i)) (out := λ (i : Nat) => .int (f i j)) (List.range n) (Q7 (r := ⟨Qi n m f, false, []⟩) rfl rfl) rfl λ i _ => ⟨_, rfl, ⟨.int (f i j), true, []⟩, Qcf (m := m) (f := f i) (i := j) (ra := ⟨Qc m (f i), false, []⟩) (rb := ⟨.int j, true, []⟩) rfl rfl rfl rfl hj, rfl, rfl⟩) ⟨rfl, rfl⟩)
noncomputable def Qjj (QbE : Den) : DS := (Qd (QR (QK (QaJ (dBf Qae (Qb (Qa 0) Qe))) (.nm 1) [none, none, some 0] QX (Qw 2 QbE [] (Qb (Qa 2) (Qb (Qa 1) Qe))))) Qk)
theorem QeG {fa : DE} {ρ : En} {r : R} {n m : Nat} {f : Nat -> Nat -> Int} (h : fa ρ = some r) (e : r.d = Qi n m f) : dBf Qae (Qb fa Qe) ρ = some ⟨.int n, true, []⟩ := by
 rw [Qdk h e]; simp
def Qe2 (d : Den) : Prop := ∀ (n : Nat) (f : Nat -> Nat -> Int), n <= 1000 -> d [Qi n n f] = some (Qi n n (λ j i => f i j), true)
theorem Qnj {dc : Den} (hc : QeZ dc) : Qe2 (Qp 1 (Qjj dc)) := λ n f hn =>
 Q8 (QJ (QT (toD := λ (k : Nat) => .int (k : Int)) (out := λ (j : Nat) => Qc n (λ i => f i j)) (List.range n) (Qbd (n := n) (QeG (n := n) (m := n) (f := f) (r := ⟨Qi n n f, false, []⟩) rfl rfl) rfl (by omega)) rfl λ j hj => ⟨[none, some (.int j, true), some (Qi n n f, false)], rfl, ⟨Qc n (λ i => f i j), true, []⟩, Qy (r := ⟨[Qi n n f, .int j], false, []⟩) rfl (hc n n f j (Zz.mp hj)) rfl, rfl, rfl⟩) ⟨rfl, rfl⟩)
noncomputable def Qd3 (Qap : Den) : DS := (Qd (sIf (bOr (Qb5 (Qz (Qfw "list" (Qa 0)))) (Qz (dOp gNe (dBf Qae (Qb (Qa 0) Qe)) (Qa 1)))) (Qd (QR (dC (.bl false))) Qk) Qk) (Qd (QR (dOp gEq (dBf Qae (Qb (QK (Q2 (Qa 0)) (.nm 1) [none, none] (Qz (Qw 1 Qap [] (Qb (Qa 1) Qe))) (Qa 1)) Qe)) (Qa 1))) Qk))
def Qi2 (d : Den) : Prop := ∀ (n : Nat) (a : Nat -> Int), d [Qc n a, .int n] = some (.bl true, true)
theorem QpM {dw : Den} (hw : Qf2 dw) : Qi2 (Qp 2 (Qd3 dw)) := λ n a => by
 refine Q8 ?_
 refine QG (QQ (b := false) (Qa6 (a := false) (b := false) (Qa7 (b := true) (Qv (b := true) rfl rfl)) (Qv (b := false) (r := ⟨.bl false, true, []⟩) ((Qcg (a := n) (b := n) (QfK (m := n) (f := a) (r := ⟨Qc n a, false, []⟩) rfl rfl) rfl (rb := ⟨.int n, true, []⟩) rfl rfl).trans (by simp)) rfl)) (λ h => by cases h) (λ _ => Qm ?_))
 have ec := QdE (fi := Q2 (Qa 0)) (t := .nm 1) (cap := [none, none]) (ft := Qz (Qw 1 dw [] (Qb (Qa 1) Qe))) (fe := Qa 1) (ρ := [some (Qc n a, false), some (.int n, true)]) (toD := λ (i : Nat) => .int (a i)) (keep := λ _ => true) (out := λ (i : Nat) => .int (a i)) (List.range n) (Q7 (r := ⟨Qc n a, false, []⟩) rfl rfl) rfl λ i _ => ⟨[none, some (.int (a i), true)], rfl, Qv (b := true) (Qy (r := ⟨[.int (a i)], true, []⟩) rfl (hw (a i)) rfl) rfl, λ _ => ⟨⟨.int (a i), true, []⟩, rfl, rfl, rfl⟩⟩
 have el := Qdk ec rfl
 rw [Zj, List.filter_eq_self.mpr λ _ _ => rfl, Zx] at el
 exact QJ (r := ⟨.bl true, true, []⟩) ((Qav (a := n) (b := n) el rfl (rb := ⟨.int n, true, []⟩) rfl rfl).trans (by simp)) ⟨rfl, rfl⟩
noncomputable def sm : Nat -> (Nat -> Int) -> Int
 | 0, _ => 0
 | n + 1, f => sm n f + f n
theorem Qbb {f g : Nat -> Int} : ∀ {n : Nat}, (∀ i, i < n -> f i = g i) -> sm n f = sm n g
 | 0, _ => rfl
 | n + 1, h => by unfold sm; rw [Qbb λ i hi => h i (by omega), h n (by omega)]
theorem Qhv (x y : Int) (f g : Nat -> Int) : ∀ n, sm n (λ i => x * f i + y * g i) = x * sm n f + y * sm n g
 | 0 => by simp [sm]
 | n + 1 => by
  unfold sm
  rw [Qhv x y f g n, Zbi, Zbi]
  show _ + (x * f n + y * g n) = _
  omega
theorem QhP {f : Nat -> Int} : ∀ {n : Nat}, (∀ i, i < n -> f i = 0) -> sm n f = 0
 | 0, _ => rfl
 | n + 1, h => by unfold sm; rw [QhP λ i hi => h i (by omega), h n (by omega)]; rfl
theorem QeE {f : Nat -> Int} {c : Nat} : ∀ {n : Nat}, c < n -> (∀ i, i < n -> i ≠ c -> f i = 0) -> sm n f = f c
 | 0, hc, _ => by omega
 | n + 1, hc, h => by
  unfold sm
  by_cases e : c = n
  ·rw [QhP λ i hi => h i (by omega) (by omega), e]; omega
  ·rw [QeE (c := c) (by omega) λ i hi => h i (by omega), h n (by omega) (Ne.symm e)]; omega
theorem Qhf {f : Nat -> Int} {c d : Nat} : ∀ {n : Nat}, c < d -> d < n -> (∀ i, i < n -> i ≠ c -> i ≠ d -> f i = 0) -> sm n f = f c + f d
 | 0, _, hc, _ => by omega
 | n + 1, hcd, hd, h => by
  unfold sm
  by_cases e : d = n
  ·rw [QeE (c := c) (by omega) λ i hi ne => h i (by omega) ne (by omega), e]
  ·rw [Qhf (c := c) (d := d) hcd (by omega) λ i hi => h i (by omega), h n (by omega) (by omega) (by omega)]; omega
theorem Qlc (x : Int) (f : Nat -> Int) : ∀ n, sm n (λ i => f i * x) = sm n f * x
 | 0 => by simp [sm]
 | n + 1 => by unfold sm; rw [Qlc x f n, Zag]
noncomputable def skp (j c : Nat) : Nat := if c < j then c else c + 1
noncomputable def sgn (j : Nat) : Int := if j % 2 = 0 then 1 else -1
theorem QgI (j : Nat) : sgn (j + 1) = - sgn j := by
 unfold sgn
 by_cases h : j % 2 = 0
 ·rw [if_pos h, if_neg (by omega)]
 ·rw [if_neg h, if_pos (by omega)]; rfl
noncomputable def det : Nat -> (Nat -> Nat -> Int) -> Int
 | 0, _ => 1
 | n + 1, m => sm (n + 1) λ j => sgn j * m j 0 * det n λ c r => m (skp j c) (r + 1)
noncomputable def cup (m : Nat -> Nat -> Int) (c : Nat) (a : Nat -> Int) : Nat -> Nat -> Int := λ j => if j = c then a else m j
theorem QZ (m : Nat -> Nat -> Int) (c : Nat) (a : Nat -> Int) : cup m c a c = a := by unfold cup; rw [if_pos rfl]
theorem QN (m : Nat -> Nat -> Int) {c j : Nat} (a : Nat -> Int) (h : j ≠ c) : cup m c a j = m j := by unfold cup; rw [if_neg h]
theorem Qax (m : Nat -> Nat -> Int) (c : Nat) : cup m c (m c) = m := by
 funext j
 by_cases h : j = c
 ·rw [h, QZ]
 ·rw [QN _ _ h]
theorem QhR (m : Nat -> Nat -> Int) (c : Nat) (a b : Nat -> Int) : cup (cup m c a) c b = cup m c b := by
 funext j
 by_cases h : j = c
 ·rw [h, QZ, QZ]
 ·rw [QN _ _ h, QN _ _ h, QN _ _ h]
theorem Qai (m : Nat -> Nat -> Int) {c d : Nat} (a b : Nat -> Int) (h : c ≠ d) : cup (cup m c a) d b = cup (cup m d b) c a := by
 funext j
 by_cases h1 : j = c
 ·subst h1; rw [QN _ _ h, QZ, QZ]
 ·by_cases h2 : j = d
  ·subst h2; rw [QZ, QN _ _ h1, QZ]
  ·rw [QN _ _ h2, QN _ _ h1, QN _ _ h1, QN _ _ h2]
theorem Qeg : ∀ {n : Nat} {m k : Nat -> Nat -> Int}, (∀ j, j < n -> ∀ r, r < n -> m j r = k j r) -> det n m = det n k
 | 0, _, _, _ => rfl
 | n + 1, m, k, h => by
  unfold det
  refine Qbb λ j hj => ?_
  rw [h j hj 0 (by omega), Qeg (n := n) (m := λ c r => m (skp j c) (r + 1)) (k := λ c r => k (skp j c) (r + 1)) λ c hc r hr => h _ (by unfold skp; split <;> omega) _ (by omega)]
theorem Qfm (m : Nat -> Nat -> Int) (c : Nat) (v : Nat -> Int) : (λ c' r => cup m c v (skp c c') (r + 1)) = λ c' r => m (skp c c') (r + 1) := by
 funext c' r
 rw [QN _ _ (by unfold skp; split <;> omega)]
theorem Qe6 (m : Nat -> Nat -> Int) {c j : Nat} (v : Nat -> Int) (h : c ≠ j) : (λ c' r => cup m c v (skp j c') (r + 1)) = cup (λ c' r => m (skp j c') (r + 1)) (if c < j then c else c - 1) (λ r => v (r + 1)) := by
 funext c' r
 by_cases e : c' = if c < j then c else c - 1
 ·rw [e, QZ]
  have : skp j (if c < j then c else c - 1) = c := by
   unfold skp
   by_cases q : c < j
   ·rw [if_pos q, if_pos q]
   ·rw [if_neg q, if_neg (by omega)]; omega
  rw [this, QZ]
 ·rw [QN _ _ e, QN]
  intro z
  refine e ?_
  unfold skp at z
  by_cases q : c' < j
  ·rw [if_pos q] at z; rw [if_pos (by omega)]; omega
  ·rw [if_neg q] at z; rw [if_neg (by omega)]; omega
theorem Qh4 (x y : Int) (a b : Nat -> Int) : ∀ (n : Nat) (m : Nat -> Nat -> Int) (c : Nat), c < n -> ∀ (a b : Nat -> Int), det n (cup m c λ r => x * a r + y * b r) = x * det n (cup m c a) + y * det n (cup m c b)
 | 0, _, _, h, _, _ => by omega
 | n + 1, m, c, h, a, b => by
  unfold det
  rw [← Qhv]
  refine Qbb λ j hj => ?_
  by_cases e : j = c
  ·subst e
   rw [Qfm, Qfm, Qfm, QZ, QZ, QZ]
   generalize det n _ = q
   generalize sgn j = s
   simp only [Zbi, Zag, ZK, Zbu]
  ·rw [Qe6 m _ (Ne.symm e), Qe6 m _ (Ne.symm e), Qe6 m _ (Ne.symm e), QN _ _ e, QN _ _ e, QN _ _ e]
   rw [Qh4 x y a b n _ _ (by split <;> omega)]
   generalize det n _ = q
   generalize det n _ = q'
   generalize sgn j * m j 0 = s
   simp only [Zbi, Zbu]
theorem Qf1 {n : Nat} {m : Nat -> Nat -> Int} {c : Nat} (h : c < n) (a b : Nat -> Int) : det n (cup m c λ r => a r + b r) = det n (cup m c a) + det n (cup m c b) := by
 have := Qh4 1 1 a b n m c h a b
 simpa only [ZaO] using this
theorem QfX {n : Nat} {m : Nat -> Nat -> Int} {c : Nat} (h : c < n) (x : Int) (a : Nat -> Int) : det n (cup m c λ r => x * a r) = x * det n (cup m c a) := by
 have := Qh4 x 0 a a n m c h a a
 simpa only [ZU, Zbq] using this
theorem QfI : ∀ (n : Nat) (m : Nat -> Nat -> Int) (c : Nat), c + 1 < n -> m c = m (c + 1) -> det n m = 0
 | 0, _, _, h, _ => by omega
 | n + 1, m, c, h, e => by
  unfold det
  rw [Qhf (c := c) (d := c + 1) (by omega) h]
  ·have : (λ c' r => m (skp c c') (r + 1)) = λ c' r => m (skp (c + 1) c') (r + 1) := by
    funext c' r
    unfold skp
    by_cases q : c' < c
    ·rw [if_pos q, if_pos (by omega)]
    ·rw [if_neg q]
     by_cases q2 : c' = c
     ·rw [if_pos (by omega), q2, e]
     ·rw [if_neg (by omega)]
   rw [this, QgI, e]
   generalize det n _ = q
   rw [ZaF, ZaF]; omega
  ·intro j hj h1 h2
   have : det n (λ c' r => m (skp j c') (r + 1)) = 0 := by
    by_cases q : c < j
    ·refine QfI n _ c (by omega) ?_
     funext r
     show m (skp j c) (r + 1) = m (skp j (c + 1)) (r + 1)
     unfold skp
     rw [if_pos q, if_pos (by omega), e]
    ·refine QfI n _ (c - 1) (by omega) ?_
     funext r
     show m (skp j (c - 1)) (r + 1) = m (skp j (c - 1 + 1)) (r + 1)
     unfold skp
     rw [if_neg (by omega), if_neg (by omega), show c - 1 + 1 = c by omega, e]
   rw [this, ZV]
theorem Qgf {n : Nat} {m : Nat -> Nat -> Int} {c d : Nat} (hc : c < n) (hd : d < n) (hcd : c ≠ d) (hz : ∀ k : Nat -> Nat -> Int, k c = k d -> det n k = 0) (a b : Nat -> Int) : det n (cup (cup m c a) d b) = - det n (cup (cup m c b) d a) := by
 have z := hz (cup (cup m c λ r => a r + b r) d λ r => a r + b r) (by rw [QZ, QN _ _ hcd, QZ])
 have za := hz (cup (cup m c a) d a) (by rw [QZ, QN _ _ hcd, QZ])
 have zb := hz (cup (cup m c b) d b) (by rw [QZ, QN _ _ hcd, QZ])
 rw [Qf1 hd, Qai _ _ _ hcd, Qf1 hc, Qai _ _ _ hcd, Qf1 hc, Qai _ _ _ (Ne.symm hcd), Qai _ _ _ (Ne.symm hcd), Qai _ _ _ (Ne.symm hcd), Qai _ _ _ (Ne.symm hcd), za, zb] at z
 omega
theorem Qh7 : ∀ (g n : Nat) (m : Nat -> Nat -> Int) (i : Nat), i + g + 1 < n -> m i = m (i + g + 1) -> det n m = 0
 | 0, n, m, i, h, e => QfI n m i h e
 | g + 1, n, m, i, h, e => by
  have := Qgf (m := m) (c := i + g + 1) (d := i + g + 1 + 1) (by omega) (by omega) (by omega) (λ k hk => QfI n k _ (by omega) hk) (m (i + g + 1)) (m (i + g + 1 + 1))
  rw [Qax, Qax] at this
  rw [this, Qh7 g n _ i (by omega)]
  ·rfl
  ·rw [QN _ _ (by omega), QN _ _ (by omega), QN _ _ (by omega), QZ]
   exact e
theorem QiW {n : Nat} {m : Nat -> Nat -> Int} {i j : Nat} (hi : i < n) (hj : j < n) (hij : i ≠ j) (e : m i = m j) : det n m = 0 := by
 rcases Nat.lt_or_gt_of_ne hij with h | h
 ·exact Qh7 (j - i - 1) n m i (by omega) (by rw [show i + (j - i - 1) + 1 = j by omega]; exact e)
 ·exact Qh7 (i - j - 1) n m j (by omega) (by rw [show j + (i - j - 1) + 1 = i by omega]; exact e.symm)
theorem Qc3 {n : Nat} {m : Nat -> Nat -> Int} {c d : Nat} (hc : c < n) (hd : d < n) (hcd : c ≠ d) (a b : Nat -> Int) : det n (cup (cup m c a) d b) = - det n (cup (cup m c b) d a) := Qgf hc hd hcd (λ k hk => QiW hc hd hcd hk) a b
theorem Qh8 {n : Nat} {m : Nat -> Nat -> Int} {c : Nat} (h : c < n) (x : Nat -> Int) (E : Nat -> Nat -> Int) : ∀ k, det n (cup m c λ r => sm k λ s => x s * E s r) = sm k λ s => x s * det n (cup m c (E s))
 | 0 => by
  have := QfX (m := m) h 0 λ _ => 0
  rw [ZU] at this
  unfold sm
  simpa using this
 | k + 1 => by
  unfold sm
  rw [Qf1 h, Qh8 h x E k, QfX h]
theorem QmS : ∀ {n : Nat} (σ : Nat -> Nat), (∀ j, j < n + 1 -> σ j < n) -> ∃ i j, i < n + 1 /\ j < n + 1 /\ i ≠ j /\ σ i = σ j
 | 0, σ, h => absurd (h 0 (by omega)) (by omega)
 | n + 1, σ, h => by
  by_cases q : ∃ i, i < n + 1 /\ σ i = σ (n + 1)
  ·obtain ⟨i, hi, e⟩ := q
   exact ⟨i, n + 1, by omega, by omega, by omega, e⟩
  ·have ne : ∀ i, i < n + 1 -> σ i ≠ σ (n + 1) := λ i hi e => q ⟨i, hi, e⟩
   have hv := h (n + 1) (by omega)
   obtain ⟨i, j, hi, hj, hij, e⟩ := QmS (n := n) (λ j => if σ (n + 1) < σ j then σ j - 1 else σ j) λ j hj => by
    have := h j (by omega)
    have := ne j hj
    show (if σ (n + 1) < σ j then σ j - 1 else σ j) < n
    by_cases c : σ (n + 1) < σ j
    ·rw [if_pos c]; omega
    ·rw [if_neg c]; omega
   refine ⟨i, j, by omega, by omega, hij, ?_⟩
   have a := ne i hi
   have b := ne j hj
   have e : (if σ (n + 1) < σ i then σ i - 1 else σ i) = (if σ (n + 1) < σ j then σ j - 1 else σ j) := e
   by_cases c : σ (n + 1) < σ i
   ·rw [if_pos c] at e
    by_cases d : σ (n + 1) < σ j
    ·rw [if_pos d] at e; omega
    ·rw [if_neg d] at e; omega
   ·rw [if_neg c] at e
    by_cases d : σ (n + 1) < σ j
    ·rw [if_pos d] at e; omega
    ·rw [if_neg d] at e; omega
theorem Qj9 {n : Nat} {E : Nat -> Nat -> Int} {x : Nat -> Nat -> Int} : ∀ (k : Nat) (W : Nat -> Nat -> Int) (σ : Nat -> Nat), k <= n + 1 -> (∀ j, j < n + 1 -> σ j < n) -> (∀ j, j < k -> W j = λ r => sm n λ s => x j s * E s r) -> (∀ j, k <= j -> j < n + 1 -> W j = E (σ j)) -> det (n + 1) W = 0
 | 0, W, σ, hk, hσ, _, h2 => by
  obtain ⟨i, j, hi, hj, hij, e⟩ := QmS σ hσ
  exact QiW hi hj hij (by rw [h2 i (by omega) hi, h2 j (by omega) hj, e])
 | k + 1, W, σ, hk, hσ, h1, h2 => by
  have := Qh8 (n := n + 1) (m := W) (c := k) (by omega) (x k) E n
  rw [← h1 k (by omega), Qax] at this
  rw [this]
  refine QhP λ s hs => ?_
  rw [Qj9 k (cup W k (E s)) (λ j => if j = k then s else σ j) (by omega) (λ j hj => by show (if j = k then s else σ j) < n; by_cases e : j = k; (rw [if_pos e]; exact hs); (rw [if_neg e]; exact hσ j hj)) (λ j hj => by rw [QN _ _ (by omega)]; exact h1 j (by omega)) λ j h3 h4 => ?_, ZV]
  show cup W k (E s) j = E (if j = k then s else σ j)
  by_cases e : j = k
  ·rw [e, QZ, if_pos rfl]
  ·rw [QN _ _ e, if_neg e]; exact h2 j (by omega) h4
noncomputable def cyc (m : Nat -> Nat -> Int) (a : Nat -> Int) (l k : Nat) : Nat -> Nat -> Int := λ c => if c < k then m c else if c = k then a else if c <= l then m (c - 1) else m c
theorem QoA {n : Nat} (m : Nat -> Nat -> Int) (a : Nat -> Int) {l k : Nat} (hk : k < l) (hl : l < n) : det n (cyc m a l k) = - det n (cyc m a l (k + 1)) := by
 have h := Qc3 (n := n) (m := cyc m a l k) (c := k) (d := k + 1) (by omega) (by omega) (by omega) a (m k)
 have e1 : cup (cup (cyc m a l k) k a) (k + 1) (m k) = cyc m a l k := by
  have q1 : cyc m a l k k = a := by unfold cyc; rw [if_neg (by omega), if_pos rfl]
  have q2 : cyc m a l k (k + 1) = m k := by unfold cyc; rw [if_neg (by omega), if_neg (by omega), if_pos (by omega), Zbs]
  have := Qax (cyc m a l k) k
  rw [q1] at this
  rw [this, ← q2, Qax]
 have e2 : cup (cup (cyc m a l k) k (m k)) (k + 1) a = cyc m a l (k + 1) := by
  funext c
  by_cases h1 : c = k + 1
  ·subst h1; rw [QZ]; unfold cyc; rw [if_neg (by omega), if_pos rfl]
  ·rw [QN _ _ h1]
   by_cases h2 : c = k
   ·subst h2; rw [QZ]; unfold cyc; rw [if_pos (by omega)]
   ·rw [QN _ _ h2]
    unfold cyc
    by_cases h3 : c < k
    ·rw [if_pos h3, if_pos (by omega)]
    ·rw [if_neg h3, if_neg h2, if_neg (show ¬ c < k + 1 by omega), if_neg h1]
 rw [e1, e2] at h
 exact h
theorem Qk9 {n : Nat} (m : Nat -> Nat -> Int) (a : Nat -> Int) {l : Nat} (hl : l < n) : ∀ g k, k + g = l -> det n (cyc m a l k) = sgn g * det n (cup m l a)
 | 0, k, h => by
  have : cyc m a l k = cup m l a := by
   funext c
   unfold cyc cup
   by_cases h1 : c = l
   ·rw [if_neg (by omega), if_pos (by omega), if_pos h1]
   ·rw [if_neg h1]
    by_cases h2 : c < k
    ·rw [if_pos h2]
    ·rw [if_neg h2, if_neg (by omega), if_neg (by omega)]
  rw [this]; unfold sgn; simp
 | g + 1, k, h => by
  rw [QoA m a (by omega) hl, Qk9 m a hl g (k + 1) (by omega), QgI, ZaF]
theorem Qr3 (j : Nat) : sgn j * sgn j = 1 := by unfold sgn; split <;> rfl
noncomputable def bE (r s q : Nat) : Int := if q = 0 then (if s = r then 1 else 0) else if s = q - 1 then 1 else 0
theorem Qhm {n : Nat} (m : Nat -> Nat -> Int) (a : Nat -> Int) {r : Nat} (hr : r < n) : det n m * a r = sm n λ l => det n (cup m l a) * m l r := by
 have v0 : ∃ v : Nat -> Nat -> Int, v = λ j => if j = 0 then a else m (j - 1) := ⟨_, rfl⟩
 obtain ⟨v, hv⟩ := v0
 have hv0 : v 0 = a := by rw [hv]; rfl
 have hvs : ∀ j, v (j + 1) = m j := λ j => by rw [hv]; show (if j + 1 = 0 then a else m (j + 1 - 1)) = _; rw [if_neg (by omega), Zbs]
 have z : det (n + 1) (λ j s => if s = 0 then v j r else v j (s - 1)) = 0 := by
  have key : det (n + 1) (λ j q => sm n λ s => v j s * bE r s q) = 0 :=
   Qj9 (E := bE r) (x := v) (n + 1) _ (λ _ => r) (by omega) (λ _ _ => hr) (λ j _ => rfl) (λ j h1 h2 => by omega)
  rw [← key]
  refine Qeg λ j hj s hs => ?_
  by_cases e : s = 0
  ·subst e
   rw [if_pos rfl, QeE (c := r) hr]
   ·unfold bE; rw [if_pos rfl, if_pos rfl, ZaL]
   ·intro i _ ne; unfold bE; rw [if_pos rfl, if_neg ne, ZV]
  ·rw [if_neg e, QeE (c := s - 1) (by omega)]
   ·unfold bE; rw [if_neg e, if_pos rfl, ZaL]
   ·intro i _ ne; unfold bE; rw [if_neg e, if_neg ne, ZV]
 unfold det at z
 have term : ∀ j, (sgn j * (if (0 : Nat) = 0 then v j r else v j (0 - 1)) * det n λ c q => if q + 1 = 0 then v (skp j c) r else v (skp j c) (q + 1 - 1)) = sgn j * v j r * det n λ c => v (skp j c) := λ j => by
  rw [if_pos rfl]
  congr 1
 have first : ∀ (k : Nat) (f : Nat -> Int), sm (k + 1) f = f 0 + sm k λ i => f (i + 1) := λ k f => by
  induction k with
  | zero => show 0 + f 0 = f 0 + 0; omega
  | succ k ih => show sm (k + 1) f + f (k + 1) = _; rw [ih]; show _ = f 0 + (sm k (λ i => f (i + 1)) + f (k + 1)); omega
 rw [Qbb λ j _ => term j, first] at z
 have t0 : (λ c => v (skp 0 c)) = m := by funext c; unfold skp; rw [if_neg (by omega), hvs]
 have tl : ∀ l, l < n -> sgn (l + 1) * v (l + 1) r * det n (λ c => v (skp (l + 1) c)) = - (det n (cup m l a) * m l r) := λ l hl => by
  have : (λ c => v (skp (l + 1) c)) = cyc m a l 0 := by
   funext c
   unfold skp cyc
   by_cases h0 : c = 0
   ·subst h0; rw [if_pos (show 0 < l + 1 by omega), if_neg (show ¬ 0 < 0 by omega), if_pos rfl, hv0]
   ·obtain ⟨c', rfl⟩ : ∃ c', c = c' + 1 := ⟨c - 1, by omega⟩
    rw [if_neg (show ¬ c' + 1 < 0 by omega), if_neg h0]
    by_cases h1 : c' + 1 <= l
    ·rw [if_pos (show c' + 1 < l + 1 by omega), if_pos h1, hvs, Zbs]
    ·rw [if_neg (show ¬ c' + 1 < l + 1 by omega), if_neg h1, hvs]
  rw [this, Qk9 m a hl l 0 (by omega), hvs, QgI]
  have q := Qr3 l
  generalize det n (cup m l a) = d at *
  generalize m l r = x at *
  have : - sgn l * x * (sgn l * d) = - (sgn l * sgn l * (d * x)) := by
   rw [ZaF, ZaF, ZK, Zbu x, ← ZK, ZJ x d]
  rw [this, q, ZaO]
 rw [t0, hv0] at z
 have neg := Qhv (-1) 0 (λ l => det n (cup m l a) * m l r) (λ _ => 0) n
 rw [Qbb (g := λ l => -1 * (det n (cup m l a) * m l r) + 0 * 0) λ l hl => by rw [tl l hl]; omega] at z
 have s0 : sgn 0 = 1 := rfl
 rw [neg, s0, ZaO] at z
 rw [ZJ]
 omega
theorem QoZ {n : Nat} (m : Nat -> Nat -> Int) (u a : Nat -> Int) {k i : Nat} (hk : k < n) (hi : i < n) (hki : k ≠ i) : det n m * det n (cup (cup m k u) i a) = det n (cup m k u) * det n (cup m i a) - det n (cup m i u) * det n (cup m k a) := by
 have h1 : det n m * det n (cup (cup m k u) i a) = det n (cup (cup m i a) k λ r => det n m * u r) := by
  rw [QfX hk, Qai _ _ _ hki]
 have h2 : det n (cup (cup m i a) k λ r => det n m * u r) = det n (cup (cup m i a) k λ r => sm n λ l => det n (cup m l u) * m l r) := by
  refine Qeg λ j hj r hr => ?_
  by_cases e : j = k
  ·subst e; rw [QZ, QZ]; exact Qhm m u hr
  ·rw [QN _ _ e, QN _ _ e]
 rw [h1, h2, Qh8 hk (λ l => det n (cup m l u)) m n]
 have tk : det n (cup (cup m i a) k (m k)) = det n (cup m i a) := by rw [Qai _ _ _ (Ne.symm hki), Qax]
 have ti : det n (cup (cup m i a) k (m i)) = - det n (cup m k a) := by
  rw [Qc3 hi hk (Ne.symm hki), Qax]
 have tn : ∀ l, l < n -> l ≠ k -> l ≠ i -> det n (cup (cup m i a) k (m l)) = 0 := λ l hl h1 h2 => QiW hk hl (Ne.symm h1) (by rw [QZ, QN _ _ h1, QN _ _ h2])
 rcases Nat.lt_or_gt_of_ne hki with h | h
 ·rw [Qhf (c := k) (d := i) h hi λ l hl a b => by rw [tn l hl a b, ZV], tk, ti, ZaC]; omega
 ·rw [Qhf (c := i) (d := k) h hk λ l hl a b => by rw [tn l hl b a, ZV], tk, ti, ZaC]; omega
noncomputable def Qa0 (j r : Nat) : Int := if j = r then 1 else 0
theorem QgV : ∀ n, det n Qa0 = 1
 | 0 => rfl
 | n + 1 => by
  unfold det
  rw [QeE (c := 0) (by omega) λ i _ ne => by unfold Qa0; rw [if_neg ne, ZV, ZU]]
  have : (λ c r => Qa0 (skp 0 c) (r + 1)) = Qa0 := by
   funext c r
   have e : skp 0 c = c + 1 := by unfold skp; rw [if_neg (by omega)]
   rw [e]
   unfold Qa0
   by_cases h : c = r
   ·rw [if_pos h, if_pos (by omega)]
   ·rw [if_neg h, if_neg (by omega)]
  rw [this, QgV n]
  unfold Qa0 sgn
  simp
theorem Qjk {n : Nat} (a : Nat -> Int) {i : Nat} (hi : i < n) : det n (cup Qa0 i a) = a i := by
 have := Qhm Qa0 a hi
 rw [QgV, ZaO, QeE (c := i) hi λ l _ ne => by rw [show Qa0 l i = 0 by unfold Qa0; rw [if_neg ne], ZV]] at this
 rw [this, show Qa0 i i = 1 by unfold Qa0; rw [if_pos rfl], ZaL]
structure Clr (n N k : Nat) (A m R : Nat -> Nat -> Int) (d : Int) : Prop where
 le : k <= n
 det : HS.det n m = d
 nz : d ≠ 0
 ent : ∀ i j, i < n -> j < N -> R i j = HS.det n (cup m i (A j))
 own : ∀ j, j < k -> m j = A j
theorem Clr.start (n N : Nat) (A : Nat -> Nat -> Int) : Clr n N 0 A Qa0 (λ i j => A j i) 1 := ⟨by omega, QgV n, by decide, λ i j hi _ => (Qjk (A j) hi).symm, λ j hj => by omega⟩
theorem Clr.exact {n N k : Nat} {A m R : Nat -> Nat -> Int} {d : Int} (h : Clr n N k A m R d) (hk : k < n) (kN : k < N) {i j : Nat} (hi : i < n) (hj : j < N) (ne : i ≠ k) : R k k * R i j - R i k * R k j = d * HS.det n (cup (cup m k (A k)) i (A j)) := by
 rw [h.ent k k hk kN, h.ent i j hi hj, h.ent i k hi kN, h.ent k j hk hj, ← QoZ m (A k) (A j) hk hi (Ne.symm ne), h.det]
theorem Clr.step {n N k : Nat} {A m R R' : Nat -> Nat -> Int} {d : Int} (h : Clr n N k A m R d) (hk : k < n) (kN : k < N) (hp : R k k ≠ 0) (h1 : ∀ j, j < N -> R' k j = R k j) (h2 : ∀ i j, i < n -> i ≠ k -> j < N -> ∀ q, R k k * R i j - R i k * R k j = d * q -> R' i j = q) : Clr n N (k + 1) A (cup m k (A k)) R' (R k k) := by
 refine ⟨hk, (h.ent k k hk kN).symm, hp, λ i j hi hj => ?_, λ j hj => ?_⟩
 ·by_cases e : i = k
  ·subst e
   rw [h1 j hj, h.ent i j hi hj, QhR]
  ·exact h2 i j hi e hj _ (h.exact hk kN hi hj e)
 ·by_cases e : j = k
  ·subst e; rw [QZ]
  ·rw [QN _ _ e]; exact h.own j (by omega)
theorem Clr.swap {n N k : Nat} {A m R R' : Nat -> Nat -> Int} {d : Int} (h : Clr n N k A m R d) {i : Nat} (hk : k < n) (hi : i < n) (hki : k < i) (h1 : ∀ j, j < N -> R' k j = R i j) (h2 : ∀ j, j < N -> R' i j = - R k j) (h3 : ∀ l j, l < n -> l ≠ k -> l ≠ i -> j < N -> R' l j = R l j) : ∃ m', Clr n N k A m' R' d := by
 have ne : k ≠ i := by omega
 have neg : ∀ (c : Nat), c < n -> ∀ (M : Nat -> Nat -> Int) (a : Nat -> Int), HS.det n (cup M c λ r => - a r) = - HS.det n (cup M c a) := λ c hc M a => by
  have := QfX (m := M) hc (-1) a
  simpa only [ZaF, ZaO] using this
 refine ⟨cup (cup m k (m i)) i λ r => - m k r, h.le, ?_, h.nz, λ l j hl hj => ?_, λ j hj => ?_⟩
 ·rw [neg i hi, Qc3 hk hi ne, Zbv, Qax, Qax]; exact h.det
 ·by_cases e1 : l = k
  ·subst e1
   rw [h1 j hj, h.ent i j hi hj, Qai _ _ _ (Ne.symm ne), QhR, neg i hi, Qc3 hl hi ne, Zbv, Qax]
  ·by_cases e2 : l = i
   ·subst e2
    rw [h2 j hj, h.ent k j hk hj, QhR, Qc3 hk hl ne, Qai _ _ _ ne]
    have := Qax m l
    rw [this]
   ·rw [h3 l j hl e1 e2 hj, h.ent l j hl hj, Qai _ _ _ (Ne.symm e2), neg i hi, Qai _ _ _ (Ne.symm e1), Qc3 hk hi ne, Zbv]
    rw [Qai _ _ _ e1, Qax, Qai _ _ _ e2, Qax]
 ·rw [QN _ _ (by omega), QN _ _ (by omega)]; exact h.own j hj
theorem Clr.tell {n N k : Nat} {A m R : Nat -> Nat -> Int} {d : Int} (h : Clr n N k A m R d) {j r : Nat} (hj : j < N) (hr : r < n) : d * A j r = sm n λ l => R l j * m l r := by
 have := Qhm m (A j) hr
 rw [h.det] at this
 rw [this]
 exact Qbb λ l hl => by rw [h.ent l j hl hj]
noncomputable def bnd (B : Nat) : Nat -> Nat
 | 0 => 1
 | n + 1 => (n + 1) * (B * bnd B n)
theorem QjZ {f : Nat -> Int} {C : Nat} : ∀ {n : Nat}, (∀ i, i < n -> (f i).natAbs <= C) -> (sm n f).natAbs <= n * C
 | 0, _ => by simp [sm]
 | n + 1, h => by
  unfold sm
  have h1 := QjZ (n := n) λ i hi => h i (by omega)
  have h2 := h n (by omega)
  have := Int.natAbs_add_le (sm n f) (f n)
  rw [Nat.succ_mul]
  omega
theorem QqN (j : Nat) : (sgn j).natAbs = 1 := by unfold sgn; split <;> rfl
theorem QeA {B : Nat} : ∀ {n : Nat} {m : Nat -> Nat -> Int}, (∀ j, j < n -> ∀ r, r < n -> (m j r).natAbs <= B) -> (det n m).natAbs <= bnd B n
 | 0, _, _ => by show (1 : Int).natAbs <= 1; decide
 | n + 1, m, h => by
  unfold det bnd
  refine QjZ λ j hj => ?_
  rw [ZaP, ZaP, QqN, Nat.one_mul]
  refine ZbO (h j hj 0 (by omega)) (QeA λ c hc r hr => h _ ?_ _ (by omega))
  unfold skp
  split <;> omega
theorem Qii {n : Nat} (hn : n <= 8) : bnd (2 ^ 200) n < 2 ^ 2000 := by
 have h : ∀ k, k < 9 -> bnd (2 ^ 200) k < 2 ^ 2000 := by decide +kernel
 exact h n (by omega)
def Ql9 (n : Nat) (m : Nat -> Nat -> Int) : Prop := ∀ j, j < n -> ∀ r, r < n -> (m j r).natAbs <= 2 ^ 200
def Qeq (n : Nat) (A : Nat -> Nat -> Int) : Prop := ∀ k, k < n -> ∀ c : Nat -> Int, (∀ r, r <= k -> sm (k + 1) (λ l => c l * A l r) = 0) -> c k = 0
structure Qcx (n N k : Nat) (A m R : Nat -> Nat -> Int) (d : Int) : Prop where
 clr : Clr n N k A m R d
 unit : ∀ l, k <= l -> l < n -> m l = Qa0 l
 col : Ql9 n m
theorem Ql9.put {n : Nat} {m : Nat -> Nat -> Int} (h : Ql9 n m) {i : Nat} {a : Nat -> Int} (ha : ∀ r, r < n -> (a r).natAbs <= 2 ^ 200) : Ql9 n (cup m i a) := λ j hj r hr => by
 by_cases e : j = i
 ·subst e; rw [QZ]; exact ha r hr
 ·rw [QN _ _ e]; exact h j hj r hr
theorem Qcx.start (n N : Nat) (A : Nat -> Nat -> Int) : Qcx n N 0 A Qa0 (λ i j => A j i) 1 := ⟨Clr.start n N A, λ _ _ _ => rfl, λ j _ r _ => by unfold Qa0; split <;> decide⟩
theorem Qcx.small {n N k : Nat} {A m R : Nat -> Nat -> Int} {d : Int} (h : Qcx n N k A m R d) (hn : n <= 8) (hA : ∀ j, j < N -> ∀ r, r < n -> (A j r).natAbs <= 2 ^ 200) : d.natAbs < 2 ^ 2000 /\ ∀ i j, i < n -> j < N -> (R i j).natAbs < 2 ^ 2000 := by
 have b := Qii hn
 refine ⟨?_, λ i j hi hj => ?_⟩
 ·rw [← h.clr.det]; exact Zas (QeA h.col) b
 ·rw [h.clr.ent i j hi hj]; exact Zas (QeA (h.col.put (hA j hj))) b
theorem QgN {f : Nat -> Int} {k : Nat} : ∀ {n : Nat}, k <= n -> (∀ i, k <= i -> i < n -> f i = 0) -> sm n f = sm k f
 | 0, h, _ => by rw [Nat.le_zero.mp h]
 | n + 1, h, z => by
  by_cases e : k = n + 1
  ·rw [e]
  ·show sm n f + f n = sm k f
   rw [QgN (n := n) (by omega) λ i h1 h2 => z i h1 (by omega), z n (by omega) (by omega), Zbq]
theorem Qcx.QpA {n N k : Nat} {A m R : Nat -> Nat -> Int} {d : Int} (h : Qcx n N k A m R d) (hk : k < n) (kN : k < N) (hl : Qeq n A) : R k k ≠ 0 := λ z => by
 refine h.clr.nz ?_
 have := hl k hk (λ l => if l = k then - d else R l k) λ r hr => by
  have t := h.clr.tell kN (show r < n by omega)
  rw [QgN (k := k) (by omega)] at t
  ·show (sm k λ l => (if l = k then - d else R l k) * A l r) + (if k = k then - d else R k k) * A k r = 0
   rw [if_pos rfl, Qbb (g := λ l => R l k * m l r) λ l hl => by rw [if_neg (by omega), h.clr.own l hl], ← t, ZaF]
   omega
  ·intro l h1 h2
   by_cases e : l = k
   ·rw [e, z, ZU]
   ·rw [h.unit l (by omega) h2, show Qa0 l r = 0 by unfold Qa0; rw [if_neg (by omega)], ZV]
 rw [if_pos rfl] at this
 omega
theorem Qcx.step {n N k : Nat} {A m R R' : Nat -> Nat -> Int} {d : Int} (h : Qcx n N k A m R d) (hk : k < n) (kN : k < N) (hA : ∀ j, j < N -> ∀ r, r < n -> (A j r).natAbs <= 2 ^ 200) (hp : R k k ≠ 0) (h1 : ∀ j, j < N -> R' k j = R k j) (h2 : ∀ i j, i < n -> i ≠ k -> j < N -> ∀ q, R k k * R i j - R i k * R k j = d * q -> R' i j = q) : Qcx n N (k + 1) A (cup m k (A k)) R' (R k k) :=
 ⟨h.clr.step hk kN hp h1 h2, λ l h3 h4 => by rw [QN _ _ (by omega)]; exact h.unit l (by omega) h4, h.col.put (hA k kN)⟩
theorem Qch {i : Int} (h : i.natAbs < 2 ^ 2000) : QsY i := Zu (PyProof.Rows.intBits_le h) (by decide)
theorem QlF {a d q : Int} (hd : d ≠ 0) (h : a = d * q) : QcJ a d = q := by
 rw [QfN, h, Int.mul_fdiv_cancel_left q hd]
theorem Qjv {fa fb : DE} {ρ : En} {ra rb : R} {a b : Int} (ha : fa ρ = some ra) (ea : ra.d = .int a) (hb : fb ρ = some rb) (eb : rb.d = .int b) : dOp Qb7 fa fb ρ = some ⟨.int (a - b), true, []⟩ := by
 refine Qa1 ha hb ?_
 rw [ea, eb]; rfl
theorem Qh2 {fa fb : DE} {ρ : En} {ra rb : R} {a b q : Int} (ha : fa ρ = some ra) (ea : ra.d = .int a) (hb : fb ρ = some rb) (eb : rb.d = .int b) (hz : b ≠ 0) (h2 : b.natAbs < 2 ^ 2000) (h : a = b * q) : dOp Qe4 fa fb ρ = some ⟨.int q, true, []⟩ := by
 refine Qa1 ha hb ?_
 rw [ea, eb]
 show (if QbI b = true then some (D.int (QcJ a b)) else none) = _
 have : QbI b = true := by
  unfold QbI
  simp only [Zf, decide_eq_true_eq]
  exact ⟨hz, Zq h2 (ZaB (by decide) (by decide))⟩
 rw [if_pos this, QlF hz h]
noncomputable def Qgd : DS := (Qd (QR (QK (QbC (Qa 0) (Qa 1)) (.tp [1, 2]) [none, none, none, some 2, some 3, some 0, some 1] QX (dOp Qe4 (dOp Qb7 (Qab (Qf (Qa 6) (Qa 3)) (Qa 1)) (Qab (Qf (Qa 5) (Qa 3)) (Qa 2))) (Qa 4)))) Qk)
def QhQ (d : Den) : Prop := ∀ (N k : Nat) (a p q : Nat -> Int) (b : Int), k < N -> b ≠ 0 -> b.natAbs < 2 ^ 2000 -> (∀ j, j < N -> (a j).natAbs < 2 ^ 2000 /\ (p j).natAbs < 2 ^ 2000) -> (∀ j, j < N -> p k * a j - a k * p j = b * q j) -> d [Qc N a, Qc N p, .int k, .int b] = some (Qc N q, true)
theorem Qoa : QhQ (Qp 4 Qgd) := λ N k a p q b hk hb hb2 hs hq =>
 Q8 (QJ (r := ⟨Qc N q, true, []⟩) (QT (toD := λ (i : Nat) => .tup [.int (a i), .int (p i)]) (out := λ (i : Nat) => .int (q i)) (List.range N) (Qcl (f := λ i => .int (a i)) (g := λ i => .int (p i)) (ra := ⟨Qc N a, false, []⟩) (rb := ⟨Qc N p, false, []⟩) rfl rfl rfl rfl) rfl λ i hi => ⟨[none, some (.int (a i), true), some (.int (p i), true), some (.int k, true), some (.int b, true), some (Qc N a, false), some (Qc N p, false)], rfl, ⟨.int (q i), true, []⟩, by
  have hi' := Zz.mp hi
  refine Qh2 (Qjv (a := p k * a i) (b := a k * p i) (Qac (a := p k) (b := a i) (Qcf (m := N) (f := p) (ra := ⟨Qc N p, false, []⟩) (rb := ⟨.int k, true, []⟩) rfl rfl rfl rfl hk) rfl (rb := ⟨.int (a i), true, []⟩) rfl rfl (QfY (Qch (hs k hk).2) (Qch (hs i hi').1))) rfl (Qac (a := a k) (b := p i) (Qcf (m := N) (f := a) (ra := ⟨Qc N a, false, []⟩) (rb := ⟨.int k, true, []⟩) rfl rfl rfl rfl hk) rfl (rb := ⟨.int (p i), true, []⟩) rfl rfl (QfY (Qch (hs k hk).1) (Qch (hs i hi').2))) rfl) rfl (rb := ⟨.int b, true, []⟩) rfl rfl hb hb2 (hq i hi'), rfl, rfl⟩) ⟨rfl, rfl⟩)
noncomputable def QfB (QaM : Den) : DS := (Qd (Qq 2 (QK (QdF (Qa 1) (dBf Qae (Qb (Qa 0) Qe))) (.nm 1) [none, none, some 1, some 0] (Qz (dOp gNe (Qf (Qf (Qa 3) (Qa 1)) (Qa 2)) (dC (.int 0)))) (Qa 1))) (Qd (sIf (bOr (Qb5 (Qz (Qa 2))) (Qz (dOp gEq (Qf (Qa 2) (dC (.int 0))) (Qa 1)))) (Qd (QR (Qa 0)) Qk) Qk) (Qd (Qq 3 (dList (Qb (Qa 0) Qe))) (Qd (QaV 3 Q1 (Qa 1) (Qf (Qa 0) (Qf (Qa 2) (dC (.int 0))))) (Qd (QaV 3 Q1 (Qf (Qa 2) (dC (.int 0))) (Qw 1 QaM [] (Qb (Qf (Qa 0) (Qa 1)) Qe))) (Qd (QR (Qa 3)) Qk))))))
def QhF (d : Den) : Prop := ∀ (n N k : Nat) (f : Nat -> Nat -> Int), k < n -> n <= 1000 -> k < N -> f k k ≠ 0 -> d [Qi n N f, .int k] = some (Qi n N f, false)
theorem QoX {dop : Den} : QhF (Qp 4 (QfB dop)) := λ n N k f hk hn kN hp => by
 have eI := QdE (fi := QdF (Qa 1) (dBf Qae (Qb (Qa 0) Qe))) (t := .nm 1) (cap := [none, none, some 1, some 0]) (ft := Qz (dOp gNe (Qf (Qf (Qa 3) (Qa 1)) (Qa 2)) (dC (.int 0)))) (fe := Qa 1) (ρ := [some (Qi n N f, false), some (.int k, true), none, none])
  (toD := λ (i : Nat) => .int ((k : Int) + i)) (keep := λ i => !decide (f (k + i) k = 0)) (out := λ (i : Nat) => .int ((k : Int) + i)) (List.range (n - k)) (QmJ (i := k) (j := n) (n := n - k) (ra := ⟨.int k, true, []⟩) rfl rfl (QeG (n := n) (m := N) (f := f) (r := ⟨Qi n N f, false, []⟩) rfl rfl) rfl (by omega) (by omega) (by omega) (by omega)) rfl λ i hi => ⟨[none, some (.int ((k : Int) + i), true), some (.int k, true), some (Qi n N f, false)], rfl, by
   have hi' := Zz.mp hi
   refine Qv (Qcg (a := f (k + i) k) (b := 0) (Qcf (m := N) (f := f (k + i)) (i := k) ((QfT (m := n) (n := N) (f := f) (i := (k : Int) + i) (ra := ⟨Qi n N f, false, []⟩) (rb := ⟨.int ((k : Int) + i), true, []⟩) rfl rfl rfl rfl (by omega) (by omega)).trans (by rw [show ((k : Int) + i).toNat = k + i by omega])) rfl (rb := ⟨.int k, true, []⟩) rfl rfl kN) rfl rfl rfl) rfl, λ _ => ⟨⟨.int ((k : Int) + i), true, []⟩, rfl, rfl, rfl⟩⟩
 have hr : List.range (n - k) = 0 :: (List.range (n - k - 1)).map (· + 1) := by
  rw [show n - k = (n - k - 1) + 1 by omega, ZaY]; rfl
 rw [hr, List.filter_cons, if_pos (by show (!decide (f (k + 0) k = 0)) = true; rw [Nat.add_zero, decide_eq_false hp]; rfl), ZA] at eI
 generalize ((((List.range (n - k - 1)).map (· + 1)).filter λ i => !decide (f (k + i) k = 0)).map λ (i : Nat) => D.int ((k : Int) + i)) = xs at eI
 refine Q8 ?_
 refine run_seq (Qh eI ?_)
 rw [Qo]
 refine QG (QQ (b := true) ((Qa6 (a := false) (b := true) (Qa7 (b := true) (show Qz (Qa 2) _ = some true from rfl)) (Qv (b := true) (Qav (a := k) (b := k) (ra := ⟨.int k, true, []⟩) ?_ rfl (rb := ⟨.int k, true, []⟩) rfl rfl) (by simp))).trans rfl) (λ _ => ?_) (λ h => by cases h))
 ·unfold Qf
  show ((D.items (.lst (.int ((k : Int) + (0 : Nat)) :: xs))).bind λ ys => (atI ys (0 : Int)).map λ d => (HS.R.mk d true [2]).norm) = _
  simp only [D.items, Za]
  rw [QfU (show (0 : Int) <= 0 by decide) (by simp)]
  show some (HS.R.mk (.int ((k : Int) + (0 : Nat))) true [2]).norm = _
  rw [show (k : Int) + (0 : Nat) = k by omega]; rfl
 ·exact QG (QeK (r := ⟨Qi n N f, false, []⟩) rfl ⟨rfl, rfl⟩)
noncomputable def Qec (Qbo : Den) (QbR : Den) : DS := (Qd (Qq 1 (QaE (Qa 0))) (Qd (Qq 2 (dC (.int 1))) (Qd (Qbh (QaJ (dBf Qae (Qb (Qa 0) Qe))) (.nm 3) (Qd (Qq 1 (Qw 2 Qbo [] (Qb (Qa 1) (Qb (Qa 3) Qe)))) (Qd (Qq 4 (QaE (Qf (Qa 1) (Qa 3)))) (Qd (sIf (Qz (dOp gEq (Qf (Qa 4) (Qa 3)) (dC (.int 0)))) (Qd (QR (QaK (Qb (Qa 1) (Qb (dC (.int 0)) Qe)))) Qk) Qk) (Qd (Qq 1 (QK (Q2 (Qa 1)) (.nm 1) [none, none, some 3, some 2, some 4] QX (Qw 4 QbR [] (Qb (Qa 1) (Qb (Qa 4) (Qb (Qa 2) (Qb (Qa 3) Qe))))))) (Qd (QaV 1 Q1 (Qa 3) (Qa 4)) (Qd (Qq 2 (QaE (Qf (Qa 4) (Qa 3)))) Qk))))))) (Qd (QR (QaK (Qb (Qa 1) (Qb (Qa 2) Qe)))) Qk))))
theorem Qgu {n : Nat} {den : Den} {dfl : List D} {fs : DA} {ρ : En} {r : RA} {d : D} (h : fs ρ = some r) (e : den (r.ds ++ dfl) = some (d, false)) (hn : r.ds.length + dfl.length = n) : Qw n den dfl fs ρ = some (R.norm ⟨d, false, r.M⟩) := by
 unfold Qw
 rw [h, Za, if_pos hn, e]
 rfl
theorem QnG {x n N k : Nat} {g : Nat -> Nat -> Int} {p : Nat -> Int} {fi fa : DE} {ρ : En} {Q : Out -> Prop} (hx : ρ[x]? = some (some (Qi n N g, true))) (hi : fi ρ = some ⟨.int k, true, []⟩) (ha : fa ρ = some ⟨Qc N p, false, []⟩) (hk : k < n)
  (q : Q (.nx (ρ.set x (some (Qi n N (λ i j => if i = k then p j else g i j), false))))) : Run (QaV x Q1 fi fa) ρ Q := by
 refine ⟨_, ?_, q⟩
 unfold QaV
 rw [ha, Za, hx]
 have hn : (HS.R.mk (Qc N p) false []).norm = ⟨Qc N p, false, []⟩ := by unfold R.norm Qc; rfl
 simp only [Q1, Za, hi, Qi, QaC, Zj, Zx, hn]
 rw [QcM (show (0 : Int) <= k by omega) (by omega)]
 simp only [Za, Zaz]
 have e : ((List.range n).map λ i => Qc N (g i)).set k (Qc N p) = (List.range n).map λ i => Qc N (λ j => if i = k then p j else g i j) := by
  refine ZaK λ i => ?_
  rw [List.getElem?_set]
  by_cases h : k = i
  ·subst h
   rw [if_pos rfl, if_pos (by simpa using hk), Zm, ZF hk]
   simp
  ·rw [if_neg h, Zm, Zm]
   by_cases h2 : i < n
   ·rw [ZF h2]
    simp only [ZX, if_neg (Ne.symm h)]
   ·rw [Zr (by simpa using h2)]; rfl
 rw [e]
 rfl
def Qfv (d : Den) : Prop := ∀ (n N : Nat) (A : Nat -> Nat -> Int), n <= 8 -> n <= N -> (∀ j, j < N -> ∀ r, r < n -> (A j r).natAbs <= 2 ^ 200) -> Qeq n A -> ∃ m R b, d [Qi n N (λ i j => A j i)] = some (.tup [Qi n N R, .int b], false) /\ Qcx n N n A m R b
theorem QlY {dp dt : Den} (hp : QhF dp) (ht : QhQ dt) : Qfv (Qp 5 (Qec dp dt)) := λ n N A n8 hN hA hl => by
 have key : Run (Qec dp dt) [some (Qi n N (λ i j => A j i), false), none, none, none, none] λ o => match o with | .rt d fr => fr = false /\ ∃ m R b, d = .tup [Qi n N R, .int b] /\ Qcx n N n A m R b | _ => False := by
  refine run_seq (Qh (Qdf (r := ⟨Qi n N (λ i j => A j i), false, []⟩) rfl) ?_)
  refine run_seq (Qh (r := ⟨.int 1, true, []⟩) rfl ?_)
  rw [Qo]
  refine QG (QaH (toD := λ (k : Nat) => .int (k : Int)) (List.range n) (λ k ρ => ∃ m R b j3 j4, Qcx n N k A m R b /\ ρ = [some (Qi n N (λ i j => A j i), false), some (Qi n N R, false), some (.int b, true), j3, j4]) (Qbd (n := n) (QeG (n := n) (m := N) (f := λ i j => A j i) (r := ⟨Qi n N (λ i j => A j i), false, []⟩) rfl rfl) rfl (by omega)) rfl ⟨_, _, _, none, none, Qcx.start n N A, rfl⟩ ?_ ?_)
  ·rintro k k' ρ hk ⟨m, R, b, j3, j4, C, rfl⟩
   have hk' : k < n /\ k = k' := by
    obtain ⟨h1, h2⟩ := Zd.mp hk
    simp at h1 h2; exact ⟨h1, h2⟩
   obtain ⟨hkn, rfl⟩ := hk'
   have kN : k < N := by omega
   have pv := C.QpA hkn kN hl
   obtain ⟨sb, sR⟩ := C.small n8 hA
   have ep := hp n N k R hkn (by omega) kN pv
   refine ⟨[some (Qi n N (λ i j => A j i), false), some (Qi n N R, false), some (.int b, true), some (.int k, true), j4], rfl, ?_⟩
   refine run_seq (Qh (r := ⟨Qi n N R, false, []⟩) ((Qgu (r := ⟨[Qi n N R, .int k], false, []⟩) rfl ep rfl).trans rfl) ?_)
   refine run_seq (Qh (r := ⟨Qc N (R k), false, []⟩) ((Qdf (QfT (m := n) (n := N) (f := R) (i := k) (ra := ⟨Qi n N R, false, []⟩) (rb := ⟨.int k, true, []⟩) rfl rfl rfl rfl (by omega) (by omega))).trans rfl) ?_)
   refine QG (QQ (b := false) (Qv (Qav (a := R k k) (b := 0) (Qcf (m := N) (f := R k) (i := k) (ra := ⟨Qc N (R k), false, []⟩) (rb := ⟨.int k, true, []⟩) rfl rfl rfl rfl kN) rfl rfl rfl) (by simp [pv])) (λ h => by cases h) (λ _ => Qm ?_))
   have ex : ∀ i j, ∃ q, i < n -> i ≠ k -> j < N -> R k k * R i j - R i k * R k j = b * q := λ i j => by
    by_cases h : i < n /\ i ≠ k /\ j < N
    ·exact ⟨_, λ h1 h2 h3 => C.clr.exact hkn kN h1 h3 h2⟩
    ·exact ⟨0, λ h1 h2 h3 => absurd ⟨h1, h2, h3⟩ h⟩
   have zz : ∀ j, R k k * R k j - R k k * R k j = b * 0 := λ j => by rw [Int.sub_self, ZV]
   have eT : ∀ i, i < n -> dt [Qc N (R i), Qc N (R k), .int k, .int b] = some (Qc N (λ j => if i = k then 0 else (ex i j).choose), true) := λ i hi =>
    ht N k (R i) (R k) _ b kN C.clr.nz sb (λ j hj => ⟨sR i j hi hj, sR k j hkn hj⟩) λ j hj => by
     by_cases e : i = k
     ·rw [if_pos e, e]; exact zz j
     ·rw [if_neg e]; exact (ex i j).choose_spec hi e hj
   refine run_seq (Qh (r := ⟨Qi n N (λ i j => if i = k then 0 else (ex i j).choose), true, []⟩) (QT (toD := λ (i : Nat) => Qc N (R i)) (out := λ (i : Nat) => Qc N (λ j => if i = k then 0 else (ex i j).choose)) (List.range n) (Q7 (r := ⟨Qi n N R, false, []⟩) rfl rfl) rfl λ i hi => ⟨[none, some (Qc N (R i), false), some (.int k, true), some (.int b, true), some (Qc N (R k), false)], rfl, ⟨Qc N (λ j => if i = k then 0 else (ex i j).choose), true, []⟩, Qy (r := ⟨[Qc N (R i), Qc N (R k), .int k, .int b], false, []⟩) rfl (eT i (Zz.mp hi)) rfl, rfl, rfl⟩) ?_)
   rw [Qo]
   refine run_seq (QnG (n := n) (N := N) (k := k) (p := R k) (g := λ i j => if i = k then 0 else (ex i j).choose) rfl rfl rfl hkn ?_)
   refine run_seq (Qh (r := ⟨.int (R k k), false, []⟩) ((Qdf (Qcf (m := N) (f := R k) (i := k) (ra := ⟨Qc N (R k), false, []⟩) (rb := ⟨.int k, true, []⟩) rfl rfl rfl rfl kN)).trans rfl) (Qm ?_))
   rw [Qck rfl]
   refine ⟨_, _, _, _, _, C.step (R' := λ i j => if i = k then R k j else (λ i j => if i = k then 0 else (ex i j).choose) i j) hkn kN hA pv (λ j _ => by show (if k = k then R k j else _) = _; rw [if_pos rfl]) (λ i j hi ne hj q hq => ?_), rfl⟩
   show (if i = k then R k j else if i = k then 0 else (ex i j).choose) = q
   rw [if_neg ne, if_neg ne]
   exact Zav C.clr.nz (((ex i j).choose_spec hi ne hj).symm.trans hq)
  ·rintro ρ ⟨m, R, b, j3, j4, C, rfl⟩
   rw [Zx] at C
   exact QJ (r := ⟨.tup [Qi n N R, .int b], false, []⟩) rfl ⟨rfl, m, R, b, rfl, C⟩
 obtain ⟨o, h1, h2⟩ := key
 cases o with
 | rt d fr =>
  obtain ⟨rfl, m, R, b, rfl, C⟩ := h2
  exact ⟨m, R, b, by show Option.bind (Qec dp dt [some (Qi n N (λ i j => A j i), false), none, none, none, none]) outD = _; rw [h1]; rfl, C⟩
 | _ => exact h2.elim
theorem Qc2 (f : Nat -> Int) : ∀ n, sm n f = Ql n f
 | 0 => rfl
 | n + 1 => by rw [Q3, ← Qc2 f n]; rfl
theorem Qh9 {m : Nat} {f : Nat -> Int} (h : ∀ i, i < m -> 0 <= f i) : 0 <= Ql m f := by
 have := QdD (m := m) (f := λ _ => 0) (g := f) h
 rw [QaN] at this
 exact this
theorem Qk1 {m k : Nat} {T : Nat -> Nat -> Int} (tp : TP m T) {c : Nat -> Int} (h0 : ∀ l, k < l -> c l = 0) (h : ∀ r, r < m -> r <= k -> Ql m (λ l => c l * T l r) = 0) : ∀ l, l < m -> c l <= 0 := by
 obtain ⟨w, w0, hw⟩ := tp.wt
 have p0 : ∀ l, 0 <= (if 0 < c l then c l else 0) := λ l => by split <;> omega
 have v0 : ∀ r, r < m -> 0 <= Ql m (λ l => (if 0 < c l then c l else 0) * T l r) := λ r hr => by
  by_cases h1 : 0 < c r
  ·have hrk : r <= k := by
    by_cases z : k < r
    ·rw [h0 r z] at h1; omega
    ·omega
   have e : Ql m (λ l => (if 0 < c l then c l else 0) * T l r) = Ql m (λ l => ((if 0 < c l then c l else 0) - c l) * T l r) := by
    have := Qci m (λ l => ((if 0 < c l then c l else 0) - c l) * T l r) (λ l => c l * T l r)
    rw [h r hr hrk, Zbq] at this
    rw [← this]
    exact QD λ l _ => by rw [← Zag]; congr 1; omega
   rw [e]
   refine Qh9 λ l hl => ?_
   by_cases e2 : l = r
   ·subst e2; rw [if_pos h1, Int.sub_self, ZU]; exact ZaU _
   ·refine ZaE ?_ (tp.pos l r hl hr e2)
    split <;> omega
  ·refine Qh9 λ l hl => ?_
   by_cases e2 : l = r
   ·subst e2; rw [if_neg h1, ZU]; exact ZaU _
   ·exact ZaE (p0 l) (tp.pos l r hl hr e2)
 have s1 : 0 <= Ql m λ r => Ql m (λ l => (if 0 < c l then c l else 0) * T l r) * w r := by
  have : Ql m (λ _ => (0 : Int)) <= Ql m λ r => Ql m (λ l => (if 0 < c l then c l else 0) * T l r) * w r := QdD λ r hr => ZaE (v0 r hr) (w0 r)
  rw [QaN] at this
  exact this
 have s2 : (Ql m λ r => Ql m (λ l => (if 0 < c l then c l else 0) * T l r) * w r) = Ql m λ l => (if 0 < c l then c l else 0) * Ql m λ r => T l r * w r := by
  have e1 : (λ r => Ql m (λ l => (if 0 < c l then c l else 0) * T l r) * w r) = λ r => Ql m λ l => (if 0 < c l then c l else 0) * (T l r * w r) := by
   funext r
   rw [ZJ, ← Qbz]
   exact QD λ l _ => by rw [ZJ (w r), ZK]
  rw [e1, Qd8]
  exact QD λ l _ => by rw [Qbz]
 have s3 : (Ql m λ l => (if 0 < c l then c l else 0) * Ql m λ r => T l r * w r) <= Ql m λ l => - (if 0 < c l then c l else 0) := QdD λ l hl => by
  have := Zbj (hw l hl) (p0 l)
  omega
 rw [QdN] at s3
 intro l hl
 have big : (if 0 < c l then c l else 0) <= Ql m λ l => (if 0 < c l then c l else 0) := by
  have := QbS (m := m) hl (if 0 < c l then c l else 0) (λ _ => 1)
  have h2 : Ql m (λ i => (if i = l then (if 0 < c l then c l else 0) else 0) * 1) <= Ql m λ l => (if 0 < c l then c l else 0) := QdD λ i _ => by
   rw [ZaL]
   by_cases e : i = l
   ·subst e; rw [if_pos rfl]; exact ZaU _
   ·rw [if_neg e]; exact p0 i
  omega
 by_cases z : 0 < c l
 ·rw [if_pos z] at big; omega
 ·omega
theorem Qk7 {m : Nat} {T : Nat -> Nat -> Int} (tp : TP m T) : Qeq m λ l r => 0 - T l r := λ k hk c h => by
 have ext : ∀ r, r <= k -> Ql m (λ l => (if l <= k then c l else 0) * T l r) = 0 := λ r hr => by
  have e := h r hr
  rw [← Qc2, QgN (k := k + 1) (by omega)]
  ·have n := Qhv (-1) 0 (λ l => c l * (0 - T l r)) (λ _ => 0) (k + 1)
   rw [e] at n
   rw [Qbb (g := λ l => -1 * (c l * (0 - T l r)) + 0 * 0) λ l hl => by rw [if_pos (by omega), ZbK, ZaC]; omega, n]
   omega
  ·intro l h1 h2; rw [if_neg (by omega), ZU]
 have a := Qk1 (k := k) tp (c := λ l => if l <= k then c l else 0) (λ l hl => by show (if l <= k then c l else 0) = 0; rw [if_neg (by omega)]) (λ r _ hr => ext r hr) k hk
 have b := Qk1 (k := k) tp (c := λ l => if l <= k then - c l else 0) (λ l hl => by show (if l <= k then - c l else 0) = 0; rw [if_neg (by omega)]) (λ r _ hr => by
  have := ext r hr
  rw [QD (g := λ l => - ((if l <= k then c l else 0) * T l r)) λ l _ => by split <;> simp [ZaF], QdN, this]; rfl) k hk
 have a : (if k <= k then c k else 0) <= 0 := a
 have b : (if k <= k then - c k else 0) <= 0 := b
 rw [if_pos (Zi k)] at a b
 omega
noncomputable def Qhe : DS := (Qd (QR (QK (Q2 (Qa 0)) (.nm 1) [none, none] QX (dOp Qb7 (dC (.int 0)) (Qa 1)))) Qk)
def Qmh (d : Den) : Prop := ∀ (n : Nat) (a : Nat -> Int), d [Qc n a] = some (Qc n λ i => 0 - a i, true)
theorem Qse : Qmh (Qp 1 Qhe) := λ n a => Q8 (QJ (r := ⟨Qc n λ i => 0 - a i, true, []⟩) (QT (toD := λ (i : Nat) => .int (a i)) (out := λ (i : Nat) => .int (0 - a i)) (List.range n) (Q7 (r := ⟨Qc n a, false, []⟩) rfl rfl) rfl λ i _ => ⟨[none, some (.int (a i), true)], rfl, ⟨.int (0 - a i), true, []⟩, rfl, rfl, rfl⟩) ⟨rfl, rfl⟩)
noncomputable def Qgc (QaM : Den) (Qbl : Den) : DS := (Qd (QR (QK (Q2 (Qw 1 Qbl [] (Qb (Qa 0) Qe))) (.nm 1) [none, none] QX (Qw 1 QaM [] (Qb (Qa 1) Qe)))) Qk)
def QgW (d : Den) : Prop := ∀ (m : Nat) (R L : List (Int × Int)), m <= 1000 -> R.length + R.length + L.length <= 1000000 -> (∀ s ∈ R, Good m s) -> (∀ s ∈ L, Good m s) -> d [QE m R L] = some (Qi m m λ i j => 0 - Qu m (Qs R L) i j, true)
theorem QmN {dop dt : Den} (ho : Qmh dop) (ht : Qjy dt) : QgW (Qp 1 (Qgc dop dt)) := λ m R L hm hl hR hL => by
 have et := ht m R L hm hl hR hL
 generalize Qu m (Qs R L) = T at *
 exact Q8 (QJ (r := ⟨Qi m m λ i j => 0 - T i j, true, []⟩) (QT (toD := λ (i : Nat) => Qc m (T i)) (out := λ (i : Nat) => Qc m λ j => 0 - T i j) (List.range m) (Q7 (Qy (r := ⟨[QE m R L], false, []⟩) rfl et rfl) rfl) rfl λ i _ => ⟨[none, some (Qc m (T i), false)], rfl, ⟨Qc m λ j => 0 - T i j, true, []⟩, Qy (r := ⟨[Qc m (T i)], false, []⟩) rfl (ho m (T i)) rfl, rfl, rfl⟩) ⟨rfl, rfl⟩)
noncomputable def QeQ : DS := (Qd (Qq 1 (dC (.int 0))) (Qd (Qbh (Q2 (Qa 0)) (.nm 2) (Qd (Qq 3 (QaE (Qa 2))) (Qd (QcB (Qz (dOp gNe (Qa 3) (dC (.int 0)))) (Qd (Qq 4 (dOp Qan (Qa 1) (Qa 3))) (Qd (Qq 1 (QaE (Qa 3))) (Qd (Qq 3 (QaE (Qa 4))) Qk)))) Qk))) (Qd (QR (dBf Ql1 (Qb (Qa 1) Qe))) Qk)))
theorem Qom {a b t : Int} : (t ∣ b /\ t ∣ Qbs a b) ↔ (t ∣ a /\ t ∣ b) := by
 have e : Qbs a b = a - b * QcJ a b := by
  rw [QfN, show Qbs a b = a.fmod b from QfH a b, Int.fmod_def]
 rw [e]
 constructor
 ·rintro ⟨h1, h2⟩
  refine ⟨?_, h1⟩
  have := Int.dvd_add h2 (ZbF (c := QcJ a b) h1)
  rwa [Int.sub_add_cancel] at this
 ·rintro ⟨h1, h2⟩
  exact ⟨h2, Int.dvd_sub h1 (ZbF h2)⟩
theorem QpN {a b : Int} (h : b ≠ 0) : (Qbs a b).natAbs < b.natAbs := by
 rw [show Qbs a b = a.fmod b from QfH a b]
 by_cases hb : 0 < b
 ·have h1 := ZbL a hb
  have h2 := Int.fmod_lt_of_pos a hb
  omega
 ·have hb' : 0 < -b := by omega
  have h1 := ZbL (-a) hb'
  have h2 := Int.fmod_lt_of_pos (-a) hb'
  have h3 := Int.neg_fmod_neg a b
  omega
def QgO (d : Den) : Prop := ∀ (xs : List Int), ∃ g : Int, d [Qj xs] = some (.int g, true) /\ 0 <= g /\ ∀ t, t ∣ g ↔ ∀ x ∈ xs, t ∣ x
theorem QnA : QgO (Qp 5 QeQ) := λ xs => by
 have key : Run QeQ [some (Qj xs, false), none, none, none, none] λ o => match o with | .rt d fr => fr = true /\ ∃ g, d = .int g /\ 0 <= g /\ ∀ t, t ∣ g ↔ ∀ x ∈ xs, t ∣ x | _ => False := by
  refine run_seq (Qh (r := ⟨.int 0, true, []⟩) rfl ?_)
  rw [Qo]
  refine QG (QaH (toD := D.int) xs (λ k ρ => ∃ g j2 j3 j4, (∀ t, t ∣ g ↔ ∀ x ∈ xs.take k, t ∣ x) /\ ρ = [some (Qj xs, false), some (.int g, true), j2, j3, j4]) (Q7 (r := ⟨Qj xs, false, []⟩) rfl rfl) rfl ⟨0, none, none, none, λ t => by simp, rfl⟩ ?_ ?_)
  ·rintro k x ρ hk ⟨g, j2, j3, j4, hg, rfl⟩
   refine ⟨[some (Qj xs, false), some (.int g, true), some (.int x, true), j3, j4], rfl, ?_⟩
   refine run_seq (Qh (r := ⟨.int x, false, []⟩) rfl ?_)
   rw [Qck rfl]
   refine Qaa (P := λ ρ => ∃ g' j4, (∀ t, t ∣ g' ↔ (t ∣ g /\ t ∣ x)) /\ ρ = [some (Qj xs, false), some (.int g', true), some (.int x, true), some (.int 0, true), j4]) ?_ ?_
   ·refine QmR (λ n ρ => ∃ g' r j4, n = r.natAbs /\ (∀ t, (t ∣ g' /\ t ∣ r) ↔ (t ∣ g /\ t ∣ x)) /\ ρ = [some (Qj xs, false), some (.int g', true), some (.int x, true), some (.int r, true), j4]) ?_ x.natAbs _ ⟨g, x, j4, rfl, λ _ => Iff.rfl, rfl⟩
    rintro n ρ ⟨g', r, j4, rfl, hd, rfl⟩
    refine ⟨!decide (r = 0), Qv (Qcg (a := r) (b := 0) (ra := ⟨.int r, true, []⟩) rfl rfl rfl rfl) rfl, λ h => ?_, λ h => ?_⟩
    ·have hr : r = 0 := by simpa using h
     subst hr
     exact ⟨g', j4, λ t => by rw [← hd t]; simp, rfl⟩
    ·have hr : r ≠ 0 := by simpa using h
     refine run_seq (Qh (r := ⟨.int (Qbs g' r), true, []⟩) (Qa1 (ra := ⟨.int g', true, []⟩) (rb := ⟨.int r, true, []⟩) rfl rfl (by show (if r ≠ 0 then some (D.int (Qbs g' r)) else none) = _; rw [if_pos hr])) ?_)
     rw [Qo]
     refine run_seq (Qh (r := ⟨.int r, false, []⟩) rfl ?_)
     rw [Qck rfl]
     refine run_seq (Qh (r := ⟨.int (Qbs g' r), false, []⟩) rfl (Qm ?_))
     rw [Qck rfl]
     exact ⟨_, QpN hr, r, Qbs g' r, _, rfl, λ t => Qom.trans (hd t), rfl⟩
   ·rintro ρ ⟨g', j4, hd, rfl⟩
    refine Qm ⟨g', _, _, _, λ t => ?_, rfl⟩
    rw [hd t, hg t, List.take_succ, hk]
    simp only [Zy, Option.toList_some, Zv]
    exact ⟨λ ⟨a, b⟩ y hy => hy.elim (a y) λ e => e ▸ b, λ a => ⟨λ y hy => a y (.inl hy), a x (.inr rfl)⟩⟩
  ·rintro ρ ⟨g, j2, j3, j4, hg, rfl⟩
   rw [ZbE] at hg
   refine QJ (r := ⟨.int (if g < 0 then -g else g), true, []⟩) rfl ⟨rfl, _, rfl, by split <;> omega, λ t => ?_⟩
   rw [← hg t]
   split
   ·exact Int.dvd_neg
   ·exact Iff.rfl
 obtain ⟨o, h1, h2⟩ := key
 cases o with
 | rt d fr =>
  obtain ⟨rfl, g, rfl, g0, hg⟩ := h2
  exact ⟨g, by show Option.bind (QeQ [some (Qj xs, false), none, none, none, none]) outD = _; rw [h1]; rfl, g0, hg⟩
 | _ => exact h2.elim
noncomputable def Qea (QcO : Den) : DS := (Qd (Qq 1 (Qw 1 QcO [] (Qb (Qa 0) Qe))) (Qd (sIf (Qz (dOp gEq (Qf (Qa 1) (dC (.int 1))) (dC (.int 0)))) (Qd QF Qk) Qk) (Qd (QR (Qa 1)) Qk)))
def QeS (d : Den) : Prop := ∀ (n N : Nat) (A : Nat -> Nat -> Int), n <= 8 -> n <= N -> (∀ j, j < N -> ∀ r, r < n -> (A j r).natAbs <= 2 ^ 200) -> Qeq n A -> ∃ m R b, d [Qi n N (λ i j => A j i)] = some (.tup [Qi n N R, .int b], false) /\ Qcx n N n A m R b
theorem QkB {dc : Den} (hc : Qfv dc) : QeS (Qp 2 (Qea dc)) := λ n N A n8 hN hA hl => by
 obtain ⟨m, R, b, ec, C⟩ := hc n N A n8 hN hA hl
 refine ⟨m, R, b, Q8 ?_, C⟩
 refine run_seq (Qh (r := ⟨.tup [Qi n N R, .int b], false, []⟩) ((Qgu (r := ⟨[Qi n N (λ i j => A j i)], false, []⟩) rfl ec rfl).trans rfl) ?_)
 refine QG (QQ (b := false) (Qv (Qav (a := b) (b := 0) (ra := ⟨.int b, true, []⟩) rfl rfl rfl rfl) (by simp [C.clr.nz])) (λ h => by cases h) (λ _ => Qm ?_))
 exact QJ (r := ⟨.tup [Qi n N R, .int b], false, []⟩) rfl ⟨rfl, rfl⟩
noncomputable def Qfo (QbB : Den) (QaG : Den) (QbE : Den) (Qc5 : Den) : DS := (Qd (Qq 2 (dBf Qae (Qb (Qa 0) Qe))) (Qd (sIf (Qz (dOp gNe (dBf Qae (Qb (Qa 1) Qe)) (Qa 2))) (Qd QF Qk) Qk) (Qd (Qq 3 (Qw 1 QaG [] (Qb (QK (QbC (Qw 1 QbB [] (Qb (Qa 0) Qe)) (Qa 1)) (.tp [1, 2]) [none, none, none] QX (QL (Qa 1) (Qaw (Qb (Qa 2) Qe)))) Qe))) (Qd (Qq 4 (Qw 2 QbE [] (Qb (Qf (Qa 3) (dC (.int 0))) (Qb (Qa 2) Qe)))) (Qd (Qq 5 (Qw 1 Qc5 [] (Qb (QL (Qa 4) (Qaw (Qb (Qf (Qa 3) (dC (.int 1))) Qe))) Qe))) (Qd (sIf (Qz (dOp gLt (Qf (Qa 3) (dC (.int 1))) (dC (.int 0)))) (Qd (Qq 5 (dOp Qb7 (dC (.int 0)) (Qa 5))) Qk) Qk) (Qd (QR (QaK (Qb (QK (Q2 (Qa 4)) (.nm 1) [none, none, some 5] QX (dOp Qe4 (Qa 1) (Qa 2))) (Qb (dOp Qe4 (Qf (Qa 3) (dC (.int 1))) (Qa 5)) Qe)))) Qk)))))))
theorem Qj4 {fa fb : DE} {ρ : En} {ra : R} {m : Nat} {f : Nat -> Int} {x : Int} (ha : fa ρ = some ra) (ea : ra.d = Qc m f) (hb : fb ρ = some ⟨.int x, true, []⟩) (hm : m <= 1000) : QL fa (Qaw (Qb fb Qe)) ρ = some ⟨Qc (m + 1) (up f m x), true, []⟩ := by
 have hb : Qaw (Qb fb Qe) ρ = some ⟨.lst [.int x], true, []⟩ := (Qnx (rs := ⟨[.int x], true, []⟩) (Qg hb (QS _)) (by simp)).trans rfl
 unfold QL
 rw [ha, Za, hb, Za, ea]
 simp only [Qc, Zj, Zx, Qd5]
 rw [if_pos (by simp; omega)]
 unfold Qal
 rw [if_pos (by rw [QcY, Zf]; exact ⟨Qcj (λ _ => rfl) _, rfl⟩)]
 congr 3
 rw [List.range_succ, Zax]
 congr 1
 ·refine ZO λ i hi => ?_
  rw [Qdi, if_neg (by have := Zz.mp hi; omega)]
 ·show _ = [D.int (up f m x m)]
  rw [Qdi, if_pos rfl]
theorem QoU (n : Nat) (f : Nat -> Int) : Qc n f = Qj ((List.range n).map f) := by unfold Qc Qj; rw [Zad]; rfl
def QgX (d : Den) : Prop := ∀ (n : Nat) (f : Nat -> Nat -> Int) (row : Nat -> Int), n <= 8 -> (∀ j r, j < n -> r < n -> (f j r).natAbs <= 2 ^ 200) -> (∀ r, r < n -> (row r).natAbs <= 2 ^ 200) -> Qeq n f -> ∃ tops q, d [Qi n n f, Qc n row] = some (.tup [Qc n tops, .int q], true) /\ 0 < q /\ q.natAbs < 2 ^ 2000 /\ (∀ r, r < n -> q * row r = sm n λ l => tops l * f l r) /\ (∀ l, l < n -> (tops l).natAbs < 2 ^ 2000) /\ (q ≠ 1 -> ∃ l, l < n /\ ¬ q ∣ tops l)
theorem Qmx {dt dc dl dm : Den} (ht : Qe2 dt) (hc : QeS dc) (hl : QeZ dl) (hm : QgO dm) : QgX (Qp 6 (Qfo dt dc dl dm)) := λ n f row n8 hf hr hL => by
 have hA : ∀ j, j < n + 1 -> ∀ r, r < n -> ((λ j r => if j = n then row r else f j r) j r).natAbs <= 2 ^ 200 := λ j hj r hr' => by
  show (if j = n then row r else f j r).natAbs <= _
  split
  ·exact hr r hr'
  ·exact hf j r (by omega) hr'
 have hL' : Qeq n λ j r => if j = n then row r else f j r := λ k hk c h => hL k hk c λ r hr => by
  rw [← h r hr]
  exact Qbb λ l hl => by show c l * f l r = c l * (if l = n then row r else f l r); rw [if_neg (by omega)]
 obtain ⟨m, R, b, ec, C⟩ := hc n (n + 1) _ n8 (by omega) hA hL'
 obtain ⟨sb, sR⟩ := C.small n8 hA
 obtain ⟨g, eg, g0, hg⟩ := hm ((List.range (n + 1)).map (up (λ i => R i n) n b))
 have gb : g ∣ b := (hg g).mp ⟨1, by omega⟩ b (ZQ.mpr ⟨n, Zz.mpr (by omega), by rw [Qdi, if_pos rfl]⟩)
 have gR : ∀ i, i < n -> g ∣ R i n := λ i hi => (hg g).mp ⟨1, by omega⟩ _ (ZQ.mpr ⟨i, Zz.mpr (by omega), by rw [Qdi, if_neg (by omega)]⟩)
 have bz := C.clr.nz
 have gz : g ≠ 0 := λ z => by rw [z] at gb; obtain ⟨x, hx⟩ := gb; rw [ZU] at hx; exact bz hx
 obtain ⟨p, hp⟩ : ∃ p, p = if b < 0 then 0 - g else g := ⟨_, rfl⟩
 have pz : p ≠ 0 := by rw [hp]; split <;> omega
 have pd : ∀ x, g ∣ x -> ∃ y, x = p * y := λ x ⟨y, hy⟩ => by
  rw [hp]
  split
  ·exact ⟨-y, by rw [hy, ZbK, Int.neg_mul_neg]⟩
  ·exact ⟨y, hy⟩
 obtain ⟨q, hq⟩ := pd b gb
 have tp : ∀ i, ∃ y, i < n -> R i n = p * y := λ i => by
  by_cases h : i < n
  ·obtain ⟨y, hy⟩ := pd _ (gR i h); exact ⟨y, λ _ => hy⟩
  ·exact ⟨0, λ h' => absurd h' h⟩
 have gle : g.natAbs <= b.natAbs := ZaJ.mpr gb |> λ h => ZbB (by omega) h
 have ple : p.natAbs < 2 ^ 2000 := by rw [hp]; split <;> omega
 have q0 : 0 < q := by
  by_cases h : b < 0
  ·rw [if_pos h] at hp
   refine ZZ λ z => ?_
   have := Int.mul_nonneg_of_nonpos_of_nonpos (a := p) (b := q) (by omega) (by omega)
   omega
  ·rw [if_neg h] at hp
   refine ZZ λ z => ?_
   have := Int.mul_nonpos_of_nonneg_of_nonpos (a := p) (b := q) (by omega) (by omega)
   omega
 have qle : q.natAbs < 2 ^ 2000 := by
  have : q ∣ b := ⟨p, by rw [hq, ZJ]⟩
  have := ZbB (by omega) (ZaJ.mpr this)
  omega
 have tops_small : ∀ l, l < n -> ((tp l).choose).natAbs < 2 ^ 2000 := λ l hl => by
  have h := (tp l).choose_spec hl
  have := sR l n hl (by omega)
  by_cases z : (tp l).choose = 0
  ·rw [z]; exact Zas (ZW _) this
  ·have d : (tp l).choose ∣ R l n := ⟨p, by rw [ZJ]; exact h⟩
   have nz : R l n ≠ 0 := by rw [h]; exact Int.mul_ne_zero pz z
   have := ZbB (by omega) (ZaJ.mpr d)
   omega
 have low : q ≠ 1 -> ∃ l, l < n /\ ¬ q ∣ (tp l).choose := λ q1 => ZZ λ hno => by
  have all : ∀ l, l < n -> q ∣ (tp l).choose := λ l hl => ZZ λ z => hno ⟨l, hl, z⟩
  have bg : b ∣ g := (hg b).mpr λ x hx => by
   obtain ⟨i, hi, rfl⟩ := ZQ.mp hx
   rw [Qdi]
   split
   ·exact ⟨1, by omega⟩
   ·rename_i z
    have hi' : i < n := by have := Zz.mp hi; omega
    obtain ⟨y, hy⟩ := all i hi'
    exact ⟨y, by rw [(tp i).choose_spec hi', hy, hq, ZK]⟩
  have h1 := ZbB (by omega) (ZaJ.mpr bg)
  have pg : p.natAbs = g.natAbs := by rw [hp]; split <;> omega
  have h2 : b.natAbs = g.natAbs * q.natAbs := by rw [hq, ZaP, pg]
  have h3 : 2 <= q.natAbs := by omega
  have h4 := Nat.mul_le_mul_left g.natAbs h3
  omega
 refine ⟨λ i => (tp i).choose, q, Q8 ?_, q0, qle, λ r hr' => ?_, tops_small, low⟩
 ·refine run_seq (Qh (QeG (n := n) (m := n) (f := f) (r := ⟨Qi n n f, false, []⟩) rfl rfl) ?_)
  rw [Qo]
  refine QG (QQ (b := false) (Qv (b := false) (r := ⟨.bl false, true, []⟩) ((Qcg (a := n) (b := n) ((Qdk (xs := (List.range n).map λ i => .int (row i)) (r := ⟨Qc n row, false, []⟩) rfl rfl).trans (by rw [Zj, Zx])) rfl (rb := ⟨.int n, true, []⟩) rfl rfl).trans (by simp)) rfl) (λ h => by cases h) (λ _ => Qm ?_))
  have et := ht n f (by omega)
  have eZ : QK (QbC (Qw 1 dt [] (Qb (Qa 0) Qe)) (Qa 1)) (.tp [1, 2]) [none, none, none] QX (QL (Qa 1) (Qaw (Qb (Qa 2) Qe))) [some (Qi n n f, false), some (Qc n row, false), some (.int n, true), none, none, none] = some ⟨Qi n (n + 1) (λ i j => (λ j r => if j = n then row r else f j r) j i), true, []⟩ := by
   refine (QT (toD := λ (i : Nat) => .tup [Qc n (λ j => f j i), .int (row i)]) (out := λ (i : Nat) => Qc (n + 1) (up (λ j => f j i) n (row i))) (List.range n) (Qcl (f := λ i => Qc n (λ j => f j i)) (g := λ i => .int (row i)) (Qy (r := ⟨[Qi n n f], false, []⟩) rfl et rfl) rfl (rb := ⟨Qc n row, false, []⟩) rfl rfl) rfl λ i hi => ⟨[none, some (Qc n (λ j => f j i), false), some (.int (row i), true)], rfl, ⟨Qc (n + 1) (up (λ j => f j i) n (row i)), true, []⟩, Qj4 (m := n) (f := λ j => f j i) (ra := ⟨Qc n (λ j => f j i), false, []⟩) rfl rfl rfl (by omega), rfl, rfl⟩).trans ?_
   have eT : Qi n (n + 1) (λ i j => (λ j r => if j = n then row r else f j r) j i) = .lst ((List.range n).map λ i => Qc (n + 1) (up (λ j => f j i) n (row i))) := by
    unfold Qi
    refine congrArg D.lst (ZO λ i _ => ?_)
    unfold Qc
    exact congrArg D.lst (ZO λ j _ => by rw [Qdi])
   rw [eT]
  refine run_seq (Qh (r := ⟨.tup [Qi n (n + 1) R, .int b], false, []⟩) ((Qgu (Qg eZ (QS _)) ec rfl).trans rfl) ?_)
  refine run_seq (Qh (Qy (r := ⟨[Qi n (n + 1) R, .int n], false, []⟩) rfl (hl n (n + 1) R n (by omega)) rfl) ?_)
  rw [Qo]
  refine run_seq (Qh (Qy (Qg (Qj4 (m := n) (f := λ i => R i n) (x := b) (ra := ⟨Qc n (λ i => R i n), true, [4]⟩) rfl rfl rfl (by omega)) (QS _)) (by show dm [Qc (n + 1) (up (λ i => R i n) n b)] = _; rw [QoU]; exact eg) rfl) ?_)
  rw [Qo]
  refine Qaa (P := λ ρ => ρ = [some (Qi n n f, false), some (Qc n row, false), some (.int n, true), some (.tup [Qi n (n + 1) R, .int b], false), some (Qc n (λ i => R i n), true), some (.int p, true)]) ?_ ?_
  ·refine QQ (b := decide (b < 0)) (Qv (Qa1 (d := .bl (decide (b < 0))) (ra := ⟨.int b, true, []⟩) (rb := ⟨.int 0, true, []⟩) rfl rfl rfl) rfl) (λ h => ?_) (λ h => ?_)
   ·refine run_seq (Qh (r := ⟨.int (0 - g), true, []⟩) rfl (Qm ?_))
    rw [Qo, hp, if_pos (of_decide_eq_true h)]; rfl
   ·refine Qm ?_
    rw [hp, if_neg (of_decide_eq_false h)]; rfl
  ·rintro ρ rfl
   refine QJ (r := ⟨.tup [Qc n λ i => (tp i).choose, .int q], true, []⟩) ?_ ⟨rfl, rfl⟩
   unfold QaK
   refine (congrArg (λ z => Option.bind z _) (Qg (QT (toD := λ (i : Nat) => .int (R i n)) (out := λ (i : Nat) => .int (tp i).choose) (List.range n) (Q7 (r := ⟨Qc n (λ i => R i n), true, [4]⟩) rfl rfl) rfl λ i hi => ⟨[none, some (.int (R i n), true), some (.int p, true)], rfl, ⟨.int (tp i).choose, true, []⟩, Qh2 (a := R i n) (b := p) (ra := ⟨.int (R i n), true, []⟩) (rb := ⟨.int p, true, []⟩) rfl rfl rfl rfl pz ple ((tp i).choose_spec (Zz.mp hi)), rfl, rfl⟩) (Qg (Qh2 (a := b) (b := p) (q := q) (ra := ⟨.int b, true, []⟩) (rb := ⟨.int p, true, []⟩) rfl rfl rfl rfl pz ple hq) (QS _)))).trans ?_
   rfl
 ·have t := C.clr.tell (j := n) (by omega) hr'
  have t : b * row r = sm n λ l => R l n * m l r := by
   have e : (if n = n then row r else f n r) = row r := if_pos rfl
   rw [← e]; exact t
  rw [Qbb (g := λ l => ((tp l).choose * f l r) * p) λ l hl => by
   rw [C.clr.own l hl]
   show R l n * (if l = n then row r else f l r) = _
   rw [if_neg (by omega), ZJ _ p, ← ZK, ← (tp l).choose_spec hl], Qlc, hq] at t
  refine Zav pz ?_
  rw [← ZK, t, ZJ]
theorem QmM {n N : Nat} {A : Nat -> Nat -> Int} (hN : n <= N) (hA : ∀ j, j < N -> ∀ r, r < n -> (A j r).natAbs <= 2 ^ 200) (hl : Qeq n A) : ∀ k, k <= n -> ∃ m R d, Qcx n N k A m R d
 | 0, _ => ⟨_, _, _, Qcx.start n N A⟩
 | k + 1, hk => by
  obtain ⟨m, R, d, C⟩ := QmM hN hA hl k (by omega)
  have pv := C.QpA (show k < n by omega) (by omega) hl
  have ex : ∀ i j, ∃ q, i < n -> i ≠ k -> j < N -> R k k * R i j - R i k * R k j = d * q := λ i j => by
   by_cases h : i < n /\ i ≠ k /\ j < N
   ·exact ⟨_, λ h1 h2 h3 => C.clr.exact (by omega) (by omega) h1 h3 h2⟩
   ·exact ⟨0, λ h1 h2 h3 => absurd ⟨h1, h2, h3⟩ h⟩
  refine ⟨_, λ i j => if i = k then R k j else (ex i j).choose, _, C.step (by omega) (by omega) hA pv (λ j _ => by rw [if_pos rfl]) λ i j hi ne hj q hq => ?_⟩
  rw [if_neg ne]
  exact Zav C.clr.nz (((ex i j).choose_spec hi ne hj).symm.trans hq)
noncomputable def QM (m : Nat) (T : Nat -> Nat -> Int) (v : Nat -> Int) : Nat -> Int := λ j => 2 * (0 - T j j) - Qr m T (λ j => 2 * (0 - T j j)) v j
theorem Qiy {m : Nat} {T : Nat -> Nat -> Int} {v : Nat -> Int} (j : Nat) : QM m T v j = - Ql m λ i => v i * T i j := by
 unfold QM Qr; show 2 * (0 - T j j) - (2 * (0 - T j j) + _) = _; omega
def Rec (m : Nat) (T : Nat -> Nat -> Int) (v x : Nat -> Int) : Prop := ∃ (y u : Nat -> Int), (∀ j, j < m -> 0 <= y j) /\ Told m T (λ j => y j + QM m T v j) u /\ ∀ j, j < m -> x j = Qr m T (λ j => y j + QM m T v j) u j
structure Dbl (m : Nat) (T : Nat -> Nat -> Int) (v : Nat -> Int) : Prop where
 told : Told m T (λ j => 2 * (0 - T j j)) v
theorem Dbl.big {m : Nat} {T : Nat -> Nat -> Int} {v : Nat -> Int} (h : Dbl m T v) {j : Nat} (hj : j < m) : (0 - T j j) + 1 <= QM m T v j /\ QM m T v j <= 2 * (0 - T j j) := by
 have h1 := h.told.stb j hj
 have h2 := h.told.pos j hj
 unfold QM
 omega
theorem Dbl.round {m : Nat} {T : Nat -> Nat -> Int} {v : Nat -> Int} (h : Dbl m T v) (tp : TP m T) {y u : Nat -> Int} (y0 : ∀ j, j < m -> 0 <= y j) (hu : Told m T (λ j => y j + QM m T v j) u) : Told m T (λ j => y j + QM m T v j + QM m T v j) (λ i => v i + u i) /\ ∀ j, j < m -> Qr m T (λ j => y j + QM m T v j) u j = Qr m T (λ j => y j + QM m T v j + QM m T v j) (λ i => v i + u i) j := by
 refine h.told.lay (λ j hj => ?_) (λ j hj => ?_) hu
 ·have b := h.big hj
  have := h.told.stb j hj
  have e : QM m T v j = 2 * (0 - T j j) - Qr m T (λ j => 2 * (0 - T j j)) v j := rfl
  have := y0 j hj
  omega
 ·have e : QM m T v j = 2 * (0 - T j j) - Qr m T (λ j => 2 * (0 - T j j)) v j := rfl
  omega
theorem Rec.comes {m : Nat} {T : Nat -> Nat -> Int} {v x w : Nat -> Int} (tp : TP m T) (h : Dbl m T v) (hr : Rec m T v x) (hw : Told m T (λ j => x j + QM m T v j) w) : ∀ j, j < m -> Qr m T (λ j => x j + QM m T v j) w j = x j := λ j hj => by
 obtain ⟨y, u, y0, hu, ex⟩ := hr
 obtain ⟨t2, e2⟩ := h.round tp y0 hu
 obtain ⟨t1, e1⟩ := hu.lay (F' := λ j => y j + QM m T v j + QM m T v j) (h := λ j => x j + QM m T v j) (c := w) (λ j hj => by have := h.big hj; have := tp.neg j hj; show _ <= y j + QM m T v j + QM m T v j; omega) (λ j hj => by show x j + _ = _; rw [ex j hj]; omega) hw
 have one := t1.one tp t2
 rw [e1 j hj, ex j hj, e2 j hj]
 exact QcP j rfl one
theorem Dbl.pos {m : Nat} {T : Nat -> Nat -> Int} {v : Nat -> Int} (tp : TP m T) (h : Dbl m T v) {j : Nat} (hj : j < m) : 1 <= v j := by
 refine ZZ λ z => ?_
 have v0 : v j = 0 := by have := h.told.leg.nonneg j; omega
 have s := h.told.stb j hj
 have : 0 <= Ql m λ i => v i * T i j := Qh9 λ i hi => by
  by_cases e : i = j
  ·rw [e, v0, ZU]; exact ZaU _
  ·exact ZaE (h.told.leg.nonneg i) (tp.pos i j hi hj e)
 have e : Qr m T (λ j => 2 * (0 - T j j)) v j = 2 * (0 - T j j) + Ql m λ i => v i * T i j := rfl
 have := tp.neg j hj
 omega
theorem Rec.QpB {m : Nat} {T : Nat -> Nat -> Int} {v y u : Nat -> Int} (tp : TP m T) (h : Dbl m T v) (y0 : ∀ j, j < m -> 0 <= y j) (hu : Told m T (λ j => y j + QM m T v j) u) : ∀ N : Nat, Told m T (λ j => (y j + N * QM m T v j) + QM m T v j) (λ i => u i + N * v i) /\ ∀ j, j < m -> Qr m T (λ j => (y j + N * QM m T v j) + QM m T v j) (λ i => u i + N * v i) j = Qr m T (λ j => y j + QM m T v j) u j
 | 0 => by
  have e1 : (λ j => (y j + ((0 : Nat) : Int) * QM m T v j) + QM m T v j) = λ j => y j + QM m T v j := by funext j; simp
  have e2 : (λ i => u i + ((0 : Nat) : Int) * v i) = u := by funext i; simp
  rw [e1, e2]
  exact ⟨hu, λ _ _ => rfl⟩
 | N + 1 => by
  obtain ⟨t, e⟩ := Rec.QpB tp h y0 hu N
  obtain ⟨t2, e2⟩ := h.round tp (y := λ j => y j + N * QM m T v j) (λ j hj => by
   have := h.big hj
   have := tp.neg j hj
   have := ZaE (show (0 : Int) <= N by omega) (show 0 <= QM m T v j by omega)
   have := y0 j hj
   show 0 <= y j + N * QM m T v j
   omega) t
  have e3 : (λ j => (y j + ((N + 1 : Nat) : Int) * QM m T v j) + QM m T v j) = λ j => y j + N * QM m T v j + QM m T v j + QM m T v j := by
   funext j; rw [Zbl, Zag]; simp; omega
  have e4 : (λ i => u i + ((N + 1 : Nat) : Int) * v i) = λ i => v i + (u i + N * v i) := by
   funext i; rw [Zbl, Zag]; simp; omega
  rw [e3, e4]
  exact ⟨t2, λ j hj => by rw [← e2 j hj, e j hj]⟩
theorem Qln {m : Nat} {T : Nat -> Nat -> Int} {f c d : Nat -> Int} (j : Nat) : Qr m T (Qr m T f c) d j = Qr m T f (λ i => c i + d i) j := by
 unfold Qr
 have : (λ i => (c i + d i) * T i j) = λ i => c i * T i j + d i * T i j := by funext i; rw [Zag]
 rw [this, Qci]
 omega
theorem QnO {m : Nat} (d : Nat -> Int) : ∃ N : Nat, ∀ i, i < m -> -(N : Int) <= d i := by
 induction m with
 | zero => exact ⟨0, λ i hi => by omega⟩
 | succ m ih =>
  obtain ⟨N, h⟩ := ih
  refine ⟨N + (d m).natAbs, λ i hi => ?_⟩
  by_cases e : i = m
  ·subst e; omega
  ·have := h i (by omega); omega
theorem Rec.least {m : Nat} {T : Nat -> Nat -> Int} {v x d : Nat -> Int} (tp : TP m T) (h : Dbl m T v) (hr : Rec m T v x) (hs : Stb m T (Qr m T x d)) : ∀ i, i < m -> 0 <= d i := by
 obtain ⟨y, u, y0, hu, ex⟩ := hr
 obtain ⟨N, hN⟩ := QnO (m := m) d
 obtain ⟨t, e⟩ := Rec.QpB tp h y0 hu N
 have := t.leg.least tp (c' := λ i => (u i + N * v i) + d i) (λ i hi => by
  have h1 := h.pos tp hi
  have h2 := hu.leg.nonneg i
  have h3 := hN i hi
  have h4 := Zbj h1 (show (0 : Int) <= N by omega)
  show 0 <= u i + N * v i + d i
  omega) (λ p hp => by
  have := hs p hp
  rw [← Qln]
  have e2 : Qr m T (Qr m T (λ j => (y j + N * QM m T v j) + QM m T v j) λ i => u i + N * v i) d p = Qr m T x d p := QcP p (by rw [e p hp, ex p hp]) λ _ _ => rfl
  rw [e2]; exact this)
 intro i hi
 have := this i hi
 omega
theorem Rec.one {m : Nat} {T : Nat -> Nat -> Int} {v v' x x' d : Nat -> Int} (tp : TP m T) (h : Dbl m T v) (h' : Dbl m T v') (hr : Rec m T v x) (hr' : Rec m T v' x') (sx : Stb m T x) (sx' : Stb m T x') (e : ∀ j, j < m -> x' j = Qr m T x d j) : ∀ i, i < m -> d i = 0 := λ i hi => by
 have a := hr.least tp h (d := d) (λ p hp => by rw [← e p hp]; exact sx' p hp) i hi
 have b := hr'.least tp h' (d := λ i => - d i) (λ p hp => by
  have : Qr m T x' (λ i => - d i) p = x p := by
   have q : Qr m T x' (λ i => - d i) p = Qr m T (Qr m T x d) (λ i => - d i) p := QcP p (e p hp) λ _ _ => rfl
   rw [q, Qln]
   unfold Qr
   rw [QD (g := λ _ => 0) λ i _ => by show (d i + - d i) * T i p = 0; rw [Int.add_right_neg, ZU], QaN]
   omega
  rw [this]; exact sx p hp) i hi
 omega
noncomputable def Qd7 : DS := (Qd (QR (QaK (Qb (Qf (Qa 0) (dC (.int 0))) (Qb (dList (Qb (Qf (Qa 0) (dC (.int 1))) Qe)) (Qb (dList (Qb (Qf (Qa 0) (dC (.int 2))) Qe)) Qe))))) Qk)
def QhJ (d : Den) : Prop := ∀ (m : Int) (R L : List (Int × Int)), d [QE m R L] = some (QE m R L, true)
theorem Qn4 : QhJ (Qp 1 Qd7) := λ m R L => by
 refine Q8 (QJ (r := ⟨QE m R L, true, []⟩) ?_ ⟨rfl, rfl⟩)
 obtain ⟨h1, h2, h3⟩ := Qco (m := m) (R := R) (L := L) (fa := Qa 0) (ρ := [some (QE m R L, false)]) (r := ⟨QE m R L, false, []⟩) rfl rfl
 unfold QaK
 refine (congrArg (λ z => Option.bind z _) (Qg h1 (Qg (Qgt (A := R) (Qg h2 (QS _)) rfl rfl) (Qg (Qgt (A := L) (Qg h3 (QS _)) rfl rfl) (QS _))))).trans ?_
 rfl
noncomputable def Qbf : DS := (Qd (Qbh (QbC (Qa 0) (Qa 2)) (.tp [3, 4]) (Qd (Qq 1 (QK (QbC (Qa 1) (Qa 3)) (.tp [1, 2]) [none, none, none, some 4] QX (QL (Qa 1) (Qab (Qa 3) (Qa 2))))) Qk)) (Qd (QR (Qa 1)) Qk))
def QdA (d : Den) : Prop := ∀ (m : Nat) (T : Nat -> Nat -> Int) (f c : Nat -> Int), 0 < m -> m <= 1000 -> (∀ i j, i < m -> j < m -> (T i j).natAbs < 2 ^ 64) -> d [Qi m m T, Qc m f, Qc m c] = some (Qc m (Qr m T f c), true)
theorem QkF : QdA (Qp 5 Qbf) := λ m T f c m0 hm hT => by
 have key : Run Qbf [some (Qi m m T, false), some (Qc m f, false), some (Qc m c, false), none, none] λ o => match o with | .rt d fr => fr = true /\ d = Qc m (Qr m T f c) | _ => False := by
  refine QG (QaH (toD := λ (i : Nat) => .tup [Qc m (T i), .int (c i)]) (List.range m) (λ k ρ => ∃ b j3 j4, (0 < k -> b = true) /\ ρ = [some (Qi m m T, false), some (Qc m (λ j => f j + Ql k λ i => c i * T i j), b), some (Qc m c, false), j3, j4]) (Qcl (f := λ i => Qc m (T i)) (g := λ i => .int (c i)) (ra := ⟨Qi m m T, false, []⟩) (rb := ⟨Qc m c, false, []⟩) rfl rfl rfl rfl) rfl ⟨false, none, none, λ h => by omega, ?_⟩ ?_ ?_)
  ·show [some (Qi m m T, false), some (Qc m f, false), some (Qc m c, false), none, none] = _
   rw [show (λ j => f j + Ql 0 λ i => c i * T i j) = f from by funext j; simp [Ql]]
  ·rintro k k' ρ hk ⟨b, j3, j4, _, rfl⟩
   have hk' : k < m /\ k = k' := by
    obtain ⟨h1, h2⟩ := Zd.mp hk
    simp at h1 h2; exact ⟨h1, h2⟩
   obtain ⟨hkm, rfl⟩ := hk'
   refine ⟨[some (Qi m m T, false), some (Qc m (λ j => f j + Ql k λ i => c i * T i j), b), some (Qc m c, false), some (Qc m (T k), false), some (.int (c k), true)], rfl, ?_⟩
   refine run_seq (Qh (r := ⟨Qc m (λ j => f j + Ql (k + 1) λ i => c i * T i j), true, []⟩) (QT (toD := λ (j : Nat) => .tup [.int (f j + Ql k λ i => c i * T i j), .int (T k j)]) (out := λ (j : Nat) => .int (f j + Ql (k + 1) λ i => c i * T i j)) (List.range m) (ir := ⟨(List.range m).map λ j => .tup [.int (f j + Ql k λ i => c i * T i j), .int (T k j)], if b = true then [1] else []⟩) (by cases b; exact Qcl (f := λ j => .int (f j + Ql k λ i => c i * T i j)) (g := λ j => .int (T k j)) (ra := ⟨Qc m (λ j => f j + Ql k λ i => c i * T i j), false, []⟩) (rb := ⟨Qc m (T k), false, []⟩) rfl rfl rfl rfl; exact Qcl (f := λ j => .int (f j + Ql k λ i => c i * T i j)) (g := λ j => .int (T k j)) (ra := ⟨Qc m (λ j => f j + Ql k λ i => c i * T i j), true, [1]⟩) (rb := ⟨Qc m (T k), false, []⟩) rfl rfl rfl rfl) rfl λ j hj => ⟨[none, some (.int (f j + Ql k λ i => c i * T i j), true), some (.int (T k j), true), some (.int (c k), true)], rfl, ⟨.int (f j + (Ql k λ i => c i * T i j) + c k * T k j), true, []⟩, Q0 (a := f j + Ql k λ i => c i * T i j) (b := c k * T k j) (ra := ⟨.int (f j + Ql k λ i => c i * T i j), true, []⟩) rfl rfl (Qac (a := c k) (b := T k j) (ra := ⟨.int (c k), true, []⟩) (rb := ⟨.int (T k j), true, []⟩) rfl rfl rfl rfl (Qdc (hT k j hkm (Zz.mp hj)))) rfl, by rw [Q3, Int.add_assoc], rfl⟩) (Qm ?_))
   rw [Qo]
   exact ⟨true, _, _, λ _ => rfl, rfl⟩
  ·rintro ρ ⟨b, j3, j4, hb, rfl⟩
   rw [Zx] at hb ⊢
   have hb := hb m0
   subst hb
   exact QJ (r := ⟨Qc m (λ j => f j + Ql m λ i => c i * T i j), true, [1]⟩) rfl ⟨rfl, rfl⟩
 obtain ⟨o, h1, h2⟩ := key
 cases o with
 | rt d fr =>
  obtain ⟨rfl, rfl⟩ := h2
  show Option.bind (Qbf [some (Qi m m T, false), some (Qc m f, false), some (Qc m c, false), none, none]) outD = _
  rw [h1]; rfl
 | _ => exact h2.elim
theorem Rec.of {m : Nat} {T : Nat -> Nat -> Int} {v v' x : Nat -> Int} (tp : TP m T) (h : Dbl m T v) (h' : Dbl m T v') : ∀ j, QM m T v' j = QM m T v j := λ j => by
 have e := h.told.one tp h'.told
 rw [Qiy, Qiy]
 exact congrArg (λ z => - z) (QD λ i hi => by rw [e i hi])
theorem Qlo {fa : DE} {ρ : En} {r : R} {a b : D} (h : fa ρ = some r) (e : r.d = .tup [a, b]) : Qf fa (dC (.int 0)) ρ = some (HS.R.norm ⟨a, r.fr, r.M⟩) /\ Qf fa (dC (.int 1)) ρ = some (HS.R.norm ⟨b, r.fr, r.M⟩) := by
 unfold Qf
 rw [h]
 simp only [Za, e, Qaq]
 exact ⟨rfl, rfl⟩
structure Qur (m : Nat) (T : Nat -> Nat -> Int) (f k : Nat -> Int) : Prop where
 ex : ∃ v, Dbl m T v /\ Rec m T v (Qr m T f k)
 stb : Stb m T (Qr m T f k)
 nn : ∀ j, j < m -> 0 <= Qr m T f k j
theorem QrC {m : Nat} {T : Nat -> Nat -> Int} {k : Nat -> Int} (j : Nat) : (Ql m λ i => - k i * T i j) = - Ql m λ i => k i * T i j := by
 rw [← QdN]; exact QD λ i _ => by rw [ZaF]
def HpB (m : Nat) (h : Nat -> Int) : Prop := ∀ j, j < m -> 0 <= h j /\ h j <= 2 ^ 62
theorem HpB.up {m : Nat} {h : Nat -> Int} (b : HpB m h) : ∀ j, j < m -> 0 <= h j /\ h j <= 2 ^ 100 := λ j hj => by
 have := b j hj
 have : (2 : Int) ^ 62 <= 2 ^ 100 := by decide
 omega
theorem QoN {fa fb : DE} {ρ : En} {ra rb : R} {m n : Nat} {f : Nat -> Int} (ha : fa ρ = some ra) (ea : ra.d = Qc m f) (hb : fb ρ = some rb) (eb : rb.d = .int n) (h : n <= m) : Qar fa (QY fb) Qat ρ = some ⟨Qc (m - n) λ i => f (n + i), true, []⟩ := by
 have cut : cutD ((List.range m).map λ i => D.int (f i)) (some (n : Int)) none = (List.range (m - n)).map λ i => D.int (f (n + i)) := by
  unfold cutD
  simp only [Zj, Zx, HT.Qdd, HT.Qc7]
  rw [Zaj h, ← ZbA, ← ZaH]
  have e : ((List.range m).drop n).take (m - n) = (List.range (m - n)).map λ i => n + i := by
   rw [ZR (by simp)]
   refine ZaK λ i => ?_
   rw [List.getElem?_drop, Zm]
   by_cases hi : i < m - n
   ·rw [ZF (by omega), ZF hi]; rfl
   ·rw [Zr (by simp; omega), Zr (by simp; omega)]; rfl
  rw [e, Zad]
  rfl
 unfold Qar Qat QY
 simp only [ha, hb, Za, ea, eb, Qc, cut, Qal]
 have : QI ((List.range (m - n)).map λ i => D.int (f (n + i))) = true := by
  have := QeR ((List.range (m - n)).map λ i => f (n + i))
  rw [Zad] at this
  exact this
 rw [if_pos this]
theorem Qkg (ds : List D) (M : List Nat) : (Qal ds M).d = .lst ds := by unfold Qal; split <;> rfl
theorem QnP {fa fb : DE} {ρ : En} {ra rb : R} {xs : List D} {n : Nat} (ha : fa ρ = some ra) (ea : ra.d = .lst xs) (hb : fb ρ = some rb) (eb : rb.d = .int n) (h : n <= xs.length) : ∃ r : HS.R, Qar fa Qat (QY fb) ρ = some r /\ r.d = .lst (xs.take n) := by
 unfold Qar Qat QY
 simp only [ha, hb, Za, ea, eb]
 refine ⟨_, rfl, ?_⟩
 rw [Qkg]
 unfold cutD
 simp only [HT.Qdd, HT.Qc7, ZaX, Zbp]
 rw [Zaj h]
theorem QoE {fa fb : DE} {ρ : En} {ra rb : R} {xs : List D} {n : Nat} (ha : fa ρ = some ra) (ea : ra.d = .lst xs) (hb : fb ρ = some rb) (eb : rb.d = .int n) (h : n <= xs.length) : ∃ r : HS.R, Qar fa (QY fb) Qat ρ = some r /\ r.d = .lst (xs.drop n) := by
 unfold Qar Qat QY
 simp only [ha, hb, Za, ea, eb]
 refine ⟨_, rfl, ?_⟩
 rw [Qkg]
 unfold cutD
 simp only [HT.Qdd, HT.Qc7]
 rw [Zaj h, ZR (by simp)]
theorem Qn8 {fa fb : DE} {ρ : En} {ra rb : R} {xs ys : List D} (ha : fa ρ = some ra) (ea : ra.d = .lst xs) (hb : fb ρ = some rb) (eb : rb.d = .lst ys) (h : xs.length + ys.length <= 1000) : ∃ r : HS.R, QL fa fb ρ = some r /\ r.d = .lst (xs ++ ys) := by
 unfold QL
 rw [ha, Za, hb, Za, ea, eb]
 refine ⟨_, if_pos (Zu h (by decide)), Qkg _ _⟩
theorem QoD {n k : Nat} (hk : k < n + 1) (g : Nat -> D) : ((List.range (n + 1)).map g).take k ++ ((List.range (n + 1)).map g).drop (k + 1) = (List.range n).map λ c => g (skp k c) := by
 refine ZaK λ i => ?_
 by_cases hi : i < n
 ·rw [Zm (l := List.range n), ZF hi, List.getElem?_append]
  have l1 : (((List.range (n + 1)).map g).take k).length = k := by rw [Zaf, Zj, Zx]; omega
  rw [l1]
  unfold skp
  by_cases q : i < k
  ·rw [if_pos q, List.getElem?_take, if_pos q, Zm, ZF (by omega)]
   simp [q]
  ·rw [if_neg q, List.getElem?_drop, Zm, show k + 1 + (i - k) = i + 1 by omega, ZF (by omega)]
   simp [q]
 ·rw [Zr (by simp; omega), Zr (by simp; omega)]
noncomputable def QaT (QaS : Den) : DS := (Qd (sIf (Qz (dOp gEq (dBf Qae (Qb (Qa 0) Qe)) (dC (.int 1)))) (Qd (QR (Qf (Qf (Qa 0) (dC (.int 0))) (dC (.int 0)))) Qk) Qk) (Qd (Qq 1 (dC (.int 0))) (Qd (Qbh (QaJ (dBf Qae (Qb (Qa 0) Qe))) (.nm 2) (Qd (sIf (Qz (dOp gNe (Qf (Qf (Qa 0) (Qa 2)) (dC (.int 0))) (dC (.int 0)))) (Qd (Qq 3 (Qw 1 QaS [] (Qb (QK (Q2 (QL (Qar (Qa 0) Qat (QY (Qa 2))) (Qar (Qa 0) (QY (QL (Qa 2) (dC (.int 1)))) Qat))) (.nm 1) [none, none] QX (Qar (Qa 1) (QY (dC (.int 1))) Qat)) Qe))) (Qd (Qq 1 (QL (Qa 1) (Qab (Qab (dOp Qb7 (dC (.int 1)) (Qab (dC (.int 2)) (dOp Qan (Qa 2) (dC (.int 2))))) (Qf (Qf (Qa 0) (Qa 2)) (dC (.int 0)))) (Qa 3)))) Qk)) Qk) Qk)) (Qd (QR (Qa 1)) Qk))))
def QcA (N : Nat) (d : Den) : Prop := ∀ (n : Nat) (A : Nat -> Nat -> Int), 1 <= n -> n <= N -> n <= 8 -> (∀ j, j < n -> ∀ r, r < n -> (A j r).natAbs <= 2 ^ 200) -> d [Qi n n A] = some (.int (det n A), true)
theorem Qq6 : QcA 0 (λ _ => none) := λ n A h1 h2 => by omega
theorem Qrc (k : Nat) : 1 - 2 * ((k : Int) % 2) = sgn k := by
 unfold sgn
 split <;> omega
set_option maxHeartbeats 0 in
theorem Qdj {N : Nat} {d : Den} (ih : QcA N d) : QcA (N + 1) (Qp 4 (QaT d)) := λ n A h1 hN h8 hA => by
 have len : ∀ {ρ : En}, ρ[0]? = some (some (Qi n n A, false)) -> dBf Qae (Qb (Qa 0) Qe) ρ = some ⟨.int n, true, []⟩ := λ {ρ} h => QeG (n := n) (m := n) (f := A) (Qam h) rfl
 have entry : ∀ {ρ : En} {fk : DE} {k : Nat}, ρ[0]? = some (some (Qi n n A, false)) -> fk ρ = some ⟨.int k, true, []⟩ -> k < n -> Qf (Qf (Qa 0) fk) (dC (.int 0)) ρ = some ⟨.int (A k 0), true, []⟩ := λ {ρ fk k} h hk hkn => Qcf (m := n) (f := A k) (i := 0) (QfT (m := n) (n := n) (f := A) (i := k) (Qam h) rfl hk rfl (by omega) (by omega)) rfl (Qaq _ _) rfl (by omega)
 refine Q8 ?_
 refine QG (QQ (Qv (Qav (a := n) (b := 1) (len rfl) rfl (Qaq _ _) rfl) rfl) (λ h => ?_) (λ h => Qm ?_))
 ·have e : n = 1 := by have := of_decide_eq_true h; omega
  subst e
  refine QG (QeK (entry (k := 0) rfl (Qaq _ _) (by decide)) ⟨?_, rfl⟩)
  show D.int (A 0 0) = .int (sm 1 λ j => sgn j * A j 0 * 1)
  congr 1
  show A 0 0 = 0 + 1 * A 0 0 * 1
  omega
 have n2 : 2 <= n := by have := of_decide_eq_false h; omega
 obtain ⟨p, rfl⟩ : ∃ p, n = p + 1 := ⟨n - 1, by omega⟩
 refine run_seq (Qh (r := ⟨.int 0, true, []⟩) rfl ?_)
 rw [Qo]
 refine Qaa (P := λ ρ => ∃ j2 j3, ρ = [some (Qi (p + 1) (p + 1) A, false), some (.int (det (p + 1) A), true), j2, j3]) ?_ ?_
 ·refine QaH (toD := λ (k : Nat) => .int (k : Int)) (List.range (p + 1)) (λ i ρ => ∃ j2 j3, ρ = [some (Qi (p + 1) (p + 1) A, false), some (.int (sm i λ j => sgn j * A j 0 * det p λ c r => A (skp j c) (r + 1)), true), j2, j3]) (Qbd (n := p + 1) (len rfl) rfl (by omega)) rfl ⟨none, none, rfl⟩ ?_ ?_
  ·rintro k k' ρ hk ⟨j2, j3, rfl⟩
   have hk' : k < p + 1 /\ k = k' := by
    obtain ⟨h1, h2⟩ := Zd.mp hk
    simp at h1 h2; exact ⟨h1, h2⟩
   obtain ⟨hkp, rfl⟩ := hk'
   have bm : (det p λ c r => A (skp k c) (r + 1)).natAbs < 2 ^ 2000 := Zas (QeA λ c hc r hr => hA (skp k c) (by unfold skp; split <;> omega) (r + 1) (by omega)) (Qii (by omega))
   refine ⟨_, rfl, ?_⟩
   refine run_seq (QQ (Qv (Qcg (a := A k 0) (b := 0) (entry (k := k) rfl rfl hkp) rfl (Qaq _ _) rfl) rfl) (λ h => ?_) (λ h => ?_))
   ·obtain ⟨r1, q1, d1⟩ := QnP (fa := Qa 0) (fb := Qa 2) (ρ := [some (Qi (p + 1) (p + 1) A, false), some (.int (sm k λ j => sgn j * A j 0 * det p λ c r => A (skp j c) (r + 1)), true), some (.int k, true), j3]) (ra := ⟨Qi (p + 1) (p + 1) A, false, []⟩) (xs := (List.range (p + 1)).map λ i => Qc (p + 1) (A i)) (n := k) rfl rfl (rb := ⟨.int k, true, []⟩) rfl rfl (by simp; omega)
    obtain ⟨r2, q2, d2⟩ := QoE (fa := Qa 0) (fb := QL (Qa 2) (dC (.int 1))) (ρ := [some (Qi (p + 1) (p + 1) A, false), some (.int (sm k λ j => sgn j * A j 0 * det p λ c r => A (skp j c) (r + 1)), true), some (.int k, true), j3]) (ra := ⟨Qi (p + 1) (p + 1) A, false, []⟩) (xs := (List.range (p + 1)).map λ i => Qc (p + 1) (A i)) (n := k + 1) rfl rfl (Q0 (a := (k : Int)) (b := 1) (ra := ⟨.int k, true, []⟩) rfl rfl (Qaq _ _) rfl) rfl (by simp; omega)
    obtain ⟨r3, q3, d3⟩ := Qn8 q1 d1 q2 d2 (by simp; omega)
    rw [QoD hkp] at d3
    refine run_seq (Qh (Qy (Qg (QT (toD := λ (c : Nat) => Qc (p + 1) (A (skp k c))) (out := λ (c : Nat) => Qc p λ r => A (skp k c) (1 + r)) (List.range p) (Q7 q3 d3) rfl λ c _ => ⟨[none, some (Qc (p + 1) (A (skp k c)), false)], rfl, ⟨Qc p λ r => A (skp k c) (1 + r), true, []⟩, QoN (m := p + 1) (n := 1) (f := A (skp k c)) (ra := ⟨Qc (p + 1) (A (skp k c)), false, []⟩) rfl rfl (Qaq _ _) rfl (by omega), rfl, rfl⟩) (QS _)) (d := .int (det p λ c r => A (skp k c) (r + 1))) ?_ rfl) ?_)
    ·have := ih p (λ c r => A (skp k c) (r + 1)) (by omega) (by omega) (by omega) λ c hc r hr => hA (skp k c) (by unfold skp; split <;> omega) (r + 1) (by omega)
     have e : (List.range p).map (λ c => Qc p λ r => A (skp k c) (1 + r)) = (List.range p).map λ c => Qc p λ r => A (skp k c) (r + 1) := ZO λ c _ => Qlg λ r _ => by rw [Nat.add_comm]
     show d [.lst ((List.range p).map λ c => Qc p λ r => A (skp k c) (1 + r))] = _
     rw [e]
     exact this
    rw [Qo]
    refine run_seq (Qh (Q0 (a := sm k λ j => sgn j * A j 0 * det p λ c r => A (skp j c) (r + 1)) (b := sgn k * A k 0 * det p λ c r => A (skp k c) (r + 1)) rfl rfl (Qac (a := sgn k * A k 0) (b := det p λ c r => A (skp k c) (r + 1)) (Qac (a := sgn k) (b := A k 0) ((Qjv (a := 1) (b := 2 * ((k : Int) % 2)) (ra := ⟨.int 1, true, []⟩) rfl rfl (Qac (a := 2) (b := (k : Int) % 2) rfl rfl (Qao (a := (k : Int)) (b := 2) (ra := ⟨.int k, true, []⟩) rfl rfl (Qaq _ _) rfl (by decide)) rfl (QbV (by decide))) rfl).trans (by rw [Qrc])) rfl (entry (k := k) rfl rfl hkp) rfl (QbV (by unfold sgn; split <;> decide))) rfl (rb := ⟨.int (det p λ c r => A (skp k c) (r + 1)), true, []⟩) rfl rfl (QfY (Qch ?_) (Qch bm))) rfl) (Qm (Qm ?_)))
    ·have := hA k hkp 0 (by omega)
     have b : (2 : Nat) ^ 200 < 2 ^ 2000 := Nat.pow_lt_pow_right (by decide) (by decide)
     rw [ZaP]
     have s : (sgn k).natAbs = 1 := by unfold sgn; split <;> rfl
     rw [s, Nat.one_mul]
     omega
    rw [Qo]
    exact ⟨_, _, rfl⟩
   ·have z : A k 0 = 0 := by simpa using h
    refine Qm (Qm ⟨some (.int k, true), j3, ?_⟩)
    have e : (sm (k + 1) λ j => sgn j * A j 0 * det p λ c r => A (skp j c) (r + 1)) = sm k λ j => sgn j * A j 0 * det p λ c r => A (skp j c) (r + 1) := by
     show (sm k λ j => sgn j * A j 0 * det p λ c r => A (skp j c) (r + 1)) + sgn k * A k 0 * (det p λ c r => A (skp k c) (r + 1)) = _
     rw [z, ZV, ZU, Zbq]
    rw [e]
    rfl
  ·rintro ρ ⟨j2, j3, rfl⟩
   rw [Zx]
   exact ⟨_, _, rfl⟩
 rintro ρ ⟨j2, j3, rfl⟩
 exact QJ (r := ⟨.int (det (p + 1) A), true, []⟩) rfl ⟨rfl, rfl⟩
theorem QpQ {n : Nat} {A : Nat -> Nat -> Int} (hA : ∀ j, j < n -> ∀ r, r < n -> (A j r).natAbs <= 2 ^ 200) (hl : Qeq n A) : det n A ≠ 0 := by
 obtain ⟨m, R, d, C⟩ := QmM (Zi n) hA hl n (Zi n)
 have e2 : det n A = d := by
  rw [← C.clr.det]
  exact Qeg λ j hj r _ => by rw [C.clr.own j hj]
 rw [e2]
 exact C.clr.nz
theorem Qc0.small {m : Nat} {R L : List (Int × Int)} (hw : Qc0 m R L) {i j : Nat} (hi : i < m) (hj : j < m) : (Qu m (Qs R L) i j).natAbs <= 600 := by
 have g := hw.good
 have gs := QcW g.1 g.2.1
 rw [QcE hi hj λ s hs => ⟨(gs s hs).1, (gs s hs).2.1⟩]
 refine Zu (Qes i j _) ?_
 unfold Qs
 rw [Zl, Zl, Zj]
 omega
noncomputable def Qbr (T : Nat -> Nat -> Int) : Nat -> Nat -> Int := λ i j => 0 - T i j
theorem Qc0.big {m : Nat} {R L : List (Int × Int)} (hw : Qc0 m R L) : ∀ j, j < m -> ∀ r, r < m -> (Qbr (Qu m (Qs R L)) j r).natAbs <= 2 ^ 200 := λ j hj r hr => by
 have := hw.small hj hr
 have : (600 : Nat) <= 2 ^ 200 := by decide
 unfold Qbr
 omega
theorem QnU {ρ : En} {fi : DI} {m : Nat} {T : Nat -> Nat -> Int} {ir : IR} (h : fi ρ = some ir) (hx : ir.items = (List.range m).map λ i => Qc m (T i)) : QK fi (.nm 1) [none, none] QX (QK (Q2 (Qa 1)) (.nm 1) [none, none] QX (dOp Qb7 (dC (.int 0)) (Qa 1))) ρ = some ⟨Qi m m (Qbr T), true, []⟩ :=
 QT (toD := λ (i : Nat) => Qc m (T i)) (out := λ (i : Nat) => Qc m (Qbr T i)) (List.range m) h hx λ i _ => ⟨[none, some (Qc m (T i), false)], rfl, ⟨Qc m (Qbr T i), true, []⟩, QT (toD := λ (j : Nat) => .int (T i j)) (out := λ (j : Nat) => .int (Qbr T i j)) (List.range m) (Q7 (r := ⟨Qc m (T i), false, []⟩) rfl rfl) rfl λ j _ => ⟨[none, some (.int (T i j), true)], rfl, ⟨.int (Qbr T i j), true, []⟩, rfl, rfl, rfl⟩, rfl, rfl⟩
theorem Qm8 {n : Nat} {A : Nat -> Nat -> Int} (hA : ∀ j, j < n -> ∀ r, r < n -> (A j r).natAbs <= 2 ^ 200) (hl : Qeq n A) : Qeq n λ j i => A i j := λ k hk c h => by
 have nz : det (k + 1) A ≠ 0 := QpQ (λ j hj r hr => hA j (by omega) r (by omega)) λ k' hk' => hl k' (by omega)
 have cr := λ r (hr : r < k + 1) => Qhm A (λ r => if r = k then (1 : Int) else 0) hr
 have e1 : Ql (k + 1) (λ r => (if r = k then det (k + 1) A else 0) * c r) = det (k + 1) A * c k := QbS (p := k) (by omega) (det (k + 1) A) c
 have e2 : Ql (k + 1) (λ r => (if r = k then det (k + 1) A else 0) * c r) = Ql (k + 1) λ r => Ql (k + 1) λ l => det (k + 1) (cup A l λ r => if r = k then 1 else 0) * (c r * A l r) := QD λ r hr => by
  have q := cr r hr
  rw [Qc2] at q
  have : (if r = k then det (k + 1) A else 0) = det (k + 1) A * (if r = k then 1 else 0) := by split <;> simp
  rw [this, q, ZJ, ← Qbz]
  exact QD λ l _ => by rw [← ZK, ZJ (c r), ZK]
 rw [Qd8] at e2
 have e3 : (Ql (k + 1) λ l => Ql (k + 1) λ r => det (k + 1) (cup A l λ r => if r = k then 1 else 0) * (c r * A l r)) = 0 := by
  rw [QD (g := λ _ => 0) λ l hl' => ?_, QaN]
  rw [Qbz]
  have z := h l (by omega)
  rw [Qc2] at z
  rw [z, ZV]
 rw [e1, e3] at e2
 rcases Int.mul_eq_zero.mp e2 with z | z
 ·exact absurd z nz
 ·exact z
noncomputable def Qhs : DS := (Qd (QR (QK (QaJ (Qa 0)) (.nm 1) [none, none, some 1] QX (dIf (Qz (dOp gEq (Qa 1) (Qa 2))) (dC (.int 1)) (dC (.int 0))))) Qk)
def Qkf (d : Den) : Prop := ∀ (n p : Nat), n <= 1000 -> d [.int n, .int p] = some (Qc n λ i => if i = p then 1 else 0, true)
theorem QqG : Qkf (Qp 2 Qhs) := λ n p hn => by
 refine Q8 (QJ (r := ⟨Qc n λ i => if i = p then 1 else 0, true, []⟩) (QT (toD := λ (i : Nat) => .int (i : Int)) (out := λ (i : Nat) => .int (if i = p then 1 else 0)) (List.range n) (Qbd (n := n) (r := ⟨.int n, true, []⟩) rfl rfl (by omega)) rfl λ i _ => ⟨[none, some (.int i, true), some (.int p, true)], rfl, ⟨.int (if i = p then 1 else 0), true, []⟩, ?_, rfl, rfl⟩) ⟨rfl, rfl⟩)
 unfold dIf
 rw [Qv (Qav (a := (i : Int)) (b := (p : Int)) (ra := ⟨.int i, true, []⟩) (rb := ⟨.int p, true, []⟩) rfl rfl rfl rfl) rfl, Za]
 by_cases z : i = p
 ·rw [if_pos z, if_pos (by rw [z]; simp)]; rfl
 ·rw [if_neg z, if_neg (by simp; omega)]; rfl
inductive QhH (m : Nat) (T : Nat -> Nat -> Int) (a b : Nat -> Int) : D -> Prop where
 | alike {k : Nat -> Int} : (∀ r, r < m -> b r = Qr m T a k r) -> QhH m T a b (.tup [.str "alike", Qc m k])
 | apart {w : Nat -> Int} {q : Int} : 0 < q -> (∀ r, r < m -> (w r).natAbs < 2 ^ 2000) -> (∀ l, l < m -> q ∣ Ql m λ r => w r * T l r) -> ¬ q ∣ (Ql m λ r => w r * (b r - a r)) -> QhH m T a b (.tup [.str "apart", Qc m w, .int q])
noncomputable def QdR (QbZ : Den) (Qb2 : Den) (QaW : Den) (QbB : Den) (Qcq : Den) : DS := (Qd (QfG (Qw 2 QbZ [] (Qb (Qa 0) (Qb (Qaw (Qb (Qa 1) (Qb (Qa 2) Qe))) Qe)))) (Qd (Qq 3 (Qw 1 Qb2 [] (Qb (Qa 0) Qe))) (Qd (Qq 4 (Qw 2 QaW [] (Qb (Qa 3) (Qb (QK (QbC (Qa 1) (Qa 2)) (.tp [1, 2]) [none, none, none] QX (dOp Qb7 (Qa 1) (Qa 2))) Qe)))) (Qd (sIf (Qz (dOp gEq (Qf (Qa 4) (dC (.int 1))) (dC (.int 1)))) (Qd (QR (QaK (Qb (dC (.str "alike")) (Qb (Qf (Qa 4) (dC (.int 0))) Qe)))) Qk) Qk) (Qd (Qq 5 (QK (QeB (Qf (Qa 4) (dC (.int 0)))) (.tp [1, 2]) [none, none, none, some 4] (Qz (dOp gNe (dOp Qan (Qa 2) (Qf (Qa 3) (dC (.int 1)))) (dC (.int 0)))) (Qa 1))) (Qd (Qq 6 (Qw 2 QaW [] (Qb (Qw 1 QbB [] (Qb (Qa 3) Qe)) (Qb (Qw 2 Qcq [] (Qb (Qf (Qa 0) (dC (.int 0))) (Qb (Qf (Qa 5) (dC (.int 0))) Qe))) Qe)))) (Qd (QR (QaK (Qb (dC (.str "apart")) (Qb (Qf (Qa 6) (dC (.int 0))) (Qb (Qf (Qa 6) (dC (.int 1))) Qe))))) Qk)))))))
def QhL (d : Den) : Prop := ∀ (m : Nat) (R L : List (Int × Int)) (a b : Nat -> Int), 0 < m -> m <= 8 -> Qc0 m R L -> (∀ j, j < m -> (a j).natAbs <= 2 ^ 190) -> (∀ j, j < m -> (b j).natAbs <= 2 ^ 190) -> ∃ s, d [QE m R L, Qc m a, Qc m b] = some (s, true) /\ QhH m (Qu m (Qs R L)) a b s
set_option maxHeartbeats 0 in
theorem Qpi {dn dt ds dr du : Den} (hn : QjH dn) (ht : QgW dt) (hs : QgX ds) (hr : Qe2 dr) (hu : Qkf du) : QhL (Qp 7 (QdR dn dt ds dr du)) := λ m R L a b m0 m8 hw ha hb => by
 have gd := hw.good
 have tp := hw.tp
 have et := ht m R L (by omega) (by omega) gd.1 gd.2.1
 have big := hw.big
 obtain ⟨t, q, es, q0, _, hq, tb, lo⟩ := hs m (Qbr (Qu m (Qs R L))) (λ r => a r - b r) m8 (λ j r hj hr => big j hj r hr) (λ r hr => by
  have h1 := ha r hr
  have h2 := hb r hr
  have : (2 : Nat) ^ 190 + 2 ^ 190 <= 2 ^ 200 := by decide
  show (a r - b r).natAbs <= _
  omega) (Qk7 tp)
 have neg : ∀ (u : Nat -> Int) r, (sm m λ l => u l * Qbr (Qu m (Qs R L)) l r) = - Ql m λ l => u l * Qu m (Qs R L) l r := λ u r => by
  rw [Qc2, ← QdN]
  exact QD λ i _ => by unfold Qbr; rw [ZbK, ZaC]
 have start : ∀ Q : D -> Bool -> Prop, Run (Qd (sIf (Qz (dOp gEq (Qf (Qa 4) (dC (.int 1))) (dC (.int 1)))) (Qd (QR (QaK (Qb (dC (.str "alike")) (Qb (Qf (Qa 4) (dC (.int 0))) Qe)))) Qk) Qk) (Qd (Qq 5 (QK (QeB (Qf (Qa 4) (dC (.int 0)))) (.tp [1, 2]) [none, none, none, some 4] (Qz (dOp gNe (dOp Qan (Qa 2) (Qf (Qa 3) (dC (.int 1)))) (dC (.int 0)))) (Qa 1))) (Qd (Qq 6 (Qw 2 ds [] (Qb (Qw 1 dr [] (Qb (Qa 3) Qe)) (Qb (Qw 2 du [] (Qb (Qf (Qa 0) (dC (.int 0))) (Qb (Qf (Qa 5) (dC (.int 0))) Qe))) Qe)))) (Qd (QR (QaK (Qb (dC (.str "apart")) (Qb (Qf (Qa 6) (dC (.int 0))) (Qb (Qf (Qa 6) (dC (.int 1))) Qe))))) Qk)))) [some (QE m R L, false), some (Qc m a, false), some (Qc m b, false), some (Qi m m (Qbr (Qu m (Qs R L))), true), some (.tup [Qc m t, .int q], true), none, none] (Rt Q) -> Run (QdR dn dt ds dr du) (QaI 7 [QE m R L, Qc m a, Qc m b]) (Rt Q) := λ Q h => by
  refine run_seq (QnL (Qy (r := ⟨[QE m R L, .lst [Qc m a, Qc m b]], false, []⟩) rfl (hn m R L [a, b]) rfl) ?_)
  refine run_seq (Qh (Qy (r := ⟨[QE m R L], false, []⟩) rfl et rfl) ?_)
  rw [Qo]
  refine run_seq (Qh (Qy (Qg (r := ⟨Qi m m (Qbr (Qu m (Qs R L))), true, [3]⟩) rfl (Qg (QT (toD := λ (j : Nat) => .tup [.int (a j), .int (b j)]) (out := λ (j : Nat) => .int (a j - b j)) (List.range m) (Qcl (f := λ j => .int (a j)) (g := λ j => .int (b j)) (ra := ⟨Qc m a, false, []⟩) rfl rfl (rb := ⟨Qc m b, false, []⟩) rfl rfl) rfl λ j _ => ⟨[none, some (.int (a j), true), some (.int (b j), true)], rfl, ⟨.int (a j - b j), true, []⟩, rfl, rfl, rfl⟩) (QS _))) es rfl) ?_)
  rw [Qo]
  exact h
 by_cases one : q = 1
 ·subst one
  refine ⟨_, Q8 (start _ ?_), .alike (k := t) λ r hr => ?_⟩
  ·refine QG (QQ (b := true) (Qv (b := true) (Qav (a := 1) (b := 1) (ra := ⟨.int 1, true, []⟩) (rb := ⟨.int 1, true, []⟩) rfl rfl rfl rfl) rfl) (λ _ => ?_) (λ h => by cases h))
   exact QG (QeK (r := ⟨.tup [.str "alike", Qc m t], true, [4]⟩) rfl ⟨rfl, rfl⟩)
  ·have := hq r hr
   rw [neg, ZaO] at this
   have e : Qr m (Qu m (Qs R L)) a t r = a r + Ql m λ l => t l * Qu m (Qs R L) l r := rfl
   omega
 ·obtain ⟨l0, hl0, nl0⟩ := lo one
  have ec := QdE (fi := QeB (Qf (Qa 4) (dC (.int 0)))) (t := .tp [1, 2]) (cap := [none, none, none, some 4]) (ft := Qz (dOp gNe (dOp Qan (Qa 2) (Qf (Qa 3) (dC (.int 1)))) (dC (.int 0)))) (fe := Qa 1) (ρ := [some (QE m R L, false), some (Qc m a, false), some (Qc m b, false), some (Qi m m (Qbr (Qu m (Qs R L))), true), some (.tup [Qc m t, .int q], true), none, none])
   (toD := λ (i : Nat) => .tup [.int (i : Int), .int (t i)]) (keep := λ i => !decide (t i % q = 0)) (out := λ (i : Nat) => .int (i : Int)) (List.range m) (ir := ⟨(List.range m).map λ (i : Nat) => .tup [.int (i : Int), .int (t i)], [4]⟩) (by
    unfold QeB
    refine (congrArg (λ z => Option.bind z _) (Qlo (a := Qc m t) (b := .int q) (r := ⟨.tup [Qc m t, .int q], true, [4]⟩) rfl rfl).1).trans ?_
    show some (IR.mk (Qdz _) _) = _
    rw [QlX (α := Int) m λ i => .int (t i)]
    rfl) rfl λ i hi => ⟨[none, some (.int i, true), some (.int (t i), true), some (.tup [Qc m t, .int q], false)], rfl, Qv (Qcg (a := t i % q) (b := 0) (Qao (a := t i) (b := q) (ra := ⟨.int (t i), true, []⟩) rfl rfl (Qlo (a := Qc m t) (b := .int q) (r := ⟨.tup [Qc m t, .int q], false, []⟩) rfl rfl).2 rfl q0) rfl (rb := ⟨.int 0, true, []⟩) rfl rfl) rfl, λ _ => ⟨⟨.int i, true, []⟩, rfl, rfl, rfl⟩⟩
  obtain ⟨p, tl, ep⟩ : ∃ p tl, (List.range m).filter (λ i => !decide (t i % q = 0)) = p :: tl := by
   cases e : (List.range m).filter (λ i => !decide (t i % q = 0)) with
   | cons p tl => exact ⟨p, tl, rfl⟩
   | nil =>
    have : l0 ∈ (List.range m).filter λ i => !decide (t i % q = 0) := Zai.mpr ⟨Zz.mpr hl0, by
     have : ¬ t l0 % q = 0 := λ z => nl0 (Int.dvd_of_emod_eq_zero z)
     simp [this]⟩
    rw [e] at this
    simp at this
  have hp : p < m /\ ¬ t p % q = 0 := by
   have : p ∈ (List.range m).filter λ i => !decide (t i % q = 0) := by rw [ep]; simp
   obtain ⟨h1, h2⟩ := Zai.mp this
   exact ⟨Zz.mp h1, by simpa using h2⟩
  rw [ep] at ec
  obtain ⟨w, x, ew, x0, _, hx, wb, _⟩ := hs m (λ j i => Qbr (Qu m (Qs R L)) i j) (λ i => if i = p then 1 else 0) m8 (λ j r hj hr => big r hr j hj) (λ r _ => by show (if r = p then (1 : Int) else 0).natAbs <= _; split <;> decide) (Qm8 big (Qk7 tp))
  have wT : ∀ l, l < m -> (Ql m λ r => w r * Qu m (Qs R L) l r) = -(x * if l = p then 1 else 0) := λ l hl => by
   have := hx l hl
   rw [Qc2] at this
   rw [this, ← QdN]
   exact QD λ i _ => by unfold Qbr; rw [ZbK, ZaC, Zbv]
  refine ⟨_, Q8 (start _ ?_), .apart (w := w) (q := x) x0 wb (λ l hl => ?_) λ ⟨y, hy⟩ => ?_⟩
  ·refine QG (QQ (b := false) (Qv (b := false) ((Qav (a := q) (b := 1) (ra := ⟨.int q, true, []⟩) (rb := ⟨.int 1, true, []⟩) rfl rfl rfl rfl).trans (by rw [decide_eq_false one])) rfl) (λ h => by cases h) (λ _ => Qm ?_))
   refine run_seq (Qh ec ?_)
   rw [Qo]
   refine run_seq (Qh (Qy (Qg (Qy (r := ⟨[Qi m m (Qbr (Qu m (Qs R L)))], true, [3]⟩) rfl (hr m _ (by omega)) rfl) (Qg (Qy (Qg (r := ⟨.int m, true, []⟩) rfl (Qg (Qcv (ns := (p :: tl).map λ (i : Nat) => (i : Int)) (i := 0) (v := p) (Qam (d := Qlw (p :: tl)) (b := true) rfl) (Qm6 _) (Qaq _ _) rfl (by decide) rfl) (QS _))) (hu m p (by omega)) rfl) (QS _))) ew rfl) ?_)
   rw [Qo]
   exact QJ (r := ⟨.tup [.str "apart", Qc m w, .int x], true, [6]⟩) rfl ⟨rfl, rfl⟩
  ·rw [wT l hl]
   exact ⟨-(if l = p then 1 else 0), by rw [ZaC]⟩
  ·
   have e : q * (Ql m λ r => w r * (b r - a r)) = - (t p * x) := by
    rw [← Qbz]
    have h1 : (Ql m λ r => q * (w r * (b r - a r))) = Ql m λ r => Ql m λ l => t l * (w r * Qu m (Qs R L) l r) := QD λ r hr => by
     have z := hq r hr
     rw [neg] at z
     have : q * (w r * (b r - a r)) = w r * -(q * (a r - b r)) := by
      rw [← ZaC, show -(a r - b r) = b r - a r by omega, ← ZK, ← ZK, ZJ q]
     rw [this, z, Zbv, ← Qbz]
     exact QD λ l _ => by rw [← ZK, ZJ (w r), ZK]
    rw [h1, Qd8, QD (g := λ l => (if l = p then -(t p * x) else 0) * 1) λ l hl => ?_, QbS hp.1, ZaL]
    rw [Qbz, wT l hl]
    by_cases z : l = p
    ·rw [if_pos z, if_pos z, z, ZaL, ZaL, ZaC]
    ·rw [if_neg z, if_neg z, ZV, Int.neg_zero, ZV, ZU]
   rw [hy, ← ZK, ZJ q x, ZK, ZJ (t p) x, ← ZaC] at e
   have := Zav (by omega) e
   exact hp.2 (Int.emod_eq_zero_of_dvd ⟨-y, by rw [ZaC]; omega⟩)
noncomputable def Qd6 (QaP : Den) (Q9 : Den) (Qap : Den) : DS := (Qd (sIf (bOr (Qb5 (Qz (Qfw "tuple" (Qa 0)))) (bOr (Qz (dOp gLt (dBf Qae (Qb (Qa 0) Qe)) (dC (.int 2)))) (Qb5 (Qz (Qfw "str" (Qf (Qa 0) (dC (.int 0)))))))) (Qd (QR (dC (.bl false))) Qk) Qk) (Qd (sIf (Qb5 (Qz (Qw 2 QaP [] (Qb (Qf (Qa 0) (dC (.int 1))) (Qb (dBf Qae (Qb (Qa 2) Qe)) Qe))))) (Qd (QR (dC (.bl false))) Qk) Qk) (Qd (sIf (Qz (dOp gEq (Qf (Qa 0) (dC (.int 0))) (dC (.str "alike")))) (Qd (QR (Qem (dOp gEq (dBf Qae (Qb (Qa 0) Qe)) (dC (.int 2))) (dOp gEq (Qw 3 Q9 [] (Qb (Qa 1) (Qb (Qa 2) (Qb (Qf (Qa 0) (dC (.int 1))) Qe)))) (Qa 3)))) Qk) Qk) (Qd (sIf (bOr (Qz (dOp gNe (Qf (Qa 0) (dC (.int 0))) (dC (.str "apart")))) (bOr (Qz (dOp gNe (dBf Qae (Qb (Qa 0) Qe)) (dC (.int 3)))) (bOr (Qb5 (Qz (Qw 1 Qap [] (Qb (Qf (Qa 0) (dC (.int 2))) Qe)))) (Qz (dOp gLt (Qf (Qa 0) (dC (.int 2))) (dC (.int 1))))))) (Qd (QR (dC (.bl false))) Qk) Qk) (Qd (Qbh (Q2 (Qa 1)) (.nm 4) (Qd (sIf (Qz (dOp gNe (dOp Qan (dBf Qd9 (Qb (QK (QbC (Qf (Qa 0) (dC (.int 1))) (Qa 4)) (.tp [1, 2]) [none, none, none] QX (Qab (Qa 1) (Qa 2))) Qe)) (Qf (Qa 0) (dC (.int 2)))) (dC (.int 0)))) (Qd (QR (dC (.bl false))) Qk) Qk) Qk)) (Qd (Qq 5 (QK (QbC (Qa 2) (Qa 3)) (.tp [1, 2]) [none, none, none] QX (dOp Qb7 (Qa 2) (Qa 1)))) (Qd (QR (dOp gNe (dOp Qan (dBf Qd9 (Qb (QK (QbC (Qf (Qa 0) (dC (.int 1))) (Qa 5)) (.tp [1, 2]) [none, none, none] QX (Qab (Qa 1) (Qa 2))) Qe)) (Qf (Qa 0) (dC (.int 2)))) (dC (.int 0)))) Qk)))))))
def Qgv (d : Den) : Prop := ∀ (m : Nat) (T : Nat -> Nat -> Int) (a b : Nat -> Int) (s : D), 0 < m -> m <= 8 -> (∀ i j, i < m -> j < m -> (T i j).natAbs < 2 ^ 64) -> (∀ j, j < m -> (a j).natAbs <= 2 ^ 190) -> (∀ j, j < m -> (b j).natAbs <= 2 ^ 190) -> QhH m T a b s -> d [s, Qi m m T, Qc m a, Qc m b] = some (.bl true, true)
theorem QnX : (D.str "alike").sim 8 = true := by decide +kernel
theorem Qok : (D.str "apart").sim 8 = true := by decide +kernel
theorem Qot : deq (.str "apart") (.str "alike") = false := by decide +kernel
set_option maxHeartbeats 0 in
theorem Qns {dn db dw : Den} (hn : Qi2 dn) (hb : QdA db) (hw : Qf2 dw) : Qgv (Qp 6 (Qd6 dn db dw)) := λ m T a b s m0 m8 hT ha hbb hs => by
 have sR : ∀ f : Nat -> Int, (Qc m f).sim 8 = true := λ f => QfR 7 m f
 cases hs with
 | @alike k h =>
  have eb := hb m T a k m0 (by omega) hT
  rw [Qlg λ r hr => (h r hr).symm] at eb
  refine Q8 ?_
  refine QG (QQ (b := false) (Qa6 (a := false) (b := false) (Qa7 (b := true) (Qv (b := true) (r := ⟨.bl true, true, []⟩) rfl rfl)) (Qa6 (a := false) (b := false) (Qv (b := false) (r := ⟨.bl false, true, []⟩) rfl rfl) (Qa7 (b := true) (Qv (b := true) (r := ⟨.bl true, true, []⟩) rfl rfl)))) (λ h => by cases h) (λ _ => Qm ?_))
  refine QG (QQ (b := false) (Qa7 (b := true) (Qv (b := true) (Qy (Qg (r := ⟨Qc m k, false, []⟩) rfl (Qg (QfK (m := m) (f := a) (r := ⟨Qc m a, false, []⟩) rfl rfl) (QS _))) (hn m k) rfl) rfl)) (λ h => by cases h) (λ _ => Qm ?_))
  refine QG (QQ (b := true) (Qv (b := true) (Qf3 (d := .str "alike") (ra := ⟨.str "alike", true, []⟩) (rb := ⟨.str "alike", true, []⟩) rfl rfl rfl rfl QnX) rfl) (λ _ => ?_) (λ h => by cases h))
  exact QG (QeK (Qfy (a := true) (b := true) (Qf3 (d := .int 2) (ra := ⟨.int 2, true, []⟩) (rb := ⟨.int 2, true, []⟩) rfl rfl rfl rfl rfl) (Qf3 (d := Qc m b) (Qy (r := ⟨[Qi m m T, Qc m a, Qc m k], false, []⟩) rfl eb rfl) rfl (rb := ⟨Qc m b, false, []⟩) rfl rfl (sR _))) ⟨rfl, rfl⟩)
 | @apart w q q0 wb hd nd =>
  refine Q8 ?_
  refine QG (QQ (b := false) (Qa6 (a := false) (b := false) (Qa7 (b := true) (Qv (b := true) (r := ⟨.bl true, true, []⟩) rfl rfl)) (Qa6 (a := false) (b := false) (Qv (b := false) (r := ⟨.bl false, true, []⟩) rfl rfl) (Qa7 (b := true) (Qv (b := true) (r := ⟨.bl true, true, []⟩) rfl rfl)))) (λ h => by cases h) (λ _ => Qm ?_))
  refine QG (QQ (b := false) (Qa7 (b := true) (Qv (b := true) (Qy (Qg (r := ⟨Qc m w, false, []⟩) rfl (Qg (QfK (m := m) (f := a) (r := ⟨Qc m a, false, []⟩) rfl rfl) (QS _))) (hn m w) rfl) rfl)) (λ h => by cases h) (λ _ => Qm ?_))
  refine QG (QQ (b := false) (Qv (b := false) ((Qsh (ra := ⟨.str "apart", true, []⟩) (rb := ⟨.str "alike", true, []⟩) rfl rfl Qok QnX).trans (by rw [Qot])) rfl) (λ h => by cases h) (λ _ => Qm ?_))
  refine QG (QQ (b := false) (Qa6 (a := false) (b := false) (Qv (b := false) (QeI (d := .str "apart") (ra := ⟨.str "apart", true, []⟩) (rb := ⟨.str "apart", true, []⟩) rfl rfl rfl rfl Qok) rfl) (Qa6 (a := false) (b := false) (Qv (b := false) (QeI (d := .int 3) (ra := ⟨.int 3, true, []⟩) (rb := ⟨.int 3, true, []⟩) rfl rfl rfl rfl rfl) rfl) (Qa6 (a := false) (b := false) (Qa7 (b := true) (Qv (b := true) (Qy (r := ⟨[.int q], true, []⟩) rfl (hw q) rfl) rfl)) (Qv (b := false) (Qa1 (d := .bl false) (ra := ⟨.int q, true, []⟩) (rb := ⟨.int 1, true, []⟩) rfl rfl ?_) rfl)))) (λ h => by cases h) (λ _ => Qm ?_))
  ·show some (D.bl (decide (q < 1))) = _
   rw [decide_eq_false (by omega)]
  have sum : ∀ (g : Nat -> Int) (fg : DE) (ρ : En) (rg : HS.R), (∀ r, r < m -> QcC (w r) (g r) = true) -> ρ[0]? = some (some (.tup [.str "apart", Qc m w, .int q], false)) -> fg ρ = some rg -> rg.d = Qc m g -> dOp Qan (dBf Qd9 (Qb (QK (QbC (Qf (Qa 0) (dC (.int 1))) fg) (.tp [1, 2]) [none, none, none] QX (Qab (Qa 1) (Qa 2))) Qe)) (Qf (Qa 0) (dC (.int 2))) ρ = some ⟨.int ((Ql m λ r => w r * g r) % q), true, []⟩ := λ g fg ρ rg hmu h0 hg hd' => by
   have v0 : Qa 0 ρ = some ⟨.tup [.str "apart", Qc m w, .int q], false, []⟩ := Qam h0
   refine Qao (a := Ql m λ r => w r * g r) (b := q) (QqQ (m := m) (f := λ r => w r * g r) (QT (toD := λ (r : Nat) => .tup [.int (w r), .int (g r)]) (out := λ (r : Nat) => .int (w r * g r)) (List.range m) (Qcl (f := λ r => .int (w r)) (g := λ r => .int (g r)) (ra := ⟨Qc m w, false, []⟩) ?_ rfl hg hd') rfl λ r hr => ⟨[none, some (.int (w r), true), some (.int (g r), true)], rfl, ⟨.int (w r * g r), true, []⟩, Qac (a := w r) (b := g r) (ra := ⟨.int (w r), true, []⟩) (rb := ⟨.int (g r), true, []⟩) rfl rfl rfl rfl (hmu r (Zz.mp hr)), rfl, rfl⟩) rfl) rfl (rb := ⟨.int q, true, []⟩) ?_ rfl q0
   ·unfold Qf; rw [v0]; rfl
   ·unfold Qf; rw [v0]; rfl
  refine QG (QaH (toD := λ (l : Nat) => Qc m (T l)) (List.range m) (λ i ρ => ∃ j4, ρ = [some (.tup [.str "apart", Qc m w, .int q], false), some (Qi m m T, false), some (Qc m a, false), some (Qc m b, false), j4, none]) (Q7 (r := ⟨Qi m m T, false, []⟩) rfl rfl) rfl ⟨none, rfl⟩ ?_ ?_)
  ·rintro l l' ρ hl ⟨j4, rfl⟩
   have hl' : l < m /\ l = l' := by
    obtain ⟨h1, h2⟩ := Zd.mp hl
    simp at h1 h2; exact ⟨h1, h2⟩
   obtain ⟨hlm, rfl⟩ := hl'
   refine ⟨[some (.tup [.str "apart", Qc m w, .int q], false), some (Qi m m T, false), some (Qc m a, false), some (Qc m b, false), some (Qc m (T l), false), none], rfl, ?_⟩
   refine QG (QQ (b := false) (Qv (b := false) ((Qcg (a := (Ql m λ r => w r * T l r) % q) (b := 0) (sum (T l) (Qa 4) _ ⟨Qc m (T l), false, []⟩ (λ r hr => Qdc (hT l r hlm hr)) rfl rfl rfl) rfl (Qaq _ _) rfl).trans (by rw [Int.emod_eq_zero_of_dvd (hd l hlm)])) rfl) (λ h => by cases h) (λ _ => Qm (Qm ⟨_, rfl⟩)))
  ·rintro ρ ⟨j4, rfl⟩
   refine run_seq (Qh (r := ⟨Qc m λ r => b r - a r, true, []⟩) (QT (toD := λ (j : Nat) => .tup [.int (a j), .int (b j)]) (out := λ (j : Nat) => .int (b j - a j)) (List.range m) (Qcl (f := λ j => .int (a j)) (g := λ j => .int (b j)) (ra := ⟨Qc m a, false, []⟩) rfl rfl (rb := ⟨Qc m b, false, []⟩) rfl rfl) rfl λ j _ => ⟨[none, some (.int (a j), true), some (.int (b j), true)], rfl, ⟨.int (b j - a j), true, []⟩, rfl, rfl, rfl⟩) ?_)
   rw [Qo]
   refine QJ (r := ⟨.bl true, true, []⟩) ((Qcg (a := (Ql m λ r => w r * (b r - a r)) % q) (b := 0) (sum (λ r => b r - a r) (Qa 5) _ ⟨Qc m λ r => b r - a r, true, [5]⟩ (λ r hr => QfY (Qch (wb r hr)) (Qch ?_)) rfl rfl rfl) rfl (Qaq _ _) rfl).trans ?_) ⟨rfl, rfl⟩
   ·have h1 := ha r hr
    have h2 := hbb r hr
    have h3 : (2 : Nat) ^ 191 < 2 ^ 2000 := Nat.pow_lt_pow_right (by decide) (by decide)
    have h4 : (2 : Nat) ^ 190 + 2 ^ 190 = 2 ^ 191 := by decide
    omega
   ·have : ¬ (Ql m λ r => w r * (b r - a r)) % q = 0 := λ z => nd (Int.dvd_of_emod_eq_zero z)
    rw [decide_eq_false this]; rfl
noncomputable def QeL : DS := (Qd (QR (QK (QaJ (Qa 2)) (.nm 1) [none, none, some 0, some 3, some 1] QX (dOp Qb7 (dOp Qan (Qf (Qa 2) (QL (Qa 4) (Qa 1))) (QL (Qab (dC (.int 2)) (Qa 3)) (dC (.int 1)))) (Qa 3)))) Qk)
def QfJ (d : Den) : Prop := ∀ (cs : List Int) (s m : Nat) (far : Int), cs.length = 28 -> s + m <= 28 -> m <= 8 -> 0 <= far -> ∃ g : Nat -> Int, d [Qj cs, .int s, .int m, .int far] = some (Qc m g, true) /\ ∀ j, j < m -> -far <= g j /\ g j <= far
theorem Qn7 : QfJ (Qp 4 QeL) := λ cs s m far hl hs hm hf => by
 have cell : ∀ k : Nat, k < 28 -> cs[k]? = some (cs.getD k 0) := λ k hk => by
  rw [Zah, ZM (by omega)]; rfl
 refine ⟨λ k => cs.getD (s + k) 0 % (2 * far + 1) - far, Q8 ?_, λ j hj => ?_⟩
 ·refine QJ (r := ⟨Qc m λ k => cs.getD (s + k) 0 % (2 * far + 1) - far, true, []⟩) (QT (toD := λ (k : Nat) => .int (k : Int)) (out := λ (k : Nat) => .int (cs.getD (s + k) 0 % (2 * far + 1) - far)) (List.range m) (Qbd (n := m) (r := ⟨.int m, true, []⟩) rfl rfl (by omega)) rfl λ k hk => ⟨[none, some (.int k, true), some (Qj cs, false), some (.int far, true), some (.int s, true)], rfl, ⟨.int (cs.getD (s + k) 0 % (2 * far + 1) - far), true, []⟩, ?_, rfl, rfl⟩) ⟨rfl, rfl⟩
  have hk := Zz.mp hk
  have e21 : ((s : Int) + (k : Int)).toNat = s + k := by omega
  exact Qjv (a := cs.getD (s + k) 0 % (2 * far + 1)) (b := far) (Qao (a := cs.getD (s + k) 0) (b := 2 * far + 1) (Qcv (ns := cs) (i := (s : Int) + (k : Int)) (v := cs.getD (s + k) 0) (ra := ⟨Qj cs, false, []⟩) rfl rfl (Q0 (a := (s : Int)) (b := (k : Int)) (ra := ⟨.int s, true, []⟩) (rb := ⟨.int k, true, []⟩) rfl rfl rfl rfl) rfl (by omega) (by rw [e21]; exact cell _ (by omega))) rfl (Q0 (a := 2 * far) (b := 1) (Qac (a := 2) (b := far) (ra := ⟨.int 2, true, []⟩) (rb := ⟨.int far, true, []⟩) rfl rfl rfl rfl (QbV (by decide))) rfl (Qaq _ _) rfl) rfl (by omega)) rfl (rb := ⟨.int far, true, []⟩) rfl rfl
 ·have h1 := ZH (cs.getD (s + j) 0) (by omega : 2 * far + 1 ≠ 0)
  have h2 := ZC (cs.getD (s + j) 0) (by omega : 0 < 2 * far + 1)
  show -far <= cs.getD (s + j) 0 % (2 * far + 1) - far /\ cs.getD (s + j) 0 % (2 * far + 1) - far <= far
  omega
noncomputable def Qdr (Qaf : Den) (Q9 : Den) (QaS : Den) : DS := (Qd (Qq 3 (dBf Qae (Qb (Qa 2) Qe))) (Qd (Qq 4 (dOp Qan (Qf (Qa 0) (dC (.int 16))) (dC (.int 6)))) (Qd (Qq 5 (Qw 3 Q9 [] (Qb (Qa 1) (Qb (Qa 2) (Qb (Qw 4 Qaf [] (Qb (Qa 0) (Qb (dC (.int 22)) (Qb (Qa 3) (Qb (dOp Qdu (dC (.int 10)) (dC (.int 14))) Qe))))) Qe))))) (Qd (sIf (Qz (dOp gEq (Qa 4) (dC (.int 2)))) (Qd (Qq 6 (dOp Qan (Qf (Qa 0) (dC (.int 27))) (Qa 3))) (Qd (QaV 5 Q1 (Qa 6) (QL (Qf (Qa 5) (Qa 6)) (dC (.int 1)))) Qk)) Qk) (Qd (sIf (Qz (dOp gEq (Qa 4) (dC (.int 3)))) (Qd (Qq 7 (Qw 1 QaS [] (Qb (QK (Q2 (Qa 1)) (.nm 1) [none, none] QX (QK (Q2 (Qa 1)) (.nm 1) [none, none] QX (dOp Qb7 (dC (.int 0)) (Qa 1)))) Qe))) (Qd (Qq 5 (QK (QbC (Qa 2) (Qw 4 Qaf [] (Qb (Qa 0) (Qb (dC (.int 22)) (Qb (Qa 3) (Qb (dOp Qdu (dC (.int 10)) (dC (.int 12))) Qe)))))) (.tp [1, 2]) [none, none, none, some 7] QX (QL (Qa 1) (Qab (Qa 3) (Qa 2))))) Qk)) Qk) (Qd (sIf (Qz (dOp gEq (Qa 4) (dC (.int 4)))) (Qd (Qq 5 (Qw 4 Qaf [] (Qb (Qa 0) (Qb (dC (.int 22)) (Qb (Qa 3) (Qb (Qab (dC (.int 9)) (dOp Qdu (dC (.int 10)) (dC (.int 17)))) Qe)))))) Qk) Qk) (Qd (sIf (Qz (dOp gEq (Qa 4) (dC (.int 5)))) (Qd (Qq 5 (dList (Qb (Qa 2) Qe))) Qk) Qk) (Qd (QR (Qa 5)) Qk))))))))
def Qgw (d : Den) : Prop := ∀ (cs : List Int) (m : Nat) (R L : List (Int × Int)) (a : Nat -> Int), cs.length = 28 -> 0 < m -> m <= 5 -> Qc0 m R L -> (∀ j, j < m -> (a j).natAbs <= 10 ^ 18) -> ∃ b : Nat -> Int, d [Qj cs, Qi m m (Qu m (Qs R L)), Qc m a] = some (Qc m b, true) /\ ∀ j, j < m -> (b j).natAbs <= 2 ^ 180
theorem QqF {n : Nat} (h : n <= 5) : bnd 600 n <= 2 ^ 60 := by
 have h4 : ∀ k, k < 6 -> bnd 600 k <= 2 ^ 60 := by decide +kernel
 exact h4 n (by omega)
set_option maxHeartbeats 0 in
theorem QnB {dr db dm : Den} (hr : QfJ dr) (hb : QdA db) (hm : QcA 5 dm) : Qgw (Qp 8 (Qdr dr db dm)) := λ cs m R L a hl m0 m5 hw ha => by
 have tp := hw.tp
 have cell : ∀ k : Nat, k < 28 -> cs[k]? = some (cs.getD k 0) := λ k hk => by
  rw [Zah, ZM (by omega)]; rfl
 obtain ⟨c, ec, bc⟩ := hr cs 22 m (10 ^ 14) hl (by omega) (by omega) (by decide)
 obtain ⟨c3, ec3, bc3⟩ := hr cs 22 m (10 ^ 12) hl (by omega) (by omega) (by decide)
 obtain ⟨c4, ec4, bc4⟩ := hr cs 22 m (9 * 10 ^ 17) hl (by omega) (by omega) (by decide)
 have ebh := hb m (Qu m (Qs R L)) a c m0 (by omega) tp.bnd
 have em := hm m (Qbr (Qu m (Qs R L))) (by omega) m5 (by omega) hw.big
 have db' : (det m (Qbr (Qu m (Qs R L)))).natAbs <= 2 ^ 60 := Zu (QeA λ j hj r hr => by have := hw.small hj hr; unfold Qbr; omega) (QqF m5)
 have b0 : ∀ j, j < m -> (Qr m (Qu m (Qs R L)) a c j).natAbs <= 2 ^ 170 := λ j hj => by
  have h := QjZ (n := m) (f := λ i => c i * Qu m (Qs R L) i j) (C := 10 ^ 14 * 600) λ i hi => by
   have h1 := bc i hi
   have h2 := hw.small hi hj
   rw [ZaP]
   exact ZbO (by omega) h2
  rw [Qc2] at h
  have h3 := ha j hj
  have e : Qr m (Qu m (Qs R L)) a c j = a j + Ql m λ i => c i * Qu m (Qs R L) i j := rfl
  have h4 : m * (10 ^ 14 * 600) <= 5 * (10 ^ 14 * 600) := Nat.mul_le_mul_right _ m5
  have h5 : 10 ^ 18 + 5 * (10 ^ 14 * 600) <= 2 ^ 170 := by decide
  omega
 have y1 := ZH (cs.getD 27 0) (by omega : (m : Int) ≠ 0)
 have y2 := ZC (cs.getD 27 0) (by omega : (0 : Int) < (m : Int))
 have up1 : (2 : Nat) ^ 170 + 1 <= 2 ^ 180 := by decide
 have key : Run (Qdr dr db dm) (QaI 8 [Qj cs, Qi m m (Qu m (Qs R L)), Qc m a]) (Rt λ d fr => ∃ b : Nat -> Int, d = Qc m b /\ fr = true /\ ∀ j, j < m -> (b j).natAbs <= 2 ^ 180) := by
  generalize det m (Qbr (Qu m (Qs R L))) = w at *
  generalize Qu m (Qs R L) = T at *
  have ep : ∀ (k : Nat) (ρ : En), k <= 1000 -> dOp Qdu (dC (.int 10)) (dC (.int k)) ρ = some ⟨.int (10 ^ k), true, []⟩ := λ k ρ hk => Qlm (a := 10) (k := k) (by decide) hk
  have idx : ∀ {ρ : En} (k : Nat), ρ[0]? = some (some (Qj cs, false)) -> k < 28 -> Qf (Qa 0) (dC (.int k)) ρ = some ⟨.int (cs.getD k 0), true, []⟩ := λ {ρ} k h0 hk => Qcv (ns := cs) (i := k) (Qam h0) rfl (Qaq _ _) rfl (by omega) (by simpa using cell k hk)
  refine run_seq (Qh (QfK (m := m) (f := a) (r := ⟨Qc m a, false, []⟩) rfl rfl) ?_)
  rw [Qo]
  refine run_seq (Qh (Qao (a := cs.getD 16 0) (b := 6) (idx 16 rfl (by decide)) rfl (Qaq _ _) rfl (by decide)) ?_)
  rw [Qo]
  generalize cs.getD 16 0 % 6 = kd
  refine run_seq (Qh (Qy (Qg (r := ⟨Qi m m T, false, []⟩) rfl (Qg (r := ⟨Qc m a, false, []⟩) rfl (Qg (Qy (Qg (r := ⟨Qj cs, false, []⟩) rfl (Qg (r := ⟨.int 22, true, []⟩) rfl (Qg (r := ⟨.int m, true, []⟩) rfl (Qg (ep 14 _ (by decide)) (QS _))))) ec rfl) (QS _)))) ebh rfl) ?_)
  rw [Qo]
  refine Qaa (P := λ ρ => ∃ (b : Nat -> Int) (j6 j7 : Option (D × Bool)), (∀ j, j < m -> (b j).natAbs <= 2 ^ 180) /\ ρ = [some (Qj cs, false), some (Qi m m T, false), some (Qc m a, false), some (.int m, true), some (.int kd, true), some (Qc m b, true), j6, j7]) ?_ ?_
  ·refine QQ (Qv (Qav (a := kd) (b := 2) rfl rfl (Qaq _ _) rfl) rfl) (λ _ => ?_) (λ _ => ?_)
   ·refine run_seq (Qh (Qao (a := cs.getD 27 0) (b := m) (idx 27 rfl (by decide)) rfl rfl rfl (by omega)) ?_)
    rw [Qo]
    refine run_seq (QjC (m := m) (f := Qr m T a c) (i := cs.getD 27 0 % m) (v := Qr m T a c (cs.getD 27 0 % m).toNat + 1) rfl rfl rfl (Q0 (a := Qr m T a c (cs.getD 27 0 % m).toNat) (b := 1) (Qga (m := m) (f := Qr m T a c) (i := cs.getD 27 0 % m) (ra := ⟨Qc m (Qr m T a c), true, [5]⟩) (rb := ⟨.int (cs.getD 27 0 % m), true, []⟩) rfl rfl rfl rfl y1 y2) rfl (Qaq _ _) rfl) rfl y1 y2 (Qm ⟨_, _, _, λ j hj => ?_, rfl⟩))
    rw [Qdi]
    have h1 := b0 j hj
    have h2 := b0 (cs.getD 27 0 % m).toNat (by omega)
    split <;> omega
   ·exact Qm ⟨_, _, _, λ j hj => by have := b0 j hj; omega, rfl⟩
  rintro ρ ⟨b, j6, j7, hb1, rfl⟩
  refine Qaa (P := λ ρ => ∃ (b : Nat -> Int) (j6 j7 : Option (D × Bool)), (∀ j, j < m -> (b j).natAbs <= 2 ^ 180) /\ ρ = [some (Qj cs, false), some (Qi m m T, false), some (Qc m a, false), some (.int m, true), some (.int kd, true), some (Qc m b, true), j6, j7]) ?_ ?_
  ·refine QQ (Qv (Qav (a := kd) (b := 3) rfl rfl (Qaq _ _) rfl) rfl) (λ _ => ?_) (λ _ => ?_)
   ·refine run_seq (Qh (Qy (Qg (QnU (m := m) (T := T) (Q7 (r := ⟨Qi m m T, false, []⟩) rfl rfl) rfl) (QS _)) em rfl) ?_)
    rw [Qo]
    refine run_seq (Qh (r := ⟨Qc m λ j => a j + w * c3 j, true, []⟩) (QT (toD := λ (j : Nat) => .tup [.int (a j), .int (c3 j)]) (out := λ (j : Nat) => .int (a j + w * c3 j)) (List.range m) (Qcl (f := λ j => .int (a j)) (g := λ j => .int (c3 j)) (ra := ⟨Qc m a, false, []⟩) rfl rfl (Qy (Qg (r := ⟨Qj cs, false, []⟩) rfl (Qg (r := ⟨.int 22, true, []⟩) rfl (Qg (r := ⟨.int m, true, []⟩) rfl (Qg (ep 12 _ (by decide)) (QS _))))) ec3 rfl) rfl) rfl λ j hj => ⟨[none, some (.int (a j), true), some (.int (c3 j), true), some (.int w, true)], rfl, ⟨.int (a j + w * c3 j), true, []⟩, Q0 (a := a j) (b := w * c3 j) (ra := ⟨.int (a j), true, []⟩) rfl rfl (Qac (a := w) (b := c3 j) (ra := ⟨.int w, true, []⟩) (rb := ⟨.int (c3 j), true, []⟩) rfl rfl rfl rfl (QbV (Zas db' (by decide)))) rfl, rfl, rfl⟩) (Qm ?_))
    rw [Qo]
    refine ⟨_, _, _, λ j hj => ?_, rfl⟩
    have h1 := ha j hj
    have h2 := bc3 j hj
    have h3 : (w * c3 j).natAbs <= 2 ^ 60 * 10 ^ 12 := by rw [ZaP]; exact ZbO db' (by omega)
    have h4 : 10 ^ 18 + 2 ^ 60 * 10 ^ 12 <= 2 ^ 180 := by decide
    show (a j + w * c3 j).natAbs <= _
    omega
   ·exact Qm ⟨_, _, _, hb1, rfl⟩
  clear hb1
  rintro ρ ⟨b, j6, j7, hb1, rfl⟩
  refine Qaa (P := λ ρ => ∃ (b : Nat -> Int) (j6 j7 : Option (D × Bool)), (∀ j, j < m -> (b j).natAbs <= 2 ^ 180) /\ ρ = [some (Qj cs, false), some (Qi m m T, false), some (Qc m a, false), some (.int m, true), some (.int kd, true), some (Qc m b, true), j6, j7]) ?_ ?_
  ·refine QQ (Qv (Qav (a := kd) (b := 4) rfl rfl (Qaq _ _) rfl) rfl) (λ _ => ?_) (λ _ => ?_)
   ·refine run_seq (Qh (Qy (Qg (r := ⟨Qj cs, false, []⟩) rfl (Qg (r := ⟨.int 22, true, []⟩) rfl (Qg (r := ⟨.int m, true, []⟩) rfl (Qg (Qac (a := 9) (b := 10 ^ 17) rfl rfl (ep 17 _ (by decide)) rfl (QbV (by decide))) (QS _))))) ec4 rfl) (Qm ?_))
    rw [Qo]
    refine ⟨_, _, _, λ j hj => ?_, rfl⟩
    have h1 := bc4 j hj
    have h4 : (9 * 10 ^ 17 : Int) <= 2 ^ 180 := by decide
    omega
   ·exact Qm ⟨_, _, _, hb1, rfl⟩
  clear hb1
  rintro ρ ⟨b, j6, j7, hb1, rfl⟩
  refine Qaa (P := λ ρ => ∃ (b : Nat -> Int) (j6 j7 : Option (D × Bool)), (∀ j, j < m -> (b j).natAbs <= 2 ^ 180) /\ ρ = [some (Qj cs, false), some (Qi m m T, false), some (Qc m a, false), some (.int m, true), some (.int kd, true), some (Qc m b, true), j6, j7]) ?_ ?_
  ·refine QQ (Qv (Qav (a := kd) (b := 5) rfl rfl (Qaq _ _) rfl) rfl) (λ _ => ?_) (λ _ => ?_)
   ·refine run_seq (Qh (Qe8 (m := m) (f := a) (rs := ⟨[Qc m a], false, []⟩) rfl rfl) (Qm ?_))
    rw [Qo]
    refine ⟨a, _, _, λ j hj => Zu (ha j hj) (by decide), rfl⟩
   ·exact Qm ⟨_, _, _, hb1, rfl⟩
  clear hb1
  rintro ρ ⟨b, j6, j7, hb1, rfl⟩
  exact QJ (r := ⟨Qc m b, true, [5]⟩) rfl ⟨b, rfl, rfl, hb1⟩
 obtain ⟨o, h1, h2⟩ := key
 cases o with
 | rt d fr =>
  obtain ⟨b, rfl, rfl, h3⟩ := h2
  exact ⟨b, by unfold Qp; rw [h1]; rfl, h3⟩
 | _ => exact h2.elim
noncomputable def Qc8 (QbN : Den) (QbW : Den) : DS := (Qd (Qq 1 (QL (dC (.int 1)) (dOp Qan (Qf (Qa 0) (dC (.int 0))) (dC (.int 5))))) (Qd (Qq 2 (dOp Qan (Qf (Qa 0) (dC (.int 1))) (dC (.int 6)))) (Qd (Qq 3 (Qw 5 QbW [] (Qb (Qw 3 QbN [] (Qb (Qar (Qa 0) (QY (dC (.int 3))) (QY (dC (.int 8)))) (Qb (Qa 1) (Qb (Qa 2) Qe)))) (Qb (Qar (Qa 0) (QY (dC (.int 8))) (QY (QL (dC (.int 8)) (dOp Qan (Qf (Qa 0) (dC (.int 2))) (dC (.int 9)))))) (Qb (Qa 1) (Qb (Qa 2) (Qb (dC (.int 300)) Qe))))))) (Qd (Qq 4 (QK (Q2 (Qa 3)) (.tp [1, 2, 3]) [none, none, none, none] (Qb5 (Qz (Qa 3))) (QaK (Qb (dBf Qhq (Qb (Qa 1) (Qb (Qa 2) Qe))) (Qb (dBf Qg1 (Qb (Qa 1) (Qb (Qa 2) Qe))) Qe))))) (Qd (Qq 5 (QK (Q2 (Qa 3)) (.tp [1, 2, 3]) [none, none, none, none] (Qz (Qa 3)) (QaK (Qb (Qa 1) (Qb (Qa 2) Qe))))) (Qd (QR (QaK (Qb (Qa 1) (Qb (Qa 4) (Qb (Qa 5) Qe))))) Qk))))))
def QhG (d : Den) : Prop := ∀ cs : List Int, cs.length = 28 -> (∀ c ∈ cs, 0 <= c /\ c < B40) -> ∃ (m : Nat) (R L : List (Int × Int)), d [Qj cs] = some (QE m R L, true) /\ 0 < m /\ m <= 5 /\ Qc0 m R L
theorem QoL {db dm : Den} (hb : QhX db) (hm : Qh5 dm) : QhG (Qp 6 (Qc8 db dm)) := λ cs hl hcs => by
 have cell : ∀ k : Nat, k < 28 -> ∃ c, cs[k]? = some c /\ 0 <= c /\ c < B40 := λ k hk => ⟨cs[k]'(by omega), ZM (by omega), hcs _ (List.getElem_mem _)⟩
 obtain ⟨c0, e0, p0, _⟩ := cell 0 (by decide)
 obtain ⟨c1, e1, p1, _⟩ := cell 1 (by decide)
 obtain ⟨c2, e2, p2, _⟩ := cell 2 (by decide)
 have b1 := ZH c0 (by decide : (5 : Int) ≠ 0)
 have b2 := ZC c0 (by decide : (0 : Int) < 5)
 obtain ⟨m, em⟩ : ∃ m : Nat, (m : Int) = 1 + c0 % 5 := ⟨(1 + c0 % 5).toNat, by omega⟩
 have key : Run (Qc8 db dm) (QaI 6 [Qj cs]) (Rt λ d fr => ∃ R L, d = QE m R L /\ fr = true /\ Qc0 m R L) := by
  have idx : ∀ {ρ : En} (k : Nat) (c : Int), ρ[0]? = some (some (Qj cs, false)) -> cs[k]? = some c -> Qf (Qa 0) (dC (.int k)) ρ = some ⟨.int c, true, []⟩ := λ {ρ} k c h0 hc => Qcv (ns := cs) (i := k) (Qam h0) rfl (Qaq _ _) rfl (by omega) (by simpa using hc)
  refine run_seq (Qh (Q0 (a := 1) rfl rfl (Qao (b := 5) (idx 0 c0 rfl e0) rfl rfl rfl (by decide)) rfl) ?_)
  rw [Qo, ← em]
  refine run_seq (Qh (Qao (b := 6) (idx 1 c1 rfl e1) rfl rfl rfl (by decide)) ?_)
  rw [Qo]
  generalize c1 % 6 = kind
  obtain ⟨W0, hbase, lW0, gW0, esc0⟩ := hb m ((cs.drop (min 3 cs.length)).take (min 8 cs.length - min 3 cs.length)) kind (by omega) (by omega) (by rw [Zaf, Zaq]; omega) λ c hc => hcs c (Qlt hc)
  have d1 := ZH c2 (by decide : (9 : Int) ≠ 0)
  have d2 := ZC c2 (by decide : (0 : Int) < 9)
  obtain ⟨q, eq⟩ : ∃ q : Nat, (q : Int) = 8 + c2 % 9 := ⟨(8 + c2 % 9).toNat, by omega⟩
  have eh : QL (dC (.int 8)) (dOp Qan (Qf (Qa 0) (dC (.int 2))) (dC (.int 9))) [some (Qj cs, false), some (.int m, true), some (.int kind, true), none, none, none] = some ⟨.int q, true, []⟩ := by
   rw [eq]
   exact Q0 (a := 8) rfl rfl (Qao (a := c2) (b := 9) (idx 2 c2 rfl e2) rfl (rb := ⟨.int 9, true, []⟩) rfl rfl (by decide)) rfl
  have esl := Qll (cs := cs) (a := 8) (b := q) (fa := Qa 0) (fl := dC (.int 8)) (ρ := [some (Qj cs, false), some (.int m, true), some (.int kind, true), none, none, none]) (ra := ⟨Qj cs, false, []⟩) rfl rfl rfl rfl eh rfl
  generalize efu : (cs.drop (min 8 cs.length)).take (min q cs.length - min 8 cs.length) = fu at esl
  have hfu : ∀ c ∈ fu, 0 <= c /\ c < B40 := λ c hc => hcs c (by rw [← efu] at hc; exact Qlt hc)
  have lfu : fu.length <= 28 := by rw [← efu, Zaf, Zaq]; omega
  obtain ⟨W, fr, hmore, lW, gW, sub⟩ := hm m W0 fu kind 300 (by omega) (by omega) (by omega) gW0 hfu
  have eargs : Qb (Qw 3 db [] (Qb (Qar (Qa 0) (QY (dC (.int 3))) (QY (dC (.int 8)))) (Qb (Qa 1) (Qb (Qa 2) Qe)))) (Qb (Qar (Qa 0) (QY (dC (.int 8))) (QY (QL (dC (.int 8)) (dOp Qan (Qf (Qa 0) (dC (.int 2))) (dC (.int 9)))))) (Qb (Qa 1) (Qb (Qa 2) (Qb (dC (.int 300)) Qe)))) [some (Qj cs, false), some (.int m, true), some (.int kind, true), none, none, none] = some ⟨[QO W0, Qj fu, .int m, .int kind, .int 300], true, []⟩ :=
   Qg (Qy (Qg (Qll (cs := cs) (a := 3) (b := 8) (ra := ⟨Qj cs, false, []⟩) rfl rfl rfl rfl rfl rfl) (Qg (r := ⟨.int m, true, []⟩) rfl (Qg (r := ⟨.int kind, true, []⟩) rfl (QS _)))) hbase rfl) (Qg esl (Qg (r := ⟨.int m, true, []⟩) rfl (Qg (r := ⟨.int kind, true, []⟩) rfl (Qg (r := ⟨.int 300, true, []⟩) rfl (QS _)))))
  refine run_seq (Qh (Qpb eargs hmore rfl) ?_)
  rw [QmA rfl]
  refine run_seq (Qh (Qog (W := W) (Qam (b := fr) rfl) (by cases fr <;> rfl)) ?_)
  rw [Qo]
  refine run_seq (Qh (Qo1 (W := W) (Qam (b := fr) rfl) (by cases fr <;> rfl)) ?_)
  rw [Qo]
  exact QJ (r := ⟨QE m (Qbg W) (QbX W), true, [4, 5]⟩) rfl ⟨Qbg W, QbX W, rfl, rfl, W, esc0.mono sub, gW, by omega, rfl, rfl⟩
 obtain ⟨o, h1, h2⟩ := key
 cases o with
 | rt d fr =>
  obtain ⟨R, L, rfl, rfl, h3⟩ := h2
  exact ⟨m, R, L, by unfold Qp; rw [h1]; rfl, by omega, by omega, h3⟩
 | _ => exact h2.elim
structure Shp (m : Nat) (s : D) (nm : Str) (x : Nat -> Int) : Prop where
 fl : s.flat = false
 a0 : ∀ {fa : DE} {ρ : En} {r : HS.R}, fa ρ = some r -> r.d = s -> Qf fa (dC (.int 0)) ρ = some ⟨.str nm, true, []⟩
 a1 : ∀ {fa : DE} {ρ : En} {r : HS.R}, fa ρ = some r -> r.d = s -> Qf fa (dC (.int 1)) ρ = some ⟨Qc m x, r.fr, r.M⟩
 dp : QaC s [1] = some (Qc m x)
 sm : (D.str nm).sim 8 = true
theorem QhH.shp {m : Nat} {T : Nat -> Nat -> Int} {a b : Nat -> Int} {s : D} (h : QhH m T a b s) : ∃ nm x, Shp m s nm x /\ (nm = "alike" /\ (∃ k : Nat -> Int, ∀ r, r < m -> b r = Qr m T a k r) ∨ nm = "apart" /\ ¬ ∃ k : Nat -> Int, ∀ r, r < m -> b r = Qr m T a k r) := by
 cases h with
 | @alike k h =>
  refine ⟨_, k, ⟨rfl, λ ha e => ?_, λ ha e => ?_, rfl, QnX⟩, .inl ⟨rfl, k, h⟩⟩
  ·unfold Qf; rw [ha]; simp only [Za, e, Qaq]; rfl
  ·unfold Qf; rw [ha]; simp only [Za, e, Qaq]; rfl
 | @apart w q q0 wb hd nd =>
  refine ⟨_, w, ⟨rfl, λ ha e => ?_, λ ha e => ?_, rfl, Qok⟩, .inr ⟨rfl, λ ⟨k, h⟩ => nd ?_⟩⟩
  ·unfold Qf; rw [ha]; simp only [Za, e, Qaq]; rfl
  ·unfold Qf; rw [ha]; simp only [Za, e, Qaq]; rfl
  ·have e : (Ql m λ r => w r * (b r - a r)) = Ql m λ l => k l * Ql m λ r => w r * T l r := by
    rw [QD (g := λ r => Ql m λ l => k l * (w r * T l r)) λ r hr => ?_, Qd8]
    ·exact QD λ l _ => Qbz _ _ _
    ·rw [h r hr]
     show w r * (a r + (Ql m λ l => k l * T l r) - a r) = _
     rw [show a r + (Ql m λ l => k l * T l r) - a r = Ql m λ l => k l * T l r by omega, ← Qbz]
     exact QD λ l _ => by rw [← ZK, ZJ (w r), ZK]
   rw [e]
   have all : ∀ n, n <= m -> q ∣ Ql n λ l => k l * Ql m λ r => w r * T l r := λ n => by
    induction n with
    | zero => intro _; exact ⟨0, by simp [Ql]⟩
    | succ n ih =>
     intro hn
     rw [Q3]
     exact Int.dvd_add (ih (by omega)) (Int.dvd_trans (hd n (by omega)) ⟨k n, ZJ _ _⟩)
   exact all m (Zi m)
theorem Qg8 {m : Nat} {T : Nat -> Nat -> Int} {a b : Nat -> Int} (h : ∃ k : Nat -> Int, ∀ r, r < m -> b r = Qr m T a k r) : ∃ k : Nat -> Int, ∀ r, r < m -> a r = Qr m T b k r := by
 obtain ⟨k, h⟩ := h
 refine ⟨λ i => - k i, λ r hr => ?_⟩
 have := h r hr
 unfold Qr at this ⊢
 rw [QrC]
 omega
theorem Shp.var {m : Nat} {s : D} {nm : Str} {x : Nat -> Int} (h : Shp m s nm x) {i : Nat} {ρ : En} (hx : ρ[i]? = some (some (s, true))) : Qa i ρ = some ⟨s, true, [i]⟩ := by
 rw [Qam hx, h.fl]; rfl
theorem Qmm {x m : Nat} {a : D} {f g : Nat -> Int} {fi fa : DE} {ρ : En} {i : Int} {v : Int} {ri ra : R} {Q : Out -> Prop} (hx : ρ[x]? = some (some (.lst [a, Qc m f, Qc m g], true))) (hi : fi ρ = some ri) (ei : ri.d = .int i) (ha : fa ρ = some ra) (ea : ra.d = .int v) (h0 : 0 <= i) (h : i < m)
  (q : Q (.nx (ρ.set x (some (.lst [a, Qc m (up f i.toNat v), Qc m g], true))))) : Run (QaV x (Qca Q1 (dC (.int 1))) fi fa) ρ Q := by
 refine ⟨_, ?_, q⟩
 have hn : ra.norm = ⟨.int v, true, []⟩ := by unfold R.norm; rw [ea]; rfl
 unfold QaV
 rw [ha, Za, hx]
 have hp : Qca Q1 (dC (.int 1)) ρ = some [1] := rfl
 have hd : QaC (.lst [a, .lst ((List.range m).map λ i => D.int (f i)), .lst ((List.range m).map λ i => D.int (g i))]) [1] = some (.lst ((List.range m).map λ i => D.int (f i))) := rfl
 have hu' : ∀ d, Qah [1] (.lst [a, .lst ((List.range m).map λ i => D.int (f i)), .lst ((List.range m).map λ i => D.int (g i))]) d = .lst [a, d, .lst ((List.range m).map λ i => D.int (g i))] := λ d => rfl
 simp only [hp, Za, hi, ei, Qc, hd, Zj, Zx, QcM h0 h, hn, ea, Qf7, hu']
 simp [kill]
noncomputable def Qio (Qbp : Den) (Qcw : Den) (Qbq : Den) (Qaf : Den) (Qa2 : Den) (QbP : Den) (Qak : Den) (QaD : Den) : DS := (Qd (Qq 1 (Qw 2 Qbp [] (Qb (Qa 0) (Qb (dC (.int 28)) Qe)))) (Qd (Qq 2 (Qw 1 Qcw [] (Qb (Qa 1) Qe))) (Qd (Qq 3 (Qw 1 Qbq [] (Qb (Qa 2) Qe))) (Qd (Qq 4 (Qw 4 Qaf [] (Qb (Qa 1) (Qb (dC (.int 17)) (Qb (Qf (Qa 2) (dC (.int 0))) (Qb (Qab (dC (.int 9)) (dOp Qdu (dC (.int 10)) (dC (.int 17)))) Qe)))))) (Qd (Qq 5 (Qw 3 Qa2 [] (Qb (Qa 1) (Qb (Qa 3) (Qb (Qa 4) Qe))))) (Qd (Qq 6 (Qaw (Qb (Qw 1 QbP [] (Qb (Qa 2) Qe)) (Qb (dList (Qb (Qa 4) Qe)) (Qb (dList (Qb (Qa 5) Qe)) Qe))))) (Qd (Qq 7 (Qw 3 Qak [] (Qb (Qf (Qa 6) (dC (.int 0))) (Qb (Qf (Qa 6) (dC (.int 1))) (Qb (Qf (Qa 6) (dC (.int 2))) Qe))))) (Qd (sIf (bOr (Qb5 (Qz (Qw 4 QaD [] (Qb (Qa 7) (Qb (Qa 3) (Qb (Qa 4) (Qb (Qa 5) Qe))))))) (Qz (dOp gNe (Qa 6) (Qaw (Qb (Qa 2) (Qb (Qa 4) (Qb (Qa 5) Qe))))))) (Qd (QR (dC (.bl false))) Qk) Qk) (Qd (Qq 8 (dList (Qb (Qf (Qa 7) (dC (.int 1))) Qe))) (Qd (Qq 9 (Qw 3 Qak [] (Qb (Qf (Qa 6) (dC (.int 0))) (Qb (Qf (Qa 6) (dC (.int 2))) (Qb (Qf (Qa 6) (dC (.int 1))) Qe))))) (Qd (sIf (bOr (Qb5 (Qz (Qw 4 QaD [] (Qb (Qa 9) (Qb (Qa 3) (Qb (Qa 5) (Qb (Qa 4) Qe))))))) (bOr (Qz (dOp gNe (Qf (Qa 9) (dC (.int 0))) (Qf (Qa 7) (dC (.int 0))))) (Qz (dOp gNe (Qf (Qa 7) (dC (.int 1))) (Qa 8))))) (Qd (QR (dC (.bl false))) Qk) Qk) (Qd (QaV 6 (Qca Q1 (dC (.int 1))) (dC (.int 0)) (QL (Qf (Qf (Qa 6) (dC (.int 1))) (dC (.int 0))) (dC (.int 1)))) (Qd (Qq 10 (Qw 3 Qak [] (Qb (Qa 2) (Qb (Qf (Qa 6) (dC (.int 1))) (Qb (Qf (Qa 6) (dC (.int 2))) Qe))))) (Qd (sIf (bOr (Qb5 (Qz (Qw 4 QaD [] (Qb (Qa 10) (Qb (Qa 3) (Qb (Qf (Qa 6) (dC (.int 1))) (Qb (Qa 5) Qe))))))) (Qz (dOp gNe (Qf (Qa 7) (dC (.int 1))) (Qa 8)))) (Qd (QR (dC (.bl false))) Qk) Qk) (Qd (Qdo 7 (Qca Q1 (dC (.int 1))) (dC (.int 1))) (Qd (Qq 7 (Qw 3 Qak [] (Qb (Qa 2) (Qb (Qa 4) (Qb (Qa 5) Qe))))) (Qd (QR (Qem (Qw 4 QaD [] (Qb (Qa 7) (Qb (Qa 3) (Qb (Qa 4) (Qb (Qa 5) Qe))))) (dOp gEq (Qf (Qa 7) (dC (.int 1))) (Qa 8)))) Qk)))))))))))))))))
set_option maxHeartbeats 0 in
theorem Qsa {dcl dn dt dr dbs dcp dta dg : Den} (hcl : CellsOk dcl) (hn : QhG dn) (ht : TabsOk dt) (hr : QfJ dr) (hbs : Qgw dbs) (hcp : QhJ dcp) (hta : QhL dta) (hg : Qgv dg) (ns : List Int) (hns : ns.length <= 63) : Qp 11 (Qio dcl dn dt dr dbs dcp dta dg) [.lst (ns.map .int)] = some (.bl true, true) := by
 obtain ⟨cs, ecs, lcs, bcs⟩ := hcl ns 28 hns (by decide)
 obtain ⟨m, R, L, en, m0, m5, hw⟩ := hn cs lcs bcs
 have gd := hw.good
 have tp := hw.tp
 have et := ht m R L m0 (by omega) (by omega) gd.1 gd.2.1
 obtain ⟨a, ea, ba⟩ := hr cs 17 m (9 * 10 ^ 17) lcs (by omega) (by omega) (by decide)
 have a18 : ∀ j, j < m -> (a j).natAbs <= 10 ^ 18 := λ j hj => by
  have := ba j hj
  have : (9 * 10 ^ 17 : Int) <= 10 ^ 18 := by decide
  omega
 obtain ⟨b, eb, bb⟩ := hbs cs m R L a lcs m0 m5 hw a18
 have a190 : ∀ j, j < m -> (a j).natAbs <= 2 ^ 190 := λ j hj => Zu (a18 j hj) (by decide)
 have b190 : ∀ j, j < m -> (b j).natAbs <= 2 ^ 190 := λ j hj => Zu (bb j hj) (by decide)
 have c190 : ∀ j, j < m -> (up a 0 (a 0 + 1) j).natAbs <= 2 ^ 190 := λ j hj => by
  rw [Qdi]
  have := a18 0 m0
  have : 10 ^ 18 + 1 <= 2 ^ 190 := by decide
  split
  ·omega
  ·exact a190 j hj
 obtain ⟨s1, e1, d1⟩ := hta m R L a b m0 (by omega) hw a190 b190
 obtain ⟨s2, e2, d2⟩ := hta m R L b a m0 (by omega) hw b190 a190
 obtain ⟨s3, e3, d3⟩ := hta m R L _ b m0 (by omega) hw c190 b190
 have g1 := hg m _ a b s1 m0 (by omega) tp.bnd a190 b190 d1
 have g2 := hg m _ b a s2 m0 (by omega) tp.bnd b190 a190 d2
 have g3 := hg m _ _ b s3 m0 (by omega) tp.bnd c190 b190 d3
 have ecp := hcp m R L
 obtain ⟨nm, x, p1, k1⟩ := d1.shp
 obtain ⟨nm2, y, p2, k2⟩ := d2.shp
 have same : nm2 = nm := by
  rcases k1 with ⟨r1, u1⟩ | ⟨r1, u1⟩ <;> rcases k2 with ⟨r2, u2⟩ | ⟨r2, u2⟩
  ·rw [r1, r2]
  ·exact absurd (Qg8 u1) u2
  ·exact absurd (Qg8 u2) u1
  ·rw [r1, r2]
 subst same
 obtain ⟨nm3, z, p3, _⟩ := d3.shp
 clear k1 k2 d1 d2 d3
 generalize Qu m (Qs R L) = T at *
 have it : ∀ {ρ : En} {b : Bool}, ρ[2]? = some (some (QE m R L, b)) -> Qf (Qa 2) (dC (.int 0)) ρ = some ⟨.int m, true, []⟩ := λ {ρ b} h => (Qco (m := m) (R := R) (L := L) (Qam h) (by cases b <;> rfl)).1
 have sR : ∀ f : Nat -> Int, (Qc m f).sim 8 = true := λ f => QfR 7 m f
 have sH : (D.lst [QE m R L, Qc m a, Qc m b]).sim 8 = true := by
  simp only [D.sim, List.all_cons, List.all_nil, ZbQ, Zf]
  refine ⟨?_, QfR 6 m a, QfR 6 m b⟩
  unfold QE
  simp only [D.sim, List.all_cons, List.all_nil, ZbQ, Bool.true_and, Zf]
  exact ⟨Qix 4 R, Qix 4 L⟩
 refine Q8 ?_
 refine run_seq (Qh (Qy (r := ⟨[.lst (ns.map .int), .int 28], false, []⟩) rfl ecs rfl) ?_)
 rw [Qo]
 refine run_seq (Qh (Qy (r := ⟨[Qj cs], true, [1]⟩) rfl en rfl) ?_)
 rw [Qo]
 refine run_seq (Qh (Qy (r := ⟨[QE m R L], true, [2]⟩) rfl et rfl) ?_)
 rw [Qo]
 refine run_seq (Qh (Qy (Qg (r := ⟨Qj cs, true, [1]⟩) rfl (Qg (r := ⟨.int 17, true, []⟩) rfl (Qg (it rfl) (Qg (Qac (a := 9) (b := 10 ^ 17) rfl rfl (Qlm (a := 10) (k := 17) (by decide) (by decide)) rfl (QbV (by decide))) (QS _))))) ea rfl) ?_)
 rw [Qo]
 refine run_seq (Qh (Qy (r := ⟨[Qj cs, Qi m m T, Qc m a], true, [1, 3, 4]⟩) rfl eb rfl) ?_)
 rw [Qo]
 refine run_seq (Qh (r := ⟨.lst [QE m R L, Qc m a, Qc m b], true, []⟩) (Qnx (Qg (Qy (r := ⟨[QE m R L], true, [2]⟩) rfl ecp rfl) (Qg (Qe8 (m := m) (f := a) (rs := ⟨[Qc m a], true, [4]⟩) rfl rfl) (Qg (Qe8 (m := m) (f := b) (rs := ⟨[Qc m b], true, [5]⟩) rfl rfl) (QS _)))) (Nat.le_of_ble_eq_true rfl)) ?_)
 rw [Qo]
 change Nx _ (.nx [some (.lst (ns.map .int), false), some (Qj cs, true), some (QE m R L, true), some (Qi m m T, true), some (Qc m a, true), some (Qc m b, true), some (.lst [QE m R L, Qc m a, Qc m b], true), none, none, none, none])
 refine run_seq (Qh (Qy (r := ⟨[QE m R L, Qc m a, Qc m b], true, [6, 6, 6]⟩) rfl e1 rfl) ?_)
 rw [Qo]
 change Nx _ (.nx [some (.lst (ns.map .int), false), some (Qj cs, true), some (QE m R L, true), some (Qi m m T, true), some (Qc m a, true), some (Qc m b, true), some (.lst [QE m R L, Qc m a, Qc m b], true), some (s1, true), none, none, none])
 refine QG (QQ (b := false) (Qa6 (a := false) (b := false) (Qa7 (b := true) (Qv (b := true) (Qy (Qg (p1.var rfl) (Qg (r := ⟨Qi m m T, true, [3]⟩) rfl (Qg (r := ⟨Qc m a, true, [4]⟩) rfl (Qg (r := ⟨Qc m b, true, [5]⟩) rfl (QS _))))) g1 rfl) rfl)) (Qv (b := false) (QeI (d := .lst [QE m R L, Qc m a, Qc m b]) (ra := ⟨.lst [QE m R L, Qc m a, Qc m b], true, [6]⟩) (rb := ⟨.lst [QE m R L, Qc m a, Qc m b], true, [2, 4, 5]⟩) rfl rfl rfl rfl sH) rfl)) (λ h => by cases h) (λ _ => Qm ?_))
 refine run_seq (Qh (Qe8 (m := m) (f := x) (rs := ⟨[Qc m x], true, [7]⟩) (Qg (p1.a1 (p1.var rfl) rfl) (QS _)) rfl) ?_)
 rw [Qo]
 change Nx _ (.nx [some (.lst (ns.map .int), false), some (Qj cs, true), some (QE m R L, true), some (Qi m m T, true), some (Qc m a, true), some (Qc m b, true), some (.lst [QE m R L, Qc m a, Qc m b], true), some (s1, true), some (Qc m x, true), none, none])
 refine run_seq (Qh (Qy (r := ⟨[QE m R L, Qc m b, Qc m a], true, [6, 6, 6]⟩) rfl e2 rfl) ?_)
 rw [Qo]
 change Nx _ (.nx [some (.lst (ns.map .int), false), some (Qj cs, true), some (QE m R L, true), some (Qi m m T, true), some (Qc m a, true), some (Qc m b, true), some (.lst [QE m R L, Qc m a, Qc m b], true), some (s1, true), some (Qc m x, true), some (s2, true), none])
 refine QG (QQ (b := false) (Qa6 (a := false) (b := false) (Qa7 (b := true) (Qv (b := true) (Qy (Qg (p2.var rfl) (Qg (r := ⟨Qi m m T, true, [3]⟩) rfl (Qg (r := ⟨Qc m b, true, [5]⟩) rfl (Qg (r := ⟨Qc m a, true, [4]⟩) rfl (QS _))))) g2 rfl) rfl)) (Qa6 (a := false) (b := false) (Qv (b := false) (QeI (d := .str nm2) (p2.a0 (p2.var rfl) rfl) rfl (p1.a0 (p1.var rfl) rfl) rfl p1.sm) rfl) (Qv (b := false) (QeI (d := Qc m x) (p1.a1 (p1.var rfl) rfl) rfl (rb := ⟨Qc m x, true, [8]⟩) rfl rfl (sR _)) rfl))) (λ h => by cases h) (λ _ => Qm ?_))
 refine run_seq (Qmm (m := m) (a := QE m R L) (f := a) (g := b) (i := 0) (v := a 0 + 1) (ri := ⟨.int 0, true, []⟩) rfl rfl rfl (Q0 (a := a 0) (b := 1) (Qcf (m := m) (f := a) (i := 0) (ra := ⟨Qc m a, true, [6]⟩) (rb := ⟨.int 0, true, []⟩) rfl rfl rfl rfl m0) rfl (Qaq _ _) rfl) rfl (by decide) (by omega) ?_)
 change Nx _ (.nx [some (.lst (ns.map .int), false), some (Qj cs, true), some (QE m R L, true), some (Qi m m T, true), some (Qc m a, true), some (Qc m b, true), some (.lst [QE m R L, Qc m (up a 0 (a 0 + 1)), Qc m b], true), some (s1, true), some (Qc m x, true), some (s2, true), none])
 refine run_seq (Qh (Qy (r := ⟨[QE m R L, Qc m (up a 0 (a 0 + 1)), Qc m b], true, [2, 6, 6]⟩) rfl e3 rfl) ?_)
 rw [Qo]
 change Nx _ (.nx [some (.lst (ns.map .int), false), some (Qj cs, true), some (QE m R L, true), some (Qi m m T, true), some (Qc m a, true), some (Qc m b, true), some (.lst [QE m R L, Qc m (up a 0 (a 0 + 1)), Qc m b], true), some (s1, true), some (Qc m x, true), some (s2, true), some (s3, true)])
 refine QG (QQ (b := false) (Qa6 (a := false) (b := false) (Qa7 (b := true) (Qv (b := true) (Qy (Qg (p3.var rfl) (Qg (r := ⟨Qi m m T, true, [3]⟩) rfl (Qg (r := ⟨Qc m (up a 0 (a 0 + 1)), true, [6]⟩) rfl (Qg (r := ⟨Qc m b, true, [5]⟩) rfl (QS _))))) g3 rfl) rfl)) (Qv (b := false) (QeI (d := Qc m x) (p1.a1 (p1.var rfl) rfl) rfl (rb := ⟨Qc m x, true, [8]⟩) rfl rfl (sR _)) rfl)) (λ h => by cases h) (λ _ => Qm ?_))
 refine run_seq (QoI (x := 7) (is := [1]) (d0 := s1) (d := .int 1) (xs := (List.range m).map λ i => .int (x i)) rfl rfl p1.dp rfl (by simp; omega) ?_)
 refine run_seq (Qh (Qy (r := ⟨[QE m R L, Qc m a, Qc m b], true, [2, 4, 5]⟩) rfl e1 rfl) ?_)
 rw [Qo]
 change Nx _ (.nx [some (.lst (ns.map .int), false), some (Qj cs, true), some (QE m R L, true), some (Qi m m T, true), some (Qc m a, true), some (Qc m b, true), some (.lst [QE m R L, Qc m (up a 0 (a 0 + 1)), Qc m b], true), some (s1, true), some (Qc m x, true), some (s2, true), some (s3, true)])
 exact QJ (Qfy (a := true) (b := true) (Qy (Qg (p1.var rfl) (Qg (r := ⟨Qi m m T, true, [3]⟩) rfl (Qg (r := ⟨Qc m a, true, [4]⟩) rfl (Qg (r := ⟨Qc m b, true, [5]⟩) rfl (QS _))))) g1 rfl) (Qf3 (d := Qc m x) (p1.a1 (p1.var rfl) rfl) rfl (rb := ⟨Qc m x, true, [8]⟩) rfl rfl (sR _))) ⟨rfl, rfl⟩
end HS
theorem HS.some_of {α : Type} {x : Option α} {d : α} (h : x.isSome = true) : x = some (x.getD d) := by cases x with | none => cases h | some a => rfl
namespace Law
open PySem L2 HS
noncomputable section
def top (i : Nat) : Stmt := PySem.Challenge.pw_heapstill_k42_whole_alike_or_parted.main.body.getD i (.Pass ⟨0, 0, 0, 0⟩)
abbrev cst : List (Str × Int) := []
abbrev Sc (s : Stmt) (P : List Str) : Prop := QcQ (namesOf (Qx s)) P (Qx s)
theorem scM {s : Stmt} {P : List Str} (h1 : (Qx s).kind = .function) (h2 : (Qx s).isCoroutine = false) (h3 : (Qx s).isGenerator = false) (h4 : (namesOf (Qx s)).Nodup /\ (namesOf (Qx s)).take P.length = P /\ (∀ x ∈ P, (Qx s).names.lookup x = some .local ∨ (Qx s).names.lookup x = some .cell) /\ ∀ y ∈ (Qx s).names, y.2 ≠ .free) : Sc s P := ⟨h1, h2, h3, h4.1, h4.2.1, h4.2.2.1, h4.2.2.2⟩
noncomputable abbrev Cp (s : Stmt) (Γ : List (Str × FnR)) : Option DS := QaY 60 (QjE s Γ cst) (Qbx s)
noncomputable abbrev Dn (s : Stmt) (g : DS) : Den := Qp (namesOf (Qx s)).length g
noncomputable abbrev Gc (x : Str) (n : Nat) (d : Den) (Γ : List (Str × FnR)) : List (Str × FnR) := (x, ⟨n, [], d⟩) :: Γ
abbrev Qb0 := top 5
theorem Qkm : Sc Qb0 ["net", "rows"] := scM rfl rfl rfl (by decide +kernel)
theorem Qkz : QB "need_rows" Qb0 ["net", "rows"] := λ | _, _, _, _, _, _, [_, _], _ => rfl
def Qge := (Cp Qb0 []).getD QF
theorem QkC : Cp Qb0 [] = some Qge := some_of (by decide +kernel)
abbrev QbZ := Dn Qb0 Qge
abbrev Qei := Gc "need_rows" 2 QbZ []
abbrev Qdb := top 7
theorem Qnf : Sc Qdb ["table", "at"] := scM rfl rfl rfl (by decide +kernel)
theorem Qov : QB "column" Qdb ["table", "at"] := λ | _, _, _, _, _, _, [_, _], _ => rfl
def QjQ := (Cp Qdb Qei).getD QF
theorem QnM : Cp Qdb Qei = some QjQ := some_of (by decide +kernel)
abbrev QbE := Dn Qdb QjQ
abbrev QgB := Gc "column" 2 QbE Qei
abbrev Qc9 := top 8
theorem Qny : Sc Qc9 ["table"] := scM rfl rfl rfl (by decide +kernel)
theorem Qpg : QB "turned" Qc9 ["table"] := λ | _, _, _, _, _, _, [_], _ => rfl
def QjV := (Cp Qc9 QgB).getD QF
theorem QoQ : Cp Qc9 QgB = some QjV := some_of (by decide +kernel)
abbrev QbB := Dn Qc9 QjV
abbrev QgR := Gc "turned" 1 QbB QgB
abbrev Qcr := top 9
theorem QkV : Sc Qcr ["size", "at"] := scM rfl rfl rfl (by decide +kernel)
theorem QlG : QB "unit_row" Qcr ["size", "at"] := λ | _, _, _, _, _, _, [_, _], _ => rfl
def Qhr := (Cp Qcr QgR).getD QF
theorem Ql5 : Cp Qcr QgR = some Qhr := some_of (by decide +kernel)
abbrev Qcq := Dn Qcr Qhr
abbrev Qe3 := Gc "unit_row" 2 Qcq QgR
abbrev Qcp := top 10
theorem QkO : Sc Qcp ["line"] := scM rfl rfl rfl (by decide +kernel)
theorem Qmd : QB "opposite" Qcp ["line"] := λ | _, _, _, _, _, _, [_], _ => rfl
def Qha := (Cp Qcp Qe3).getD QF
theorem QlJ : Cp Qcp Qe3 = some Qha := some_of (by decide +kernel)
abbrev QaM := Dn Qcp Qha
abbrev Qfc := Gc "opposite" 1 QaM Qe3
abbrev Qc4 := top 11
theorem Qnr : Sc Qc4 ["numbers"] := scM rfl rfl rfl (by decide +kernel)
theorem Qpd : QB "common" Qc4 ["numbers"] := λ | _, _, _, _, _, _, [_], _ => rfl
def Qjm := (Cp Qc4 Qfc).getD QF
theorem Qn6 : Cp Qc4 Qfc = some Qjm := some_of (by decide +kernel)
abbrev Qc5 := Dn Qc4 Qjm
abbrev QgU := Gc "common" 1 Qc5 Qfc
abbrev Qbm := top 13
theorem QiA : Sc Qbm ["lines", "at"] := scM rfl rfl rfl (by decide +kernel)
theorem Qjl : QB "with_pivot" Qbm ["lines", "at"] := λ | _, _, _, _, _, _, [_, _], _ => rfl
def Qfg := (Cp Qbm QgU).getD QF
theorem Qi0 : Cp Qbm QgU = some Qfg := some_of (by decide +kernel)
abbrev Qbo := Dn Qbm Qfg
abbrev QdW := Gc "with_pivot" 2 Qbo QgU
abbrev QbT := top 14
theorem QjM : Sc QbT ["line", "pivot_line", "at", "before"] := scM rfl rfl rfl (by decide +kernel)
theorem QkE : QB "taken_off" QbT ["line", "pivot_line", "at", "before"] := λ | _, _, _, _, _, _, [_, _, _, _], _ => rfl
def Qgh := (Cp QbT QdW).getD QF
theorem Qkw : Cp QbT QdW = some Qgh := some_of (by decide +kernel)
abbrev QbR := Dn QbT Qgh
abbrev Qen := Gc "taken_off" 4 QbR QdW
abbrev QcR := top 12
theorem Qmf : Sc QcR ["lines"] := scM rfl rfl rfl (by decide +kernel)
theorem Qni : QB "cleared" QcR ["lines"] := λ | _, _, _, _, _, _, [_], _ => rfl
def Qie := (Cp QcR Qen).getD QF
theorem Qnz : Cp QcR Qen = some Qie := some_of (by decide +kernel)
abbrev QcO := Dn QcR Qie
abbrev Qfi := Gc "cleared" 1 QcO Qen
abbrev QaF := top 15
theorem QgF : Sc QaF ["lines"] := scM rfl rfl rfl (by decide +kernel)
theorem Qho : QB "cleared_whole" QaF ["lines"] := λ | _, _, _, _, _, _, [_], _ => rfl
def Qeb := (Cp QaF Qfi).getD QF
theorem Qg0 : Cp QaF Qfi = some Qeb := some_of (by decide +kernel)
abbrev QaG := Dn QaF Qeb
abbrev QcU := Gc "cleared_whole" 1 QaG Qfi
abbrev Qbv := top 16
theorem QiL : Sc Qbv ["table", "row"] := scM rfl rfl rfl (by decide +kernel)
theorem QjY : QB "shared_out" Qbv ["table", "row"] := λ | _, _, _, _, _, _, [_, _], _ => rfl
def Qfl := (Cp Qbv QcU).getD QF
theorem QiX : Cp Qbv QcU = some Qfl := some_of (by decide +kernel)
abbrev QaW := Dn Qbv Qfl
abbrev QdK := Gc "shared_out" 2 QaW QcU
abbrev QdC := top 18
theorem Qo5 : Sc QdC ["roads", "lanes"] := scM rfl rfl rfl (by decide +kernel)
theorem QpK : QB "steps" QdC ["roads", "lanes"] := λ | _, _, _, _, _, _, [_, _], _ => rfl
def Qlb := (Cp QdC QdK).getD QF
theorem QpR : Cp QdC QdK = some Qlb := some_of (by decide +kernel)
abbrev QcN := Dn QdC Qlb
abbrev QhZ := Gc "steps" 2 QcN QdK
abbrev Qbn := top 19
theorem QiD : Sc Qbn ["net"] := scM rfl rfl rfl (by decide +kernel)
theorem Qko : QB "toll_table" Qbn ["net"] := λ | _, _, _, _, _, _, [_], _ => rfl
def Qfj := (Cp Qbn QhZ).getD QF
theorem Qi9 : Cp Qbn QhZ = some Qfj := some_of (by decide +kernel)
abbrev Qbl := Dn Qbn Qfj
abbrev QdY := Gc "toll_table" 1 Qbl QhZ
abbrev QbO := top 21
theorem Qj7 : Sc QbO ["net"] := scM rfl rfl rfl (by decide +kernel)
theorem QkQ : QB "net_table" QbO ["net"] := λ | _, _, _, _, _, _, [_], _ => rfl
def Qgi := (Cp QbO QdY).getD QF
theorem QkS : Cp QbO QdY = some Qgi := some_of (by decide +kernel)
abbrev Qb2 := Dn QbO Qgi
abbrev Qel := Gc "net_table" 1 Qb2 QdY
abbrev Qbw := top 22
theorem QiB : Sc Qbw ["net", "one", "other"] := scM rfl rfl rfl (by decide +kernel)
theorem Qi4 : QB "told_alike" Qbw ["net", "one", "other"] := λ | _, _, _, _, _, _, [_, _, _], _ => rfl
def Qfp := (Cp Qbw Qel).getD QF
theorem Qj5 : Cp Qbw Qel = some Qfp := some_of (by decide +kernel)
abbrev Qak := Dn Qbw Qfp
abbrev QdH := Gc "told_alike" 3 Qak Qel
abbrev Qbj := top 24
theorem QiC : Sc Qbj ["_law_script", "_law_many"] := scM rfl rfl rfl (by decide +kernel)
theorem Qi3 : QB "_law_cells" Qbj ["_law_script", "_law_many"] := λ | _, _, _, _, _, _, [_, _], _ => rfl
def QfF := (Cp Qbj QdH).getD QF
theorem QjJ : Cp Qbj QdH = some QfF := some_of (by decide +kernel)
abbrev Qbp := Dn Qbj QfF
abbrev QdM := Gc "_law_cells" 2 Qbp QdH
abbrev Qbi := top 25
theorem QiH : Sc Qbi ["_law_found"] := scM rfl rfl rfl (by decide +kernel)
theorem Qkl : QB "_law_whole" Qbi ["_law_found"] := λ | _, _, _, _, _, _, [_], _ => rfl
def QfD := (Cp Qbi QdM).getD QF
theorem QjD : Cp Qbi QdM = some QfD := some_of (by decide +kernel)
abbrev Qap := Dn Qbi QfD
abbrev QdT := Gc "_law_whole" 1 Qap QdM
abbrev QaR := top 26
theorem Qhn : Sc QaR ["_law_found", "_law_size"] := scM rfl rfl rfl (by decide +kernel)
theorem Qid : QB "_law_numbers" QaR ["_law_found", "_law_size"] := λ | _, _, _, _, _, _, [_, _], _ => rfl
def Qez := (Cp QaR QdT).getD QF
theorem QhM : Cp QaR QdT = some Qez := some_of (by decide +kernel)
abbrev QaP := Dn QaR Qez
abbrev Qib := Gc "_law_numbers" 2 QaP QdT
abbrev QC := top 27
theorem Qa8 : Sc QC ["_law_table"] := scM rfl rfl rfl (by decide +kernel)
theorem QaO : QB "_law_measure" QC ["_law_table"] := λ | _, _, _, _, _, _, [_], _ => rfl
abbrev QdP : Den := λ _ => none
abbrev QcK := Gc "_law_measure" 1 QdP Qib
def Qd1 := (Cp QC QcK).getD QF
theorem Qgs : Cp QC QcK = some Qd1 := some_of (by decide +kernel)
abbrev QbF := Dn QC Qd1
abbrev QcH := Gc "_law_measure" 1 QbF QcK
def QdJ := (Cp QC QcH).getD QF
theorem QgP : Cp QC QcH = some QdJ := some_of (by decide +kernel)
abbrev QbA := Dn QC QdJ
abbrev QcI := Gc "_law_measure" 1 QbA QcH
def QdI := (Cp QC QcI).getD QF
theorem QgE : Cp QC QcI = some QdI := some_of (by decide +kernel)
abbrev QbD := Dn QC QdI
abbrev QcF := Gc "_law_measure" 1 QbD QcI
def Qd0 := (Cp QC QcF).getD QF
theorem QgK : Cp QC QcF = some Qd0 := some_of (by decide +kernel)
abbrev QbH := Dn QC Qd0
abbrev QcL := Gc "_law_measure" 1 QbH QcF
def QdL := (Cp QC QcL).getD QF
theorem QgQ : Cp QC QcL = some QdL := some_of (by decide +kernel)
abbrev QbG := Dn QC QdL
abbrev QcG := Gc "_law_measure" 1 QbG QcL
abbrev QaS := QbG
abbrev QbY := top 28
theorem Qjp : Sc QbY ["_law_cells_here", "_law_many", "_law_kind"] := scM rfl rfl rfl (by decide +kernel)
theorem QkG : QB "_law_base" QbY ["_law_cells_here", "_law_many", "_law_kind"] := λ | _, _, _, _, _, _, [_, _, _], _ => rfl
def Qgk := (Cp QbY QcG).getD QF
theorem QkX : Cp QbY QcG = some Qgk := some_of (by decide +kernel)
abbrev QbN := Dn QbY Qgk
abbrev Qej := Gc "_law_base" 3 QbN QcG
abbrev Qb1 := top 29
theorem Qkb : Sc Qb1 ["_law_many", "_law_ways", "_law_room"] := scM rfl rfl rfl (by decide +kernel)
theorem QkT : QB "_law_fits" Qb1 ["_law_many", "_law_ways", "_law_room"] := λ | _, _, _, _, _, _, [_, _, _], _ => rfl
def Qgl := (Cp Qb1 Qej).getD QF
theorem QkA : Cp Qb1 Qej = some Qgl := some_of (by decide +kernel)
abbrev QbU := Dn Qb1 Qgl
abbrev Qeh := Gc "_law_fits" 3 QbU Qej
abbrev QbQ := top 30
theorem Qj8 : Sc QbQ ["_law_ways", "_law_cells_here", "_law_many", "_law_kind", "_law_room"] := scM rfl rfl rfl (by decide +kernel)
theorem QkN : QB "_law_more" QbQ ["_law_ways", "_law_cells_here", "_law_many", "_law_kind", "_law_room"] := λ | _, _, _, _, _, _, [_, _, _, _, _], _ => rfl
def Qgj := (Cp QbQ Qeh).getD QF
theorem QkZ : Cp QbQ Qeh = some Qgj := some_of (by decide +kernel)
abbrev QbW := Dn QbQ Qgj
abbrev Qep := Gc "_law_more" 5 QbW Qeh
abbrev Qcm := top 31
theorem QkR : Sc Qcm ["_law_cells_here"] := scM rfl rfl rfl (by decide +kernel)
theorem QlN : QB "_law_net" Qcm ["_law_cells_here"] := λ | _, _, _, _, _, _, [_], _ => rfl
def Qg4 := (Cp Qcm Qep).getD QF
theorem Ql2 : Cp Qcm Qep = some Qg4 := some_of (by decide +kernel)
abbrev Qcw := Dn Qcm Qg4
abbrev QeO := Gc "_law_net" 1 Qcw Qep
abbrev Qbu := top 32
theorem Qiz : Sc Qbu ["_law_net_here"] := scM rfl rfl rfl (by decide +kernel)
theorem Qj0 : QB "_law_tolls" Qbu ["_law_net_here"] := λ | _, _, _, _, _, _, [_], _ => rfl
def Qfz := (Cp Qbu QeO).getD QF
theorem Qi1 : Cp Qbu QeO = some Qfz := some_of (by decide +kernel)
abbrev Qbq := Dn Qbu Qfz
abbrev QdX := Gc "_law_tolls" 1 Qbq QeO
abbrev QbM := top 33
theorem Qjh : Sc QbM ["_law_net_here"] := scM rfl rfl rfl (by decide +kernel)
theorem QkD : QB "_law_copy" QbM ["_law_net_here"] := λ | _, _, _, _, _, _, [_], _ => rfl
def Qgm := (Cp QbM QdX).getD QF
theorem QkU : Cp QbM QdX = some Qgm := some_of (by decide +kernel)
abbrev QbP := Dn QbM Qgm
abbrev Qeu := Gc "_law_copy" 1 QbP QdX
abbrev Qa5 := top 34
theorem Qia : Sc Qa5 ["_law_tolls_here", "_law_row_here", "_law_counts"] := scM rfl rfl rfl (by decide +kernel)
theorem QiE : QB "_law_behind" Qa5 ["_law_tolls_here", "_law_row_here", "_law_counts"] := λ | _, _, _, _, _, _, [_, _, _], _ => rfl
def Qfe := (Cp Qa5 Qeu).getD QF
theorem QiM : Cp Qa5 Qeu = some Qfe := some_of (by decide +kernel)
abbrev Q9 := Dn Qa5 Qfe
abbrev Qdt := Gc "_law_behind" 3 Q9 Qeu
abbrev Qcu := top 35
theorem Qku : Sc Qcu ["_law_cells_here", "_law_start", "_law_many", "_law_far"] := scM rfl rfl rfl (by decide +kernel)
theorem QlI : QB "_law_row" Qcu ["_law_cells_here", "_law_start", "_law_many", "_law_far"] := λ | _, _, _, _, _, _, [_, _, _, _], _ => rfl
def Qht := (Cp Qcu Qdt).getD QF
theorem QlH : Cp Qcu Qdt = some Qht := some_of (by decide +kernel)
abbrev Qaf := Dn Qcu Qht
abbrev Qe7 := Gc "_law_row" 4 Qaf Qdt
abbrev Qa3 := top 36
theorem QhI : Sc Qa3 ["_law_cells_here", "_law_tolls_here", "_law_one"] := scM rfl rfl rfl (by decide +kernel)
theorem QiF : QB "_law_beside" Qa3 ["_law_cells_here", "_law_tolls_here", "_law_one"] := λ | _, _, _, _, _, _, [_, _, _], _ => rfl
def Qff := (Cp Qa3 Qe7).getD QF
theorem QiJ : Cp Qa3 Qe7 = some Qff := some_of (by decide +kernel)
abbrev Qa2 := Dn Qa3 Qff
abbrev Qdp := Gc "_law_beside" 3 Qa2 Qe7
abbrev Qb3 := top 37
theorem Qka : Sc Qb3 ["_law_found", "_law_tolls_here", "_law_one", "_law_other"] := scM rfl rfl rfl (by decide +kernel)
theorem QkL : QB "_law_good" Qb3 ["_law_found", "_law_tolls_here", "_law_one", "_law_other"] := λ | _, _, _, _, _, _, [_, _, _, _], _ => rfl
def Qgn := (Cp Qb3 Qdp).getD QF
theorem QkJ : Cp Qb3 Qdp = some Qgn := some_of (by decide +kernel)
abbrev QaD := Dn Qb3 Qgn
abbrev Qgp := Gc "_law_good" 4 QaD Qdp
abbrev Qf8 := top 38
theorem QrB : Sc Qf8 ["_law_script"] := scM rfl rfl rfl (by decide +kernel)
theorem Qto : QB "law" Qf8 ["_law_script"] := λ | _, _, _, _, _, _, [_], _ => rfl
def Qps := (Cp Qf8 Qgp).getD QF
theorem QsI : Cp Qf8 Qgp = some Qps := some_of (by decide +kernel)
abbrev QlW := Dn Qf8 Qps
theorem QkI : QbZ = Qp 3 (HS.Qet) := by kernel_rfl
theorem QoY : QbE = Qp 2 (HS.Qjs) := by kernel_rfl
theorem Qo8 : QbB = Qp 1 (HS.Qjj QbE) := by kernel_rfl
theorem Qlz : Qcq = Qp 2 (HS.Qhs) := by kernel_rfl
theorem Qlv : QaM = Qp 1 (HS.Qhe) := by kernel_rfl
theorem Qn3 : Qc5 = Qp 5 (HS.QeQ) := by kernel_rfl
theorem QjN : Qbo = Qp 4 (HS.QfB QaM) := by kernel_rfl
theorem QkP : QbR = Qp 4 (HS.Qgd) := by kernel_rfl
theorem Qng : QcO = Qp 5 (HS.Qec Qbo QbR) := by kernel_rfl
theorem Qg6 : QaG = Qp 2 (HS.Qea QcO) := by kernel_rfl
theorem Qj2 : QaW = Qp 6 (HS.Qfo QbB QaG QbE Qc5) := by kernel_rfl
theorem Qp8 : QcN = Qp 4 (HS.QhU) := by kernel_rfl
theorem QjF : Qbl = Qp 5 (HS.QdO QcN) := by kernel_rfl
theorem QkK : Qb2 = Qp 1 (HS.Qgc QaM Qbl) := by kernel_rfl
theorem Qjr : Qak = Qp 7 (HS.QdR QbZ Qb2 QaW QbB Qcq) := by kernel_rfl
theorem QjB : Qbp = Qp 9 (HS.QdQ) := by kernel_rfl
theorem QjX : Qap = Qp 1 (HS.QfC) := by kernel_rfl
theorem Qh3 : QaP = Qp 2 (HS.Qd3 Qap) := by kernel_rfl
theorem QgC : QbF = Qp 4 (HS.QaT QdP) := by kernel_rfl
theorem Qgy : QbA = Qp 4 (HS.QaT QbF) := by kernel_rfl
theorem QgJ : QbD = Qp 4 (HS.QaT QbA) := by kernel_rfl
theorem QgH : QbH = Qp 4 (HS.QaT QbD) := by kernel_rfl
theorem QgM : QbG = Qp 4 (HS.QaT QbH) := by kernel_rfl
theorem Qky : QbN = Qp 12 (HS.Qdq) := by kernel_rfl
theorem QkM : QbU = Qp 9 (HS.Qdv) := by kernel_rfl
theorem QkH : QbW = Qp 12 (HS.Qds QbU) := by kernel_rfl
theorem QlZ : Qcw = Qp 6 (HS.Qc8 QbN QbW) := by kernel_rfl
theorem Qi5 : Qbq = Qp 6 (HS.QeM) := by kernel_rfl
theorem QkY : QbP = Qp 1 (HS.Qd7) := by kernel_rfl
theorem QiK : Q9 = Qp 5 (HS.Qbf) := by kernel_rfl
theorem QlC : Qaf = Qp 4 (HS.QeL) := by kernel_rfl
theorem QiG : Qa2 = Qp 8 (HS.Qdr Qaf Q9 QaS) := by kernel_rfl
theorem Qkt : QaD = Qp 6 (HS.Qd6 QaP Q9 Qap) := by kernel_rfl
theorem Qs0 : QlW = Qp 11 (HS.Qio Qbp Qcw Qbq Qaf Qa2 QbP Qak QaD) := by kernel_rfl
end
end Law
namespace HS
open PySem PySem.Spec L2
noncomputable def QoC (mg : Str -> Option Value) : List Str -> Prop
 | [] => True
 | x :: r => mg x = none /\ QoC mg r
theorem Qjf {mg : Str -> Option Value} : ∀ {l : List Str}, QoC mg l -> ∀ x ∈ l, mg x = none
 | [], _, x, h => by simp at h
 | y :: r, h, x, hx => by
  rcases Zw.mp hx with rfl | hx
  ·exact h.1
  ·exact Qjf h.2 x hx
noncomputable def Qo2 (mg : Str -> Option Value) : List (Str × Int) -> Prop
 | [] => True
 | (x, i) :: r => (∃ t, mg x = some (.int i t)) /\ Qo2 mg r
theorem Qjw {mg : Str -> Option Value} : ∀ {l : List (Str × Int)}, Qo2 mg l -> ∀ x i, look x l = some i -> ∃ t, mg x = some (.int i t)
 | [], _, x, i, h => by cases h
 | (y, j) :: r, h, x, i, hx => by
  unfold look at hx
  split at hx
  ·rename_i e; cases hx; subst e; exact h.1
  ·exact Qjw h.2 x i hx
theorem QrE {mg : Str -> Option Value} {cs : List (Str × Int)} (b : QoC mg Qjg) (c : Qo2 mg cs) : QfV mg cs := ⟨Qjf b, Qjw c⟩
end HS
namespace Law
open HS
theorem QsS : Qjy Qbl := by rw [QjF, Qp8]; exact QqE
theorem Qtk : QjH QbZ := by rw [QkI]; exact Qp0
theorem Quj : Qmh QaM := by rw [Qlv]; exact Qse
theorem QpG : QgW Qb2 := by rw [QkK]; exact QmN Quj QsS
theorem Qk3 : QeZ QbE := by rw [QoY]; exact QmU
theorem Qlq : Qe2 QbB := by rw [Qo8]; exact Qnj Qk3
theorem Qqq : QgO Qc5 := by rw [Qn3]; exact QnA
theorem QrX : QhF Qbo := by rw [QjN]; exact QoX
theorem QrV : QhQ QbR := by rw [QkP]; exact Qoa
theorem QnZ : Qfv QcO := by rw [Qng]; exact QlY QrX QrV
theorem Qnu : QeS QaG := by rw [Qg6]; exact QkB QnZ
theorem Qp4 : QgX QaW := by rw [Qj2]; exact Qmx Qlq Qnu Qk3 Qqq
theorem Qmt : Qf2 Qap := by rw [QjX]; exact Qof
theorem QtI : Qi2 QaP := by rw [Qh3]; exact QpM Qmt
theorem Qr7 : TabsOk Qbq := by rw [Qi5]; exact QqP
theorem Qs1 : QhJ QbP := by rw [QkY]; exact Qn4
theorem Qsk : CellsOk Qbp := by rw [QjB]; exact QnI
theorem Qte : QhX QbN := by rw [Qky]; exact Qoh
theorem Qs2 : QhK QbU := by rw [QkM]; exact Qo4
theorem Qs3 : Qh5 QbW := by rw [QkH]; exact QnV Qs2
theorem Qle : QdA Q9 := by rw [QiK]; exact QkF
theorem hM1 : QcA 1 QbF := by rw [QgC]; exact Qdj Qq6
theorem hM2 : QcA 2 QbA := by rw [Qgy]; exact Qdj hM1
theorem hM3 : QcA 3 QbD := by rw [QgJ]; exact Qdj hM2
theorem hM4 : QcA 4 QbH := by rw [QgH]; exact Qdj hM3
theorem hM5 : QcA 5 QbG := by rw [QgM]; exact Qdj hM4
theorem Qtr : QcA 5 QaS := hM5
theorem Qs7 : Qkf Qcq := by rw [Qlz]; exact QqG
theorem QrL : QhL Qak := by rw [Qjr]; exact Qpi Qtk QpG Qp4 Qlq Qs7
theorem QtN : QhG Qcw := by rw [QlZ]; exact QoL Qte Qs3
theorem QrS : QfJ Qaf := by rw [QlC]; exact Qn7
theorem QqI : Qgw Qa2 := by rw [QiG]; exact QnB QrS Qle Qtr
theorem Qs5 : Qgv QaD := by rw [Qkt]; exact Qns QtI Qle Qmt
theorem Qrp (ns : List Int) (h : ns.length <= 63) : ∃ fr, QlW [.lst (ns.map .int)] = some (.bl true, fr) := by
 rw [Qs0]
 exact ⟨true, Qsa Qsk QtN Qr7 QrS QqI Qs1 QrL Qs5 ns h⟩
end Law
namespace PySem.W.Fast
def tw9809256919151939721 := 0
def tw11853563774666392740 := 0
def tw5403557137775568585 := 0
def tw8401676776524832636 := 0
def tw7925681607288731658 := 0
def tw428596467598674366 := 0
def tw8294924277201198653 := 0
def tw6693353249482932971 := 0
def tw11337727478956593388 := 0
def tw6543247909503912095 := 0
def tw14994798773140124342 := 0
def tw14065319169516150302 := 0
def tw6623400544727164148 := 0
def tw15572948259551652212 := 0
def tw3150465026635300914 := 0
def tw3282284619152845396 := 0
def tw16154509280133873439 := 0
def tw187180941907980848 := 0
def tw17472332685862523909 := 0
def tw7974209165179628590 := 0
def tw551723727344108539 := 0
def tw1475374071904676415 := 0
def tw3840942854098149964 := 0
def tw15853980507804602115 := 0
def tw6436363086722874523 := 0
def tw4328922157374385123 := 0
def tw13530219050751088214 := 0
def tw2443954547932852560 := 0
def tw3108070710830122208 := 0
def tw3409274016937237575 := 0
def tw16991781589543885870 := 0
def tw11371391878566880511 := 0
def tw673209616732603164 := 0
def tw4903132716169194713 := 0
def tw1085482514751032000 := 0
def tw11629234945118593787 := 0
def tw3594900150198296002 := 0
def tw10949270672012740255 := 0
def tw7316736334979446116 := 0
def tw755045322895490419 := 0
def tw5079319013705431149 := 0
def tw5434814572954109704 := 0
def tw8765422592110923866 := 0
def tw8738461217873608886 := 0
def tw14397227061914253418 := 0
def tw10199769885018447950 := 0
def tw11284609870836745798 := 0
def tw1139623113726308253 := 0
def tw18129945171675957297 := 0
def tw2202228691915820471 := 0
def tw6580443737118451634 := 0
def tw4899247056011002636 := 0
def tw898925337271558132 := 0
def tw12776017257734668256 := 0
def tw16675942234510889436 := 0
def tw7645402134545073344 := 0
def tw14266679896456125549 := 0
def tw14064003814791858650 := 0
def tw1545915117062213049 := 0
def tw6876467536450191109 := 0
def tw9358606369143235425 := 0
def tw3403632603717694676 := 0
def tw4439346776840479701 := 0
def tw15280644079581579428 := 0
def tw2961887116138820170 := 0
def tw4754014477708334133 := 0
def tw10017894686252667210 := 0
def tw5182581474716709406 := 0
def tw5679539220566988543 := 0
def tw5202528461703603866 := 0
def tw4625361279858649921 := 0
def tw11465975330201898134 := 0
def tw17342832238431221907 := 0
def tw5848647595519770562 := 0
def tw13192801239827448843 := 0
def tw14403267786942034589 := 0
def tw14732719963454794206 := 0
def tw6514030291143691837 := 0
def tw14714203482374326016 := 0
def tw15908826657240253720 := 0
def tw17636468078588820849 := 0
def tw5987199489730844020 := 0
def tw10013747216435708508 := 0
def tw1005868786699797429 := 0
def tw11017689088931801585 := 0
def tw15902454908139805079 := 0
def tw3738168377088451421 := 0
def tw2532976475822965594 := 0
end PySem.W.Fast
open PySem PySem.W PyProof.Rows HS
set_option maxRecDepth 100000 in
set_option maxHeartbeats 0 in
theorem PySem.Challenge.cw_heapstill_k42_whole_alike_or_parted_holds : PySem.Challenge.rw_heapstill_k42_whole_alike_or_parted.Holds := by
 w_on; o_law; k_head; (case hw => w_witness2)
 k_fill
 refine HS.Qpe (l := PySem.Challenge.rw_heapstill_k42_whole_alike_or_parted) (k := 35) (x := "_law_script") (den := Law.QlW) rfl rfl ⟨rfl, by decide, by decide⟩ (λ w h Y => PySem.W.kIn_of Y) Law.Qrp ?F
 case F =>
  intro w mg fa h KX G hmg
  obtain ⟨f_need_rows, f_column, f_turned, f_unit_row, f_opposite, f_common, f_with_pivot, f_taken_off, f_cleared, f_cleared_whole, f_shared_out, f_steps, f_toll_table, f_net_table, f_told_alike, f__law_cells, f__law_whole, f__law_numbers, f__law_measure, f__law_base, f__law_fits, f__law_more, f__law_net, f__law_tolls, f__law_copy, f__law_behind, f__law_row, f__law_beside, f__law_good, f_law⟩ : HS.Fact (L2.KOf KX) "need_rows" Law.Qb0 /\ HS.Fact (L2.KOf KX) "column" Law.Qdb /\ HS.Fact (L2.KOf KX) "turned" Law.Qc9 /\ HS.Fact (L2.KOf KX) "unit_row" Law.Qcr /\ HS.Fact (L2.KOf KX) "opposite" Law.Qcp /\ HS.Fact (L2.KOf KX) "common" Law.Qc4 /\ HS.Fact (L2.KOf KX) "with_pivot" Law.Qbm /\ HS.Fact (L2.KOf KX) "taken_off" Law.QbT /\ HS.Fact (L2.KOf KX) "cleared" Law.QcR /\ HS.Fact (L2.KOf KX) "cleared_whole" Law.QaF /\ HS.Fact (L2.KOf KX) "shared_out" Law.Qbv /\ HS.Fact (L2.KOf KX) "steps" Law.QdC /\ HS.Fact (L2.KOf KX) "toll_table" Law.Qbn /\ HS.Fact (L2.KOf KX) "net_table" Law.QbO /\ HS.Fact (L2.KOf KX) "told_alike" Law.Qbw /\ HS.Fact (L2.KOf KX) "_law_cells" Law.Qbj /\ HS.Fact (L2.KOf KX) "_law_whole" Law.Qbi /\ HS.Fact (L2.KOf KX) "_law_numbers" Law.QaR /\ HS.Fact (L2.KOf KX) "_law_measure" Law.QC /\ HS.Fact (L2.KOf KX) "_law_base" Law.QbY /\ HS.Fact (L2.KOf KX) "_law_fits" Law.Qb1 /\ HS.Fact (L2.KOf KX) "_law_more" Law.QbQ /\ HS.Fact (L2.KOf KX) "_law_net" Law.Qcm /\ HS.Fact (L2.KOf KX) "_law_tolls" Law.Qbu /\ HS.Fact (L2.KOf KX) "_law_copy" Law.QbM /\ HS.Fact (L2.KOf KX) "_law_behind" Law.Qa5 /\ HS.Fact (L2.KOf KX) "_law_row" Law.Qcu /\ HS.Fact (L2.KOf KX) "_law_beside" Law.Qa3 /\ HS.Fact (L2.KOf KX) "_law_good" Law.Qb3 /\ HS.Fact (L2.KOf KX) "law" Law.Qf8 := by
   refine ⟨?_, ?_, ?_, ?_, ?_, ?_, ?_, ?_, ?_, ?_, ?_, ?_, ?_, ?_, ?_, ?_, ?_, ?_, ?_, ?_, ?_, ?_, ?_, ?_, ?_, ?_, ?_, ?_, ?_, ?_⟩ <;> (dsimp only [L2.KOf]; refine' HS.fact_mk ?a ?l ?c ?k; (case a => k_is); (case l => k_is); (case c => k_is); (case k => k_is))
  have M : HS.QfV mg Law.cst := by
   obtain ⟨n_range, n_enumerate, n_zip, n_len, n_list, n_min, n_max, n_sum, n_abs, n_isinstance, n_int, n_bool, n_tuple, n_str, n_divmod, n_sorted, n_any, n_all⟩ : PySem.W.nsIn (L2.KOf KX) mainGlobals "range" = some none /\ PySem.W.nsIn (L2.KOf KX) mainGlobals "enumerate" = some none /\ PySem.W.nsIn (L2.KOf KX) mainGlobals "zip" = some none /\ PySem.W.nsIn (L2.KOf KX) mainGlobals "len" = some none /\ PySem.W.nsIn (L2.KOf KX) mainGlobals "list" = some none /\ PySem.W.nsIn (L2.KOf KX) mainGlobals "min" = some none /\ PySem.W.nsIn (L2.KOf KX) mainGlobals "max" = some none /\ PySem.W.nsIn (L2.KOf KX) mainGlobals "sum" = some none /\ PySem.W.nsIn (L2.KOf KX) mainGlobals "abs" = some none /\ PySem.W.nsIn (L2.KOf KX) mainGlobals "isinstance" = some none /\ PySem.W.nsIn (L2.KOf KX) mainGlobals "int" = some none /\ PySem.W.nsIn (L2.KOf KX) mainGlobals "bool" = some none /\ PySem.W.nsIn (L2.KOf KX) mainGlobals "tuple" = some none /\ PySem.W.nsIn (L2.KOf KX) mainGlobals "str" = some none /\ PySem.W.nsIn (L2.KOf KX) mainGlobals "divmod" = some none /\ PySem.W.nsIn (L2.KOf KX) mainGlobals "sorted" = some none /\ PySem.W.nsIn (L2.KOf KX) mainGlobals "any" = some none /\ PySem.W.nsIn (L2.KOf KX) mainGlobals "all" = some none := by refine ⟨?_, ?_, ?_, ?_, ?_, ?_, ?_, ?_, ?_, ?_, ?_, ?_, ?_, ?_, ?_, ?_, ?_, ?_⟩ <;> (dsimp only [L2.KOf]; k_is)
   exact HS.QrE ⟨PySem.W.mg_none_of KX G n_range, PySem.W.mg_none_of KX G n_enumerate, PySem.W.mg_none_of KX G n_zip, PySem.W.mg_none_of KX G n_len, PySem.W.mg_none_of KX G n_list, PySem.W.mg_none_of KX G n_min, PySem.W.mg_none_of KX G n_max, PySem.W.mg_none_of KX G n_sum, PySem.W.mg_none_of KX G n_abs, PySem.W.mg_none_of KX G n_isinstance, PySem.W.mg_none_of KX G n_int, PySem.W.mg_none_of KX G n_bool, PySem.W.mg_none_of KX G n_tuple, PySem.W.mg_none_of KX G n_str, PySem.W.mg_none_of KX G n_divmod, PySem.W.mg_none_of KX G n_sorted, PySem.W.mg_none_of KX G n_any, PySem.W.mg_none_of KX G n_all, True.intro⟩ True.intro
  have t0 : ∀ base : Heap, HS.QcX (PySem.Challenge.rw_heapstill_k42_whole_alike_or_parted).prog w (L2.KOf KX) mg base 0 [] := λ _ => HS.QcX.nil
  have t_need_rows := λ b => (t0 b).cons (HS.QA KX G f_need_rows Law.Qkm Law.Qkz M (t0 b) Law.QkC)
  have t_column := λ b => (t_need_rows b).cons (HS.QA KX G f_column Law.Qnf Law.Qov M (t_need_rows b) Law.QnM)
  have t_turned := λ b => (t_column b).cons (HS.QA KX G f_turned Law.Qny Law.Qpg M (t_column b) Law.QoQ)
  have t_unit_row := λ b => (t_turned b).cons (HS.QA KX G f_unit_row Law.QkV Law.QlG M (t_turned b) Law.Ql5)
  have t_opposite := λ b => (t_unit_row b).cons (HS.QA KX G f_opposite Law.QkO Law.Qmd M (t_unit_row b) Law.QlJ)
  have t_common := λ b => (t_opposite b).cons (HS.QA KX G f_common Law.Qnr Law.Qpd M (t_opposite b) Law.Qn6)
  have t_with_pivot := λ b => (t_common b).cons (HS.QA KX G f_with_pivot Law.QiA Law.Qjl M (t_common b) Law.Qi0)
  have t_taken_off := λ b => (t_with_pivot b).cons (HS.QA KX G f_taken_off Law.QjM Law.QkE M (t_with_pivot b) Law.Qkw)
  have t_cleared := λ b => (t_taken_off b).cons (HS.QA KX G f_cleared Law.Qmf Law.Qni M (t_taken_off b) Law.Qnz)
  have t_cleared_whole := λ b => (t_cleared b).cons (HS.QA KX G f_cleared_whole Law.QgF Law.Qho M (t_cleared b) Law.Qg0)
  have t_shared_out := λ b => (t_cleared_whole b).cons (HS.QA KX G f_shared_out Law.QiL Law.QjY M (t_cleared_whole b) Law.QiX)
  have t_steps := λ b => (t_shared_out b).cons (HS.QA KX G f_steps Law.Qo5 Law.QpK M (t_shared_out b) Law.QpR)
  have t_toll_table := λ b => (t_steps b).cons (HS.QA KX G f_toll_table Law.QiD Law.Qko M (t_steps b) Law.Qi9)
  have t_net_table := λ b => (t_toll_table b).cons (HS.QA KX G f_net_table Law.Qj7 Law.QkQ M (t_toll_table b) Law.QkS)
  have t_told_alike := λ b => (t_net_table b).cons (HS.QA KX G f_told_alike Law.QiB Law.Qi4 M (t_net_table b) Law.Qj5)
  have t__law_cells := λ b => (t_told_alike b).cons (HS.QA KX G f__law_cells Law.QiC Law.Qi3 M (t_told_alike b) Law.QjJ)
  have t__law_whole := λ b => (t__law_cells b).cons (HS.QA KX G f__law_whole Law.QiH Law.Qkl M (t__law_cells b) Law.QjD)
  have t__law_numbers := λ b => (t__law_whole b).cons (HS.QA KX G f__law_numbers Law.Qhn Law.Qid M (t__law_whole b) Law.QhM)
  have t__law_measure_0 := λ b => (t__law_numbers b).cons (HS.Qma KX G f__law_measure Law.QaO)
  have t__law_measure_1 := λ b => (t__law_measure_0 b).cons (HS.QA KX G f__law_measure Law.Qa8 Law.QaO M (t__law_measure_0 b) Law.Qgs)
  have t__law_measure_2 := λ b => (t__law_measure_1 b).cons (HS.QA KX G f__law_measure Law.Qa8 Law.QaO M (t__law_measure_1 b) Law.QgP)
  have t__law_measure_3 := λ b => (t__law_measure_2 b).cons (HS.QA KX G f__law_measure Law.Qa8 Law.QaO M (t__law_measure_2 b) Law.QgE)
  have t__law_measure_4 := λ b => (t__law_measure_3 b).cons (HS.QA KX G f__law_measure Law.Qa8 Law.QaO M (t__law_measure_3 b) Law.QgK)
  have t__law_measure_5 := λ b => (t__law_measure_4 b).cons (HS.QA KX G f__law_measure Law.Qa8 Law.QaO M (t__law_measure_4 b) Law.QgQ)
  have t__law_base := λ b => (t__law_measure_5 b).cons (HS.QA KX G f__law_base Law.Qjp Law.QkG M (t__law_measure_5 b) Law.QkX)
  have t__law_fits := λ b => (t__law_base b).cons (HS.QA KX G f__law_fits Law.Qkb Law.QkT M (t__law_base b) Law.QkA)
  have t__law_more := λ b => (t__law_fits b).cons (HS.QA KX G f__law_more Law.Qj8 Law.QkN M (t__law_fits b) Law.QkZ)
  have t__law_net := λ b => (t__law_more b).cons (HS.QA KX G f__law_net Law.QkR Law.QlN M (t__law_more b) Law.Ql2)
  have t__law_tolls := λ b => (t__law_net b).cons (HS.QA KX G f__law_tolls Law.Qiz Law.Qj0 M (t__law_net b) Law.Qi1)
  have t__law_copy := λ b => (t__law_tolls b).cons (HS.QA KX G f__law_copy Law.Qjh Law.QkD M (t__law_tolls b) Law.QkU)
  have t__law_behind := λ b => (t__law_copy b).cons (HS.QA KX G f__law_behind Law.Qia Law.QiE M (t__law_copy b) Law.QiM)
  have t__law_row := λ b => (t__law_behind b).cons (HS.QA KX G f__law_row Law.Qku Law.QlI M (t__law_behind b) Law.QlH)
  have t__law_beside := λ b => (t__law_row b).cons (HS.QA KX G f__law_beside Law.QhI Law.QiF M (t__law_row b) Law.QiJ)
  have t__law_good := λ b => (t__law_beside b).cons (HS.QA KX G f__law_good Law.Qka Law.QkL M (t__law_beside b) Law.QkJ)
  exact HS.Qty KX G hmg f_law Law.QrB Law.Qto M (λ base => t__law_good base) Law.QsI
