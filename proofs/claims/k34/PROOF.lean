import PyProof.Rows.All
import Wide.All
import OpenK.AllK
import Wide.FinOn
import Lean
import PyProof.EqAt
import PyProof.EqKinds
import PyProof.TupleCall
import PyProof.ZipIter
import PyProof.EnumMake
import PyProof.Rows.FactsT2
import PyProof.Rows.EnumRows
import PyProof.P3In
import PyProof.NeData
import KE.KUnpack
import PyProof.Rows.SumAny
import PyProof.Rows.MinMaxN
import PyProof.Rows.ListRangeD
import PyProof.Rows.Range3
import PyProof.Rows.RuleM_int
import PyProof.Rows.SortShell
import KE.KTryOn
import PyProof.ExcBaseAll.ValueError
import PyProof.RulesAs
import PyProof.ExcAttrAll.ValueError
import PyProof.Rows.RegTopCatchBFacts
import KE.RegKTryMore
import KE.RegKIsAll
import PySem.Challenge.RW_heapstill_k34_shared_out
set_option Elab.async false
set_option linter.all false
set_option maxRecDepth 100000
def Za := @Option.bind_some
def Zb := @Option.map_eq_some_iff
def Zc := @List.mem_append_right
def Zd := @List.mem_cons_of_mem
def Ze := @List.mem_append_left
def Zf := @List.getElem?_set_ne
def Zg := @Bool.and_eq_true
def Zh := @List.getElem?_eq_some_iff
def Zi := @List.mem_cons_self
def Zj := @List.getElem?_set_self
def Zk := @List.getElem?_map
def Zl := @Nat.lt_of_lt_of_le
def Zm := @List.lookup_cons
def Zn := @Nat.le_refl
def Zo := @PySem.Heap.lt_size
def Zp := @List.getElem?_eq_none
def Zq := @List.mem_cons
def Zr := @Nat.le_trans
def Zs := @PySem.Heap.get?_push_of_some
def Zt := @List.size_toArray
def Zu := @List.length_append
def Zv := @List.map_cons
def Zw := @List.length_map
def Zx := @List.getElem?_range
def Zy := @List.length_range
def Zz := @Nat.le_succ
def ZA := @List.map_congr_left
def ZC := @List.mem_range
def ZD := @List.mem_append
def ZE := @Bool.false_ne_true
def ZF := @PySem.Heap.get?_push_size
def ZG := @Nat.ne_of_lt
def ZH := @List.count_eq_zero
def ZI := @List.mem_singleton
def ZJ := @List.length_cons
def ZK := @Nat.zero_le
def ZL := @Nat.lt_irrefl
def ZM := @Int.emod_lt_of_pos
def ZN := @Option.map_some
def ZO := @Int.toNat_natCast
def ZP := @PySem.mem_of_lookup
def ZQ := @List.replicate_succ
def ZR := @PyProof.Rows.callWith_type1
def ZS := @Int.emod_nonneg
def ZT := @Int.zero_mul
def ZU := @List.drop_eq_getElem_cons
def ZV := @List.flatten_cons
def ZW := @List.count_append
def ZX := @List.mem_map
def ZY := @Nat.lt_of_le_of_lt
def ZZ := @List.all_eq_true
def Zaa := @List.getD_eq_getElem?_getD
def Zab := @Int.mul_zero
def Zac := @List.append_nil
def Zad := @Int.add_mul
def Zae := @List.getElem?_append_left
def Zaf := @Classical.byContradiction
def Zag := @List.count_pos_iff
def Zah := @List.getElem?_eq_getElem
def Zai := @List.sum_cons
def Zaj := @List.nodup_iff_count
def Zak := @Bool.not_eq_true'
def Zal := @List.length_set
def Zam := @List.map_append
def Zan := @List.set_eq_take_append_cons_drop
def Zao := @List.mem_filter
def Zap := @List.nodup_cons
def Zaq := @List.count_cons
def Zar := @PySem.W.kia_one
def Zas := @List.mem_of_getElem?
def Zat := @Int.mul_comm
def Zau := @List.nodup_nil
def Zav := @Int.one_mul
def Zaw := @List.mem_filterMap
def Zax := @List.take_of_length_le
def Zay := @List.map_map
def Zaz := @PyProof.Rows.boot_isinstance
def ZaA := @PySem.W.mg_of
def ZaB := @Int.mul_assoc
def ZaC := @Int.natAbs_dvd_natAbs
def ZaD := @List.ext_getElem?
def ZaE := @PySem.Heap.size_push
def ZaF := @Nat.pow_le_pow_right
def ZaG := @Int.natAbs_mul
def ZaH := @PySem.W.hideAll_get
def ZaI := @Nat.min_eq_left
def ZaJ := @Int.neg_mul
def ZaK := @List.append_assoc
def ZaL := @Nat.lt_succ_of_lt
def ZaM := @PyProof.Rows.boot_list
def ZaN := @List.nodup_append
def ZaO := @Nat.mul_le_mul
def ZaP := @List.length_singleton
def ZaQ := @List.take_append_drop
def ZaR := @List.contains_iff_mem
def ZaS := @Nat.lt_succ_self
def ZaT := @List.length_take
def ZaU := @List.mem_flatten
def ZaV := @Nat.min_le_right
def ZaW := @Int.mul_le_mul_of_nonneg_right
def ZaX := @Nat.add_le_add_right
def ZaY := @Int.neg_neg
def ZaZ := @List.range_succ
def Zba := @Int.natCast_add
def Zbb := @List.filterMap_cons
def Zbc := @List.sum_append_int
def Zbd := @Int.add_zero
def Zbe := @PySem.W.callWith_K
def Zbf := @List.getElem?_append_right
def Zbg := @Int.mul_nonneg
def Zbh := @Nat.add_sub_cancel
def Zbi := @List.getElem?_drop
def Zbj := @List.getElem?_eq_none_iff
def Zbk := @Int.eq_of_mul_eq_mul_left
def Zbl := @Int.mul_add
def Zbm := @Int.mul_left_comm
def Zbn := @Option.isSome_iff_exists
def Zbo := @Nat.le_of_dvd
def Zbp := @List.getElem?_replicate
def Zbq := @List.cons_append
def Zbr := @List.foldlM_cons
def Zbs := @List.drop_length
def Zbt := @PySem.F.plainAttrs_list
def Zbu := @PyProof.Rows.intBits_le
def Zbv := @Int.dvd_mul_of_dvd_left
def Zbw := @PySem.W.cellsFrom_some
def Zbx := @List.range_succ_eq_map
def Zby := @Int.fmod_nonneg_of_pos
def Zbz := @List.of_mem_zip
def ZbA := @Bool.or_eq_true
def ZbB := @Int.mul_one
def ZbC := @List.mapM_cons
def ZbD := @Int.le_refl
namespace L2
open PySem PySem.Spec PyProof.Rows
noncomputable abbrev Key := Sum Int Str
noncomputable def Qqi : Key -> Value -> Bool
 | .inl k, v => Value.isInt k v
 | .inr x, v => Value.isStrOf x v
noncomputable def QuW (w : World) : Key -> Int
 | .inl k => hashInt k
 | .inr x => hashStr w x
theorem Qar : ∀ {k : Key} {v : Value}, Qqi k v = true -> (∃ i t, k = Sum.inl i /\ v = Value.int i t) ∨ (∃ x t, k = Sum.inr x /\ v = Value.str x t)
 | .inl i, v, h => by
  obtain ⟨t, e⟩ := Value.isInt_shape (k := i) (v := v) h
  exact .inl ⟨i, t, rfl, e⟩
 | .inr x, v, h => by
  obtain ⟨t, e⟩ := Value.isStrOf_shape (x := x) (v := v) h
  exact .inr ⟨x, t, rfl, e⟩
theorem Qsl (a b : Int) : decide ((Sum.inl a : Key) = Sum.inl b) = (a == b) := by
 by_cases e : a = b
 ·subst e; simp
 ·have h : ¬ (Sum.inl a : Key) = Sum.inl b := λ q => e (Sum.inl.inj q)
  rw [decide_eq_false h]
  exact (beq_eq_false_iff_ne.mpr e).symm
theorem Qsw (a b : Str) : decide ((Sum.inr a : Key) = Sum.inr b) = decide (a = b) := by
 by_cases e : a = b
 ·subst e; simp
 ·have h : ¬ (Sum.inr a : Key) = Sum.inr b := λ q => e (Sum.inr.inj q)
  rw [decide_eq_false h, decide_eq_false e]
theorem QsZ (a : Int) (b : Str) : decide ((Sum.inl a : Key) = Sum.inr b) = false := decide_eq_false (λ q => nomatch q)
theorem Qsz (a : Str) (b : Int) : decide ((Sum.inr a : Key) = Sum.inl b) = false := decide_eq_false (λ q => nomatch q)
noncomputable def Qje (prog : Program) (w : World) : PySem.KeyKind prog w Key where
 is := Qqi
 hash := QuW w
 inj := λ v a b ha hb => by
  rcases Qar ha with ⟨i, t, rfl, rfl⟩ | ⟨x, t, rfl, rfl⟩
  ·rcases Qar hb with ⟨j, u, rfl, e⟩ | ⟨y, u, rfl, e⟩
   ·injection e with e1 _; rw [e1]
   ·exact nomatch e
  ·rcases Qar hb with ⟨j, u, rfl, e⟩ | ⟨y, u, rfl, e⟩
   ·exact nomatch e
   ·injection e with e1 _; rw [e1]
 byValue := λ k v h => by
  rcases Qar h with ⟨i, t, rfl, rfl⟩ | ⟨x, t, rfl, rfl⟩ <;> rfl
 pyHash := λ hv h => by
  rcases Qar hv with ⟨i, t, rfl, rfl⟩ | ⟨x, t, rfl, rfl⟩
  ·exact wpAny_pyHash_int h
  ·exact wpAny_pyHash_str h
 eqBool := λ hu hv h => by
  rcases Qar hu with ⟨i, t, rfl, rfl⟩ | ⟨x, t, rfl, rfl⟩
  ·rcases Qar hv with ⟨j, u, rfl, rfl⟩ | ⟨y, u, rfl, rfl⟩
   ·rw [Qsl] at h; exact wpAny_eqBool_int h
   ·rw [QsZ] at h; exact SeqAt.EqAt.int_str i t y u _ _ _ _ h
  ·rcases Qar hv with ⟨j, u, rfl, rfl⟩ | ⟨y, u, rfl, rfl⟩
   ·rw [Qsz] at h; exact SeqAt.EqAt.str_int x t j u _ _ _ _ h
   ·rw [Qsw] at h; exact wpAny_eqBool_str h
 «strs» := λ k x t v h => by
  rcases Qar h with ⟨i, u, rfl, e⟩ | ⟨y, u, rfl, e⟩
  ·exact nomatch e
  ·injection e with e1 _
   subst e1
   cases v <;> rfl
end L2
namespace L2
open PySem PySem.Spec PyProof.Rows
inductive V where
 | non | bl (b : Bool) | int (i : Int) | str (x : Str) | byt (b : Array UInt8) | flt (b : UInt64) | ref (a : Addr) | ty (n : String)
 deriving DecidableEq
noncomputable def RelV : V -> Value -> Prop
 | .non, u => u = Value.none
 | .bl b, u => u = Value.bool b
 | .int i, u => ∃ t, u = Value.int i t
 | .str x, u => ∃ t, u = Value.str x t
 | .byt b, u => ∃ t, u = Value.bytes b t
 | .flt b, u => ∃ t, u = Value.float b t
 | .ref a, u => u = Value.ref a
 | .ty n, u => u = Value.type n
noncomputable abbrev Qr : List V -> List Value -> Prop := Paired RelV
theorem Qr.length {xs : List V} {us : List Value} (r : Qr xs us) : xs.length = us.length := Paired.length r
theorem Qr.get : ∀ {xs : List V} {us : List Value} {i : Nat} {x : V}, Qr xs us -> xs[i]? = some x -> ∃ u, us[i]? = some u /\ RelV x u
 | _, _, _, _, .nil, e => by simp at e
 | _, _, 0, _, .cons r _, e => by simp at e; subst e; exact ⟨_, rfl, r⟩
 | _, _, i + 1, x, .cons _ t, e => by
  obtain ⟨u, h1, h2⟩ := Qr.get (i := i) (x := x) t (by simpa using e)
  exact ⟨u, by simpa using h1, h2⟩
theorem Qr.set {x : V} {u : Value} (r : RelV x u) : ∀ {xs : List V} {us : List Value} (i : Nat), Qr xs us -> Qr (xs.set i x) (us.set i u)
 | _, _, _, .nil => .nil
 | _, _, 0, .cons _ t => .cons r t
 | _, _, i + 1, .cons q t => .cons q (Qr.set r i t)
theorem Qr.append : ∀ {xs ys : List V} {us ws : List Value}, Qr xs us -> Qr ys ws -> Qr (xs ++ ys) (us ++ ws)
 | _, _, _, _, .nil, s => s
 | _, _, _, _, .cons r t, s => .cons r (Qr.append t s)
theorem Qr.take : ∀ {xs : List V} {us : List Value} (n : Nat), Qr xs us -> Qr (xs.take n) (us.take n)
 | _, _, 0, _ => .nil
 | _, _, _ + 1, .nil => .nil
 | _, _, n + 1, .cons r t => .cons r (Qr.take n t)
theorem Qr.drop : ∀ {xs : List V} {us : List Value} (n : Nat), Qr xs us -> Qr (xs.drop n) (us.drop n)
 | _, _, 0, r => r
 | _, _, _ + 1, .nil => .nil
 | _, _, n + 1, .cons _ t => Qr.drop n t
theorem Qr.none_of : ∀ {xs : List V} {us : List Value} {i : Nat}, Qr xs us -> xs[i]? = none -> us[i]? = none := λ {xs us i} r e => by
 have h1 := r.length
 have h2 : xs.length <= i := Zbj.mp e
 exact Zbj.mpr (by omega)
noncomputable def QiS : Option V -> Option Value -> Prop
 | some v, some u => RelV v u
 | none, none => True
 | _, _ => False
noncomputable def KV {κ : Type} : List (κ × V) -> List (κ × Value) -> Prop := Paired λ (p : κ × V) (q : κ × Value) => p.1 = q.1 /\ RelV p.2 q.2
noncomputable def kV : Key -> V
 | .inl i => .int i
 | .inr x => .str x
inductive HO where
 | lst (xs : List V)
 | tup (xs : List V)
 | dK (kvs : List (Key × V)) | dT (kvs : List (List Key × V))
 | set (S : Int -> Bool) (n : Nat)
 | ins (C dx : Addr) (fs : List (Str × V))
 | own (x : Addr)
 | xd (fs : List (Str × V))
 | met (f x : Addr)
 | rng (lo hi : Int)
 | frz (o : Obj) (u : HO)
 | tbl (ps : Array Value)
 | ext (φ : Heap -> Prop)
noncomputable abbrev Hp := Addr -> Option HO
noncomputable def upd (H : Hp) (a : Addr) (o : HO) : Hp := λ b => if b = a then some o else H b
theorem QX {H : Hp} {a : Addr} {o : HO} : upd H a o a = some o := by unfold upd; rw [if_pos rfl]
theorem Qx {H : Hp} {a b : Addr} {o : HO} (h : b ≠ a) : upd H a o b = H b := by unfold upd; rw [if_neg h]
theorem Qj3 {H : Hp} {a b : Addr} {o u : HO} (h : H a = some o) (h' : H b = some u) (d : o ≠ u) : a ≠ b := by
 intro e; subst e; rw [h] at h'; exact d (Option.some.inj h')
theorem Qa4 {H : Hp} {a b : Addr} {o : HO} (h : H a = some o) (h' : H b = none) : a ≠ b := by
 intro e; subst e; rw [h] at h'; cases h'
section
variable (P : Program) (w : World)
noncomputable def Qa7 (H : Hp) (h : Heap) (a : Addr) : HO -> Prop
 | .lst xs => xs.length <= sizeLine /\ ∃ (its : List Value) (n : Nat), Qr xs its /\ h.get? a = some { cls := .type "list", data := .seq its.toArray n }
 | .tup xs => xs.length <= sizeLine /\ ∃ its : List Value, Qr xs its /\ IsTup h a its.toArray
 | .dK kvs => kvs.length <= sizeLine /\ (a == sysModules) = false /\ ∃ vs, KV kvs vs /\ h.DictOf (Qje P w) a vs
 | .dT kvs => kvs.length <= sizeLine /\ (a == sysModules) = false /\ ∃ xs : List (List Key × Addr × Value),
   Paired (λ (p : List Key × V) (q : List Key × Addr × Value) => p.1 = q.1 /\ H q.2.1 = some (.tup (p.1.map kV)) /\ RelV p.2 q.2.2) kvs xs ∧
   ∃ o es ep, h.get? a = some o /\ o.ExactDict /\ o.data = .dict es ep /\ es.toList = xs.map (entryOfKey (tupleKind (Qje P w))) /\ (xs.map (·.1)).Nodup
 | .set S n => h.SetOf (intKind P w) a S n
 | .ins C dx fs => H dx = some (.own a) /\ fs.length <= 1000 /\ dx ≠ a /\ h.get? a = some (PySem.W.instObj C dx) ∧
   ∃ mA, h.Ns1 dx mA /\ (∀ f, QiS (fs.lookup f) (mA f)) /\ PySem.Within mA (fs.map (·.1))
 | .own _ => ∃ o, h.get? a = some o
 | .xd fs => ∃ mA, h.Ns1 a mA /\ ∀ f, QiS (fs.lookup f) (mA f)
 | .rng lo hi => ∃ t u v, h.get? a = some { cls := .type "range", data := .fields #[.int lo t, .int hi u, .int 1 v] }
 | .frz o u => h.get? a = some o /\ Qa7 H h a u
 | .tbl ps => h.get? a = some { cls := .none, data := .fields ps }
 | .met f x => h.get? a = some (PySem.W.methodObj (.ref f) (.ref x))
 | .ext φ => φ h /\ (∃ o, h.get? a = some o) /\ ∀ h1 h2 : Heap, φ h1 -> (∀ o, h1.get? a = some o -> h2.get? a = some o) -> φ h2
def HOk (H : Hp) (h : Heap) : Prop := ∀ a o, H a = some o -> Qa7 P w H h a o
end
section
variable {P : Program} {w : World} {H H' : Hp} {h h' : Heap} {a : Addr} {o : HO}
theorem Qa7.lt (x : Qa7 P w H h a o) : a < h.objs.size := by
 cases o with
 | lst xs => obtain ⟨_, _, _, _, e⟩ := x; exact Zo e
 | tup xs => obtain ⟨_, _, _, p⟩ := x; exact p.lt
 | dK kvs => obtain ⟨_, _, _, _, o, _, _, e, _⟩ := x; exact Zo e
 | dT kvs => obtain ⟨_, _, _, _, o, _, _, e, _⟩ := x; exact Zo e
 | set S n => obtain ⟨o, _, _, _, e, _⟩ := x; exact Zo e
 | ins C dx fs => obtain ⟨_, _, _, e, _⟩ := x; exact Zo e
 | own y => obtain ⟨_, e⟩ := x; exact Zo e
 | xd fs => obtain ⟨_, ⟨_, _, _, e, _⟩, _⟩ := x; exact Zo e
 | rng lo hi => obtain ⟨_, _, _, e⟩ := x; exact Zo e
 | frz ob u => obtain ⟨e, _⟩ := x; exact Zo e
 | tbl ps => exact Zo (show h.get? a = some _ from x)
 | met f y => exact Zo (show h.get? a = some _ from x)
 | ext φ => obtain ⟨_, ⟨_, e⟩, _⟩ := x; exact Zo e
theorem Paired.Qs0 {α β : Type} {F G : α -> β -> Prop} : ∀ {l₁ : List α} {l₂ : List β}, Paired F l₁ l₂ -> (∀ a b, F a b -> G a b) -> Paired G l₁ l₂
 | _, _, .nil, _ => .nil
 | _, _, .cons r t, f => .cons (f _ _ r) (Paired.Qs0 t f)
theorem Qa7.QeM (x : Qa7 P w H h a o) (k : ∀ b u, (b = a ∨ H b = some (.own a)) -> h.get? b = some u -> h'.get? b = some u)
  (ho : ∀ b, H b = some (.own a) -> H' b = some (.own a)) (ht : ∀ b xs, H b = some (.tup xs) -> H' b = some (.tup xs)) : Qa7 P w H' h' a o := by
 induction o with
 | lst xs => obtain ⟨z, its, n, r, e⟩ := x; exact ⟨z, its, n, r, k _ _ (.inl rfl) e⟩
 | tup xs => obtain ⟨z, its, r, ob, e, c⟩ := x; exact ⟨z, its, r, ob, k _ _ (.inl rfl) e, c⟩
 | dK kvs => obtain ⟨z, y, vs, r, ob, es, ep, e, c⟩ := x; exact ⟨z, y, vs, r, ob, es, ep, k _ _ (.inl rfl) e, c⟩
 | dT kvs =>
  obtain ⟨z, y, xs, r, ob, es, ep, e, c⟩ := x
  exact ⟨z, y, xs, Paired.Qs0 r λ p q z => ⟨z.1, ht _ _ z.2.1, z.2.2⟩, ob, es, ep, k _ _ (.inl rfl) e, c⟩
 | set S n => obtain ⟨ob, es, ep, t, e, c⟩ := x; exact ⟨ob, es, ep, t, k _ _ (.inl rfl) e, c⟩
 | ins C dx fs =>
  obtain ⟨d, z, ne, e, mA, ⟨od, es, ep, e2, c⟩, r⟩ := x
  exact ⟨ho _ d, z, ne, k _ _ (.inl rfl) e, mA, ⟨od, es, ep, k _ _ (.inr d) e2, c⟩, r⟩
 | own y => obtain ⟨ob, e⟩ := x; exact ⟨ob, k _ _ (.inl rfl) e⟩
 | xd fs => obtain ⟨mA, ⟨od, es, ep, e, c⟩, r⟩ := x; exact ⟨mA, ⟨od, es, ep, k _ _ (.inl rfl) e, c⟩, r⟩
 | rng lo hi => obtain ⟨t, u, v, e⟩ := x; exact ⟨t, u, v, k _ _ (.inl rfl) e⟩
 | frz ob u ih => obtain ⟨e, q⟩ := x; exact ⟨k _ _ (.inl rfl) e, ih q⟩
 | tbl ps =>
  have e : h.get? a = some { cls := .none, data := .fields ps } := x
  show h'.get? a = some { cls := .none, data := .fields ps }
  exact k a _ (.inl rfl) e
 | met f y =>
  have e : h.get? a = some (PySem.W.methodObj (.ref f) (.ref y)) := x
  show h'.get? a = some (PySem.W.methodObj (.ref f) (.ref y))
  exact k a _ (.inl rfl) e
 | ext φ => obtain ⟨p, ⟨o, e⟩, st⟩ := x; exact ⟨st _ _ p λ o q => k _ _ (.inl rfl) q, ⟨o, k _ _ (.inl rfl) e⟩, st⟩
theorem HOk.lt (x : HOk P w H h) (e : H a = some o) : a < h.objs.size := (x a o e).lt
theorem HOk.fresh (x : HOk P w H h) (e : h.objs.size <= a) : H a = none := by
 cases q : H a with
 | none => rfl
 | some u => exact absurd (Zl (x.lt q) e) (ZL _)
theorem HOk.kept (x : HOk P w H h) (k : ∀ b u, h.get? b = some u -> h'.get? b = some u) : HOk P w H h' := λ a o e =>
 (x a o e).QeM (λ b u _ q => k b u q) (λ _ q => q) λ _ _ q => q
theorem HOk.laid (x : HOk P w H h) (k : ∀ b u, h.get? b = some u -> h'.get? b = some u) (hp : h.objs.size <= a) (new : Qa7 P w (upd H a o) h' a o) : HOk P w (upd H a o) h' := λ b u e => by
 have hn := x.fresh hp
 by_cases hb : b = a
 ·subst hb; rw [QX] at e; cases e; exact new
 ·rw [Qx hb] at e
  exact (x b u e).QeM (λ c v _ q => k c v q) (λ c q => by rw [Qx (Qa4 q hn)]; exact q) λ c xs q => by rw [Qx (Qa4 q hn)]; exact q
end
def Rd (H : Hp) (a : Addr) (u : HO) : Prop := H a = some u ∨ ∃ o, H a = some (.frz o u)
theorem Rd.of {H : Hp} {a : Addr} {u : HO} (h : H a = some u) : Rd H a u := .inl h
theorem Rd.ok {P : Program} {w : World} {H : Hp} {h : Heap} {a : Addr} {u : HO} (r : Rd H a u) (x : HOk P w H h) : Qa7 P w H h a u := by
 rcases r with r | ⟨o, r⟩
 ·exact x a u r
 ·obtain ⟨_, q⟩ := x a _ r
  exact q
noncomputable def Mut : Option HO -> Prop
 | some (.lst _) => True
 | some (.dK _) => True
 | some (.dT _) => True
 | some (.set _ _) => True
 | some (.ins _ _ _) => True
 | some (.ext _) => True
 | _ => False
section
variable {P : Program} {w : World} {H : Hp} {h h' : Heap} {x e : Addr} {o' : HO}
theorem HOk.write (ok : HOk P w H h) (mu : Mut (H x)) (he : e = x ∨ H e = some (.own x)) (k : ∀ b u, b ≠ e -> h.get? b = some u -> h'.get? b = some u) (heo : ∃ u, h'.get? e = some u)
  (new : Qa7 P w (upd H x o') h' x o') : HOk P w (upd H x o') h' := λ b u q => by
 have nown : ∀ c y, H c = some (.own y) -> c ≠ x := λ c y r z => by subst z; rw [r] at mu; exact mu
 have ntup : ∀ c xs, H c = some (.tup xs) -> c ≠ x := λ c xs r z => by subst z; rw [r] at mu; exact mu
 by_cases hb : b = x
 ·subst hb; rw [QX] at q; cases q; exact new
 ·rw [Qx hb] at q
  by_cases hbe : b = e
  ·have q' : H b = some (.own x) := by
    rcases he with z | z
    ·exact absurd (hbe.trans z) hb
    ·rw [hbe]; exact z
   rw [q] at q'; cases q'
   obtain ⟨v, hv⟩ := heo
   exact ⟨v, by rw [hbe]; exact hv⟩
  ·refine (ok b u q).QeM (λ c v hc r => k c v ?_ r) (λ c r => by rw [Qx (nown c b r)]; exact r) λ c xs r => by rw [Qx (ntup c xs r)]; exact r
   rcases hc with rfl | hc
   ·exact hbe
   ·rintro rfl
    rcases he with z | z
    ·exact nown c b hc z
    ·rw [hc] at z; cases z; exact hb rfl
end
structure Un (fs ex : List Addr) (H H' : Hp) (h h' : Heap) : Prop where
 keep : ∀ b o, h.get? b = some o -> H b = none -> b ∉ fs -> b ∉ ex -> h'.get? b = some o
 slot : ∀ b o, h.get? b = some o -> H b = none -> b ∈ fs -> b ∉ ex -> ∃ sl, h'.get? b = some { o with slots := sl }
 free : ∀ b o, h.get? b = some o -> H b = none -> b ∉ ex -> H' b = none
 there : ∀ b o, h.get? b = some o -> b ∉ ex -> ∃ o', h'.get? b = some o'
 tups : ∀ b xs, H b = some (.tup xs) -> H' b = some (.tup xs)
 frzs : ∀ b o u, H b = some (.frz o u) -> H' b = some (.frz o u)
 tbls : ∀ b ps, H b = some (.tbl ps) -> ∃ more, H' b = some (.tbl (ps ++ more))
section
variable {fs fs' ex ex' : List Addr} {H H1 H2 : Hp} {h h1 h2 h' : Heap} {a x e : Addr} {o : HO}
theorem Un.any (u : Un fs ex H H1 h h1) {b : Addr} {ob : Obj} (q : h.get? b = some ob) (n : H b = none) (hx : b ∉ ex) : ∃ sl, h1.get? b = some { ob with slots := sl } := by
 by_cases hb : b ∈ fs
 ·exact u.slot b ob q n hb hx
 ·exact ⟨ob.slots, u.keep b ob q n hb hx⟩
theorem Un.trans (a : Un fs ex H H1 h h1) (b : Un fs ex H1 H2 h1 h2) : Un fs ex H H2 h h2 where
 keep := λ c ob q n hc hx => b.keep c ob (a.keep c ob q n hc hx) (a.free c ob q n hx) hc hx
 slot := λ c ob q n hc hx => by
  obtain ⟨sl, e1⟩ := a.slot c ob q n hc hx
  obtain ⟨sl', e2⟩ := b.slot c _ e1 (a.free c ob q n hx) hc hx
  exact ⟨sl', e2⟩
 free := λ c ob q n hx => by
  obtain ⟨o', e1⟩ := a.there c ob q hx
  exact b.free c o' e1 (a.free c ob q n hx) hx
 there := λ c ob q hx => by
  obtain ⟨o', e1⟩ := a.there c ob q hx
  exact b.there c o' e1 hx
 tups := λ c xs q => b.tups c xs (a.tups c xs q)
 frzs := λ c ob xs q => b.frzs c ob xs (a.frzs c ob xs q)
 tbls := λ c ps q => by
  obtain ⟨m1, e1⟩ := a.tbls c ps q
  obtain ⟨m2, e2⟩ := b.tbls c _ e1
  exact ⟨m1 ++ m2, by rw [e2, Array.append_assoc]⟩
theorem Un.kept (k : ∀ b u, h.get? b = some u -> h'.get? b = some u) : Un fs ex H H h h' :=
 ⟨λ b ob q _ _ _ => k b ob q, λ b ob q _ _ _ => ⟨ob.slots, k b ob q⟩, λ _ _ _ n _ => n, λ b ob q _ => ⟨ob, k b ob q⟩, λ _ _ q => q, λ _ _ _ q => q, λ _ ps q => ⟨#[], by rw [q]; simp⟩⟩
theorem Un.refl : Un fs ex H H h h := Un.kept λ _ _ q => q
theorem Un.laid (k : ∀ b u, h.get? b = some u -> h'.get? b = some u) (hp : h.objs.size <= a) (hn : H a = none) : Un fs ex H (upd H a o) h h' where
 keep := λ b u q _ _ _ => k b u q
 slot := λ b u q _ _ _ => ⟨u.slots, k b u q⟩
 free := λ b u q n _ => by rw [Qx (ZG (Zl (Zo q) hp))]; exact n
 there := λ b u q _ => ⟨u, k b u q⟩
 tups := λ b xs q => by rw [Qx (Qa4 q hn)]; exact q
 frzs := λ b u xs q => by rw [Qx (Qa4 q hn)]; exact q
 tbls := λ b ps q => ⟨#[], by rw [Qx (Qa4 q hn), q]; simp⟩
theorem Un.write (mu : Mut (H x)) (he : e = x ∨ H e = some (.own x)) (k : ∀ b u, b ≠ e -> h.get? b = some u -> h'.get? b = some u) (heo : ∃ u, h'.get? e = some u) : Un fs ex H (upd H x o) h h' := by
 have hx : ∀ b, H b = none -> b ≠ x := λ b n z => by subst z; rw [n] at mu; exact mu
 have hb : ∀ b, H b = none -> b ≠ e := λ b n z => by
  subst z
  rcases he with r | r
  ·exact hx b n r
  ·rw [n] at r; cases r
 have hm : ∀ b u, H b = some u -> ¬ Mut (some u) -> b ≠ x := λ b u q nm z => by subst z; rw [q] at mu; exact nm mu
 refine ⟨λ b u q n _ _ => k b u (hb b n) q, λ b u q n _ _ => ⟨u.slots, k b u (hb b n) q⟩, λ b u q n _ => by rw [Qx (hx b n)]; exact n, λ b u q _ => ?_,
  λ b xs q => by rw [Qx (hm b _ q λ z => z)]; exact q, λ b u xs q => by rw [Qx (hm b _ q λ z => z)]; exact q, λ b ps q => ⟨#[], by rw [Qx (hm b _ q λ z => z), q]; simp⟩⟩
 by_cases hbe : b = e
 ·subst hbe; exact heo
 ·exact ⟨u, k b u hbe q⟩
theorem Un.mono (u : Un fs ex H H1 h h1) (hs : ∀ b ∈ fs, b ∈ fs') (hx : ∀ b ∈ ex, b ∈ ex') : Un fs' ex' H H1 h h1 :=
 ⟨λ b ob q n hb he => u.keep b ob q n (λ z => hb (hs b z)) λ z => he (hx b z), λ _ _ q n _ he => u.any q n λ z => he (hx _ z), λ b ob q n he => u.free b ob q n λ z => he (hx b z), λ b ob q he => u.there b ob q λ z => he (hx b z), u.tups, u.frzs, u.tbls⟩
end
noncomputable def trk (h : Heap) (H : Hp) : List Addr := (List.range h.objs.size).filter λ a => (H a).isSome
noncomputable def Qfn (h : Heap) (H : Hp) : Heap := PySem.W.hideAll h (trk h H)
theorem Qnf (h : Heap) (H : Hp) : (Qfn h H).objs.size = h.objs.size := PySem.W.hideAll_size _ _
theorem QpI {h : Heap} {H : Hp} {b : Addr} {o : Obj} (e : h.get? b = some o) (n : H b = none) : (Qfn h H).get? b = some o :=
 ZaH _ e λ hm => by
  have q : (H b).isSome = true := (Zao.mp hm).2
  rw [n] at q; simp at q
theorem QqR {h : Heap} {H : Hp} {b : Addr} {o : Obj} (e : (Qfn h H).get? b = some o) : h.get? b = some o /\ H b = none := by
 have e' : h.get? b = some o := PySem.W.of_hideAll (trk h H) e
 refine ⟨e', ?_⟩
 cases q : H b with
 | none => rfl
 | some x =>
  have hm : b ∈ trk h H := Zao.mpr ⟨ZC.mpr (Zo e'), by simp [q]⟩
  have z : (Qfn h H).get? b = none := PySem.W.hideAll_none (trk h H) hm
  rw [z] at e; cases e
noncomputable def Qrd (g h : Heap) (L : Addr) : List (Addr × Obj) := (List.range h.objs.size).filterMap λ a => if a = L ∨ (g.get? a).isSome = true then none else (h.get? a).map λ o => (a, o)
noncomputable def rest (g h : Heap) (L d : Addr) : List (Addr × Obj) := (Qrd g h L).filter λ p => decide (p.1 ≠ d)
end L2
namespace L2
open PySem PySem.Spec PyProof.Rows
structure Mod (K : PySem.W.Frag) (mg : Str -> Option Value) (base : Heap) : Prop where
 kin : K.In base
 glob : base.Ns mainGlobals mg
 blt : ∃ mb, base.Ns builtinsNs mb /\ ∀ x : Str, x ≠ "__name__" -> mb x = bootBuiltins x
 nolimit : base.NoLimit
structure Cx where
 prog : Program
 w : World
 K : PySem.W.Frag
 mg : Str -> Option Value
 base : Heap
 A : Around
 N : List Str
 s₀ : Shared
 H₀ : Hp
 env : Env
 outer : List Env
 stack : List Env
 ex : List Addr
 fn : Str -> Bool
 calm : Bool
 pn : List (Addr × Obj)
 xe : Value -> Shared -> Prop
noncomputable def frs (l : List Env) : List Addr := l.filterMap (·.frame)
noncomputable abbrev Cx.fs (X : Cx) : List Addr := frs X.outer
def Vis (sc : Scope) (x : Str) : Prop := sc.names.lookup x = some .local ∨ sc.names.lookup x = some .cell ∨ sc.names.lookup x = some .free
def Loc (sc : Scope) (x : Str) : Prop := sc.names.lookup x = some .local ∨ sc.names.lookup x = some .cell
def Look (env : Env) (h : Heap) (m : Str -> Option Value) (x : Str) (u : Value) : Prop :=
 (env.kindOf x = some .local /\ m x = some u) ∨ ((env.kindOf x = some .cell ∨ env.kindOf x = some .free) /\ ∃ c, env.cells.lookup x = some c /\ h.IsCell c (some u))
structure Cx.Ok (X : Cx) : Prop where
 mod : Mod X.K X.mg X.base
 kind : X.env.scope.kind = .function
 glob : X.env.globals = mainGlobals
 blt : X.env.builtins = builtinsNs
 above : X.s₀.heap.objs.size <= X.env.locals
 inj : ∀ x y c, X.env.cells.lookup x = some c -> X.env.cells.lookup y = some c -> x = y
 has : ∀ x, (X.env.kindOf x = some .cell ∨ X.env.kindOf x = some .free) -> ∃ c, X.env.cells.lookup x = some c
 cab : ∀ x c, X.fn x = true -> X.env.cells.lookup x = some c -> X.s₀.heap.objs.size <= c
 hd : X.calm = true -> X.A.handled = none
 frames : X.A.frames = some X.stack
 stk : X.stack = X.outer ∨ (X.stack = X.env :: X.outer /\ X.env.frame = some X.env.locals)
 exf : ∀ b ∈ X.ex, b ≠ X.env.locals /\ ∀ x c, X.env.cells.lookup x = some c -> c ≠ b
 bs : ∀ b o, X.base.get? b = some o -> X.s₀.heap.get? b = some o /\ X.H₀ b = none
 bsz : X.base.objs.size <= X.s₀.heap.objs.size
 noex : ∀ b o, X.base.get? b = some o -> b ∉ X.ex
 exfs : ∀ b ∈ X.ex, b ∉ X.fs
 Qcp : X.s₀.heap.FunFrames X.base X.outer
 frf : ∀ b ∈ X.fs, X.H₀ b = none
structure Inv (X : Cx) (pins : List (Addr × Obj)) (σ : List (Option V)) (H : Hp) (s : Shared) : Prop where
 ok : X.Ok
 os : s.os = X.s₀.os
 bare : AllBare s.gens
 base : Un X.fs X.ex X.H₀ H X.s₀.heap s.heap
 loc : ∃ m, s.heap.Ns X.env.locals m /\ ∀ (i : Nat) (x : Str) (v : V), X.N[i]? = some x -> σ[i]? = some (some v) -> Vis X.env.scope x -> ∃ u, RelV v u /\ Look X.env s.heap m x u
 cell : ∀ x c, X.env.cells.lookup x = some c -> ∃ v, s.heap.IsCell c v
 free : H X.env.locals = none
 freeC : ∀ x c, X.env.cells.lookup x = some c -> H c = none
 pin : ∀ p ∈ X.pn ++ pins, s.heap.get? p.1 = some p.2 /\ H p.1 = none /\ p.1 ≠ X.env.locals /\ p.1 ∉ X.fs /\ ∀ v, p.2.data ≠ .cell v
 hok : HOk X.prog X.w H s.heap
 len : σ.length = X.N.length
section
variable {X : Cx} {pins : List (Addr × Obj)} {σ : List (Option V)} {H H' : Hp} {s : Shared} {h' : Heap}
theorem Cx.Ok.Quc (ok : X.Ok) {b : Addr} {o : Obj} (e : X.base.get? b = some o) : b ∉ X.fs := λ hb => by
 have := (ok.Qcp.mem hb).1
 rw [e] at this; cases this
theorem Inv.bs (I : Inv X pins σ H s) : ∀ b o, X.base.get? b = some o -> s.heap.get? b = some o /\ H b = none := λ b o e =>
 ⟨I.base.keep b o (I.ok.bs b o e).1 (I.ok.bs b o e).2 (I.ok.Quc e) (I.ok.noex b o e), I.base.free b o (I.ok.bs b o e).1 (I.ok.bs b o e).2 (I.ok.noex b o e)⟩
theorem Inv.bk (I : Inv X pins σ H s) : ∀ b o, X.base.get? b = some o -> s.heap.get? b = some o := λ b o e => (I.bs b o e).1
theorem Inv.mod (I : Inv X pins σ H s) : Mod X.K X.mg X.base := I.ok.mod
theorem Inv.kIn (I : Inv X pins σ H s) : X.K.In s.heap := I.ok.mod.kin.keeps I.bk
theorem Inv.nolimit (I : Inv X pins σ H s) : s.heap.NoLimit := I.ok.mod.nolimit.keeps I.bk
theorem Inv.fr (I : Inv X pins σ H s) : ∃ m, Fr X.base X.env.locals s.heap m :=
 let ⟨m, hn, _⟩ := I.loc
 ⟨m, hn, I.bk, Zr I.ok.bsz I.ok.above⟩
theorem Inv.lt (I : Inv X pins σ H s) : X.env.locals < s.heap.objs.size := let ⟨_, hn, _⟩ := I.loc; hn.lt
theorem Inv.sz (I : Inv X pins σ H s) : X.s₀.heap.objs.size <= s.heap.objs.size := Zr I.ok.above (Nat.le_of_lt I.lt)
theorem Inv.Qut (I : Inv X pins σ H s) {a : Addr} (h : s.heap.objs.size <= a) : a ∉ X.fs := λ hb => by
 obtain ⟨_, o, ho, _⟩ := I.ok.Qcp.mem hb
 exact absurd (Zl (Zo ho) (Zr I.sz h)) (ZL _)
theorem Inv.cne (I : Inv X pins σ H s) : ∀ x c, X.env.cells.lookup x = some c -> c ≠ X.env.locals := λ x c e z => by
 obtain ⟨v, o, ho, hd⟩ := I.cell x c e
 obtain ⟨m, ⟨o', es, ep, ho', hd', _⟩, _⟩ := I.loc
 rw [z, ho'] at ho; cases ho; rw [hd'] at hd; cases hd
theorem Inv.Qcp (I : Inv X pins σ H s) : s.heap.FunFrames X.base X.outer := by
 have all : ∀ (l : List Env), (∀ b ∈ frs l, b ∈ X.fs) -> X.s₀.heap.FunFrames X.base l -> s.heap.FunFrames X.base l := by
  intro l
  induction l with
  | nil => intro _ _; trivial
  | cons env r ih =>
   intro hs hl
   obtain ⟨hk, ⟨L, o, hf, hn, ho, hd⟩, hr⟩ := hl
   have hL : L ∈ X.fs := hs L (by unfold frs; rw [Zbb, hf]; exact Zi)
   obtain ⟨sl, e⟩ := I.base.slot L o ho (I.ok.frf L hL) hL λ z => I.ok.exfs L z hL
   exact ⟨hk, ⟨L, _, hf, hn, e, hd⟩, ih (λ b hb => hs b (by unfold frs; rw [Zbb, hf]; exact Zd _ hb)) hr⟩
 exact all X.outer (λ _ hb => hb) I.ok.Qcp
theorem Inv.stack (I : Inv X pins σ H s) : s.heap.FunFrames X.base X.stack := by
 rcases I.ok.stk with e | ⟨e, hf⟩
 ·rw [e]; exact I.Qcp
 ·rw [e]
  obtain ⟨m, hn, _⟩ := I.loc
  refine .cons (by rw [I.ok.kind]; decide) hf hn ?_ I.Qcp
  exact Heap.get?_none_of_le (Zr I.ok.bsz I.ok.above)
theorem Inv.Qec (I : Inv X pins σ H s) : ∀ b ∈ frs X.stack, b ∈ X.env.locals :: X.fs := λ b hb => by
 rcases I.ok.stk with e | ⟨e, hf⟩
 ·rw [e] at hb; exact Zd _ hb
 ·rw [e] at hb
  unfold frs at hb
  rw [Zbb, hf] at hb
  exact hb
theorem Inv.QiX (I : Inv X pins σ H s) : ∀ b ∈ frs X.stack, H b = none := λ b hb => by
 rcases Zq.mp (I.Qec b hb) with e | hb
 ·rw [e]; exact I.free
 ·obtain ⟨_, o, ho, _⟩ := I.ok.Qcp.mem hb
  exact I.base.free b o ho (I.ok.frf b hb) λ z => I.ok.exfs b z hb
theorem Inv.step {g' : Array GenState} {t' : Nat} {d' : Drawn} {ch : List Addr} (I : Inv X pins σ H s)
  (hch : ∀ b ∈ ch, (b ∈ X.ex ∨ X.s₀.heap.objs.size <= b) /\ b ≠ X.env.locals /\ (∀ x c, X.env.cells.lookup x = some c -> c ≠ b) /\ ∀ p ∈ X.pn ++ pins, p.1 ≠ b)
  (keep : ∀ b o, b ≠ X.env.locals -> b ∉ X.fs -> b ∉ ch -> s.heap.get? b = some o -> H b = none -> h'.get? b = some o)
  (slot : ∀ b o, b ≠ X.env.locals -> b ∈ X.fs -> b ∉ ch -> s.heap.get? b = some o -> H b = none -> ∃ sl, h'.get? b = some { o with slots := sl }) (free : ∀ b o, b ∉ ch -> s.heap.get? b = some o -> H b = none -> H' b = none)
  (there : ∀ b o, b ∉ ch -> s.heap.get? b = some o -> ∃ o', h'.get? b = some o')
  (tups : ∀ b xs, H b = some (.tup xs) -> H' b = some (.tup xs)) (frzs : ∀ b o u, H b = some (.frz o u) -> H' b = some (.frz o u)) (tbls : ∀ b ps, H b = some (.tbl ps) -> ∃ more, H' b = some (.tbl (ps ++ more)))
  (ns : ∀ m, s.heap.Ns X.env.locals m -> h'.Ns X.env.locals m) (hok : HOk X.prog X.w H' h') (hg : AllBare g') :
  Inv X pins σ H' { s with heap := h', gens := g', drawn := d', toks := t' } := by
 have neL : ∀ b o, X.s₀.heap.get? b = some o -> b ≠ X.env.locals := λ b o e => ZG (Zl (Zo e) I.ok.above)
 have neC : ∀ b o, X.s₀.heap.get? b = some o -> b ∉ X.ex -> b ∉ ch := λ b o e hx hb => by
  rcases (hch b hb).1 with z | z
  ·exact hx z
  ·exact absurd (Zl (Zo e) z) (ZL _)
 have cellK : ∀ x c, X.env.cells.lookup x = some c -> ∀ v, s.heap.IsCell c v -> h'.IsCell c v := λ x c e v ⟨o, ho, hd⟩ => by
  have nch : c ∉ ch := λ z => (hch c z).2.2.1 x c e rfl
  by_cases hc : c ∈ X.fs
  ·obtain ⟨sl, q⟩ := slot c o (I.cne x c e) hc nch ho (I.freeC x c e)
   exact ⟨_, q, hd⟩
  ·exact ⟨o, keep c o (I.cne x c e) hc nch ho (I.freeC x c e), hd⟩
 refine ⟨I.ok, I.os, hg, ⟨λ b o e n hb hx => ?_, λ b o e n hb hx => ?_, λ b o e n hx => ?_, λ b o e hx => ?_, λ b xs e => tups b xs (I.base.tups b xs e), λ b o xs e => frzs b o xs (I.base.frzs b o xs e), λ b ps e => ?_⟩, ?_, λ x c e => ?_, ?_, λ x c e => ?_, λ p hp => ?_, hok, I.len⟩
 ·exact keep b o (neL b o e) hb (neC b o e hx) (I.base.keep b o e n hb hx) (I.base.free b o e n hx)
 ·obtain ⟨sl, e1⟩ := I.base.slot b o e n hb hx
  obtain ⟨sl', e2⟩ := slot b _ (neL b o e) hb (neC b o e hx) e1 (I.base.free b o e n hx)
  exact ⟨sl', e2⟩
 ·obtain ⟨o', e1⟩ := I.base.there b o e hx
  exact free b o' (neC b o e hx) e1 (I.base.free b o e n hx)
 ·obtain ⟨o', e1⟩ := I.base.there b o e hx
  exact there b o' (neC b o e hx) e1
 ·obtain ⟨m1, e1⟩ := I.base.tbls b ps e
  obtain ⟨m2, e2⟩ := tbls b _ e1
  exact ⟨m1 ++ m2, by rw [e2, Array.append_assoc]⟩
 ·obtain ⟨m, hn, hl⟩ := I.loc
  refine ⟨m, ns m hn, λ i x v e1 e2 e3 => ?_⟩
  obtain ⟨u, r, l⟩ := hl i x v e1 e2 e3
  refine ⟨u, r, ?_⟩
  rcases l with l | ⟨k, c, e, z⟩
  ·exact .inl l
  ·exact .inr ⟨k, c, e, cellK x c e _ z⟩
 ·obtain ⟨v, z⟩ := I.cell x c e
  exact ⟨v, cellK x c e v z⟩
 ·obtain ⟨m, ⟨o, _, _, ho, _⟩, _⟩ := I.loc
  exact free _ o (λ z => (hch _ z).2.1 rfl) ho I.free
 ·obtain ⟨v, o, ho, hd⟩ := I.cell x c e
  exact free c o (λ z => (hch c z).2.2.1 x c e rfl) ho (I.freeC x c e)
 ·obtain ⟨e, n, ne, nf, d⟩ := I.pin p hp
  have nch : p.1 ∉ ch := λ z => (hch p.1 z).2.2.2 p hp rfl
  exact ⟨keep p.1 p.2 ne nf nch e n, free p.1 p.2 nch e n, ne, nf, d⟩
theorem Inv.un {t' : Nat} (I : Inv X pins σ H s) (u : Un X.fs [] H H' s.heap h') (hok : HOk X.prog X.w H' h') : Inv X pins σ H' { s with heap := h', toks := t' } := by
 obtain ⟨m, ⟨o, es, ep, ho, r⟩, _⟩ := id I.loc
 obtain ⟨sl, hL⟩ := u.any ho I.free (by simp)
 exact I.step (g' := s.gens) (d' := s.drawn) (ch := []) (λ _ z => nomatch z) (λ b o _ hb _ e n => u.keep b o e n hb (by simp)) (λ b o _ hb _ e n => u.slot b o e n hb (by simp)) (λ b o _ e n => u.free b o e n (by simp)) (λ b o _ e => u.there b o e (by simp)) u.tups u.frzs u.tbls (λ m' hm => by
  obtain ⟨o', es', ep', ho', r'⟩ := hm
  rw [ho] at ho'; cases ho'
  exact ⟨_, es', ep', hL, r'⟩) hok I.bare
theorem Inv.call {g' : Array GenState} {t' : Nat} {d' : Drawn} {ch : List Addr} (I : Inv X pins σ H s) (u : Un (frs X.stack) ch H H' s.heap h') (hok : HOk X.prog X.w H' h') (hg : AllBare g')
  (hch : ∀ b ∈ ch, (b ∈ X.ex ∨ X.s₀.heap.objs.size <= b) /\ b ≠ X.env.locals /\ (∀ x c, X.env.cells.lookup x = some c -> c ≠ b) /\ ∀ p ∈ X.pn ++ pins, p.1 ≠ b) :
  Inv X pins σ H' { s with heap := h', gens := g', drawn := d', toks := t' } := by
 obtain ⟨m, ⟨o, es, ep, ho, r⟩, _⟩ := id I.loc
 obtain ⟨sl, hL⟩ := u.any ho I.free λ z => (hch _ z).2.1 rfl
 exact I.step (ch := ch) hch (λ b o hL hb hc e n => u.keep b o e n (λ z => (Zq.mp (I.Qec b z)).elim hL hb) hc) (λ b o _ _ hc e n => u.any e n hc) (λ b o hc e n => u.free b o e n hc) (λ b o hc e => u.there b o e hc) u.tups u.frzs u.tbls (λ m' hm => by
  obtain ⟨o', es', ep', ho', r'⟩ := hm
  rw [ho] at ho'; cases ho'
  exact ⟨_, es', ep', hL, r'⟩) hok hg
theorem Inv.turned {t' : Nat} {it : Addr} (I : Inv X pins σ H s) (k : ∀ b o, b ≠ it -> s.heap.get? b = some o -> h'.get? b = some o) (hn : H it = none) (hL : it ≠ X.env.locals)
  (h1 : it ∈ X.ex ∨ X.s₀.heap.objs.size <= it) (h2 : ∀ x c, X.env.cells.lookup x = some c -> c ≠ it) (h3 : ∀ p ∈ X.pn ++ pins, p.1 ≠ it) : Inv X pins σ H { s with heap := h', toks := t' } := by
 have nit : ∀ b u, H b = some u -> b ≠ it := λ b u e z => by rw [z, hn] at e; cases e
 refine I.step (g' := s.gens) (d' := s.drawn) (ch := [it]) (λ b hb => ?_) (λ b o _ _ hc e _ => k b o (λ z => hc (by simp [z])) e) (λ b o _ _ hc e _ => ⟨o.slots, k b o (λ z => hc (by simp [z])) e⟩) (λ _ _ _ _ n => n)
  (λ b o hc e => ⟨o, k b o (λ z => hc (by simp [z])) e⟩) (λ _ _ e => e) (λ _ _ _ e => e) (λ b ps e => ⟨#[], by rw [e]; simp⟩) (λ m hm => ?_) (λ b u e => ?_) I.bare
 ·have e : b = it := by simpa using hb
  subst e
  exact ⟨h1, hL, h2, h3⟩
 ·obtain ⟨o, es, ep, ho, r⟩ := hm
  exact ⟨o, es, ep, k _ o (Ne.symm hL) ho, r⟩
 ·refine (I.hok b u e).QeM (λ c v hc q => k c v ?_ q) (λ _ q => q) λ _ _ q => q
  rcases hc with z | z
  ·rw [z]; exact nit b u e
  ·exact nit c _ z
theorem Inv.tok (I : Inv X pins σ H s) (t : Nat) : Inv X pins σ H { s with toks := t } := I.un (h' := s.heap) (t' := t) Un.refl I.hok
theorem Inv.kept {t' : Nat} (I : Inv X pins σ H s) (k : ∀ b u, s.heap.get? b = some u -> h'.get? b = some u) : Inv X pins σ H { s with heap := h', toks := t' } := I.un (Un.kept k) (I.hok.kept k)
theorem Inv.laid {a : Addr} {o : HO} {t' : Nat} (I : Inv X pins σ H s) (k : ∀ b u, s.heap.get? b = some u -> h'.get? b = some u) (hp : s.heap.objs.size <= a) (new : Qa7 X.prog X.w (upd H a o) h' a o) :
  Inv X pins σ (upd H a o) { s with heap := h', toks := t' } := I.un (Un.laid k hp (I.hok.fresh hp)) (I.hok.laid k hp new)
theorem Inv.write {x e : Addr} {o : HO} {t' : Nat} (I : Inv X pins σ H s) (mu : Mut (H x)) (he : e = x ∨ H e = some (.own x)) (k : ∀ b u, b ≠ e -> s.heap.get? b = some u -> h'.get? b = some u) (heo : ∃ u, h'.get? e = some u)
  (new : Qa7 X.prog X.w (upd H x o) h' x o) : Inv X pins σ (upd H x o) { s with heap := h', toks := t' } := I.un (Un.write mu he k heo) (I.hok.write mu he k heo new)
theorem Inv.weak {σ' : List (Option V)} (I : Inv X pins σ H s) (hl : σ'.length = σ.length) (w : ∀ (i : Nat) v, σ'[i]? = some (some v) -> σ[i]? = some (some v)) : Inv X pins σ' H s :=
 ⟨I.ok, I.os, I.bare, I.base, let ⟨m, hn, hl'⟩ := I.loc; ⟨m, hn, λ i x v e1 e2 e3 => hl' i x v e1 (w i v e2) e3⟩, I.cell, I.free, I.freeC, I.pin, I.hok, hl.trans I.len⟩
theorem Inv.QlN {pins' : List (Addr × Obj)} (I : Inv X pins σ H s) (h : ∀ p ∈ pins', s.heap.get? p.1 = some p.2 /\ H p.1 = none /\ p.1 ≠ X.env.locals /\ p.1 ∉ X.fs /\ ∀ v, p.2.data ≠ .cell v) : Inv X pins' σ H s :=
 ⟨I.ok, I.os, I.bare, I.base, I.loc, I.cell, I.free, I.freeC, λ p hp => (ZD.mp hp).elim (λ z => I.pin p (Ze _ z)) (h p), I.hok, I.len⟩
theorem Qhn {N : List Str} (hN : N.Nodup) {i j : Nat} {x : Str} (a : N[i]? = some x) (b : N[j]? = some x) : i = j := by
 obtain ⟨h1, e1⟩ := Zh.mp a
 obtain ⟨h2, e2⟩ := Zh.mp b
 exact (List.getElem_inj hN).mp (e1.trans e2.symm)
theorem Qjo {M : Model} {A : Around} {E : Value -> Shared -> Prop} {i : Nat} {x : Str} {v : V} {u : Value} {Q : Unit -> Shared -> Prop} (I : Inv X pins σ H s) (hN : X.N.Nodup) (hi : X.N[i]? = some x) (hx : Loc X.env.scope x) (r : RelV v u)
  (h : ∀ s', Inv X pins (σ.set i (some v)) H s' -> (∃ a, Heap.SameBut a s.heap s'.heap /\ (a = X.env.locals ∨ X.env.cells.lookup x = some a)) -> Q () s') (hf : X.fn x = true ∨ X.env.scope.names.lookup x = some .local := by first | exact .inl rfl | exact .inr rfl | assumption) : wpAny M A (storeName X.env x u) Q E s := by
 obtain ⟨m, hn, hl⟩ := id I.loc
 have hcls : (X.env.scope.kind == .class || (X.env.scope.kind == .module && X.env.locals != X.env.globals)) = false := by rw [I.ok.kind]; rfl
 have hiσ : i < σ.length := by rw [I.len]; exact (Zh.mp hi).1
 have cne := I.cne
 have tracked : ∀ {a : Addr} {h' : Heap}, (∃ o, s.heap.get? a = some o /\ H a = none) -> Heap.SameBut a s.heap h' -> HOk X.prog X.w H h' := λ {a h'} ha hs b ob e => by
  obtain ⟨_, _, hfree⟩ := ha
  refine (I.hok b ob e).QeM (λ c w' hc q => (hs.2 c ?_).trans q) (λ _ q => q) λ _ _ q => q
  rintro rfl
  rcases hc with rfl | hc
  ·rw [hfree] at e; cases e
  ·rw [hfree] at hc; cases hc
 rcases hx with hk | hk
 ·refine wpAny_storeName_local hk hn (λ h' hn' hs => ?_) hcls
  obtain ⟨oL, _, _, hoL, _⟩ := id hn
  refine h _ ⟨I.ok, I.os, I.bare, ⟨λ b o e n hb hx => ?_, λ b o e n hb hx => ?_, I.base.free, λ b o e hx => ?_, I.base.tups, I.base.frzs, I.base.tbls⟩, ⟨_, hn', λ j y v' e1 e2 e3 => ?_⟩, λ y c e => ?_, I.free, I.freeC, λ p hp => ?_, tracked ⟨oL, hoL, I.free⟩ hs, by simpa using I.len⟩ ⟨_, hs, .inl rfl⟩
  ·exact (hs.2 b (ZG (Zl (Zo e) I.ok.above))).trans (I.base.keep b o e n hb hx)
  ·obtain ⟨sl, e1⟩ := I.base.slot b o e n hb hx
   exact ⟨sl, (hs.2 b (ZG (Zl (Zo e) I.ok.above))).trans e1⟩
  ·obtain ⟨o', e1⟩ := I.base.there b o e hx
   exact ⟨o', (hs.2 b (ZG (Zl (Zo e) I.ok.above))).trans e1⟩
  ·by_cases hj : j = i
   ·subst hj
    rw [hi] at e1; cases e1
    rw [Zj hiσ] at e2
    cases e2
    exact ⟨u, r, .inl ⟨hk, by simp⟩⟩
   ·rw [Zf (Ne.symm hj)] at e2
    obtain ⟨u', r', q⟩ := hl j y v' e1 e2 e3
    refine ⟨u', r', ?_⟩
    rcases q with ⟨k, e⟩ | ⟨k, c, e, z⟩
    ·refine .inl ⟨k, ?_⟩
     have : y ≠ x := λ e => hj (Qhn hN e1 (e ▸ hi))
     simp [this, e]
    ·exact .inr ⟨k, c, e, z.sameBut hs (cne y c e)⟩
  ·obtain ⟨w', z⟩ := I.cell y c e
   exact ⟨w', z.sameBut hs (cne y c e)⟩
  ·obtain ⟨e, n, ne, nf, d⟩ := I.pin p hp
   exact ⟨(hs.2 p.1 ne).trans e, n, ne, nf, d⟩
 ·have hfn : X.fn x = true := by
   rcases hf with z | z
   ·exact z
   ·rw [z] at hk; cases hk
  obtain ⟨c, hc⟩ := I.ok.has x (.inl hk)
  obtain ⟨w', z⟩ := I.cell x c hc
  refine wpAny_storeName_cell I.ok.kind hk hc z (λ h' hc' hs => ?_)
  obtain ⟨oc, hoc, hocd⟩ := id z
  refine h { s with heap := h' } ⟨I.ok, I.os, I.bare, ⟨λ b o e n hb hx => ?_, λ b o e n hb hx => ?_, I.base.free, λ b o e hx => ?_, I.base.tups, I.base.frzs, I.base.tbls⟩, ⟨m, hn.sameBut hs (Ne.symm (cne x c hc)), λ j y v' e1 e2 e3 => ?_⟩, λ y c' e => ?_, I.free, I.freeC, λ p hp => ?_, tracked ⟨oc, hoc, I.freeC x c hc⟩ hs, by simpa using I.len⟩ ⟨c, hs, .inr hc⟩
  ·exact (hs.2 b (ZG (Zl (Zo e) (I.ok.cab x c hfn hc)))).trans (I.base.keep b o e n hb hx)
  ·obtain ⟨sl, e1⟩ := I.base.slot b o e n hb hx
   exact ⟨sl, (hs.2 b (ZG (Zl (Zo e) (I.ok.cab x c hfn hc)))).trans e1⟩
  ·obtain ⟨o', e1⟩ := I.base.there b o e hx
   exact ⟨o', (hs.2 b (ZG (Zl (Zo e) (I.ok.cab x c hfn hc)))).trans e1⟩
  ·by_cases hj : j = i
   ·subst hj
    rw [hi] at e1; cases e1
    rw [Zj hiσ] at e2
    cases e2
    exact ⟨u, r, .inr ⟨.inl hk, c, hc, hc'⟩⟩
   ·rw [Zf (Ne.symm hj)] at e2
    obtain ⟨u', r', q⟩ := hl j y v' e1 e2 e3
    refine ⟨u', r', ?_⟩
    rcases q with q | ⟨k, c', e, z'⟩
    ·exact .inl q
    ·refine .inr ⟨k, c', e, z'.sameBut hs ?_⟩
     rintro rfl
     exact hj (Qhn hN e1 (I.ok.inj _ _ _ e hc ▸ hi))
  ·by_cases hcc : c' = c
   ·subst hcc; exact ⟨_, hc'⟩
   ·obtain ⟨w2, z2⟩ := I.cell y c' e
    exact ⟨w2, z2.sameBut hs hcc⟩
  ·obtain ⟨e, n, ne, nf, d⟩ := I.pin p hp
   refine ⟨(hs.2 p.1 ?_).trans e, n, ne, nf, d⟩
   intro q
   rw [q, hoc] at e
   have q' : oc = p.2 := Option.some.inj e
   exact d w' (by rw [← q']; exact hocd)
theorem Qfw {M : Model} {A : Around} {E : Value -> Shared -> Prop} {i : Nat} {x : Str} {v : V} {u : Value} {Q : Unit -> Shared -> Prop} (I : Inv X pins σ H s) (hN : X.N.Nodup) (hi : X.N[i]? = some x) (hx : Loc X.env.scope x) (r : RelV v u)
  (h : ∀ s', Inv X pins (σ.set i (some v)) H s' -> Q () s') (hf : X.fn x = true ∨ X.env.scope.names.lookup x = some .local := by first | exact .inl rfl | exact .inr rfl | assumption) : wpAny M A (storeName X.env x u) Q E s :=
 Qjo I hN hi hx r (λ s' I' _ => h s' I') hf
theorem Inv.Qp0 {s' : Shared} {ch : List Addr} (I : Inv X pins σ H s) (ho : s'.os = s.os) (u : Un (frs X.stack) ch H H' s.heap s'.heap) (hok : HOk X.prog X.w H' s'.heap) (hg : AllBare s'.gens)
  (hch : ∀ b ∈ ch, (b ∈ X.ex ∨ X.s₀.heap.objs.size <= b) /\ b ≠ X.env.locals /\ (∀ x c, X.env.cells.lookup x = some c -> c ≠ b) /\ ∀ p ∈ X.pn ++ pins, p.1 ≠ b) : Inv X pins σ H' s' := by
 obtain ⟨h', g', d', t', o'⟩ := s'
 have e : o' = s.os := ho
 subst e
 exact I.call (g' := g') (t' := t') (d' := d') u hok hg hch
end
noncomputable abbrev XK := Value -> Option Addr -> Hp -> Prop
noncomputable abbrev St := List (Option V)
noncomputable abbrev VK := V -> Hp -> Prop
noncomputable abbrev TE := St -> Hp -> VK -> Prop
noncomputable abbrev TT := St -> Hp -> (Bool -> Hp -> Prop) -> Prop
noncomputable abbrev TA := St -> Hp -> (List V -> Hp -> Prop) -> Prop
structure Ends where
 nx : St -> Hp -> Prop
 rt : VK
 bk : St -> Hp -> Prop := λ _ _ => False
 ct : St -> Hp -> Prop := λ _ _ => False
noncomputable abbrev TS := Ends -> St -> Hp -> Prop
def EP (X : Cx) (pins : List (Addr × Obj)) (σ : St) (Q : VK) (u : Value) (s' : Shared) : Prop := ∃ v H', Inv X pins σ H' s' /\ RelV v u /\ Q v H'
def TP (X : Cx) (pins : List (Addr × Obj)) (σ : St) (Q : Bool -> Hp -> Prop) (b : Bool) (s' : Shared) : Prop := ∃ H', Inv X pins σ H' s' /\ Q b H'
def AP (X : Cx) (pins : List (Addr × Obj)) (σ : St) (Q : List V -> Hp -> Prop) (us : List Value) (s' : Shared) : Prop := ∃ vs H', Inv X pins σ H' s' /\ Qr vs us /\ Q vs H'
def SP (X : Cx) (pins : List (Addr × Obj)) (D : Ends) (f : Flow) (s' : Shared) : Prop :=
 match f with
 | .next => ∃ σ' H', Inv X pins σ' H' s' /\ D.nx σ' H'
 | .brk => ∃ σ' H', Inv X pins σ' H' s' /\ D.bk σ' H'
 | .cont => ∃ σ' H', Inv X pins σ' H' s' /\ D.ct σ' H'
 | .ret u => ∃ v σ' H', Inv X pins σ' H' s' /\ RelV v u /\ D.rt v H'
def PE (X : Cx) (e : Expr) (t : TE) : Prop :=
 ∀ (pins : List (Addr × Obj)) (s : Shared) (σ : St) (H : Hp) (Q : VK), Inv X pins σ H s -> t σ H Q -> wpAny (model X.prog X.w) X.A (eval e X.env) (EP X pins σ Q) X.xe s
def PT (X : Cx) (e : Expr) (t : TT) : Prop :=
 ∀ (pins : List (Addr × Obj)) (s : Shared) (σ : St) (H : Hp) (Q : Bool -> Hp -> Prop), Inv X pins σ H s -> t σ H Q -> wpAny (model X.prog X.w) X.A (isTrue e X.env (eval e X.env)) (TP X pins σ Q) X.xe s
def PW (X : Cx) (e : Expr) (t : TT) : Prop :=
 ∀ (whole : Sem Value) (pins : List (Addr × Obj)) (s : Shared) (σ : St) (H : Hp) (Q : Bool -> Hp -> Prop), Inv X pins σ H s -> t σ H Q -> wpAny (model X.prog X.w) X.A (isTrue e X.env whole) (TP X pins σ Q) X.xe s
theorem PW.pt {X : Cx} {e : Expr} {t : TT} (h : PW X e t) : PT X e t := h _
def PA (X : Cx) (es : List Expr) (t : TA) : Prop :=
 ∀ (pos : Pos) (pins : List (Addr × Obj)) (s : Shared) (σ : St) (H : Hp) (Q : List V -> Hp -> Prop), Inv X pins σ H s -> t σ H Q -> wpAny (model X.prog X.w) X.A (spliced (backTo pos (starEach es X.env))) (AP X pins σ Q) X.xe s
def PS (X : Cx) (st : Stmt) (t : TS) : Prop :=
 ∀ (pins : List (Addr × Obj)) (s : Shared) (σ : St) (H : Hp) (D : Ends), Inv X pins σ H s -> t D σ H -> wpAny (model X.prog X.w) X.A (exec st X.env) (SP X pins D) X.xe s
def PSs (X : Cx) (st : List Stmt) (t : TS) : Prop :=
 ∀ (pins : List (Addr × Obj)) (s : Shared) (σ : St) (H : Hp) (D : Ends), Inv X pins σ H s -> t D σ H -> wpAny (model X.prog X.w) X.A (execs st X.env) (SP X pins D) X.xe s
theorem thn {α : Type} {t : Sem α} {Q Q' : α -> Shared -> Prop} {M : Model} {A : Around} {E : Value -> Shared -> Prop} {s : Shared} (h : wpAny M A t Q E s) (hQ : ∀ a s, Q a s -> Q' a s) : wpAny M A t Q' E s := wpAny_mono h hQ λ _ _ x => x
end L2
namespace L2
open PySem PySem.Spec PyProof.Rows
section
variable {X : Cx}
noncomputable def QhA (i : Nat) : TE := λ σ H Q => ∃ v, σ[i]? = some (some v) /\ Q v H
noncomputable def tC (v : V) : TE := λ _ H Q => Q v H
theorem Qnd {i : Nat} {x : Str} {pos : Pos} (hN : X.N[i]? = some x) (hv : Vis X.env.scope x) (hd : (x == ("__debug__" : Str)) = false := by decide) (hcd : (x == ("__classdict__" : Str)) = false := by decide) : PE X (.Name x pos) (QhA i) := by
 intro pins s σ H Q I h
 obtain ⟨v, e, h⟩ := h
 obtain ⟨m, hn, hl⟩ := I.loc
 obtain ⟨u, r, l⟩ := hl i x v hN e hv
 have fin : EP X pins σ Q u s := ⟨v, H, I, r, h⟩
 rcases l with ⟨hk, hm⟩ | ⟨hk, c, hc, hcell⟩
 ·exact wpAny_Name (wpAny_loadName_local I.ok.kind hk hn hm fin) hd
 ·rcases hk with hk | hk
  ·exact wpAny_Name (wpAny_loadName_cell I.ok.kind hk hc hcell fin) hd
  ·exact wpAny_Name (wpAny_loadName_free I.ok.kind hk hc hcell fin hcd) hd
theorem Qta {i j pos} : PE X (.Constant (.int i) j pos) (tC (.int i)) := λ _ _ _ H _ I h => wpAny_Constant_int ⟨.int i, H, I.tok _, ⟨_, rfl⟩, h⟩
theorem QpW {b j pos} : PE X (.Constant (.bool b) j pos) (tC (.bl b)) := λ _ _ _ H _ I h => Constant_bool ⟨.bl b, H, I, rfl, h⟩
theorem QrU {j pos} : PE X (.Constant .none j pos) (tC .non) := λ _ _ _ H _ I h => Constant_none ⟨.non, H, I, rfl, h⟩
theorem QnK {x j pos} : PE X (.Constant (.str x) j pos) (tC (.str x)) := λ _ _ _ H _ I h => Calls.Constant_str ⟨.str x, H, I.tok _, ⟨_, rfl⟩, h⟩
def Gl (X : Cx) (x : Str) : Prop := X.env.kindOf x = some .globalImplicit
theorem Qda {E : Value -> Shared -> Prop} {pins : List (Addr × Obj)} {s : Shared} {σ : St} {H : Hp} {x : Str} {u : Value} {pos : Pos} {Q : Value -> Shared -> Prop} (I : Inv X pins σ H s) (hg : Gl X x) (hm : X.mg x = some u) (h : Q u s)
  (hd : (x == ("__debug__" : Str)) = false := by decide) : wpAny (model X.prog X.w) X.A (eval (.Name x pos) X.env) Q E s :=
 Calls.Name_function_global I.ok.kind hg (Calls.loadGlobal_global (by rw [I.ok.glob]; exact I.mod.glob.keeps I.bk) hm h) hd
theorem Qc2 {E : Value -> Shared -> Prop} {pins : List (Addr × Obj)} {s : Shared} {σ : St} {H : Hp} {x : Str} {u : Value} {pos : Pos} {Q : Value -> Shared -> Prop} (I : Inv X pins σ H s) (hg : Gl X x) (hm : X.mg x = none) (hv : bootBuiltins x = some u) (h : Q u s)
  (hn : x ≠ "__name__" := by decide) (hd : (x == ("__debug__" : Str)) = false := by decide) : wpAny (model X.prog X.w) X.A (eval (.Name x pos) X.env) Q E s := by
 obtain ⟨mb, h1, h2⟩ := I.mod.blt
 exact Calls.Name_function_global I.ok.kind hg (Calls.loadGlobal_builtin (by rw [I.ok.glob]; exact I.mod.glob.keeps I.bk) hm (by rw [I.ok.blt]; exact h1.keeps I.bk) ((h2 x hn).trans hv) h) hd
theorem Qrs {x : Str} {v : V} {u : Value} {pos : Pos} (hg : Gl X x) (hm : X.mg x = some u) (r : RelV v u) (hd : (x == ("__debug__" : Str)) = false := by decide) : PE X (.Name x pos) (tC v) :=
 λ _ _ _ H _ I h => Qda I hg hm ⟨v, H, I, r, h⟩ hd
theorem QeY {x : Str} {v : V} {u : Value} {pos : Pos} (hg : Gl X x) (hm : X.mg x = none) (hv : bootBuiltins x = some u) (r : RelV v u) (hn : x ≠ "__name__" := by decide) (hd : (x == ("__debug__" : Str)) = false := by decide) : PE X (.Name x pos) (tC v) :=
 λ _ _ _ H _ I h => Qc2 I hg hm hv ⟨v, H, I, r, h⟩ hn hd
variable {a b : Expr} {ta tb : TE} {pos : Pos}
variable {tA tB' : TT} {rest : List Expr}
noncomputable def Qug (t u : TT) : TT := λ σ H Q => t σ H λ c H1 => if c = true then u σ H1 Q else Q false H1
noncomputable def tOr (t u : TT) : TT := λ σ H Q => t σ H λ c H1 => if c = true then Q true H1 else u σ H1 Q
noncomputable def QuQ (t : TT) : TT := λ σ H Q => t σ H λ c H1 => Q (!c) H1
theorem QqI (ha : PT X a tA) : PW X (.BoolOp .And [a] pos) tA := by
 intro wh pins s σ H Q I h
 refine isTrue_and (thn (ha pins s σ H Q I h) λ c s1 e => ?_)
 cases c with
 | true => exact isTrue_and_nil e
 | false => exact e
theorem QsW (ha : PT X a tA) : PW X (.BoolOp .Or [a] pos) tA := by
 intro wh pins s σ H Q I h
 refine isTrue_or (thn (ha pins s σ H Q I h) λ c s1 e => ?_)
 cases c with
 | false => exact isTrue_or_nil e
 | true => exact e
theorem Qss (ha : PT X a tA) (hb : PW X (.BoolOp .And (b :: rest) pos) tB') : PW X (.BoolOp .And (a :: b :: rest) pos) (Qug tA tB') := by
 intro wh pins s σ H Q I h
 refine isTrue_and (thn (ha pins s σ H _ I h) λ c s1 ⟨H1, I1, q1⟩ => ?_)
 cases c with
 | true => exact hb wh pins s1 σ H1 Q I1 q1
 | false => exact ⟨H1, I1, q1⟩
theorem Qtr (ha : PT X a tA) (hb : PW X (.BoolOp .Or (b :: rest) pos) tB') : PW X (.BoolOp .Or (a :: b :: rest) pos) (tOr tA tB') := by
 intro wh pins s σ H Q I h
 refine isTrue_or (thn (ha pins s σ H _ I h) λ c s1 ⟨H1, I1, q1⟩ => ?_)
 cases c with
 | true => exact ⟨H1, I1, q1⟩
 | false => exact hb wh pins s1 σ H1 Q I1 q1
theorem QsH (ha : PT X a tA) : PT X (.UnaryOp .Not a pos) (QuQ tA) := by
 intro pins s σ H Q I h
 exact isTrue_not (ha pins s σ H (λ c H1 => Q (!c) H1) I h)
theorem QsT {op} {t : TE} (h : PE X a t) : PE X (.BoolOp op [a] pos) t := λ pins s σ H Q I hw => BoolOp_one (h pins s σ H Q I hw)
end
end L2
namespace L2
open PySem PySem.Spec PyProof.Rows
def SqL (K : PySem.W.Frag) (H : Hp) (a : Addr) (xs : List V) : Prop :=
 Rd H a (.lst xs) ∨
  ∃ (o : Obj) (its : Array Value) (n : Nat), K.lookup a = some o /\ o.cls = .type "list" /\ o.dict = none /\ o.data = .seq its n /\ its.size <= sizeLine /\ Qr xs its.toList
def SqT (K : PySem.W.Frag) (H : Hp) (a : Addr) (xs : List V) : Prop :=
 Rd H a (.tup xs) ∨
  ∃ (o : Obj) (its : Array Value) (n : Nat), K.lookup a = some o /\ o.cls = .type "tuple" /\ o.data = .seq its n /\ its.size <= sizeLine /\ Qr xs its.toList
noncomputable def QuU : Value -> Option V
 | .none => some .non
 | .bool b => some (.bl b)
 | .int i _ => some (.int i)
 | .str x _ => some (.str x)
 | .bytes b _ => some (.byt b)
 | .float b _ => some (.flt b)
 | .ref a => some (.ref a)
 | .type n => some (.ty n)
 | _ => none
theorem RelV.abs {x : V} {u : Value} (r : RelV x u) : QuU u = some x := by
 cases x with
 | non => cases r; rfl
 | bl _ => cases r; rfl
 | int _ => obtain ⟨t, rfl⟩ := r; rfl
 | str _ => obtain ⟨t, rfl⟩ := r; rfl
 | byt _ => obtain ⟨t, rfl⟩ := r; rfl
 | flt _ => obtain ⟨t, rfl⟩ := r; rfl
 | ref _ => cases r; rfl
 | ty _ => cases r; rfl
theorem RelV.inj {x y : V} {u : Value} (r : RelV x u) (q : RelV y u) : x = y := Option.some.inj (r.abs.symm.trans q.abs)
theorem Qr.inj : ∀ {xs ys : List V} {us : List Value}, Qr xs us -> Qr ys us -> xs = ys
 | _, _, _, .nil, .nil => rfl
 | _, _, _, .cons r t, .cons r' t' => by rw [r.inj r', Qr.inj t t']
section
variable {X : Cx} {pins : List (Addr × Obj)} {σ : St} {H : Hp} {s : Shared} {a : Addr} {xs ys : List V}
theorem SqL.of {K : PySem.W.Frag} (h : H a = some (.lst xs)) : SqL K H a xs := .inl (.inl h)
theorem SqT.of {K : PySem.W.Frag} (h : H a = some (.tup xs)) : SqT K H a xs := .inl (.inl h)
theorem Inv.list (I : Inv X pins σ H s) (h : SqL X.K H a xs) : ∃ its : List Value, Qr xs its /\ PlainL s.heap a its.toArray /\ xs.length <= sizeLine := by
 rcases h with h | ⟨o, its, n, hk, hc, hd, hs, hz, r⟩
 ·obtain ⟨z, its, n, r, e⟩ := h.ok I.hok
  exact ⟨its, r, ⟨_, n, e, rfl, rfl, rfl⟩, z⟩
 ·refine ⟨its.toList, r, ⟨o, n, I.kIn a o hk, hc, hd, by simpa using hs⟩, ?_⟩
  have e := r.length
  simp only [Array.length_toList] at e
  omega
theorem Inv.tuple (I : Inv X pins σ H s) (h : SqT X.K H a xs) : ∃ its : List Value, Qr xs its /\ IsTup s.heap a its.toArray /\ xs.length <= sizeLine := by
 rcases h with h | ⟨o, its, n, hk, hc, hs, hz, r⟩
 ·obtain ⟨z, its, r, p⟩ := h.ok I.hok
  exact ⟨its, r, p, z⟩
 ·refine ⟨its.toList, r, ⟨o, I.kIn a o hk, hc, n, by simpa using hs⟩, ?_⟩
  have e := r.length
  simp only [Array.length_toList] at e
  omega
theorem Inv.QhH (I : Inv X pins σ H s) (h : SqL X.K H a xs) (h' : SqL X.K H a ys) : xs = ys := by
 obtain ⟨its, r, ⟨o, n, e, _, _, d⟩, _⟩ := I.list h
 obtain ⟨its', r', ⟨o', n', e', _, _, d'⟩, _⟩ := I.list h'
 rw [e] at e'; cases e'
 rw [d] at d'
 injection d' with d1 _
 have : its = its' := by simpa using congrArg Array.toList d1
 subst this
 exact r.inj r'
theorem Inv.QnR (I : Inv X pins σ H s) (h : SqT X.K H a xs) (h' : SqT X.K H a ys) : xs = ys := by
 obtain ⟨its, r, ⟨o, e, _, n, d⟩, _⟩ := I.tuple h
 obtain ⟨its', r', ⟨o', e', _, n', d'⟩, _⟩ := I.tuple h'
 rw [e] at e'; cases e'
 rw [d] at d'
 injection d' with d1 _
 have : its = its' := by simpa using congrArg Array.toList d1
 subst this
 exact r.inj r'
end
noncomputable abbrev Cx.Qdm (X : Cx) (E : Value -> Shared -> Prop) : Cx := { X with xe := E }
noncomputable abbrev Cx.nox (X : Cx) : Cx := X.Qdm λ _ _ => False
theorem Cx.Ok.Qdm {X : Cx} (ok : X.Ok) (E : Value -> Shared -> Prop) : (X.Qdm E).Ok :=
 ⟨ok.mod, ok.kind, ok.glob, ok.blt, ok.above, ok.inj, ok.has, ok.cab, ok.hd, ok.frames, ok.stk, ok.exf, ok.bs, ok.bsz, ok.noex, ok.exfs, ok.Qcp, ok.frf⟩
theorem Cx.Ok.Qcv {X : Cx} {E : Value -> Shared -> Prop} (ok : (X.Qdm E).Ok) : X.Ok :=
 ⟨ok.mod, ok.kind, ok.glob, ok.blt, ok.above, ok.inj, ok.has, ok.cab, ok.hd, ok.frames, ok.stk, ok.exf, ok.bs, ok.bsz, ok.noex, ok.exfs, ok.Qcp, ok.frf⟩
section
variable {X : Cx} {pins : List (Addr × Obj)} {σ : St} {H : Hp} {s : Shared} {E : Value -> Shared -> Prop}
theorem Inv.Qdm (I : Inv X pins σ H s) (E : Value -> Shared -> Prop) : Inv (X.Qdm E) pins σ H s := ⟨I.ok.Qdm E, I.os, I.bare, I.base, I.loc, I.cell, I.free, I.freeC, I.pin, I.hok, I.len⟩
theorem Inv.Qcv (I : Inv (X.Qdm E) pins σ H s) : Inv X pins σ H s := ⟨I.ok.Qcv, I.os, I.bare, I.base, I.loc, I.cell, I.free, I.freeC, I.pin, I.hok, I.len⟩
theorem SP.Qcv {D : Ends} {f : Flow} {s' : Shared} (h : SP (X.Qdm E) pins D f s') : SP X pins D f s' := by
 cases f with
 | next => obtain ⟨σ', H', I, q⟩ := h; exact ⟨σ', H', I.Qcv, q⟩
 | brk => obtain ⟨σ', H', I, q⟩ := h; exact ⟨σ', H', I.Qcv, q⟩
 | cont => obtain ⟨σ', H', I, q⟩ := h; exact ⟨σ', H', I.Qcv, q⟩
 | ret u => obtain ⟨v, σ', H', I, r, q⟩ := h; exact ⟨v, σ', H', I.Qcv, r, q⟩
theorem PE.nox {e : Expr} {t : TE} (h : PE X.nox e t) : PE X e t := λ pins s σ H Q I hw =>
 wpAny_mono (h pins s σ H Q (I.Qdm _) hw) (λ _ _ ⟨v, H', I', r, q⟩ => ⟨v, H', I'.Qcv, r, q⟩) λ _ _ z => False.elim z
theorem PT.nox {e : Expr} {t : TT} (h : PT X.nox e t) : PT X e t := λ pins s σ H Q I hw =>
 wpAny_mono (h pins s σ H Q (I.Qdm _) hw) (λ _ _ ⟨H', I', q⟩ => ⟨H', I'.Qcv, q⟩) λ _ _ z => False.elim z
theorem PSs.nox {st : List Stmt} {t : TS} (h : PSs X.nox st t) : PSs X st t := λ pins s σ H D I hw =>
 wpAny_mono (h pins s σ H D (I.Qdm _) hw) (λ _ _ q => q.Qcv) λ _ _ z => False.elim z
end
section
variable {X : Cx} {st : Stmt} {rest : List Stmt} {t u : TS} {e : Expr} {te : TE} {pos : Pos}
noncomputable def QmI : TS := λ D σ H => D.nx σ H
noncomputable def QrR (t u : TS) : TS := λ D σ H => t { D with nx := u D } σ H
theorem QqX : PSs X [] QmI := λ _ _ σ H _ I h => wpAny_execs_nil ⟨σ, H, I, h⟩
theorem Qet (h1 : PS X st t) (h2 : PSs X rest u) : PSs X (st :: rest) (QrR t u) := by
 intro pins s σ H D I h
 refine wpAny_execs_cons (thn (h1 pins s σ H { D with nx := u D } I h) λ f s1 q => ?_)
 cases f with
 | next =>
  obtain ⟨σ', H', I', q⟩ := q
  exact h2 pins s1 σ' H' D I' q
 | ret v => exact q
 | brk => exact q
 | cont => exact q
noncomputable def QrJ : TS := λ D σ H => D.bk σ H
noncomputable def QtQ : TS := λ D σ H => D.ct σ H
theorem QqA : PS X (.Pass pos) QmI := λ _ _ σ H _ I h => wpAny_Pass ⟨σ, H, I, h⟩
theorem QpJ : PS X (.Break pos) QrJ := λ _ _ σ H _ I h => wpAny_Break ⟨σ, H, I, h⟩
theorem Qly : PS X (.Continue pos) QtQ := λ _ _ σ H _ I h => wpAny_Continue ⟨σ, H, I, h⟩
theorem Inv.quiet {pins : List (Addr × Obj)} {σ : St} {H : Hp} {s : Shared} (I : Inv X pins σ H s) : interactive X.env = false := by simp [interactive, I.ok.kind]
theorem QsJ {x j pos pos'} : PS X (.Expr (.Constant (.str x) j pos) pos') QmI := λ _ s σ H _ I h => wpAny_Expr (Calls.Constant_str (show SP X _ _ .next { s with toks := s.toks + 1 } from ⟨σ, H, I.tok _, h⟩)) I.quiet
noncomputable def QjV (te : TE) : TS := λ D σ H => te σ H λ _ H1 => D.nx σ H1
theorem Qgn (he : PE X e te) (hs : swapsWith e none pos.line X.env = pure false := by rfl) : PS X (.Expr e pos) (QjV te) := by
 intro pins s σ H D I h
 exact wpAny_Expr_any (thn (he pins s σ H _ I h) λ v s1 ⟨x, H1, I1, r1, q1⟩ => ⟨σ, H1, I1, q1⟩) I.quiet hs
noncomputable def QuD (te : TE) : TS := λ D σ H => te σ H D.rt
theorem QnX (he : PE X e te) : PS X (.Return (some e) pos) (QuD te) := by
 intro pins s σ H D I h
 exact wpAny_Return_some (thn (he pins s σ H _ I h) λ v s1 ⟨x, H1, I1, r1, q1⟩ => ⟨x, σ, H1, I1, r1, q1⟩)
noncomputable def Qtt : TS := λ D _ H => D.rt .non H
theorem Qq1 : PS X (.Return none pos) Qtt := λ _ _ σ H _ I h => wpAny_Return_none ⟨.non, σ, H, I, rfl, h⟩
noncomputable def Quj (c : TT) (t u : TS) : TS := λ D σ H => c σ H λ b H1 => if b = true then t D σ H1 else u D σ H1
theorem Qp3 {c : Expr} {a b : List Stmt} {tc : TT} (hc : PT X c tc) (ha : PSs X a t) (hb : PSs X b u) : PS X (.If c a b pos) (Quj tc t u) := by
 intro pins s σ H D I h
 refine wpAny_If (thn (hc pins s σ H _ I h) λ d s1 ⟨H1, I1, q1⟩ => ?_)
 cases d with
 | true => exact ha pins s1 σ H1 D I1 q1
 | false => exact hb pins s1 σ H1 D I1 q1
noncomputable def Qs1 : TS := λ _ _ _ => False
theorem QoB : PS X st Qs1 := λ _ _ _ _ _ _ h => h.elim
end
noncomputable abbrev TG := V -> St -> Hp -> (St -> Hp -> Prop) -> Prop
noncomputable abbrev TGs := List V -> St -> Hp -> (St -> Hp -> Prop) -> Prop
def PG (X : Cx) (target : Expr) (t : TG) : Prop :=
 ∀ (pins : List (Addr × Obj)) (s : Shared) (σ : St) (H : Hp) (v : V) (u : Value) (Q : St -> Hp -> Prop), Inv X pins σ H s -> RelV v u -> t v σ H Q →
  wpAny (model X.prog X.w) X.A (assign target X.env u) (λ _ s' => ∃ σ' H', Inv X pins σ' H' s' /\ Q σ' H') X.xe s
def PGs (X : Cx) (ts : List Expr) (t : TGs) : Prop :=
 ∀ (pins : List (Addr × Obj)) (s : Shared) (σ : St) (H : Hp) (vs : List V) (us : List Value) (Q : St -> Hp -> Prop), Inv X pins σ H s -> Qr vs us -> t vs σ H Q →
  wpAny (model X.prog X.w) X.A (assignInOrder ((assignEach ts X.env).map (·.2)) us) (λ _ s' => ∃ σ' H', Inv X pins σ' H' s' /\ Q σ' H') X.xe s
noncomputable abbrev Qpx := V -> V -> V -> Hp -> (Hp -> Prop) -> Prop
def QsI (X : Cx) (t : Qpx) : Prop :=
 ∀ (pins : List (Addr × Obj)) (s : Shared) (σ : St) (H : Hp) (o i v : V) (ov iv u : Value) (Q : Hp -> Prop), Inv X pins σ H s -> RelV o ov -> RelV i iv -> RelV v u -> t o i v H Q →
  wpAny (model X.prog X.w) X.A (setItem ov iv u) (λ _ s' => ∃ H', Inv X pins σ H' s' /\ Q H') X.xe s
section
variable {X : Cx} {pos : Pos}
noncomputable def QfC (i : Nat) : TG := λ v σ H Q => Q (σ.set i (some v)) H
theorem QlU {i : Nat} {x : Str} (hN : X.N.Nodup) (hi : X.N[i]? = some x) (hx : Loc X.env.scope x) (hf : X.fn x = true ∨ X.env.scope.names.lookup x = some .local := by first | exact .inl rfl | exact .inr rfl | assumption) : PG X (.Name x pos) (QfC i) := by
 intro pins s σ H v u Q I r h
 exact wpAny_assign_Name (Qfw I hN hi hx r (λ s' I' => ⟨_, H, I', h⟩) hf)
noncomputable def Qsg : TGs := λ vs σ H Q => vs = [] /\ Q σ H
noncomputable def Qqc (t : TG) (u : TGs) : TGs := λ vs σ H Q => ∃ v r, vs = v :: r /\ t v σ H λ σ' H' => u r σ' H' Q
theorem Qq9 : PGs X [] Qsg := by
 intro pins s σ H vs us Q I r h
 obtain ⟨e, h⟩ := h
 subst e
 cases r
 exact assignInOrder_nil ⟨σ, H, I, h⟩
theorem QoS {e : Expr} {es : List Expr} {t : TG} {u : TGs} (h1 : PG X e t) (h2 : PGs X es u)
  (hs : (assignEach (e :: es) X.env).map (·.2) = assign e X.env :: (assignEach es X.env).map (·.2) := by rfl) : PGs X (e :: es) (Qqc t u) := by
 intro pins s σ H vs us Q I r h
 obtain ⟨v, vr, e1, h⟩ := h
 subst e1
 cases r with
 | cons r rr =>
  rw [hs]
  refine assignInOrder_cons (thn (h1 pins s σ H _ _ _ I r h) λ _ s1 ⟨σ1, H1, I1, q1⟩ => ?_)
  exact h2 pins s1 σ1 H1 _ _ Q I1 rr q1
noncomputable def QuS (K : PySem.W.Frag) (n : Nat) (t : TGs) : TG := λ v σ H Q => ∃ a xs, v = .ref a /\ SqT K H a xs /\ xs.length = n /\ t xs σ H Q
theorem Qs2 {es : List Expr} {k : Nat} {t : TGs} {n : Nat} (hc : X.calm = true) (h : PGs X es t)
  (hn : (assignEach es X.env).length = n := by rfl) (hst : (assignEach es X.env).findIdx? (·.1) = none := by rfl) : PG X (.Tuple es k pos) (QuS X.K n t) := by
 intro pins s σ H v u Q I r hw
 obtain ⟨a, xs, e1, hq, hl, hw⟩ := hw
 subst e1
 cases r
 obtain ⟨its, rv, ht, hz⟩ := I.tuple hq
 refine assign_Tuple_tuple (I.ok.hd hc) ht (by simp [hn, ← hl, rv.length]) hst λ h' hx => ?_
 have I1 : Inv X pins σ H { s with heap := h' } := I.kept (t' := s.toks) λ b o e => hx b o (ZG (Zo e)) e
 exact h pins _ σ H xs _ Q I1 (by simpa using rv) hw
noncomputable def Qbn (to ti : TE) (t : Qpx) : TG := λ v σ H Q => to σ H λ o H1 => ti σ H1 λ i H2 => t o i v H2 λ H3 => Q σ H3
theorem Qko {o i : Expr} {to ti : TE} {t : Qpx} (ho : PE X o to) (hi : PE X i ti) (hs : QsI X t)
  (ha : ∀ v, assign (.Subscript o i pos) X.env v = (do
   let ov ← holding [v] (eval o X.env)
   let iv ← holding [v, ov] (eval i X.env)
   standAt pos
   holding [v, ov, iv] (setItem ov iv v)
   release [v, ov, iv] []) := by intro _; rfl) : PG X (.Subscript o i pos) (Qbn to ti t) := by
 intro pins s σ H v u Q I r h
 rw [ha]
 refine wpAny_bind (wpAny_holding (thn (ho pins s σ H _ I h) λ ov s1 ⟨x, H1, I1, r1, q1⟩ => ?_))
 refine wpAny_bind (wpAny_holding (thn (hi pins s1 σ H1 _ I1 q1) λ iv s2 ⟨y, H2, I2, r2, q2⟩ => ?_))
 refine wpAny_bind (wpAny_standAt (wpAny_bind (wpAny_holding (thn (hs pins s2 σ H2 x y v ov iv u _ I2 r1 r2 r q2) λ _ s3 ⟨H3, I3, q3⟩ => ?_))))
 exact wpAny_release ⟨σ, H3, I3, q3⟩
noncomputable def Qf3 (te : TE) (g : TG) : TS := λ D σ H => te σ H λ x H1 => g x σ H1 D.nx
theorem Qid {tg e : Expr} {te : TE} {g : TG} (he : PE X e te) (hg : PG X tg g) (hs : swapsWithSole [tg] e pos.line X.env = pure false := by rfl) (hw : swappedStores [tg] e X.env = pure none := by rfl)
  (h1 : (assignEach [tg] X.env).map (·.2) = [assign tg X.env] := by rfl) : PS X (.Assign [tg] e pos) (Qf3 te g) := by
 intro pins s σ H D I h
 refine wpAny_Assign_stores (thn (he pins s σ H _ I h) λ v s1 ⟨x, H1, I1, r1, q1⟩ => ?_) hs hw
 rw [h1]
 exact thn (hg pins s1 σ H1 x v _ I1 r1 q1) λ _ s2 q => q
theorem Qe0 {i : Nat} {x : Str} {e : Expr} {te : TE} {pos' : Pos} (hN : X.N.Nodup) (hi : X.N[i]? = some x) (hx : Loc X.env.scope x) (he : PE X e te) (hs : swapsWith e (some (.Name x pos')) pos.line X.env = pure false := by rfl) (hf : X.fn x = true ∨ X.env.scope.names.lookup x = some .local := by first | exact .inl rfl | exact .inr rfl | assumption) :
  PS X (.Assign [.Name x pos'] e pos) (Qf3 te (QfC i)) := by
 intro pins s σ H D I h
 refine wpAny_Assign_Name (thn (he pins s σ H _ I h) λ v s1 ⟨y, H1, I1, r1, q1⟩ => ?_) hs
 exact Qfw I1 hN hi hx r1 (λ s2 I2 => ⟨_, H1, I2, q1⟩) hf
end
section
variable {X : Cx} {pos : Pos}
noncomputable def QsV (c : TT) (tb : TS) : TS := λ D σ H => ∃ W : Nat -> St -> Hp -> Prop, (∃ m, W m σ H) /\ ∀ m σ H, W m σ H →
 c σ H λ b H1 => if b = true then ∃ N : St -> Hp -> Prop, (∀ σ' H', N σ' H' -> ∃ m', m' < m /\ W m' σ' H') /\ tb { D with nx := N, ct := N, bk := D.nx } σ H1 else D.nx σ H1
theorem QpE {c : Expr} {body : List Stmt} {tc : TT} {tb : TS} (hp : PassesOwn (model X.prog X.w) X.A X.env X.xe) (hc : PT X c tc) (hb : PSs X body tb) : PS X (.While c body [] pos) (QsV tc tb) := by
 intro pins s σ H D I h
 obtain ⟨W, ⟨m0, w0⟩, turn⟩ := h
 refine wpAny_While (codeAny_whileLoop (λ n s' => ∃ σ' H', Inv X pins σ' H' s' /\ W n σ' H') ?_ m0 ⟨σ, H, I, w0⟩)
 rintro n s1 ⟨σ1, H1, I1, w1⟩
 refine wpAny_passesOwn hp (thn (hc pins s1 σ1 H1 _ I1 (turn n σ1 H1 w1)) λ b s2 ⟨H2, I2, q2⟩ => ?_)
 cases b with
 | true =>
  obtain ⟨N, hN, q2⟩ := q2
  rw [if_pos rfl]
  refine wpAny_passesOwn hp (thn (hb pins s2 σ1 H2 _ I2 q2) λ f s3 q3 => ?_)
  cases f with
  | next =>
   obtain ⟨σ3, H3, I3, n3⟩ := q3
   obtain ⟨m', hm, w3⟩ := hN σ3 H3 n3
   exact ⟨m', hm, σ3, H3, I3, w3⟩
  | cont =>
   obtain ⟨σ3, H3, I3, n3⟩ := q3
   obtain ⟨m', hm, w3⟩ := hN σ3 H3 n3
   exact ⟨m', hm, σ3, H3, I3, w3⟩
  | brk => exact q3
  | ret v => exact q3
 | false =>
  rw [if_neg ZE]
  exact wpAny_execs_nil ⟨σ1, H2, I2, q2⟩
end
structure It where
 go : Nat -> Hp -> Prop
 yld : Nat -> Hp -> V -> Hp -> Prop
 stop : Nat -> Hp -> Prop
def Qc9 (X : Cx) (pins : List (Addr × Obj)) (H : Hp) (b : Addr) : Prop :=
 H b = none /\ b ≠ X.env.locals /\ b ∉ X.fs /\ (b ∈ X.ex ∨ X.s₀.heap.objs.size <= b) /\ (∀ x c, X.env.cells.lookup x = some c -> c ≠ b) /\ ∀ p ∈ X.pn ++ pins, p.1 ≠ b
theorem Inv.Qmf {X : Cx} {pins : List (Addr × Obj)} {σ : St} {H H' : Hp} {s : Shared} {b : Addr} (I : Inv X pins σ H s) (hb : s.heap.objs.size <= b) (hn : H' b = none) : Qc9 X pins H' b := by
 refine ⟨hn, Nat.ne_of_gt (Zl I.lt hb), I.Qut hb, .inr (Zr I.sz hb), λ x c e z => ?_, λ p hp z => ?_⟩
 ·obtain ⟨v, q⟩ := I.cell x c e
  exact absurd (Zl q.lt (by rw [z]; exact hb)) (ZL _)
 ·exact absurd (Zl (Zo (I.pin p hp).1) (by rw [z]; exact hb)) (ZL _)
structure Turn (P : Program) (w : World) (K : PySem.W.Frag) (tg : Expr) (J : It) (fp : List Addr) (it : Addr) (tn : Nat -> Heap -> Prop) : Prop where
 mem : it ∈ fp
 obj : ∀ i h, tn i h -> ∀ b ∈ fp, ∃ o, h.get? b = some o /\ ∀ v, o.data ≠ .cell v
 keep : ∀ i h h', tn i h -> (∀ b ∈ fp, ∀ o, h.get? b = some o -> h'.get? b = some o) -> tn i h'
 item : ∀ (X : Cx), X.prog = P -> X.w = w -> X.K = K -> X.calm = true -> ∀ (i : Nat) (pins : List (Addr × Obj)) (s : Shared) (σ : St) (H : Hp) (E : Value -> Shared -> Prop), Inv X pins σ H s -> (∀ b ∈ fp, Qc9 X pins H b) -> tn i s.heap -> J.go i H →
  wpAny (model P w) X.A (pyNext (.ref it)) (λ r s1 => ∃ u, r = some u ∧
   wpAny (model P w) X.A (letOwnedTupleGo tg (.ref it) u) (λ _ s2 => ∃ x H', Inv X pins σ H' s2 /\ RelV x u /\ J.yld i H x H' /\ tn (i + 1) s2.heap /\ ∀ b ∈ fp, H' b = none) E s1) E s
 done : ∀ (X : Cx), X.prog = P -> X.w = w -> X.K = K -> X.calm = true -> ∀ (i : Nat) (pins : List (Addr × Obj)) (s : Shared) (σ : St) (H : Hp) (E : Value -> Shared -> Prop), Inv X pins σ H s -> (∀ b ∈ fp, Qc9 X pins H b) -> tn i s.heap -> J.stop i H →
  wpAny (model P w) X.A (pyNext (.ref it)) (λ r s1 => r = none /\ Inv X pins σ H s1) E s
 self : ∀ (A : Around) (i : Nat) (s : Shared) (Q : Value -> Shared -> Prop) (E : Value -> Shared -> Prop), tn i s.heap -> Q (.ref it) s -> wpAny (model P w) A (pyIter (.ref it)) Q E s
noncomputable abbrev TI := St -> Hp -> (It -> Hp -> Prop) -> Prop
def PIE (X : Cx) (pins : List (Addr × Obj)) (σ : St) (tg : Expr) (R : It -> Hp -> Prop) (itv : Value) (s2 : Shared) : Prop :=
 ∃ (it : Addr) (fp : List Addr) (tn : Nat -> Heap -> Prop) (J : It) (H' : Hp), itv = .ref it /\ Inv X pins σ H' s2 /\ Turn X.prog X.w X.K tg J fp it tn /\ tn 0 s2.heap /\ (∀ b ∈ fp, Qc9 X pins H' b) /\ R J H'
def PI (X : Cx) (tg iter : Expr) (wi : TI) : Prop :=
 ∀ (pins : List (Addr × Obj)) (s : Shared) (σ : St) (H : Hp) (R : It -> Hp -> Prop), Inv X pins σ H s -> wi σ H R →
  wpAny (model X.prog X.w) X.A (eval iter X.env) (λ v s1 => wpAny (model X.prog X.w) X.A (pyIter v) (PIE X pins σ tg R) X.xe s1) X.xe s
theorem QmW {M : Model} {A : Around} {E : Value -> Shared -> Prop} {s : Shared} {tg : Expr} {it : Addr} {u : Value} {o : Obj} {n : String} {vs : Array Value} {Q : Unit -> Shared -> Prop} (ho : s.heap.get? it = some o) (hc : o.cls = .type n) (hd : o.data = .fields vs)
    (hn : ["enumerate", "zip", "dict_itemiterator", "dict_reverseitemiterator", "odict_iterator", "itertools.zip_longest", "itertools.pairwise"].contains n = false) (hQ : Q () s) : wpAny M A (letOwnedTupleGo tg (.ref it) u) Q E s := by
  unfold letOwnedTupleGo
  cases tg <;> first
    | exact wpAny_pure hQ
    | (cases u <;> first
        | exact wpAny_pure hQ
        | (refine wpAny_bind (wpAny_load ho ?_)
           rw [hc, hd]
           show wpAny M A (if (["enumerate", "zip", "dict_itemiterator", "dict_reverseitemiterator", "odict_iterator", "itertools.zip_longest", "itertools.pairwise"].contains n && vs[0]? == some (rawInt _)) = true then _ else _) Q E s
           rw [if_neg (by intro h; rw [hn, Bool.false_and] at h; cases h)]
           exact wpAny_pure hQ))
noncomputable def Itl (K : PySem.W.Frag) (a : Addr) : It :=
 ⟨λ i H => ∃ xs x, SqL K H a xs /\ xs[i]? = some x, λ i H x H' => H' = H /\ ∀ xs, SqL K H a xs -> xs[i]? = some x, λ i H => ∃ xs, SqL K H a xs /\ xs.length <= i⟩
noncomputable def Itt (K : PySem.W.Frag) (a : Addr) : It :=
 ⟨λ i H => ∃ xs x, SqT K H a xs /\ xs[i]? = some x, λ i H x H' => H' = H /\ ∀ xs, SqT K H a xs -> xs[i]? = some x, λ i H => ∃ xs, SqT K H a xs /\ xs.length <= i⟩
noncomputable def Itr (lo : Int) (n : Nat) : It := ⟨λ i _ => i < n, λ i H x H' => H' = H /\ x = .int (lo + i), λ i _ => n <= i⟩
theorem Qn4 {P : Program} {w : World} {K : PySem.W.Frag} {tg : Expr} (a it : Addr) : Turn P w K tg (Itl K a) [it] it (λ i h => h.IsListIter it a i) where
 mem := by simp
 obj := λ i h st b hb => by
  have e : b = it := by simpa using hb
  subst e
  obtain ⟨o, e, c, d⟩ := st
  exact ⟨o, e, λ v z => by rw [d] at z; cases z⟩
 keep := λ i h h' st k => st.at λ o e => k it (by simp) o e
 item := by
  intro X hP hw hK hc i pins s σ H E I hf st hg
  subst hP hw hK
  obtain ⟨xs, x, hq, hx⟩ := hg
  obtain ⟨its, rv, p, hz⟩ := I.list hq
  obtain ⟨u, hu, ru⟩ := rv.get hx
  obtain ⟨f0, f1, f2, f3, f4, f5⟩ := hf it (by simp)
  refine wpAny_pyNext_list_item st p.isList (x := u) (by simpa using hu) λ h' st' sb => ?_
  have I1 : Inv X pins σ H { s with heap := h' } := I.turned (t' := s.toks) (λ b o hb e => (sb.2 b hb).trans e) f0 f1 f3 f4 f5
  obtain ⟨o, e, c, d⟩ := id st'
  exact ⟨u, rfl, QmW (s := { s with heap := h' }) e c d (by decide) ⟨x, H, I1, ru, ⟨rfl, λ ys hy => by rw [I.QhH hy hq]; exact hx⟩, st', λ b hb => (hf b hb).1⟩⟩
 done := by
  intro X hP hw hK hc i pins s σ H E I hf st hg
  subst hP hw hK
  obtain ⟨xs, hq, hx⟩ := hg
  obtain ⟨its, rv, p, hz⟩ := I.list hq
  obtain ⟨f0, f1, f2, f3, f4, f5⟩ := hf it (by simp)
  have hl := rv.length
  exact wpAny_pyNext_list_end (I.ok.hd hc) st p.isList (by simp; omega) λ h' eb => ⟨rfl, I.turned (t' := s.toks) (λ b o hb e => eb b o hb e) f0 f1 f3 f4 f5⟩
 self := λ _ _ _ _ _ st h => wpAny_pyIter_listiter st h
theorem QmF {P : Program} {w : World} {K : PySem.W.Frag} {tg : Expr} (a it : Addr) : Turn P w K tg (Itt K a) [it] it (λ i h => h.IsTupleIter it a i) where
 mem := by simp
 obj := λ i h st b hb => by
  have e : b = it := by simpa using hb
  subst e
  obtain ⟨o, e, c, d⟩ := st
  exact ⟨o, e, λ v z => by rw [d] at z; cases z⟩
 keep := λ i h h' st k => st.at λ o e => k it (by simp) o e
 item := by
  intro X hP hw hK hc i pins s σ H E I hf st hg
  subst hP hw hK
  obtain ⟨xs, x, hq, hx⟩ := hg
  obtain ⟨its, rv, p, hz⟩ := I.tuple hq
  obtain ⟨u, hu, ru⟩ := rv.get hx
  obtain ⟨f0, f1, f2, f3, f4, f5⟩ := hf it (by simp)
  refine wpAny_pyNext_tuple_item st (show s.heap.IsTuple a its.toArray from p) (x := u) (by simpa using hu) λ h' st' sb => ?_
  have I1 : Inv X pins σ H { s with heap := h' } := I.turned (t' := s.toks) (λ b o hb e => (sb.2 b hb).trans e) f0 f1 f3 f4 f5
  obtain ⟨o, e, c, d⟩ := id st'
  exact ⟨u, rfl, QmW (s := { s with heap := h' }) e c d (by decide) ⟨x, H, I1, ru, ⟨rfl, λ ys hy => by rw [I.QnR hy hq]; exact hx⟩, st', λ b hb => (hf b hb).1⟩⟩
 done := by
  intro X hP hw hK hc i pins s σ H E I hf st hg
  subst hP hw hK
  obtain ⟨xs, hq, hx⟩ := hg
  obtain ⟨its, rv, p, hz⟩ := I.tuple hq
  obtain ⟨f0, f1, f2, f3, f4, f5⟩ := hf it (by simp)
  have hl := rv.length
  exact wpAny_pyNext_tuple_end (I.ok.hd hc) st (show s.heap.IsTuple a its.toArray from p) (by simp; omega) λ h' eb => ⟨rfl, I.turned (t' := s.toks) (λ b o hb e => eb b o hb e) f0 f1 f3 f4 f5⟩
 self := λ _ _ _ _ _ st h => wpAny_pyIter_tupleiter st h
theorem QmC {P : Program} {w : World} {K : PySem.W.Frag} {tg : Expr} (it : Addr) (lo : Int) (n : Nat) : Turn P w K tg (Itr lo n) [it] it (λ i h => IsRangeIter h it (lo + (i : Nat) * 1) ((n : Int) - (i : Nat)) 1) where
 mem := by simp
 obj := λ i h st b hb => by
  have e : b = it := by simpa using hb
  subst e
  exact ⟨_, st, λ v z => by
   have z' : Data.fields _ = Data.cell v := z
   cases z'⟩
 keep := λ i h h' st k => k it (by simp) _ st
 item := by
  intro X hP hw hK hc i pins s σ H E I hf st hg
  subst hP hw hK
  obtain ⟨f0, f1, f2, f3, f4, f5⟩ := hf it (by simp)
  have W := Walks.range (prog := X.prog) (w := X.w) (I.ok.hd hc) it lo 1 n
  refine W.item i s _ _ hg st λ v h' tk hv st' kk => ?_
  obtain ⟨t, rfl⟩ := hv
  have I1 : Inv X pins σ H { s with heap := h', toks := tk } := I.turned (λ b o hb e => kk b o (by simpa using hb) e) f0 f1 f3 f4 f5
  refine ⟨_, rfl, QmW (s := { s with heap := h', toks := tk }) (n := "range_iterator") st' rfl rfl (by decide) ⟨.int (lo + i), H, I1, ⟨t, ?_⟩, ⟨rfl, rfl⟩, st', λ b hb => (hf b hb).1⟩⟩
  rw [ZbB]
 done := by
  intro X hP hw hK hc i pins s σ H E I hf st hg
  subst hP hw hK
  obtain ⟨f0, f1, f2, f3, f4, f5⟩ := hf it (by simp)
  exact wpAny_pyNext_range_end (I.ok.hd hc) st (by have : n <= i := hg; omega) λ h' eb => ⟨rfl, I.turned (t' := s.toks) (λ b o hb e => eb b o hb e) f0 f1 f3 f4 f5⟩
 self := λ _ _ _ _ _ st h => wpAny_pyIter_rangeiter st h
end L2
namespace L2
open PySem PySem.Spec PyProof.Rows
section
variable {X : Cx} {tg : Expr}
theorem QkY {pins : List (Addr × Obj)} {σ : St} {H : Hp} {s : Shared} {R : It -> Hp -> Prop} {E : Value -> Shared -> Prop} {lo hi : Int} {t u v : Tok} {tk : Nat} (I : Inv X pins σ H s) (h1 : -(2 ^ 62) <= lo) (h2 : lo < 2 ^ 62) (h3 : -(2 ^ 62) <= hi) (h4 : hi < 2 ^ 62)
  (q : R (Itr lo (hi - lo).toNat) H) : wpAny (model X.prog X.w) X.A (pyIter (.ref s.heap.objs.size)) (PIE X pins σ tg R) E { s with heap := s.heap.push { cls := .type "range", data := .fields #[.int lo t, .int hi u, .int 1 v] }, toks := tk } := by
 refine wpAny_pyIter_range (IsRange.new ..) (small_one h1 h2 h3 h4) ?_
 have I1 : Inv X pins σ H { s with heap := s.heap.push { cls := .type "range", data := .fields #[.int lo t, .int hi u, .int 1 v] }, toks := tk } := I.kept λ b o e => Zs _ e
 refine ⟨(s.heap.push { cls := .type "range", data := .fields #[.int lo t, .int hi u, .int 1 v] }).objs.size, [(s.heap.push { cls := .type "range", data := .fields #[.int lo t, .int hi u, .int 1 v] }).objs.size], _, _, H, rfl,
  I1.kept (t' := tk) λ b o e => Zs _ e, QmC _ lo (hi - lo).toNat, ?_, λ b hb => ?_, q⟩
 ·have e1 : lo + ((0 : Nat) : Int) * 1 = lo := by simp
  have e2 : (((hi - lo).toNat : Nat) : Int) - ((0 : Nat) : Int) = Builtin.Range.rangeSize lo hi 1 := by rw [rangeSize_one]; split <;> omega
  show IsRangeIter _ _ (lo + ((0 : Nat) : Int) * 1) ((((hi - lo).toNat : Nat) : Int) - ((0 : Nat) : Int)) 1
  rw [e1, e2]
  exact ZF _ rfl
 ·have e : b = (s.heap.push { cls := .type "range", data := .fields #[.int lo t, .int hi u, .int 1 v] }).objs.size := by simpa using hb
  subst e
  exact I1.Qmf (Zn _) (I1.hok.fresh (Zn _))
noncomputable def QtT (ta : TA) : TI := λ σ H R => ta σ H λ vs H1 => ∃ j : Int, vs = [.int j] /\ -(2 ^ 62) <= j /\ j < 2 ^ 62 /\ R (Itr 0 j.toNat) H1
noncomputable def QtJ (ta : TA) : TI := λ σ H R => ta σ H λ vs H1 => ∃ i j : Int, vs = [.int i, .int j] /\ (-(2 ^ 62) <= i /\ i < 2 ^ 62 /\ -(2 ^ 62) <= j /\ j < 2 ^ 62) /\ R (Itr i (j - i).toNat) H1
theorem Qn3 {a : Expr} {ta : TA} {p pos : Pos} (hg : Gl X "range") (hm : X.mg "range" = none) (ha : PA X [a] ta) (hs : starEach [a] X.env = [(false, eval a X.env)] := by rfl) : PI X tg (.Call (.Name "range" p) [a] [] pos) (QtT ta) := by
 intro pins s σ H R I h
 refine Call_ (Qc2 I hg hm boot_range (ZR (thn (ha pos pins s σ H _ I h) λ us s1 ⟨vs, H1, I1, r1, q1⟩ => ?_) hs rfl))
 obtain ⟨j, e, q1, q2, q⟩ := q1
 subst e
 cases r1 with
 | cons r rr =>
  cases rr
  obtain ⟨t, rfl⟩ := r
  exact call_range_1 (QkY I1 (by omega) (by omega) q1 q2 (by simpa using q))
theorem QnF {a b : Expr} {ta : TA} {p pos : Pos} (hg : Gl X "range") (hm : X.mg "range" = none) (ha : PA X [a, b] ta) (hs : starEach [a, b] X.env = [(false, eval a X.env), (false, eval b X.env)] := by rfl) (hs2 : starEach [b] X.env = [(false, eval b X.env)] := by rfl) :
  PI X tg (.Call (.Name "range" p) [a, b] [] pos) (QtJ ta) := by
 intro pins s σ H R I h
 refine Call_ (Qc2 I hg hm boot_range (ZR (thn (ha pos pins s σ H _ I h) λ us s1 ⟨vs, H1, I1, r1, q1⟩ => ?_) (by rw [hs, hs2]) (by rw [hs2]; rfl)))
 obtain ⟨i, j, e, ⟨q1, q2, q3, q4⟩, q⟩ := q1
 subst e
 cases r1 with
 | cons r rr =>
  cases rr with
  | cons r' rr =>
   cases rr
   obtain ⟨t, rfl⟩ := r
   obtain ⟨t', rfl⟩ := r'
   exact call_range_2 (QkY I1 q1 q2 q3 q4 q)
noncomputable def Quw (wi : TI) (g : TG) (tb : TS) : TS := λ D σ H => wi σ H λ J H1 => ∃ W : Nat -> Nat -> St -> Hp -> Prop, (∃ m, W 0 m σ H1) /\ ∀ i m σ H, W i m σ H →
 (J.stop i H /\ D.nx σ H) ∨ (J.go i H /\ ∃ N : St -> Hp -> Prop, (∀ σ' H', N σ' H' -> ∃ m', m' < m /\ W (i + 1) m' σ' H') /\ ∀ x H', J.yld i H x H' -> g x σ H' λ σ2 H2 => tb { D with nx := N, ct := N, bk := D.nx } σ2 H2)
noncomputable def Qgl (fp : List Addr) (h : Heap) : List (Addr × Obj) := fp.filterMap λ b => (h.get? b).map λ o => (b, o)
theorem Qfr {fp : List Addr} {h : Heap} {b : Addr} {o : Obj} (hb : b ∈ fp) (e : h.get? b = some o) : (b, o) ∈ Qgl fp h := Zaw.mpr ⟨b, hb, by rw [e]; rfl⟩
theorem Qnj {fp : List Addr} {h : Heap} {p : Addr × Obj} (hp : p ∈ Qgl fp h) : p.1 ∈ fp /\ h.get? p.1 = some p.2 := by
 obtain ⟨b, hb, e⟩ := Zaw.mp hp
 cases q : h.get? b with
 | none => rw [q] at e; cases e
 | some o =>
  rw [q] at e
  have e' : (b, o) = p := Option.some.inj e
  subst e'
  exact ⟨hb, q⟩
theorem Inv.pinned {pins : List (Addr × Obj)} {σ : St} {H : Hp} {s : Shared} {fp : List Addr} (I : Inv X pins σ H s) (hf : ∀ b ∈ fp, Qc9 X pins H b) (ho : ∀ b ∈ fp, ∃ o, s.heap.get? b = some o /\ ∀ v, o.data ≠ .cell v) : Inv X (pins ++ Qgl fp s.heap) σ H s :=
 I.QlN λ p hp => (ZD.mp hp).elim (λ z => I.pin p (Zc _ z)) λ z => by
  obtain ⟨hb, e⟩ := Qnj z
  obtain ⟨f0, f1, f2, _⟩ := hf p.1 hb
  obtain ⟨o, e', d⟩ := ho p.1 hb
  rw [e] at e'; cases e'
  exact ⟨e, f0, f1, f2, d⟩
theorem Inv.QfB {pins pl : List (Addr × Obj)} {σ : St} {H : Hp} {s : Shared} (I : Inv X (pins ++ pl) σ H s) : Inv X pins σ H s := I.QlN λ p hp => I.pin p (Zc _ (Ze _ hp))
theorem Qon {iter : Expr} {body : List Stmt} {wi : TI} {g : TG} {tb : TS} {pos : Pos} (hp : PassesOwn (model X.prog X.w) X.A X.env X.xe) (hc : X.calm = true) (hi : PI X tg iter wi) (hg : PG X tg g) (hb : PSs X body tb)
  (hs : ∀ x, foldedSetIterable iter X.env x = pure x := by intro _; rfl) : PS X (.For tg iter body [] pos) (Quw wi g tb) := by
 intro pins s σ H D I h
 refine wpAny_For (thn (hi pins s σ H _ I h) λ v s1 h1 => thn h1 λ itv s2 h2 => ?_) hs
 obtain ⟨it, fp, tn, J, H2, e, I2, T, st2, f2, W, ⟨m0, w0⟩, turn⟩ := h2
 subst e
 have stat : ∀ {H' : Hp}, (∀ b ∈ fp, H' b = none) -> ∀ b ∈ fp, Qc9 X pins H' b := λ hn b hb => ⟨hn b hb, (f2 b hb).2⟩
 refine codeAny_forLoop_any (λ n s' => ∃ i σ' H', Inv X pins σ' H' s' /\ tn i s'.heap /\ (∀ b ∈ fp, H' b = none) /\ W i n σ' H') ?_ m0 ⟨0, σ, H2, I2, st2, λ b hb => (f2 b hb).1, w0⟩
 rintro n s3 ⟨i, σ3, H3, I3, st3, fr3, w3⟩
 rcases turn i n σ3 H3 w3 with ⟨stop, qn⟩ | ⟨go, N, hN, step⟩
 ·refine wpAny_passesOwn hp (thn (T.done X rfl rfl rfl hc i pins s3 σ3 H3 X.xe I3 (stat fr3) st3 stop) λ r s4 ⟨hr, I4⟩ => ?_)
  subst hr
  exact wpAny_execs_nil ⟨σ3, H3, I4, qn⟩
 ·refine wpAny_passesOwn hp (thn (T.item X rfl rfl rfl hc i pins s3 σ3 H3 X.xe I3 (stat fr3) st3 go) λ r s4 ⟨u, hr, h4⟩ => ?_)
  subst hr
  refine wpAny_passesOwn hp (thn h4 λ _ s5 ⟨x, H5, I5, r5, y5, st5, fr5⟩ => ?_)
  have I5' := I5.pinned (stat fr5) (T.obj _ _ st5)
  refine wpAny_passesOwn hp (thn (hg _ s5 σ3 H5 x u _ I5' r5 (step x H5 y5)) λ _ s6 ⟨σ6, H6, I6, q6⟩ => ?_)
  refine wpAny_passesOwn hp (thn (hb _ s6 σ6 H6 _ I6 q6) λ f s7 q7 => ?_)
  have again : ∀ {σ7 : St} {H7 : Hp}, Inv X (pins ++ Qgl fp s5.heap) σ7 H7 s7 -> N σ7 H7 -> ∃ m, m < n /\ ∃ i σ' H', Inv X pins σ' H' s7 /\ tn i s7.heap /\ (∀ b ∈ fp, H' b = none) /\ W i m σ' H' := λ {σ7 H7} I7 n7 => by
   obtain ⟨m', hm, w7⟩ := hN σ7 H7 n7
   refine ⟨m', hm, i + 1, σ7, H7, I7.QfB, T.keep _ _ _ st5 λ b hb o e => (I7.pin (b, o) (Zc _ (Zc _ (Qfr hb e)))).1, λ b hb => ?_, w7⟩
   obtain ⟨o, e, d⟩ := T.obj _ _ st5 b hb
   exact (I7.pin (b, o) (Zc _ (Zc _ (Qfr hb e)))).2.1
  cases f with
  | next => obtain ⟨σ7, H7, I7, n7⟩ := q7; exact again I7 n7
  | cont => obtain ⟨σ7, H7, I7, n7⟩ := q7; exact again I7 n7
  | brk => obtain ⟨σ7, H7, I7, q7⟩ := q7; exact ⟨σ7, H7, I7.QfB, q7⟩
  | ret v => obtain ⟨x7, σ7, H7, I7, r7, q7⟩ := q7; exact ⟨x7, σ7, H7, I7.QfB, r7, q7⟩
end
end L2
namespace L2
open PySem PySem.Spec PyProof.Rows
noncomputable abbrev R2 := V -> V -> Hp -> VK -> Prop
def OpR (X : Cx) (f : Value -> Value -> Sem Value) (r : R2) : Prop :=
 ∀ (pins : List (Addr × Obj)) (s : Shared) (σ : St) (H : Hp) (x y : V) (v u : Value) (Q : VK), Inv X pins σ H s -> RelV x v -> RelV y u -> r x y H Q →
  wpAny (model X.prog X.w) X.A (f v u) (EP X pins σ Q) X.xe s
def UnR (X : Cx) (f : Value -> Sem Value) (r : V -> Hp -> VK -> Prop) : Prop :=
 ∀ (pins : List (Addr × Obj)) (s : Shared) (σ : St) (H : Hp) (x : V) (v : Value) (Q : VK), Inv X pins σ H s -> RelV x v -> r x H Q →
  wpAny (model X.prog X.w) X.A (f v) (EP X pins σ Q) X.xe s
def QbY (X : Cx) (f : Value) (r : List V -> Hp -> VK -> Prop) : Prop :=
 ∀ (pins : List (Addr × Obj)) (s : Shared) (σ : St) (H : Hp) (xs : List V) (us : List Value) (Q : VK), Inv X pins σ H s -> Qr xs us -> r xs H Q →
  wpAny (model X.prog X.w) X.A (call f us) (EP X pins σ Q) X.xe s
def QuI (X : Cx) (r : V -> Hp -> (Bool -> Hp -> Prop) -> Prop) : Prop :=
 ∀ (pins : List (Addr × Obj)) (s : Shared) (σ : St) (H : Hp) (x : V) (v : Value) (Q : Bool -> Hp -> Prop), Inv X pins σ H s -> RelV x v -> r x H Q →
  wpAny (model X.prog X.w) X.A (truthy v) (TP X pins σ Q) X.xe s
noncomputable def tOp (r : R2) (ta tb : TE) : TE := λ σ H Q => ta σ H λ x H1 => tb σ H1 λ y H2 => r x y H2 Q
noncomputable def tUn (r : V -> Hp -> VK -> Prop) (ta : TE) : TE := λ σ H Q => ta σ H λ x H1 => r x H1 Q
noncomputable def rI (C : Int -> Int -> Prop) (g : Int -> Int -> V) : R2 := λ x y H Q => ∃ i j, x = .int i /\ y = .int j /\ C i j /\ Q (g i j) H
noncomputable def rI0 (g : Int -> Int -> V) : R2 := λ x y H Q => ∃ i j, x = .int i /\ y = .int j /\ Q (g i j) H
noncomputable def rU (g : Int -> V) : V -> Hp -> VK -> Prop := λ x H Q => ∃ i, x = .int i /\ Q (g i) H
section
variable {X : Cx} {a b c : Expr} {ta tb tc : TE} {pos : Pos}
theorem QpD (ha : PE X a ta) (hb : PE X b tb) {pins : List (Addr × Obj)} {s : Shared} {σ : St} {H : Hp} {R : V -> V -> Hp -> Prop} (I : Inv X pins σ H s)
  (h : ta σ H λ x H1 => tb σ H1 λ y H2 => R x y H2) {Q : Value -> Shared -> Prop} {f : Value -> Value -> Sem Value}
  (hf : ∀ v u s2 x y H2, Inv X pins σ H2 s2 -> RelV x v -> RelV y u -> R x y H2 -> wpAny (model X.prog X.w) X.A (f v u) Q X.xe s2) :
  wpAny (model X.prog X.w) X.A (eval a X.env) (λ v s₁ => wpAny (model X.prog X.w) X.A (eval b X.env) (λ u s₂ => wpAny (model X.prog X.w) X.A (f v u) Q X.xe s₂) X.xe s₁) X.xe s := by
 refine thn (ha pins s σ H _ I h) λ v s1 ⟨x, H1, I1, r1, q1⟩ => ?_
 refine thn (hb pins s1 σ H1 _ I1 q1) λ u s2 ⟨y, H2, I2, r2, q2⟩ => ?_
 exact hf v u s2 x y H2 I2 r1 r2 q2
theorem QmX {op : Operator} {r : R2} (ho : OpR X (binaryOp op) r) (ha : PE X a ta) (hb : PE X b tb) : PE X (.BinOp a op b pos) (tOp r ta tb) := by
 intro pins s σ H Q I h
 exact wpAny_BinOp (QpD ha hb I h λ v u s2 x y H2 I2 rx ry q => ho pins s2 σ H2 x y v u Q I2 rx ry q)
theorem QtO {op : UnaryOp} {r : V -> Hp -> VK -> Prop} (ho : UnR X (unaryOp op) r) (ha : PE X a ta) : PE X (.UnaryOp op a pos) (tUn r ta) := by
 intro pins s σ H Q I h
 exact UnaryOp_ (thn (ha pins s σ H _ I h) λ v s1 ⟨x, H1, I1, r1, q1⟩ => ho pins s1 σ H1 x v Q I1 r1 q1)
theorem opI {f : Value -> Value -> Sem Value} {C : Int -> Int -> Prop} {g : Int -> Int -> Int}
  (rule : ∀ (i j : Int) (t u : Tok) (s : Shared) (Q : Value -> Shared -> Prop) (E : Value -> Shared -> Prop), C i j -> Q (.int (g i j) s.toks) { s with toks := s.toks + 1 } -> wpAny (model X.prog X.w) X.A (f (.int i t) (.int j u)) Q E s) :
  OpR X f (rI C λ i j => .int (g i j)) := by
 intro pins s σ H x y v u Q I rx ry h
 obtain ⟨i, j, rfl, rfl, hc, q⟩ := h
 obtain ⟨t, rfl⟩ := rx
 obtain ⟨t', rfl⟩ := ry
 exact rule i j t t' s _ _ hc ⟨.int (g i j), H, I.tok _, ⟨_, rfl⟩, q⟩
theorem Qs5 {f : Value -> Value -> Sem Value} {g : Int -> Int -> Int}
  (rule : ∀ (i j : Int) (t u : Tok) (s : Shared) (Q : Value -> Shared -> Prop) (E : Value -> Shared -> Prop), Q (.int (g i j) s.toks) { s with toks := s.toks + 1 } -> wpAny (model X.prog X.w) X.A (f (.int i t) (.int j u)) Q E s) :
  OpR X f (rI0 λ i j => .int (g i j)) := by
 intro pins s σ H x y v u Q I rx ry h
 obtain ⟨i, j, rfl, rfl, q⟩ := h
 obtain ⟨t, rfl⟩ := rx
 obtain ⟨t', rfl⟩ := ry
 exact rule i j t t' s _ _ ⟨.int (g i j), H, I.tok _, ⟨_, rfl⟩, q⟩
theorem Qmb {f : Value -> Value -> Sem Value} {g : Int -> Int -> Bool}
  (rule : ∀ (i j : Int) (t u : Tok) (s : Shared) (Q : Value -> Shared -> Prop) (E : Value -> Shared -> Prop), Q (.bool (g i j)) s -> wpAny (model X.prog X.w) X.A (f (.int i t) (.int j u)) Q E s) :
  OpR X f (rI0 λ i j => .bl (g i j)) := by
 intro pins s σ H x y v u Q I rx ry h
 obtain ⟨i, j, rfl, rfl, q⟩ := h
 obtain ⟨t, rfl⟩ := rx
 obtain ⟨t', rfl⟩ := ry
 exact rule i j t t' s _ _ ⟨.bl (g i j), H, I, rfl, q⟩
def Qr2 (i j : Int) : Prop := (-(2 ^ 64) < i /\ i < 2 ^ 64) ∨ (-(2 ^ 64) < j /\ j < 2 ^ 64)
theorem Qr2.ok {i j : Int} (h : Qr2 i j) : IntMulOk i j := by
 rcases h with ⟨h1, h2⟩ | ⟨h1, h2⟩
 ·exact .of_left (intBits_le_64 h1 h2)
 ·exact .of_right (intBits_le_64 h1 h2)
theorem Qsn : OpR X (binaryOp .Add) (rI0 λ i j => .int (i + j)) := Qs5 λ _ _ _ _ _ _ _ q => add_int q
theorem QsS : OpR X (binaryOp .Sub) (rI0 λ i j => .int (i - j)) := Qs5 λ _ _ _ _ _ _ _ q => sub_int q
theorem unI {f : Value -> Sem Value} {g : Int -> Int}
  (rule : ∀ (i : Int) (t : Tok) (s : Shared) (Q : Value -> Shared -> Prop) (E : Value -> Shared -> Prop), Q (.int (g i) s.toks) { s with toks := s.toks + 1 } -> wpAny (model X.prog X.w) X.A (f (.int i t)) Q E s) :
  UnR X f (rU λ i => .int (g i)) := by
 intro pins s σ H x v Q I rx h
 obtain ⟨i, rfl, q⟩ := h
 obtain ⟨t, rfl⟩ := rx
 exact rule i t s _ _ ⟨.int (g i), H, I.tok _, ⟨_, rfl⟩, q⟩
theorem QsU : UnR X (unaryOp .USub) (rU λ i => .int (-i)) := unI λ _ _ _ _ _ q => neg_int q
end
section
variable {X : Cx} {a b c : Expr} {ta tb tc : TE} {pos : Pos}
theorem Qth : OpR X (compareOp .Lt) (rI0 λ i j => .bl (decide (i < j))) := Qmb λ _ _ _ _ _ _ _ q => lt_int q
theorem Qtm : OpR X (compareOp .LtE) (rI0 λ i j => .bl (decide (i <= j))) := Qmb λ _ _ _ _ _ _ _ q => le_int q
theorem Qts : OpR X (compareOp .Gt) (rI0 λ i j => .bl (decide (j < i))) := Qmb λ _ _ _ _ _ _ _ q => gt_int q
theorem QtV : OpR X (compareOp .GtE) (rI0 λ i j => .bl (decide (j <= i))) := Qmb λ _ _ _ _ _ _ _ q => ge_int q
theorem OpR.or {f : Value -> Value -> Sem Value} {r r' : R2} (h : OpR X f r) (h' : OpR X f r') : OpR X f (λ x y H Q => r x y H Q ∨ r' x y H Q) := by
 intro pins s σ H x y v u Q I rx ry q
 rcases q with q | q
 ·exact h pins s σ H x y v u Q I rx ry q
 ·exact h' pins s σ H x y v u Q I rx ry q
theorem Qu1 (b : Expr) {op : CmpOp} (h : op ≠ .In := by decide) (h2 : op ≠ .NotIn := by decide) : behindInMarks op b = false := by
 have e1 : (op == CmpOp.In) = false := by cases op <;> first | rfl | exact absurd rfl h
 have e2 : (op == CmpOp.NotIn) = false := by cases op <;> first | rfl | exact absurd rfl h2
 cases b <;> simp [behindInMarks, e1, e2]
theorem QqY {op : CmpOp} {r : R2} (ho : OpR X (compareOp op) r) (ha : PE X a ta) (hb : PE X b tb) (hm : behindInMarks op b = false) : PE X (.Compare a [op] [b] pos) (tOp r ta tb) := by
 intro pins s σ H Q I h
 exact wpAny_Compare1 (QpD ha hb I h λ v u s2 x y H2 I2 rx ry q => ho pins s2 σ H2 x y v u Q I2 rx ry q) hm
noncomputable def Qtk (t : TE) : TT := λ σ H Q => t σ H λ x H' => ∃ k, x = .bl k /\ Q k H'
theorem Qqv {op : CmpOp} {r : R2} (ho : OpR X (compareOp op) r) (ha : PE X a ta) (hb : PE X b tb) (hm : behindInMarks op b = false) : PT X (.Compare a [op] [b] pos) (Qtk (tOp r ta tb)) := by
 intro pins s σ H Q I h
 refine wpAny_isTrue_Compare1 (thn (ha pins s σ H _ I h) λ v s1 ⟨x, H1, I1, r1, q1⟩ => thn (hb pins s1 σ H1 _ I1 q1) λ u s2 ⟨y, H2, I2, r2, q2⟩ =>
  thn (ho pins s2 σ H2 x y v u _ I2 r1 r2 q2) λ c s3 ⟨z, H3, I3, r3, k, e, q3⟩ => ?_) hm
 subst e
 cases r3
 exact wpAny_truthy_bool ⟨H3, I3, q3⟩
def QoD (K : PySem.W.Frag) (x : V) (H : Hp) (k : Bool) : Prop :=
 match x with
 | .non => k = false
 | .bl b => k = b
 | .int i => k = (i != 0)
 | .str y => y.length <= sizeLine /\ k = ((y.length : Int) != 0)
 | .byt y => y.size <= sizeLine /\ k = ((y.size : Int) != 0)
 | .ref p => (∃ xs, SqL K H p xs /\ k = !xs.isEmpty) ∨ (∃ xs, SqT K H p xs /\ k = !xs.isEmpty) ∨ ∃ kvs, H p = some (.dK kvs) /\ k = !kvs.isEmpty
 | _ => False
theorem QmE {κ : Type} {kvs : List (κ × V)} {vs : List (κ × Value)} (r : KV kvs vs) : (!vs.isEmpty) = !kvs.isEmpty := by
 cases r <;> rfl
theorem QhK {xs : List V} {its : List Value} (r : Qr xs its) : (!its.toArray.isEmpty) = !xs.isEmpty := by
 cases r <;> simp
theorem Qf6 : (sizeLine : Nat) < 2 ^ 63 := by rw [sizeLine_eq]; decide
theorem Qik : QuI X (λ x H Q => ∃ k, QoD X.K x H k /\ Q k H) := by
 intro pins s σ H x v Q I rx h
 obtain ⟨k, e, q⟩ := h
 have hl := Qf6
 have hs : sizeLine = 16777216 := sizeLine_eq
 cases x with
 | non =>
  cases rx
  have e' : k = false := e
  subst e'
  exact truthy_none ⟨H, I, q⟩
 | bl b =>
  cases rx
  have e' : k = b := e
  subst e'
  exact wpAny_truthy_bool ⟨H, I, q⟩
 | int i =>
  obtain ⟨t, rfl⟩ := rx
  have e' : k = (i != 0) := e
  subst e'
  exact PySem.P.truthy_int ⟨H, I, q⟩
 | str y =>
  obtain ⟨t, rfl⟩ := rx
  obtain ⟨hy, e'⟩ : y.length <= sizeLine /\ k = ((y.length : Int) != 0) := e
  subst e'
  exact PySem.P.truthy_str (by omega) ⟨H, I.tok _, q⟩
 | byt y =>
  obtain ⟨t, rfl⟩ := rx
  obtain ⟨hy, e'⟩ : y.size <= sizeLine /\ k = ((y.size : Int) != 0) := e
  subst e'
  exact PySem.W.truthy_bytes (by omega) ⟨H, I.tok _, q⟩
 | ref p =>
  cases rx
  have e' : (∃ xs, SqL X.K H p xs /\ k = !xs.isEmpty) ∨ (∃ xs, SqT X.K H p xs /\ k = !xs.isEmpty) ∨ ∃ kvs, H p = some (.dK kvs) /\ k = !kvs.isEmpty := e
  rcases e' with ⟨xs, hx, e'⟩ | ⟨xs, hx, e'⟩ | ⟨kvs, hx, e'⟩
  ·subst e'
   obtain ⟨its, r, pl, hz⟩ := I.list hx
   have hlen := r.length
   exact wpAny_truthy_list pl.isList (by simp only [Zt]; omega) ⟨H, I.tok _, by rw [QhK r]; exact q⟩
  ·subst e'
   obtain ⟨its, r, pl, hz⟩ := I.tuple hx
   have hlen := r.length
   exact truthy_tuple pl (by simp only [Zt]; omega) ⟨H, I.tok _, by rw [QhK r]; exact q⟩
  ·subst e'
   obtain ⟨hz, hS, vs, r, m⟩ : kvs.length <= sizeLine /\ (p == sysModules) = false /\ ∃ vs, KV kvs vs /\ s.heap.DictOf (Qje X.prog X.w) p vs := I.hok p _ hx
   have hlen : kvs.length = vs.length := Paired.length r
   exact wpAny_truthy_dict hS m (by omega) ⟨H, I.tok _, by rw [QmE r]; exact q⟩
 | _ => exact (show False from e).elim
theorem Qpy (ha : PE X a ta) (he : ∀ whole, isTrue a X.env whole = (do let v ← whole; standAt a.pos; holding [v] (truthy v))) :
  PT X a (λ σ H Q => ta σ H λ x H' => ∃ k, QoD X.K x H' k /\ Q k H') := by
 intro pins s σ H Q I h
 exact isTrue_plain (thn (ha pins s σ H _ I h) λ v s1 ⟨x, H1, I1, r1, q1⟩ => Qik pins s1 σ H1 x v Q I1 r1 q1) (he _)
theorem vals1 {x : V} {us : List Value} (r : Qr [x] us) : ∃ u, us = [u] /\ RelV x u := by
 cases r with
 | cons r1 r2 => cases r2; exact ⟨_, rfl, r1⟩
theorem vals2 {x y : V} {us : List Value} (r : Qr [x, y] us) : ∃ u w', us = [u, w'] /\ RelV x u /\ RelV y w' := by
 cases r with
 | cons r1 r2 =>
  cases r2 with
  | cons r3 r4 => cases r4; exact ⟨_, _, rfl, r1, r3⟩
theorem QoK : QbY X (.builtin "abs") (λ xs H Q => ∃ i, xs = [.int i] /\ Q (.int (if i < 0 then -i else i)) H) := by
 intro pins s σ H xs us Q I r h
 obtain ⟨i, rfl, q⟩ := h
 obtain ⟨u, rfl, t, rfl⟩ := vals1 r
 exact call_abs_int λ u tk => ⟨.int (if i < 0 then -i else i), H, I.tok _, ⟨_, rfl⟩, q⟩
theorem Qm6 (hc : X.calm = true) : QbY X (.builtin "min") (λ xs H Q => ∃ i j, xs = [.int i, .int j] /\ Q (.int (if j < i then j else i)) H) := by
 intro pins s σ H xs us Q I r h
 obtain ⟨i, j, rfl, q⟩ := h
 obtain ⟨u, w', rfl, ⟨t, rfl⟩, ⟨t', rfl⟩⟩ := vals2 r
 refine min_two_ints (I.ok.hd hc) λ h' tk k => ⟨_, H, I.kept k, ?_, q⟩
 by_cases hj : j < i
 ·rw [if_pos hj, if_pos hj]; exact ⟨_, rfl⟩
 ·rw [if_neg hj, if_neg hj]; exact ⟨_, rfl⟩
end
end L2
namespace L2
open PySem PySem.Spec PyProof.Rows
structure Qs9 (h : Heap) (x dx C : Addr) (mA : Str -> Option Value) : Prop where
 obj : h.get? x = some (PySem.W.instObj C dx)
 ns : h.Ns1 dx mA
 ne : dx ≠ x
theorem Qot {h : Heap} {dx : Addr} {mA : Str -> Option Value} (n : h.Ns1 dx mA) : ∃ od, h.get? dx = some od /\ ∀ name, PySem.W.lookIn name od = some (mA name) := by
 obtain ⟨o, es, ep, ho, hd, hk, _, hm⟩ := n
 refine ⟨o, ho, λ name => ?_⟩
 have e := hm name
 unfold nsFind findBy at e
 rw [← Array.find?_toList] at e
 unfold PySem.W.lookIn
 rw [hd]
 dsimp only
 split
 ·rename_i y q
  rw [q] at e
  exact congrArg some e
 ·rename_i q
  rw [q] at e
  have a : es.toList.any (·.refKey) = false := by
   rw [List.any_eq_false]
   intro y hy
   obtain ⟨z, t, hkey⟩ := hk y (Array.mem_toList_iff.mp hy)
   simp [DictEntry.refKey, hkey]
  have a' : ¬ es.toList.any (·.refKey) = true := by rw [a]; exact ZE
  rw [if_neg a']
  exact congrArg some e
theorem Qs9.look {h : Heap} {x dx C : Addr} {mA : Str -> Option Value} (I : Qs9 h x dx C mA) : ∃ od, PySem.W.InstAt h x (PySem.W.instObj C dx) C (some od) /\ ∀ name, PySem.W.lookIn name od = some (mA name) :=
 let ⟨od, ho, hl⟩ := Qot I.ns
 ⟨od, ⟨I.obj, rfl, rfl, ho⟩, hl⟩
section
variable {prog : Program} {w : World} {A : Around} {E : Value -> Shared -> Prop} {s : Shared} {K : PySem.W.Frag} {x dx C f : Addr} {mA : Str -> Option Value} {name : Str} {v : Value}
end
theorem QiS.some_of {v : V} {o : Option Value} (r : QiS (some v) o) : ∃ u, o = some u /\ RelV v u := by
 cases o with
 | none => exact (show False from r).elim
 | some u => exact ⟨u, rfl, r⟩
theorem QiS.none_of {o : Option Value} (r : QiS none o) : o = none := by
 cases o with
 | none => rfl
 | some u => exact (show False from r).elim
section
variable {P : Program} {w : World} {H H' : Hp} {h h' : Heap} {a C dx : Addr} {fs fs' : List (Str × V)}
end
structure Cls (K : PySem.W.Frag) (C : Addr) : Prop where
 pg : PySem.W.plainGet K C Str.empty = true
 hd : PySem.W.hasDictIn K C = true
 po : PySem.W.plainOver K C = true
 sa : PySem.W.findIn K (.ref C) "__setattr__" = some (some (.builtin "object.__setattr__"))
theorem Cls.get {K : PySem.W.Frag} {C : Addr} (c : Cls K C) (f : Str) : PySem.W.plainGet K C f = true := c.pg
structure Con (K : PySem.W.Frag) (C : Addr) (f : Str) (v : V) (u : Value) : Prop where
 at_ : PySem.W.findIn K (.ref C) f = some (some u)
 rel : RelV v u
 get : PySem.W.specialIn K u "__get__" = some none
 cp : PySem.W.copiedNames.contains f = false
structure Qu4 (K : PySem.W.Frag) (C : Addr) (m : Str) (f : Addr) : Prop where
 at_ : PySem.W.findIn K (.ref C) m = some (some (.ref f))
 fn : PySem.W.isFn K (.ref f) = true
 kp : PySem.W.keepIn K (.ref f) = true
section
variable {X : Cx} {pins : List (Addr × Obj)} {σ : St} {H : Hp} {s : Shared} {a C dx : Addr} {fs : List (Str × V)} {f : Str} {v : V} {A : Around} {E : Value -> Shared -> Prop}
theorem Inv.made (I : Inv X pins σ H s) : Inv X pins σ (upd (upd H s.heap.objs.size (.own (s.heap.objs.size + 1))) (s.heap.objs.size + 1) (.ins C s.heap.objs.size []))
  { s with heap := (s.heap.push PySem.W.emptyDict).push (PySem.W.instObj C s.heap.objs.size) } := by
 have e1 : (s.heap.push PySem.W.emptyDict).get? s.heap.objs.size = some PySem.W.emptyDict := ZF s.heap rfl
 have e2 : ((s.heap.push PySem.W.emptyDict).push (PySem.W.instObj C s.heap.objs.size)).get? (s.heap.objs.size + 1) = some (PySem.W.instObj C s.heap.objs.size) := by
  have := ZF (s.heap.push PySem.W.emptyDict) (o := PySem.W.instObj C s.heap.objs.size) rfl
  rwa [ZaE] at this
 have e3 : (s.heap.push PySem.W.emptyDict).Ns s.heap.objs.size (λ _ => none) := ⟨PySem.W.emptyDict, #[], _, e1, rfl, (λ e he => absurd he (by simp)), λ _ => rfl⟩
 have I1 := I.laid (a := s.heap.objs.size) (o := .own (s.heap.objs.size + 1)) (h' := s.heap.push PySem.W.emptyDict) (t' := s.toks) (λ b u q => Zs _ q) (Zn _) ⟨_, e1⟩
 refine I1.laid (a := s.heap.objs.size + 1) (o := .ins C s.heap.objs.size []) (t' := s.toks) (λ b u q => Zs _ q) (Nat.le_of_eq (ZaE _ _)) ?_
 have ne : s.heap.objs.size ≠ s.heap.objs.size + 1 := ZG (ZaS _)
 refine ⟨by rw [Qx ne, QX], ZK _, ne, e2, λ _ => none, (Heap.Ns1.of_empty e3).at λ o q => Zs _ q, λ _ => True.intro, λ y hy => absurd rfl hy⟩
end
section
variable {X : Cx} {o e value : Expr} {f : Str} {pos pos' tpos : Pos} {ta tv : TE}
end
section
variable {X : Cx} {pins : List (Addr × Obj)} {σ : St} {H : Hp} {s : Shared} {A : Around} {E : Value -> Shared -> Prop} {Q : Value -> Shared -> Prop} {c : Value} {b : Bool}
inductive Qee (K : PySem.W.Frag) (H : Hp) : V -> Value -> Prop where
 | non : Qee K H .non (.type "NoneType")
 | bl (x : Bool) : Qee K H (.bl x) (.type "bool")
 | int (i : Int) : Qee K H (.int i) (.type "int")
 | str (x : Str) : Qee K H (.str x) (.type "str")
 | flt (x : UInt64) : Qee K H (.flt x) (.type "float")
 | lst {a : Addr} {xs : List V} (e : H a = some (.lst xs)) : Qee K H (.ref a) (.type "list")
 | frz {a : Addr} {o : Obj} {xs : List V} (e : H a = some (.frz o (.lst xs))) : Qee K H (.ref a) (.type "list")
 | tup {a : Addr} {xs : List V} (e : H a = some (.tup xs)) : Qee K H (.ref a) (.type "tuple")
 | dK {a : Addr} {kvs : List (Key × V)} (e : H a = some (.dK kvs)) : Qee K H (.ref a) (.type "dict")
 | dT {a : Addr} {kvs : List (List Key × V)} (e : H a = some (.dT kvs)) : Qee K H (.ref a) (.type "dict")
 | ins {a C dx : Addr} {fs : List (Str × V)} (e : H a = some (.ins C dx fs)) (cl : Cls K C) (ha : PySem.W.findIn K (.ref C) "__class__" = some (some (.builtin "object.__class__")))
   (hn : PySem.W.specialIn K (.builtin "object.__class__") "__get__" = some (some (.builtin "getset_descriptor.__get__"))) (htk : PySem.W.takesIn K (.builtin "object.__class__") = some true)
   (hm : PySem.W.mroIn K C (.type "object") = some true) : Qee K H (.ref a) (.ref C)
end
end L2
namespace L2
open PySem PySem.Spec PyProof.Rows
structure Q7 (k : Nat) (A : Around) : Prop where
 hd : A.handled = none
 dp : A.depth + 3 * k + 5 < recursionLimit
 un : A.units + 16 * k + 200 < cLine
theorem Q7.mono {j k : Nat} {A : Around} (r : Q7 k A) (h : j <= k) : Q7 j A := ⟨r.hd, by have := r.dp; omega, by have := r.un; omega⟩
theorem Q7.deeper {k : Nat} {A : Around} (r : Q7 (k + 1) A) (env : Env) : Q7 k (A.deeper env) :=
 ⟨r.hd, by have := r.dp; show A.depth + 1 + 3 * k + 5 < _; omega, by have := r.un; show A.units + 3 + 16 * k + 200 < _; omega⟩
theorem Q7.in1 {k : Nat} {A : Around} (r : Q7 (k + 1) A) : Q7 k A.in1 :=
 ⟨r.hd, by have := r.dp; show A.depth + 3 * k + 5 < _; omega, by have := r.un; show A.units + 1 + 16 * k + 200 < _; omega⟩
theorem Qma {A : Around} {C : Addr} {us : List Value} {kw : List (Str × Value)} : (A.under (.builtin "type.__call__" ⟨.ref C :: us, kw⟩)).depth = A.depth + 1 := by
 first | rfl | simp [Around.under, Code.weight, Code.isCreation, Code.isGuard, Code.isCaller, Code.frames, Code.isFrame, guardIds]
theorem Qmd {A : Around} {C : Addr} {us : List Value} {kw : List (Str × Value)} : (A.under (.builtin "type.__call__" ⟨.ref C :: us, kw⟩)).units = A.units + 1 := by
 first | rfl | simp [Around.under, Code.cUnits, Code.frames, Code.isFrame]
theorem Q7.make {k : Nat} {A : Around} (r : Q7 (k + 1) A) (C : Addr) (us : List Value) (kw : List (Str × Value)) : Q7 k (A.under (.builtin "type.__call__" ⟨.ref C :: us, kw⟩)) :=
 ⟨r.hd, by have := r.dp; rw [Qma]; omega, by have := r.un; rw [Qmd]; omega⟩
theorem Q7.depth {k : Nat} {A : Around} (r : Q7 k A) : A.depth < recursionLimit := by have := r.dp; omega
theorem Q7.units {k : Nat} {A : Around} (r : Q7 k A) : A.units + 64 < cLine := by have := r.un; omega
noncomputable def QmB : TA := λ _ H Q => Q [] H
noncomputable def Qmy (ta : TE) (tr : TA) : TA := λ σ H Q => ta σ H λ x H1 => tr σ H1 λ xs H2 => Q (x :: xs) H2
section
variable {X : Cx} {e : Expr} {es : List Expr} {te : TE} {t : TA} {pos : Pos}
theorem Qcs : PA X [] QmB := λ _ _ _ _ H Q I h => Calls.spliced_nil ⟨[], H, I, .nil, h⟩
theorem Qan (ha : PE X e te) (hr : PA X es t) (hs : starEach (e :: es) X.env = (false, eval e X.env) :: starEach es X.env := by rfl) : PA X (e :: es) (Qmy te t) := by
 intro pos pins s σ H Q I h
 rw [hs]
 show wpAny _ _ (spliced ((false, eval e X.env) :: backTo pos (starEach es X.env))) _ _ s
 refine Calls.spliced_cons (thn (ha pins s σ H _ I h) λ u s1 ⟨x, H1, I1, r1, q1⟩ => ?_)
 exact thn (hr pos pins s1 σ H1 _ I1 q1) λ us s2 ⟨xs, H2, I2, r2, q2⟩ => ⟨x :: xs, H2, I2, .cons r1 r2, q2⟩
noncomputable def QuT (t : TA) : TE := λ σ H Q => t σ H λ xs H1 => xs.length <= sizeLine /\ ∀ p, H1 p = none -> Q (.ref p) (upd H1 p (.tup xs))
noncomputable def Qud (t : TA) : TE := λ σ H Q => t σ H λ xs H1 => xs.length <= sizeLine /\ ∀ p, H1 p = none -> Q (.ref p) (upd H1 p (.lst xs))
theorem Qnt {x1} (h : PA X es t) : PE X (.Tuple es x1 pos) (QuT t) := by
 intro pins s σ H Q I hq
 refine wpAny_Tuple_spliced (thn (h pos pins s σ H _ I hq) λ us s1 ⟨xs, H1, I1, r, z, q⟩ => ⟨by rw [← r.length]; exact z, ?_⟩)
 have hf : H1 s1.heap.objs.size = none := I1.hok.fresh (Zn _)
 refine ⟨.ref s1.heap.objs.size, upd H1 s1.heap.objs.size (.tup xs), I1.laid (t' := s1.toks) (λ b u e => Zs _ e) (Zn _) ?_, rfl, q _ hf⟩
 exact ⟨z, us, r, ⟨_, ZF _ rfl, rfl, _, rfl⟩⟩
theorem QrN (h : PA X es t) : PE X (.List es pos) (Qud t) := by
 intro pins s σ H Q I hq
 refine wpAny_List_spliced (thn (h pos pins s σ H _ I hq) λ us s1 ⟨xs, H1, I1, r, z, q⟩ => ⟨by rw [← r.length]; exact z, ?_⟩)
 have hf : H1 s1.heap.objs.size = none := I1.hok.fresh (Zn _)
 refine ⟨.ref s1.heap.objs.size, upd H1 s1.heap.objs.size (.lst xs), I1.laid (t' := s1.toks) (λ b u e => Zs _ e) (Zn _) ?_, rfl, q _ hf⟩
 exact ⟨z, us, 0, r, ZF _ rfl⟩
end
noncomputable abbrev Sp := List V -> Hp -> VK -> XK -> Prop
noncomputable abbrev CXT := List Env -> Hp -> Shared -> XK -> Value -> Shared -> Prop
structure Qd8 (P : Program) (w : World) (K : PySem.W.Frag) (mg : Str -> Option Value) (base : Heap) (A : Around) (outer : List Env) (s : Shared) (H : Hp) : Prop where
 frames : A.frames = some outer
 mod : Mod K mg base
 bs : ∀ b o, base.get? b = some o -> s.heap.get? b = some o /\ H b = none
 bsz : base.objs.size <= s.heap.objs.size
 Qcp : s.heap.FunFrames base outer
 frf : ∀ b ∈ frs outer, H b = none
 hok : HOk P w H s.heap
 bare : AllBare s.gens
def CE (outer : List Env) (P : Program) (w : World) (H : Hp) (s : Shared) (Q : VK) (u : Value) (s' : Shared) : Prop :=
 ∃ v H', s'.os = s.os /\ AllBare s'.gens /\ Un (frs outer) [] H H' s.heap s'.heap /\ HOk P w H' s'.heap /\ RelV v u /\ Q v H'
def CR (CX : CXT) (outer : List Env) (P : Program) (w : World) (H : Hp) (s : Shared) (Q : VK) (E : XK) (r : Result) (s' : Shared) : Prop :=
 match r with
 | .ok (.ret u) => CE outer P w H s Q u s'
 | .ok _ => False
 | .error e => CX outer H s E e s'
structure QaS (P : Program) (w : World) (K : PySem.W.Frag) (mg : Str -> Option Value) (base : Heap) (CX : CXT) (k : Nat) (f : Addr) (fd : FuncData) (ps : List Str) (sp : Sp) : Prop where
 len : ∀ vs H Q E, sp vs H Q E -> vs.length = ps.length
 run : ∀ (A : Around) (outer : List Env) (s : Shared) (H : Hp) (args : Args) (us : List Value) (vs : List V) (Q : VK) (E : XK), Q7 k A -> Qd8 P w K mg base A outer s H -> BindsTo s fd args (ps.zip us) -> Qr vs us -> sp vs H Q E →
  codeAny (model P w) A (.call (.ref f) args) (CR CX outer P w H s Q E) s
theorem QaS.mono {P : Program} {w : World} {K : PySem.W.Frag} {mg : Str -> Option Value} {base : Heap} {CX : CXT} {j k : Nat} {f : Addr} {fd : FuncData} {ps : List Str} {sp : Sp} (F : QaS P w K mg base CX j f fd ps sp) (h : j <= k) :
  QaS P w K mg base CX k f fd ps sp := ⟨F.len, λ A outer s H args us vs Q E hr => F.run A outer s H args us vs Q E (hr.mono h)⟩
theorem QaS.imp {P : Program} {w : World} {K : PySem.W.Frag} {mg : Str -> Option Value} {base : Heap} {CX : CXT} {k : Nat} {f : Addr} {fd : FuncData} {ps : List Str} {sp sp' : Sp} (F : QaS P w K mg base CX k f fd ps sp)
  (h : ∀ vs H Q E, sp' vs H Q E -> sp vs H Q E) : QaS P w K mg base CX k f fd ps sp' :=
 ⟨λ vs H Q E q => F.len vs H Q E (h _ _ _ _ q), λ A outer s H args us vs Q E hr he hb hv hs => F.run A outer s H args us vs Q E hr he hb hv (h _ _ _ _ hs)⟩
theorem Qd8.make {P : Program} {w : World} {K : PySem.W.Frag} {mg : Str -> Option Value} {base : Heap} {A : Around} {outer : List Env} {s : Shared} {H : Hp} (e : Qd8 P w K mg base A outer s H) (C : Addr) (us : List Value) (kw : List (Str × Value)) :
  Qd8 P w K mg base (A.under (.builtin "type.__call__" ⟨.ref C :: us, kw⟩)) outer s H := ⟨by first | exact e.frames | (simpa [Around.under, Code.envs, Code.isFrame, pushEnvs] using e.frames), e.mod, e.bs, e.bsz, e.Qcp, e.frf, e.hok, e.bare⟩
theorem Qd8.in1 {P : Program} {w : World} {K : PySem.W.Frag} {mg : Str -> Option Value} {base : Heap} {A : Around} {outer : List Env} {s : Shared} {H : Hp} (e : Qd8 P w K mg base A outer s H) :
  Qd8 P w K mg base A.in1 outer s H := ⟨e.frames, e.mod, e.bs, e.bsz, e.Qcp, e.frf, e.hok, e.bare⟩
section
variable {X : Cx} {pins : List (Addr × Obj)} {σ : St} {H : Hp} {s s' : Shared}
theorem Inv.Qpa (I : Inv X pins σ H s) : Qd8 X.prog X.w X.K X.mg X.base X.A X.stack s H :=
 ⟨I.ok.frames, I.ok.mod, I.bs, Zr I.ok.bsz I.sz, I.stack, I.QiX, I.hok, I.bare⟩
theorem Inv.after {Q : VK} {u : Value} (I : Inv X pins σ H s) (h : CE X.stack X.prog X.w H s Q u s') : EP X pins σ Q u s' := by
 obtain ⟨v, H', os, bare, un, hok, r, q⟩ := h
 obtain ⟨hh, g, d, t, os'⟩ := s'
 obtain rfl : os' = s.os := os
 exact ⟨v, H', I.call (h' := hh) (g' := g) (d' := d) (t' := t) (ch := []) un hok bare (λ b z => absurd z (by simp)), r, q⟩
end
noncomputable def Qmv (sp : Sp) (dvs : List V) (E : XK) (t : TA) : TE := λ σ H Q => t σ H λ vs H1 => sp (vs ++ dvs) H1 Q E
def Binds (K : PySem.W.Frag) (fd : FuncData) (ps : List Str) (ds : List Value) : Prop :=
 ∀ (s : Shared) (us : List Value), K.In s.heap -> (us ++ ds).length = ps.length -> BindsTo s fd ⟨us, []⟩ (ps.zip (us ++ ds))
theorem Binds.all {K : PySem.W.Frag} {fd : FuncData} {ps : List Str} (h : ∀ us : List Value, us.length = ps.length -> bindArgs fd ⟨us, []⟩ = pure (ps.zip us)) : Binds K fd ps [] := λ s us _ hl => by
 rw [Zac] at hl ⊢
 exact .of_eq (h us hl)
def QhL (CX : CXT) (X : Cx) (E : XK) : Prop := ∀ (pins : List (Addr × Obj)) (σ : St) (H : Hp) (s : Shared) (e : Value) (s' : Shared), Inv X pins σ H s -> CX X.stack H s E e s' -> X.xe e s'
section
variable {X : Cx} {CX : CXT} {k : Nat} {f C : Addr} {fd : FuncData} {ps : List Str} {sp : Sp} {dvs : List V} {ds : List Value} {E : XK} {x m : Str} {p pos apos : Pos} {e o : Expr} {es : List Expr} {ta : TE} {t : TA}
theorem QnQ {pins : List (Addr × Obj)} {σ : St} {H : Hp} {s : Shared} {Q : VK} {us : List Value} {vs : List V} (F : QaS X.prog X.w X.K X.mg X.base CX k f fd ps sp) (hr : Q7 k X.A) (hb : Binds X.K fd ps ds) (hd : Qr dvs ds) (hx : QhL CX X E)
  (I : Inv X pins σ H s) (r : Qr vs us) (h : sp (vs ++ dvs) H Q E) : wpAny (model X.prog X.w) X.A (call (.ref f) us) (EP X pins σ Q) X.xe s := by
 have r2 : Qr (vs ++ dvs) (us ++ ds) := r.append hd
 have hl : (us ++ ds).length = ps.length := by rw [← r2.length]; exact F.len _ _ _ _ h
 refine wpAny_call (codeAny_mono (F.run X.A X.stack s H ⟨us, []⟩ (us ++ ds) (vs ++ dvs) Q E hr I.Qpa (hb s us I.kIn hl) r2 h) λ r s' hq => ?_)
 cases r with
 | error e => exact hx pins σ H s e s' I hq
 | ok fl =>
  cases fl with
  | ret u => exact I.after hq
  | next => exact False.elim hq
  | brk => exact False.elim hq
  | cont => exact False.elim hq
theorem Qqo (F : QaS X.prog X.w X.K X.mg X.base CX k f fd ps sp) (hr : Q7 k X.A) (hg : Gl X x) (hm : X.mg x = some (.ref f)) (hk : PySem.W.keepIn X.K (.ref f) = true) (hb : Binds X.K fd ps ds) (hd : Qr dvs ds) (hx : QhL CX X E)
  (ha : PA X (e :: es) t) (hdb : (x == ("__debug__" : Str)) = false := by decide) (he : starEach (e :: es) X.env = (false, eval e X.env) :: starEach es X.env := by rfl) (hpl : (backTo pos (starEach es X.env)).any (·.1) = false := by rfl) :
  PE X (.Call (.Name x p) (e :: es) [] pos) (Qmv sp dvs E t) := by
 intro pins s σ H Q I h
 refine wpAny_Call_Name_kw (Qda I hg hm ?_ hdb)
 refine Zbe (h₀ := X.base) I.ok.mod.kin hk (thn (ha pos pins s σ H _ I h) λ us s1 ⟨vs, H1, I1, r, q⟩ => ⟨I1.kIn, ?_⟩) he hpl
 exact QnQ F hr hb hd hx I1 r q
theorem QoL (F : QaS X.prog X.w X.K X.mg X.base CX k f fd ps sp) (hr : Q7 k X.A) (hg : Gl X x) (hm : X.mg x = some (.ref f)) (hk : PySem.W.keepIn X.K (.ref f) = true) (hb : Binds X.K fd ps ds) (hd : Qr dvs ds) (hx : QhL CX X E)
  (hdb : (x == ("__debug__" : Str)) = false := by decide) : PE X (.Call (.Name x p) [] [] pos) (Qmv sp dvs E QmB) := by
 intro pins s σ H Q I h
 refine wpAny_Call_Name_kw (Qda I hg hm ?_ hdb)
 exact PySem.W.callWith_K0 I.kIn hk (QnQ (us := []) F hr hb hd hx I .nil h)
structure Mk (K : PySem.W.Frag) (C f : Addr) : Prop where
 makes : PySem.W.makesIn K C = true
 init : PySem.W.findIn K (.ref C) "__init__" = some (some (.ref f))
 fn : PySem.W.isFn K (.ref f) = true
 kp : PySem.W.keepIn K (.ref C) = true
end
section
variable {X : Cx} {CX : CXT} {k : Nat} {f C : Addr} {fd : FuncData} {ps ks : List Str} {sp : Sp} {E : XK} {x m : Str} {p pos apos kpos : Pos} {e o : Expr} {es : List Expr} {kws : List Keyword} {te ta : TE} {t tk : TA} {nm : Option Str}
structure Qu0 (K : PySem.W.Frag) (fd : FuncData) (ps ks : List Str) (g : List Value -> List Value -> List Value) (gV : List V -> List V -> List V) : Prop where
 to : ∀ (s : Shared) (us ws : List Value), K.In s.heap -> (g us ws).length = ps.length -> BindsTo s fd ⟨us, ks.zip ws⟩ (ps.zip (g us ws))
 rel : ∀ {vs : List V} {us : List Value} {zs : List V} {ws : List Value}, Qr vs us -> Qr zs ws -> Qr (gV vs zs) (g us ws)
variable {g : List Value -> List Value -> List Value} {gV : List V -> List V -> List V}
end
structure Qbm (N P : List Str) (sc : Scope) : Prop where
 kind : sc.kind = .function
 co : sc.isCoroutine = false
 gen : sc.isGenerator = false
 nd : N.Nodup
 pre : N.take P.length = P
 par : ∀ x ∈ P, sc.names.lookup x = some .local ∨ sc.names.lookup x = some .cell
 nofree : ∀ y ∈ sc.names, y.2 ≠ .free
theorem Qjj {kindOf : Str -> Option NameKind} {x : Str} : ∀ {binds : List (Str × Value)} {m : Str -> Option Value}, (∀ v, (x, v) ∉ binds) -> bindL kindOf binds m x = m x
 | [], _, _ => rfl
 | (n, v) :: r, m, h => by
  unfold bindL
  rw [Qjj λ w hw => h w (Zd _ hw)]
  split
  ·have : x ≠ n := by rintro rfl; exact h v Zi
   simp [this]
  ·rfl
theorem Qjs {kindOf : Str -> Option NameKind} {x : Str} : ∀ {binds : List (Str × Value)} {m : Str -> Option Value}, (∀ v, (x, v) ∉ binds) -> bindC kindOf binds m x = m x
 | [], _, _ => rfl
 | (n, v) :: r, m, h => by
  unfold bindC
  rw [Qjs λ w hw => h w (Zd _ hw)]
  split
  ·rfl
  ·have : x ≠ n := by rintro rfl; exact h v Zi
   simp [this]
theorem QjD {kindOf : Str -> Option NameKind} {x : Str} {v : Value} : ∀ {P : List Str} {vs : List Value} {i : Nat} {m : Str -> Option Value}, P.Nodup -> P[i]? = some x -> vs[i]? = some v -> kindOf x = some .local →
  bindL kindOf (P.zip vs) m x = some v
 | [], _, _, _, _, h, _, _ => by simp at h
 | _ :: _, [], _, _, _, _, h, _ => by simp at h
 | p :: P, w :: vs, 0, m, nd, h1, h2, hk => by
  simp at h1 h2; subst h1; subst h2
  show bindL kindOf ((p, w) :: P.zip vs) m p = _
  unfold bindL
  rw [Qjj λ v hv => (Zap.mp nd).1 (Zbz hv).1, if_pos hk]
  simp
 | p :: P, w :: vs, i + 1, m, nd, h1, h2, hk => by
  show bindL kindOf ((p, w) :: P.zip vs) m x = _
  unfold bindL
  exact QjD (i := i) (Zap.mp nd).2 (by simpa using h1) (by simpa using h2) hk
theorem Qjv {kindOf : Str -> Option NameKind} {x : Str} {v : Value} : ∀ {P : List Str} {vs : List Value} {i : Nat} {m : Str -> Option Value}, P.Nodup -> P[i]? = some x -> vs[i]? = some v -> kindOf x ≠ some .local →
  bindC kindOf (P.zip vs) m x = some v
 | [], _, _, _, _, h, _, _ => by simp at h
 | _ :: _, [], _, _, _, _, h, _ => by simp at h
 | p :: P, w :: vs, 0, m, nd, h1, h2, hk => by
  simp at h1 h2; subst h1; subst h2
  show bindC kindOf ((p, w) :: P.zip vs) m p = _
  unfold bindC
  rw [Qjs λ v hv => (Zap.mp nd).1 (Zbz hv).1, if_neg hk]
  simp
 | p :: P, w :: vs, i + 1, m, nd, h1, h2, hk => by
  show bindC kindOf ((p, w) :: P.zip vs) m x = _
  unfold bindC
  exact Qjv (i := i) (Zap.mp nd).2 (by simpa using h1) (by simpa using h2) hk
noncomputable def start (N : List Str) (vs : List V) : St := vs.map some ++ List.replicate (N.length - vs.length) none
noncomputable def QdF (CX : CXT) (P : Program) (w : World) (K : PySem.W.Frag) (mg : Str -> Option Value) (base : Heap) (N : List Str) (qual : Str) (scope : Scope) (f : Addr) (cd : Value) (A : Around) (outer : List Env) (s : Shared) (H : Hp) (E : XK) : Cx where
 prog := P
 w := w
 K := K
 mg := mg
 base := base
 A := A.deeper (envOfC qual scope s.heap.objs.size f cd)
 N := N
 s₀ := s
 H₀ := H
 env := envOfC qual scope s.heap.objs.size f cd
 outer := outer
 stack := envOfC qual scope s.heap.objs.size f cd :: outer
 ex := []
 calm := decide (A.handled = none)
 fn := λ _ => true
 pn := []
 xe := λ e s' => wpAny (model P w) (A.deeper (envOfC qual scope s.heap.objs.size f cd)) (leaving (envOfC qual scope s.heap.objs.size f cd) e) (λ _ s'' => CX outer H s E e s'') (λ e' s'' => CX outer H s E e' s'') s'
theorem QkG {sc : Scope} {n : Nat} {x : Str} (h : sc.names.lookup x = some .cell) : ∃ c, (cellsFrom n sc.names []).lookup x = some c := by
 have q := Zbw sc.names n [] (.inl h)
 exact Zbn.mp q
theorem Qoa {CX : CXT} {P : Program} {w : World} {K : PySem.W.Frag} {mg : Str -> Option Value} {base : Heap} {N ps : List Str} {qual : Str} {scope : Scope} {f : Addr} {cd : Value} {A : Around} {outer : List Env} {s s1 : Shared} {H : Hp} {E : XK} {us : List Value} {vs : List V}
  (S : Qbm N ps scope) (e0 : Qd8 P w K mg base A outer s H) (hl : vs.length = ps.length) (r : Qr vs us)
  (x : InCallC s s.heap.objs.size (bindL (envOfC qual scope s.heap.objs.size f cd).kindOf (ps.zip us) λ _ => none) (cellsFrom (s.heap.objs.size + 1) scope.names []) (bindC (envOfC qual scope s.heap.objs.size f cd).kindOf (ps.zip us) λ _ => none) s1) :
  Inv (QdF CX P w K mg base N qual scope f cd A outer s H E) [] (start N vs) H s1 := by
 have hpl : ps.length <= N.length := by have := congrArg List.length S.pre; rw [ZaT] at this; omega
 obtain ⟨h1, tk, rfl, hk⟩ := x.done
 have noA : ∀ b : Addr, b ∉ (QdF CX P w K mg base N qual scope f cd A outer s H E).ex := λ b z => absurd (show b ∈ ([] : List Addr) from z) (by simp)
 refine ⟨⟨e0.mod, S.kind, rfl, rfl, Zn _, λ y z c h1 h2 => ?_, λ y hy => ?_, λ y c _ h => ?_, λ h => of_decide_eq_true h, Around.frames_deeper e0.frames, .inr ⟨rfl, rfl⟩, λ b z => absurd z (noA b), e0.bs, e0.bsz, λ b _ _ => noA b, λ b z => absurd z (noA b), e0.Qcp, e0.frf⟩,
  rfl, e0.bare, Un.kept hk, ⟨_, x.toInCall.ns, λ i y v h1 h2 h3 => ?_⟩, λ y c h => ⟨_, x.cell y c h⟩, e0.hok.fresh (Zn _), λ y c h => ?_, λ p hp => absurd (show p ∈ ([] : List (Addr × Obj)) from hp) (by simp), e0.hok.kept hk, ?_⟩
 ·exact name_of_addr x.apart (ZP h1) (ZP h2)
 ·have hy : scope.names.lookup y = some .cell ∨ scope.names.lookup y = some .free := hy
  rcases hy with hy | hy
  ·exact QkG hy
  ·exact absurd rfl (S.nofree _ (ZP hy))
 ·exact Nat.le_of_lt (x.above y c (ZP h))
 ·have hi : i < vs.length := by
   unfold start at h2
   by_cases hi : i < vs.length
   ·exact hi
   ·rw [Zbf (by simpa using hi)] at h2
    rw [Zbp] at h2
    split at h2 <;> cases h2
  have ha : vs[i]? = some v := by
   unfold start at h2
   rw [Zae (by simpa using hi), Zk] at h2
   cases e : vs[i]? with
   | none => rw [e] at h2; cases h2
   | some a => rw [e] at h2; cases h2; rfl
  obtain ⟨u, hu, rv⟩ := r.get ha
  have hp : ps[i]? = some y := by
   rw [← S.pre, List.getElem?_take_of_lt (by omega)]; exact h1
  have ndP : ps.Nodup := by rw [← S.pre]; exact S.nd.sublist (List.take_sublist _ _)
  refine ⟨u, rv, ?_⟩
  rcases S.par y (Zas hp) with k | k
  ·exact .inl ⟨k, QjD ndP hp hu k⟩
  ·obtain ⟨c, e⟩ := QkG (n := s.heap.objs.size + 1) k
   refine .inr ⟨.inl k, c, e, ?_⟩
   have q := x.cell y c e
   rw [Qjv ndP hp hu (by show scope.names.lookup y ≠ _; rw [k]; decide)] at q
   exact q
 ·exact e0.hok.fresh (Nat.le_of_lt (x.above y c (ZP h)))
 ·unfold start
  show _ = N.length
  rw [Zu, Zw, List.length_replicate]
  omega
theorem Qqd {CX : CXT} {P : Program} {w : World} {K : PySem.W.Frag} {mg : Str -> Option Value} {base : Heap} {k : Nat} {f : Addr} {name qual : Str} {params : Arguments} {body : List Stmt} {scope : Scope} {dV kV doc pm cdv ct oc : Value} {an od : Option Addr}
  {osl : Array (Option Value)} {N ps : List Str} {sp : Sp} (lk : K.lookup f = some ⟨oc, od, .func (PySem.W.fnOf name qual params body scope dV kV doc pm an cdv ct), osl⟩) (hcd : PySem.W.codeIn K cdv qual = true) (S : Qbm N ps scope)
  (len : ∀ vs H Q E, sp vs H Q E -> vs.length = ps.length)
  (hbody : ∀ (A : Around) (outer : List Env) (s : Shared) (H : Hp) (vs : List V) (Q : VK) (E : XK), Q7 k (A.deeper (envOfC qual scope s.heap.objs.size f cdv)) -> sp vs H Q E →
   ∃ t, PSs (QdF CX P w K mg base N qual scope f cdv A outer s H E) body t /\ t { nx := λ _ H' => Q .non H', rt := Q } (start N vs) H) :
  QaS P w K mg base CX (k + 1) f (PySem.W.fnOf name qual params body scope dV kV doc pm an cdv ct) ps sp := by
 refine ⟨len, λ A outer s H args us vs Q E hr e0 hb r hsp => ?_⟩
 have hl := len _ _ _ _ hsp
 have KX : K.In s.heap := e0.mod.kin.keeps λ b o e => (e0.bs b o e).1
 have lim : s.heap.NoLimit := e0.mod.nolimit.keeps λ b o e => (e0.bs b o e).1
 have hkind : ∀ y ∈ ps.zip us, scope.names.lookup y.1 = some .local ∨ (scope.names.lookup y.1 = some .cell /\ ((cellsFrom (s.heap.objs.size + 1) scope.names []).lookup y.1).isSome = true) := λ ⟨n, v⟩ hy => by
  rcases S.par n (Zbz hy).1 with q | q
  ·exact .inl q
  ·exact .inr ⟨q, Zbw _ _ _ (.inl q)⟩
 refine codeAny_call_function hr.depth (KX _ _ lk) rfl S.co S.gen rfl (PySem.W.codeRec_of KX hcd) (hb _ _ _ _ ?_)
 refine wpAny_newFunctionEnv_cells S.kind hkind λ env he s1 x => ?_
 subst he
 refine ⟨lim.keeps x.toInCall.keep, codeAny_func ?_⟩
 obtain ⟨t, ht, hq⟩ := hbody A outer s H vs Q E (hr.deeper _) hsp
 have I : Inv (QdF CX P w K mg base N qual scope f cdv A outer s H E) [] (start N vs) H s1 := Qoa S e0 hl r x
 refine wpAny_mono (ht [] s1 (start N vs) H _ I hq) (λ fl s' hs => ?_) λ e s' hs => hs
 have fin : ∀ {σ' : St} {H' : Hp} {v : V} {u : Value}, Inv (QdF CX P w K mg base N qual scope f cdv A outer s H E) [] σ' H' s' -> RelV v u -> Q v H' -> CE outer P w H s Q u s' :=
  λ {σ' H' v u} J rv q => ⟨v, H', J.os, J.bare, J.base, J.hok, rv, q⟩
 cases fl with
 | ret u =>
  obtain ⟨v, σ', H', J, rv, q⟩ := hs
  exact fin J rv q
 | next =>
  obtain ⟨σ', H', J, q⟩ := hs
  exact fin (v := V.non) (u := Value.none) J rfl q
 | brk =>
  obtain ⟨_, _, _, q⟩ := hs
  exact False.elim q
 | cont =>
  obtain ⟨_, _, _, q⟩ := hs
  exact False.elim q
end L2
namespace L2
open PySem PySem.Spec PyProof.Rows
section
variable {X : Cx} {x : Str} {p pos : Pos} {e : Expr} {es : List Expr} {t : TA} {id T : String} {r : List V -> Hp -> VK -> Prop}
noncomputable def tCB (r : List V -> Hp -> VK -> Prop) (t : TA) : TE := λ σ H Q => t σ H λ vs H1 => r vs H1 Q
theorem Qfi (hc : QbY X (.builtin id) r) (hg : Gl X x) (hm : X.mg x = none) (hv : bootBuiltins x = some (.builtin id)) (ha : PA X (e :: es) t) (hn : x ≠ "__name__" := by decide) (hdb : (x == ("__debug__" : Str)) = false := by decide)
  (he : starEach (e :: es) X.env = (false, eval e X.env) :: starEach es X.env := by rfl) (hpl : (backTo pos (starEach es X.env)).any (·.1) = false := by rfl) : PE X (.Call (.Name x p) (e :: es) [] pos) (tCB r t) := by
 intro pins s σ H Q I h
 refine wpAny_Call_Name_kw (Qc2 I hg hm hv ?_ hn hdb)
 exact PyProof.Rows.callWith_builtin1 (thn (ha pos pins s σ H _ I h) λ us s1 ⟨vs, H1, I1, r1, q1⟩ => hc pins s1 σ H1 vs us Q I1 r1 q1) he hpl
theorem Qjk (hc : QbY X (.type T) r) (hg : Gl X x) (hm : X.mg x = none) (hv : bootBuiltins x = some (.type T)) (ha : PA X (e :: es) t) (hn : x ≠ "__name__" := by decide) (hdb : (x == ("__debug__" : Str)) = false := by decide)
  (he : starEach (e :: es) X.env = (false, eval e X.env) :: starEach es X.env := by rfl) (hpl : (backTo pos (starEach es X.env)).any (·.1) = false := by rfl) : PE X (.Call (.Name x p) (e :: es) [] pos) (tCB r t) := by
 intro pins s σ H Q I h
 refine wpAny_Call_Name_kw (Qc2 I hg hm hv ?_ hn hdb)
 exact ZR (thn (ha pos pins s σ H _ I h) λ us s1 ⟨vs, H1, I1, r1, q1⟩ => hc pins s1 σ H1 vs us Q I1 r1 q1) he hpl
end
end L2
namespace HT
open PySem PyProof.Rows
section
open PySem.SeqAt
open PySem.AutoSeq1 (wpAny_loadPart')
open PySem.MeetsSeq PySem.MeetsSeq2 PySem.MeetsSeq3
end
section
variable {prog : Program} {w : World} {A : Around} {E : Value -> Shared -> Prop} {s : Shared}
noncomputable def sIx (n d : Nat) : Option Int -> Nat
 | none => d
 | some v => if v < 0 then (v + (n : Int)).toNat else min v.toNat n
theorem Qfl (n d : Nat) : sIx n d none = d := rfl
theorem QgH (n d k : Nat) : sIx n d (some (k : Int)) = min k n := by
 show (if (k : Int) < 0 then ((k : Int) + (n : Int)).toNat else min (k : Int).toNat n) = min k n
 rw [if_neg (by omega), ZO]
end
end HT
namespace L2
open PySem PySem.Spec PyProof.Rows
noncomputable abbrev TO := St -> Hp -> (Option Int -> Hp -> Prop) -> Prop
def PO (X : Cx) (e : Option Expr) (t : TO) : Prop :=
 ∀ (pins : List (Addr × Obj)) (s : Shared) (σ : St) (H : Hp) (Q : Option Int -> Hp -> Prop), Inv X pins σ H s -> t σ H Q →
  wpAny (model X.prog X.w) X.A (evalPart e X.env) (λ u s' => ∃ o H', Inv X pins σ H' s' /\ IsPart u o /\ Q o H') X.xe s
noncomputable def Qry : TO := λ _ H Q => Q none H
noncomputable def QtI (t : TE) : TO := λ σ H Q => t σ H λ x H1 => ∃ i, x = .int i /\ Q (some i) H1
theorem intsAre_of {ns : List Int} : ∀ {us : List Value}, Qr (ns.map V.int) us -> IntsAre us ns := by
 induction ns with
 | nil => intro us r; rw [List.map_nil] at r; cases r; exact .nil
 | cons n ns ih =>
  intro us r
  rw [Zv] at r
  cases r with
  | cons r1 r2 =>
   obtain ⟨t, e⟩ := r1
   subst e
   exact .cons n t (ih r2)
section
variable {X : Cx} {e : Expr} {te : TE} {lo hi : Option Expr} {tl th : TO} {pos p2 : Pos}
theorem Qrq : PO X none Qry := by
 intro pins s σ H Q I h
 rw [evalPart_none]
 exact wpAny_pure ⟨none, H, I, .none, h⟩
theorem Qqm (h : PE X e te) : PO X (some e) (QtI te) := by
 intro pins s σ H Q I hw
 rw [evalPart_some]
 refine thn (h pins s σ H _ I hw) λ u s1 ⟨x, H1, I1, r1, q1⟩ => ?_
 obtain ⟨i, rfl, q⟩ := q1
 obtain ⟨t, rfl⟩ := r1
 exact ⟨some i, H1, I1, .int i t, q⟩
def SlR (X : Cx) (r : V -> Option Int -> Option Int -> Hp -> VK -> Prop) : Prop :=
 ∀ (pins : List (Addr × Obj)) (s : Shared) (σ : St) (H : Hp) (x : V) (v vl vu : Value) (lo hi : Option Int) (sl : Addr) (Q : VK), Inv X pins σ H s -> RelV x v -> s.heap.IsSliceOf sl vl vu .none -> IsPart vl lo -> IsPart vu hi -> r x lo hi H Q →
  ∃ T id, typeLookup (.type T) "__getitem__" = pure (some (.builtin id)) /\ s.TypeIs v T /\ wpAny (model X.prog X.w) X.A (getItem v (.ref sl)) (EP X pins σ Q) X.xe s
theorem SlR.or {r r' : V -> Option Int -> Option Int -> Hp -> VK -> Prop} (h : SlR X r) (h' : SlR X r') : SlR X (λ x lo hi H Q => r x lo hi H Q ∨ r' x lo hi H Q) := by
 intro pins s σ H x v vl vu lo hi sl Q I rx hs pl pu q
 rcases q with q | q
 ·exact h pins s σ H x v vl vu lo hi sl Q I rx hs pl pu q
 ·exact h' pins s σ H x v vl vu lo hi sl Q I rx hs pl pu q
noncomputable def tSl (r : V -> Option Int -> Option Int -> Hp -> VK -> Prop) (te : TE) (tl th : TO) : TE := λ σ H Q => te σ H λ x H1 => tl σ H1 λ l H2 => th σ H2 λ u H3 => r x l u H3 Q
theorem Qo4 {r : V -> Option Int -> Option Int -> Hp -> VK -> Prop} (hr : SlR X r) (he : PE X e te) (hl : PO X lo tl) (hu : PO X hi th) : PE X (.Subscript e (.Slice lo hi none p2) pos) (tSl r te tl th) := by
 intro pins s σ H Q I h
 refine Subscript_ (thn (he pins s σ H _ I h) λ v s1 ⟨x, H1, I1, r1, q1⟩ => ?_)
 refine wpAny_Slice (thn (hl pins s1 σ H1 _ I1 q1) λ vl s2 ⟨l, H2, I2, pl, q2⟩ => thn (hu pins s2 σ H2 _ I2 q2) λ vu s3 ⟨u, H3, I3, pu, q3⟩ => ?_)
 rw [evalPart_none]
 refine wpAny_pure ?_
 have I4 : Inv X pins σ H3 { s3 with heap := s3.heap.push { cls := .type "slice", data := .fields #[vl, vu, .none] } } := I3.kept (t' := s3.toks) λ b ob q => Zs _ q
 obtain ⟨T, id, hT, ht, hg⟩ := hr pins { s3 with heap := s3.heap.push { cls := .type "slice", data := .fields #[vl, vu, .none] } } σ H3 x v vl vu l u s3.heap.objs.size Q I4 r1 (Heap.IsSliceOf.new ..) pl pu q3
 show wpAny (model X.prog X.w) X.A (subscriptTail e (.Slice lo hi none p2) v (.ref s3.heap.objs.size)) (EP X pins σ Q) X.xe { s3 with heap := s3.heap.push { cls := .type "slice", data := .fields #[vl, vu, .none] } }
 exact tail_any (ops := [.ref s3.heap.objs.size, v]) ht hT hg (by with_unfolding_all rfl)
noncomputable def QiG (xs : List V) (lo hi : Option Int) : List V := (xs.drop (HT.sIx xs.length 0 lo)).take (HT.sIx xs.length xs.length hi - HT.sIx xs.length 0 lo)
theorem Qlv (xs : List V) (lo hi : Option Int) : (QiG xs lo hi).length <= xs.length := by
 unfold QiG
 rw [ZaT, List.length_drop]
 omega
end
end L2
namespace L2
open PySem PySem.Spec PyProof.Rows
noncomputable def ixN (n : Nat) (i : Int) : Option Nat := if 0 <= i then (if i < n then some i.toNat else none) else if -(n : Int) <= i then some (i + n).toNat else none
noncomputable def atI {α : Type} (xs : List α) (i : Int) : Option α := (ixN xs.length i).bind λ j => xs[j]?
theorem QdW {n : Nat} {i : Int} {j : Nat} (h : ixN n i = some j) : seqIndex? i n = some j /\ j < n /\ -(n : Int) <= i /\ i < n := by
 unfold ixN at h
 by_cases h0 : 0 <= i
 ·rw [if_pos h0] at h
  by_cases h1 : i < n
  ·rw [if_pos h1] at h
   have e : i.toNat = j := Option.some.inj h
   exact ⟨by rw [seqIndex_of h0 h1, e], by omega, by omega, h1⟩
  ·rw [if_neg h1] at h; cases h
 ·rw [if_neg h0] at h
  by_cases h1 : -(n : Int) <= i
  ·rw [if_pos h1] at h
   have e : (i + n).toNat = j := Option.some.inj h
   exact ⟨by rw [seqIndex_neg (by omega) h1, e], by omega, h1, by omega⟩
  ·rw [if_neg h1] at h; cases h
theorem Ql0 {α : Type} {xs : List α} {i : Int} {v : α} (h : atI xs i = some v) : ∃ j, seqIndex? i xs.length = some j /\ xs[j]? = some v /\ j < xs.length /\ -(xs.length : Int) <= i /\ i < xs.length := by
 unfold atI at h
 cases e : ixN xs.length i with
 | none => rw [e] at h; cases h
 | some j =>
  rw [e] at h
  obtain ⟨h1, h2, h3, h4⟩ := QdW e
  exact ⟨j, h1, h, h2, h3, h4⟩
def QgD (b : Expr) : Prop := ∀ o i, subscripted b false o i = operate [o, i] (getItem o i)
def IxR (X : Cx) (r : R2) : Prop :=
 ∀ (value slice : Expr) (pins : List (Addr × Obj)) (s : Shared) (σ : St) (H : Hp) (x y : V) (v u : Value) (Q : VK), Inv X pins σ H s -> RelV x v -> RelV y u -> r x y H Q →
  subscripted slice false v u = operate [v, u] (getItem v u) -> wpAny (model X.prog X.w) X.A (subscriptTail value slice v u) (EP X pins σ Q) X.xe s
def MtR (X : Cx) (id : String) (r : V -> List V -> Hp -> VK -> Prop) : Prop :=
 ∀ (pins : List (Addr × Obj)) (s : Shared) (σ : St) (H : Hp) (x : V) (xs : List V) (v : Value) (us : List Value) (Q : VK), Inv X pins σ H s -> RelV x v -> Qr xs us -> r x xs H Q →
  wpAny (model X.prog X.w) X.A (call (.builtin id) (v :: us)) (EP X pins σ Q) X.xe s
section
variable {X : Cx} {a b : Expr} {ta tb : TE} {pos : Pos}
theorem IxR.or {r r' : R2} (h : IxR X r) (h' : IxR X r') : IxR X (λ x y H Q => r x y H Q ∨ r' x y H Q) := by
 intro value slice pins s σ H x y v u Q I rx ry q hs
 rcases q with q | q
 ·exact h value slice pins s σ H x y v u Q I rx ry q hs
 ·exact h' value slice pins s σ H x y v u Q I rx ry q hs
theorem MtR.or {id : String} {r r' : V -> List V -> Hp -> VK -> Prop} (h : MtR X id r) (h' : MtR X id r') : MtR X id (λ x xs H Q => r x xs H Q ∨ r' x xs H Q) := by
 intro pins s σ H x xs v us Q I rx rs q
 rcases q with q | q
 ·exact h pins s σ H x xs v us Q I rx rs q
 ·exact h' pins s σ H x xs v us Q I rx rs q
theorem Qqh {r : R2} (hr : IxR X r) (ha : PE X a ta) (hb : PE X b tb) (hs : QgD b) : PE X (.Subscript a b pos) (tOp r ta tb) := by
 intro pins s σ H Q I h
 exact Subscript_ (QpD ha hb I h λ v u s2 x y H2 I2 rx ry q => hr a b pins s2 σ H2 x y v u Q I2 rx ry q (hs _ _))
noncomputable def Quk (K : PySem.W.Frag) : R2 := λ x y H Q => ∃ p xs i v, x = .ref p /\ y = .int i /\ SqL K H p xs /\ atI xs i = some v /\ Q v H
noncomputable def Qup (K : PySem.W.Frag) : R2 := λ x y H Q => ∃ p xs i v, x = .ref p /\ y = .int i /\ SqT K H p xs /\ atI xs i = some v /\ Q v H
theorem Ql2 : IxR X (Quk X.K) := by
 intro value slice pins s σ H x y v u Q I rx ry h hs
 obtain ⟨p, xs, i, z, rfl, rfl, hq, he, q⟩ := h
 cases rx
 obtain ⟨t, rfl⟩ := ry
 obtain ⟨its, r, pl, hz⟩ := I.list hq
 obtain ⟨j, h1, h2, h3, h4, h5⟩ := Ql0 he
 obtain ⟨w, ew, rw'⟩ := r.get h2
 have hl := r.length
 have hn := Qf6
 have fin : EP X pins σ Q w s := ⟨z, H, I, rw', q⟩
 by_cases h0 : 0 <= i
 ·have hj : i.toNat = j := by
   rw [seqIndex_of h0 h5] at h1
   exact Option.some.inj h1
  exact item_listR pl.isList h0 (by omega) (by rw [hj]; simpa using ew) fin hs
 ·have hj : (i + (its.toArray.size : Int)).toNat = j := by
   rw [seqIndex_neg (by omega) h4] at h1
   rw [Zt, ← hl]
   exact Option.some.inj h1
  exact subscriptTail_builtinR (x := w) pl.isList.typeIs slot_list_getitem.lookup
   (wpAny_getItem_list_neg (Q := λ r s' => r = w /\ EP X pins σ Q r s') pl.isList (by omega) (by rw [Zt] <;> omega) (by omega) (by rw [hj]; simpa using ew) ⟨rfl, fin⟩) hs
theorem QnL : IxR X (Qup X.K) := by
 intro value slice pins s σ H x y v u Q I rx ry h hs
 obtain ⟨p, xs, i, z, rfl, rfl, hq, he, q⟩ := h
 cases rx
 obtain ⟨t, rfl⟩ := ry
 obtain ⟨its, r, pl, hz⟩ := I.tuple hq
 obtain ⟨j, h1, h2, h3, h4, h5⟩ := Ql0 he
 obtain ⟨w, ew, rw'⟩ := r.get h2
 have hl := r.length
 have hn := Qf6
 have fin : EP X pins σ Q w s := ⟨z, H, I, rw', q⟩
 exact subscriptTail_builtinR (x := w) pl.typeIs slot_tuple_getitem.lookup
  (getItem_tuple (j := j) (Q := λ r s' => r = w /\ EP X pins σ Q r s') pl (by omega) (by omega) (by rw [Zt, ← hl]; exact h1) (by simpa using ew) ⟨rfl, fin⟩) hs
theorem Qmq (its : List Value) (n j : Nat) (u : Value) : Obj.mapSeq (·.setIfInBounds j u) { cls := .type "list", data := .seq its.toArray n } = { cls := .type "list", data := .seq (its.set j u).toArray n } := by
 simp [Obj.mapSeq]
theorem Inv.lst {pins : List (Addr × Obj)} {σ : St} {H : Hp} {s : Shared} {p : Addr} {xs : List V} (I : Inv X pins σ H s) (h : H p = some (.lst xs)) :
  ∃ (its : List Value) (n : Nat), Qr xs its /\ s.heap.get? p = some { cls := .type "list", data := .seq its.toArray n } /\ xs.length <= sizeLine := by
 obtain ⟨z, its, n, r, e⟩ := I.hok p _ h
 exact ⟨its, n, r, e, z⟩
theorem Inv.Qso {pins : List (Addr × Obj)} {σ : St} {H : Hp} {s : Shared} {p : Addr} {xs ys : List V} {its its' : List Value} {n n' : Nat} {f : Obj -> Obj} (I : Inv X pins σ H s) (h : H p = some (.lst xs))
  (ho : s.heap.get? p = some { cls := .type "list", data := .seq its.toArray n }) (hf : f { cls := .type "list", data := .seq its.toArray n } = { cls := .type "list", data := .seq its'.toArray n' }) (r : Qr ys its') (hz : ys.length <= sizeLine) (t : Nat) :
  Inv X pins σ (upd H p (.lst ys)) { s with heap := s.heap.update p f, toks := t } := by
 have e : (s.heap.update p f).get? p = some { cls := .type "list", data := .seq its'.toArray n' } := by
  rw [Heap.get?_update_self f ho (by rw [hf] <;> rfl), hf]
 refine I.write (x := p) (e := p) (by rw [h]; trivial) (.inl rfl) (λ b u hb q => (Heap.get?_update_other _ _ (Ne.symm hb)).trans q) ⟨_, e⟩ ?_
 exact ⟨hz, its', n', r, e⟩
noncomputable def QjZ : V -> V -> V -> Hp -> (Hp -> Prop) -> Prop := λ o i v H Q => ∃ p xs k j, o = .ref p /\ i = .int k /\ H p = some (.lst xs) /\ ixN xs.length k = some j /\ Q (upd H p (.lst (xs.set j v)))
theorem set_list : QsI X QjZ := by
 intro pins s σ H o i v ov iv u Q I ro ri rv h
 obtain ⟨p, xs, k, j, rfl, rfl, hp, hj, q⟩ := h
 cases ro
 obtain ⟨t, rfl⟩ := ri
 obtain ⟨its, n, r, ho, hz⟩ := I.lst hp
 obtain ⟨h1, h2, h3, h4⟩ := QdW hj
 have hl := r.length
 have hn := Qf6
 have I' : Inv X pins σ (upd H p (.lst (xs.set j v))) { s with heap := s.heap.update p (Obj.mapSeq (·.setIfInBounds j u)) } :=
  I.Qso hp ho (Qmq its n j u) (r.set rv j) (by rw [Zal]; exact hz) s.toks
 by_cases h0 : 0 <= k
 ·have hk : k.toNat = j := by
   rw [seqIndex_of h0 h4] at h1
   exact Option.some.inj h1
  exact PySem.W.ki_setAt ho h0 (by omega) (by rw [Zt, ← hl]; exact h4) (by rw [hk]; exact ⟨_, I', q⟩)
 ·have hk : (k + (its.toArray.size : Int)).toNat = j := by
   rw [seqIndex_neg (by omega) h3] at h1
   rw [Zt, ← hl]
   exact Option.some.inj h1
  exact PySem.W.ki_setBack ho (by omega) (by rw [Zt, ← hl]; exact h3) (by omega) (by rw [hk]; exact ⟨_, I', q⟩)
theorem QkF (lo hi : Option Int) (n : Nat) : (sliceBounds lo hi none n).1 = ((HT.sIx n 0 lo : Nat) : Int) /\ (sliceBounds lo hi none n).2.1 = ((HT.sIx n n hi : Nat) : Int) /\ (sliceBounds lo hi none n).2.2 = 1 := by
 refine ⟨?_, ?_, rfl⟩
 ·cases lo with
  | none => simp [sliceBounds, HT.sIx]
  | some i =>
   simp only [sliceBounds, HT.sIx, Option.getD_none, show (1 : Int) > 0 by decide, if_true]
   by_cases h : i < 0
   ·simp only [h, if_true] <;> omega
   ·simp only [h, if_false] <;> omega
 ·cases hi with
  | none => simp [sliceBounds, HT.sIx]
  | some i =>
   simp only [sliceBounds, HT.sIx, Option.getD_none, show (1 : Int) > 0 by decide, if_true]
   by_cases h : i < 0
   ·simp only [h, if_true] <;> omega
   ·simp only [h, if_false] <;> omega
theorem QjP (its : List Value) (lo hi : Option Int) : slicePick its.toArray lo hi none = ((its.drop (HT.sIx its.length 0 lo)).take (HT.sIx its.length its.length hi - HT.sIx its.length 0 lo)).toArray := by
 obtain ⟨h1, h2, h3⟩ := QkF lo hi its.toArray.size
 unfold slicePick
 rw [h1, h2, h3]
 simp only [sliceRange_one, pick_run, Zt] <;> rfl
noncomputable def Qt9 (K : PySem.W.Frag) : V -> Option Int -> Option Int -> Hp -> VK -> Prop := λ x lo hi H Q => ∃ a xs, x = .ref a /\ SqL K H a xs /\ ∀ p, H p = none -> Q (.ref p) (upd H p (.lst (QiG xs lo hi)))
theorem Qq0 : SlR X (Qt9 X.K) := by
 intro pins s σ H x v vl vu lo hi sl Q I rx hs pl pu h
 obtain ⟨a, xs, rfl, hx, q⟩ := h
 cases rx
 obtain ⟨its, r, ht, hz⟩ := I.list hx
 have hlen := r.length
 refine ⟨"list", _, slot_list_getitem.lookup, ht.isList.typeIs, ?_⟩
 refine wpAny_getItem_list_slice ht.isList hs pl pu .none (by simp) ?_ (by rw [Zt] <;> omega)
 rw [QjP, ← hlen]
 refine ⟨.ref s.heap.objs.size, _, I.laid (t' := s.toks) (o := .lst (QiG xs lo hi)) (λ b ob q => Zs _ q) (Zn _) ?_, rfl, q _ (I.hok.fresh (Zn _))⟩
 exact ⟨Zr (Qlv xs lo hi) hz, _, 0, (r.drop (HT.sIx xs.length 0 lo)).take (HT.sIx xs.length xs.length hi - HT.sIx xs.length 0 lo), ZF _ rfl⟩
theorem Qke : QbY X (.builtin "len") (λ xs H Q => ∃ p ys, xs = [.ref p] /\ (SqL X.K H p ys ∨ SqT X.K H p ys) /\ Q (.int ys.length) H) := by
 intro pins s σ H xs us Q I r h
 obtain ⟨p, ys, rfl, hq, q⟩ := h
 obtain ⟨u, rfl, rx⟩ := vals1 r
 cases rx
 have hn := Qf6
 rcases hq with hq | hq
 ·obtain ⟨its, r', pl, hz⟩ := I.list hq
  have hlen := r'.length
  exact Calls.call_len_list pl.isList (by simp only [Zt] <;> omega) ⟨.int ys.length, H, I.tok _, ⟨s.toks + 1, by rw [Zt, hlen]⟩, q⟩
 ·obtain ⟨its, r', pl, hz⟩ := I.tuple hq
  have hlen := r'.length
  exact len_tuple pl (by simp only [Zt] <;> omega) ⟨.int ys.length, H, I.tok _, ⟨s.toks + 1, by rw [Zt, hlen]⟩, q⟩
theorem QbY.or {f : Value} {r r' : List V -> Hp -> VK -> Prop} (h : QbY X f r) (h' : QbY X f r') : QbY X f (λ xs H Q => r xs H Q ∨ r' xs H Q) := by
 intro pins s σ H xs us Q I rs q
 rcases q with q | q
 ·exact h pins s σ H xs us Q I rs q
 ·exact h' pins s σ H xs us Q I rs q
theorem Qgc : QbY X (.type "list") (λ xs H Q => ∃ p ys, xs = [.ref p] /\ (SqL X.K H p ys ∨ SqT X.K H p ys) /\ ∀ l, H l = none -> Q (.ref l) (upd H l (.lst ys))) := by
 intro pins s σ H xs us Q I r h
 obtain ⟨p, ys, rfl, hq, q⟩ := h
 obtain ⟨u, rfl, rx⟩ := vals1 r
 cases rx
 have fin : ∀ (its : List Value), Qr ys its -> ys.length <= sizeLine -> ∀ (h' : Heap) (c' : Nat), (∀ b o', s.heap.get? b = some o' -> h'.get? b = some o') →
   h'.get? s.heap.objs.size = some { cls := .type "list", dict := none, data := .seq its.toArray c', slots := #[] } -> EP X pins σ Q (.ref s.heap.objs.size) { s with heap := h' } := λ its r' hz h' c' kp e =>
  ⟨.ref s.heap.objs.size, _, I.laid (t' := s.toks) kp (Zn _) (show Qa7 X.prog X.w _ h' _ (.lst ys) from ⟨hz, its, c', r', e⟩), rfl, q _ (I.hok.fresh (Zn _))⟩
 rcases hq with hq | hq
 ·obtain ⟨its, r', pl, hz⟩ := I.list hq
  have hlen := r'.length
  obtain ⟨o, ho, hc, n, hd⟩ := pl.isList
  exact call_list_seq p (.inl rfl) ho hc hd (λ h' c' kp e => fin its r' hz h' c' kp e) (by simp only [Zt] <;> omega)
 ·obtain ⟨its, r', pl, hz⟩ := I.tuple hq
  have hlen := r'.length
  obtain ⟨o, ho, hc, n, hd⟩ := pl
  exact call_list_seq p (.inr rfl) ho hc hd (λ h' c' kp e => fin its r' hz h' c' kp e) (by simp only [Zt] <;> omega)
def tyV (K : PySem.W.Frag) (T : String) (x : V) (H : Hp) : Prop := match x with
 | .str _ => T = "str"
 | .int _ => T = "int"
 | .ref p => (T = "list" /\ ∃ xs, SqL K H p xs) ∨ (T = "tuple" /\ ∃ o, K.lookup p = some o /\ o.cls = .type "tuple" /\ o.dict = none) ∨
   (T = "dict" /\ ((∃ kvs, H p = some (.dK kvs)) ∨ ∃ kvs, H p = some (.dT kvs))) ∨ (T = "set" /\ ∃ S n, H p = some (.set S n))
 | _ => False
theorem Qop {pins : List (Addr × Obj)} {σ : St} {H : Hp} {s : Shared} {T : String} {x : V} {v : Value} (I : Inv X pins σ H s) (r : RelV x v) (ty : tyV X.K T x H) :
  s.TypeIs v T /\ ∀ a, v = .ref a -> ∃ ob, s.heap.get? a = some ob /\ ob.dict = none := by
 cases x with
 | str z =>
  obtain ⟨t, rfl⟩ := r
  cases (show T = "str" from ty)
  exact ⟨typeIs_str s z t, λ _ e => nomatch e⟩
 | int i =>
  obtain ⟨t, rfl⟩ := r
  cases (show T = "int" from ty)
  exact ⟨typeIs_int s i t, λ _ e => nomatch e⟩
 | ref p =>
  cases r
  rcases ty with ⟨rfl, xs, hq⟩ | ⟨rfl, o, hk, hc, hd⟩ | ⟨rfl, hk⟩ | ⟨rfl, S, n, hk⟩
  ·obtain ⟨its, _, pl, _⟩ := I.list hq
   refine ⟨pl.isList.typeIs, λ a e => ?_⟩
   cases e
   obtain ⟨o, n, e, c, hd, _⟩ := pl
   exact ⟨o, e, hd⟩
  ·refine ⟨⟨o, I.kIn p o hk, hc⟩, λ a e => ?_⟩
   cases e
   exact ⟨o, I.kIn _ o hk, hd⟩
  ·have z : ∃ o, s.heap.get? p = some o /\ o.ExactDict := by
    rcases hk with ⟨kvs, hk⟩ | ⟨kvs, hk⟩
    ·obtain ⟨_, _, _, _, o, _, _, e, ex, _⟩ := I.hok p _ hk
     exact ⟨o, e, ex⟩
    ·obtain ⟨_, _, _, _, o, _, _, e, ex, _⟩ := I.hok p _ hk
     exact ⟨o, e, ex⟩
   obtain ⟨o, e, ex⟩ := z
   refine ⟨⟨o, e, ex.1⟩, λ a e2 => ?_⟩
   cases e2
   exact ⟨o, e, ex.2.1⟩
  ·obtain ⟨o, _, _, _, e, ex, _⟩ := I.hok p _ hk
   refine ⟨⟨o, e, ex.1⟩, λ a e2 => ?_⟩
   cases e2
   exact ⟨o, e, ex.2.1⟩
 | _ => exact False.elim ty
noncomputable def Qr8 (K : PySem.W.Frag) (T : String) (r : V -> List V -> Hp -> VK -> Prop) (to : TE) : TE := λ σ H Q => to σ H λ x H1 => tyV K T x H1 /\ r x [] H1 Q
noncomputable def tBM (K : PySem.W.Frag) (T : String) (r : V -> List V -> Hp -> VK -> Prop) (to : TE) (t : TA) : TE := λ σ H Q => to σ H λ x H1 => tyV K T x H1 /\ t σ H1 λ xs H2 => r x xs H2 Q
variable {o e : Expr} {es : List Expr} {to : TE} {t : TA} {name : Str} {apos cpos : Pos} {T id : String} {r : V -> List V -> Hp -> VK -> Prop}
theorem QsM (pa : PlainAttrs T) (slot : Slot T name id) (hty : typeOf (.builtin id) = pure (.type "method_descriptor")) (hm : MtR X id r) (ho : PE X o to)
  (hbase : attributeBase o name X.env (eval o X.env) = eval o X.env := by rfl) (hline : (apos.endLine == cpos.line) = true := by rfl) : PE X (.Call (.Attribute o name apos) [] [] cpos) (Qr8 X.K T r to) := by
 intro pins s σ H Q I h
 refine wpAny_Call_method0_late hbase hline (thn (ho pins s σ H _ I h) λ v s1 ⟨x, H1, I1, r1, ty, q1⟩ => ?_)
 obtain ⟨h1, h2⟩ := Qop I1 r1 ty
 exact ⟨T, id, pa, slot, hty, h1, h2, Calls.callWith_builtin rfl (PySem.evalArgs_none (hm pins s1 σ H1 x [] v [] Q I1 r1 .nil q1))⟩
theorem QtU (pa : PlainAttrs T) (slot : Slot T name id) (hty : typeOf (.builtin id) = pure (.type "method_descriptor")) (hm : MtR X id r) (ho : PE X o to) (ha : PA X (e :: es) t)
  (hbase : attributeBase o name X.env (eval o X.env) = eval o X.env := by rfl)
  (hfew : ((backTo cpos (starEach (e :: es) X.env)).all (λ x => !x.1) && (backToKw cpos (keywordEach [] X.env)).all (λ x => x.1.isSome)
   && decide ((e :: es).length + ([] : List Keyword).length + (if ([] : List Keyword).isEmpty then 0 else 1) < 30)) = true := by rfl)
  (hline : (apos.endLine == cpos.line) = true := by rfl) (hs : starEach (e :: es) X.env = (false, eval e X.env) :: starEach es X.env := by rfl) (hplain : (backTo cpos (starEach es X.env)).any (·.1) = false := by rfl) :
  PE X (.Call (.Attribute o name apos) (e :: es) [] cpos) (tBM X.K T r to t) := by
 intro pins s σ H Q I h
 refine wpAny_Call_method_late hbase hfew hline rfl (thn (ho pins s σ H _ I h) λ v s1 ⟨x, H1, I1, r1, ty, q1⟩ => ?_)
 obtain ⟨h1, h2⟩ := Qop I1 r1 ty
 refine ⟨T, id, pa, slot, hty, h1, h2, ?_⟩
 have hA := ha cpos pins s1 σ H1 _ I1 q1
 rw [hs] at hA ⊢
 refine Calls.callWith_builtin (by show (false || (backTo cpos (starEach es X.env)).any (·.1)) = false; rw [hplain] <;> rfl) (Calls.evalArgs_plain ?_)
 exact thn hA λ us s2 ⟨vs, H2, I2, r2, q2⟩ => hm pins s2 σ H2 x vs v us Q I2 r1 r2 q2
end
end L2
namespace L2
open PySem PySem.Spec PyProof.Rows
def MtM (X : Cx) (id : String) (r : V -> List V -> Hp -> VK -> Prop) : Prop :=
 ∀ (pins : List (Addr × Obj)) (s : Shared) (σ : St) (H : Hp) (x : V) (xs : List V) (v : Value) (us : List Value) (Q : VK), Inv X pins σ H s -> RelV x v -> Qr xs us -> r x xs H Q →
  wpAny (model X.prog X.w) X.A (call (.builtin id) (v :: us)) (EP X pins σ Q) X.xe s
theorem Qr.one : ∀ {x : V} {us : List Value}, Qr [x] us -> ∃ u, us = [u] /\ RelV x u
 | _, _, .cons r .nil => ⟨_, rfl, r⟩
theorem Qr.two : ∀ {x y : V} {us : List Value}, Qr [x, y] us -> ∃ u v, us = [u, v] /\ RelV x u /\ RelV y v
 | _, _, _, .cons r (.cons q .nil) => ⟨_, _, rfl, r, q⟩
theorem Qr.zero : ∀ {us : List Value}, Qr [] us -> us = []
 | _, .nil => rfl
theorem Qr.rep {xs : List V} {us : List Value} (h : Qr xs us) : ∀ k : Nat, Qr (List.replicate k xs).flatten (List.replicate k us).flatten
 | 0 => .nil
 | k + 1 => by
  rw [ZQ, ZQ, ZV, ZV]
  exact Qr.append h (Qr.rep h k)
theorem foldl_rep (its : List Value) : ∀ (k : Nat) (acc : List Value),
  List.foldl (λ x1 x2 => x1 ++ x2) acc.toArray (List.replicate k its.toArray) = (acc ++ (List.replicate k its).flatten).toArray
 | 0, acc => by simp
 | k + 1, acc => by
  have e : acc.toArray ++ its.toArray = (acc ++ its).toArray := by simp
  have e2 : (acc ++ its) ++ (List.replicate k its).flatten = acc ++ (List.replicate (k + 1) its).flatten := by
   rw [ZQ, ZV, ZaK]
  rw [← e2, ← foldl_rep its k (acc ++ its), ← e, ZQ, List.foldl_cons]
section
variable {X : Cx} {pins : List (Addr × Obj)} {σ : St} {H : Hp} {s : Shared} {l b : Addr} {xs ys zs : List V}
theorem Inv.QrZ {its its' : List Value} {n : Nat} {f : Array Value -> Array Value} {t' : Nat} (I : Inv X pins σ H s) (hH : H l = some (.lst xs))
  (e : s.heap.get? l = some { cls := .type "list", data := .seq its.toArray n }) (hf : f its.toArray = its'.toArray) (hv : Qr ys its') (hz : ys.length <= sizeLine) :
  Inv X pins σ (upd H l (.lst ys)) { s with heap := s.heap.update l (Obj.mapSeq f), toks := t' } := by
 have q := PySem.IsL.update e f
 rw [hf] at q
 refine I.write (x := l) (e := l) (by rw [hH]; exact trivial) (.inl rfl) (λ b' u hb hu => (Heap.get?_update_other s.heap (Obj.mapSeq f) (Ne.symm hb)).trans hu) ⟨_, q⟩ ?_
 exact ⟨hz, its', _, hv, q⟩
theorem Inv.QrK {its : List Value} {t' : Nat} (I : Inv X pins σ H s) (hv : Qr ys its) (hz : ys.length <= sizeLine) :
  Inv X pins σ (upd H s.heap.objs.size (.lst ys)) { s with heap := s.heap.push { cls := .type "list", data := .seq its.toArray }, toks := t' } :=
 I.laid (λ _ _ q => Zs _ q) (Zn _) ⟨hz, its, 0, hv, ZF _ rfl⟩
theorem Inv.fresh (I : Inv X pins σ H s) : H s.heap.objs.size = none := I.hok.fresh (Zn _)
theorem Inv.QoW (I : Inv X pins σ H s) (hH : H l = some (.lst xs)) : xs.length <= sizeLine /\ ∃ (its : List Value) (n : Nat), Qr xs its /\ xs.length = its.length /\ s.heap.get? l = some { cls := .type "list", data := .seq its.toArray n } := by
 obtain ⟨z, its, n, r, e⟩ := I.hok l _ hH
 exact ⟨z, its, n, r, r.length, e⟩
theorem QoU {n : Nat} (h : n <= sizeLine) : Builtin.List.listTooLong n = false := by
 unfold Builtin.List.listTooLong
 exact decide_eq_false (by omega)
end
section
variable {X : Cx}
noncomputable def QlF : V -> List V -> Hp -> VK -> Prop := λ x vs H Q => ∃ l xs y, x = .ref l /\ vs = [y] /\ H l = some (.lst xs) /\ xs.length < sizeLine /\ Q .non (upd H l (.lst (xs ++ [y])))
theorem Qjq : MtM X "list.append" QlF := by
 intro pins s σ H x vs v us Q I rx rv h
 obtain ⟨l, xs, y, rfl, rfl, hH, hz, q⟩ := h
 cases rx
 obtain ⟨u, rfl, ru⟩ := rv.one
 obtain ⟨z, its, n, r, hl, e⟩ := I.QoW hH
 refine call_meets F.slot_list_append ⟨_, e, rfl⟩ F.entry_list_append (F.args_list_append_2 _ _) (PySem.list_append l its.toArray n u (by rw [Zt]; omega)) ⟨e, ?_⟩
 refine ⟨.non, _, I.QrZ (its' := its ++ [u]) hH e (by simp) (r.append (.cons ru .nil)) ?_, rfl, q⟩
 rw [Zu, ZaP]
 omega
noncomputable def Qn5 : V -> List V -> Hp -> VK -> Prop := λ x vs H Q => ∃ l xs, x = .ref l /\ vs = [] /\ H l = some (.lst xs) /\ Q .non (upd H l (.lst []))
theorem QpA : MtM X "list.clear" Qn5 := by
 intro pins s σ H x vs v us Q I rx rv h
 obtain ⟨l, xs, rfl, rfl, hH, q⟩ := h
 cases rx
 have hus := rv.zero
 subst hus
 obtain ⟨z, its, n, r, hl, e⟩ := I.QoW hH
 refine call_meets F.slot_list_clear ⟨_, e, rfl⟩ F.entry_list_clear (F.args_list_clear_1 _) (AutoSeq1.list_clear_list_0 l its.toArray n (by rw [Zt]; omega)) ⟨e, ?_⟩
 exact ⟨.non, _, I.QrZ (its' := []) (ys := []) hH e rfl .nil (ZK _), rfl, q⟩
theorem len_rep {α : Type} (xs : List α) (k : Nat) : (List.replicate k xs).flatten.length = k * xs.length := by
 induction k with
 | zero => simp
 | succ k ih => rw [ZQ, ZV, Zu, ih, Nat.succ_mul, Nat.add_comm]
end
section
variable {prog : Program} {w : World} {A : Around} {E : Value -> Shared -> Prop} {s : Shared}
end
section
variable {X : Cx}
end
end L2
namespace Att
open PySem PySem.W PySem.Calls PyProof.Rows
theorem Qif {P : Params} {h : Heap} : ∀ (ns : List Int) (vs : List Value), WellAll P h vs (ns.map WData.int) -> IntsAre vs ns := by
 intro ns
 induction ns with
 | nil =>
  intro vs w
  rw [List.map_nil] at w
  cases w
  exact .nil
 | cons n ns ih =>
  intro vs w
  rw [Zv] at w
  cases w with
  | cons a b =>
   cases a
   exact .cons _ _ (ih _ b)
theorem Qjn {l : OpenLaw} {n : Nat} (hn : l.most = some n) {P : Params} {h : Heap} {args : List WData} {vals : List Value}
  (hpre : l.row.toRowW.claim.pre args = true) (hwl : WellAll P h vals args) :
  ∃ a vs ns, vals = [Value.ref a] /\ args = [WData.list (ns.map WData.int)] /\ h.get? a = some { cls := .type "list", data := .seq vs.toArray } /\ IntsAre vs ns /\ ns.length <= n := by
 have hsh : WShape.hasAll [] args [.list .int] = true := (pre_splitW hpre).1
 have hc : l.pre.holds [] { args := args } = true := (pre_splitW hpre).2
 obtain ⟨d, r, rfl, h1, h2⟩ := hasAllW_cons hsh
 obtain rfl := hasAllW_nil h2
 obtain ⟨xs, rfl, h3⟩ := hasW_list h1
 obtain ⟨ns, rfl⟩ := items_int h3
 have hlen : ns.length <= n := by
  unfold OpenLaw.pre at hc
  have h4 : (WTm.not (.lt (.lit (.int (n : Int))) (.len (.arg 0)))).holds [] { args := [.list (ns.map .int)] } = true := by
   have h4 := (holds_andW hc).1
   rw [hn] at h4
   exact h4
  have h5 := condW_of h4 (w_not (w_lt w_lit (w_len_list (w_arg rfl))))
  rw [Zw] at h5
  refine Nat.le_of_not_lt λ q => ?_
  have q' : (n : Int) < ((ns.length : Nat) : Int) := by omega
  first
   | (rw [decide_eq_true q'] at h5; exact absurd h5 (by decide))
   | (simp at h5; omega)
 cases hwl with
 | cons w1 w2 =>
  cases w2
  cases w1 with
  | list ho hall => exact ⟨_, _, ns, rfl, rfl, ho, Qif ns _ hall, hlen⟩
theorem Qjl (l : OpenLaw) (args : List WData) : l.row.toRowW.claim.post args (.bool true) args = true :=
 postW_of (r := l.row.toRowW) (X := (true == true))
  (show WShape.has [] (.bool true) .bool = true by first | rfl | decide | simp [WShape.has, WShape.arms, WShape.armsAll])
  (show (WTm.eq .res (.lit (.bool true))).value [] { args := args, res := some (.bool true), after := args } = some (.bool (true == true)) from w_eq_bool (w_res rfl) w_lit) rfl
theorem Qlw {l : OpenLaw} {n : Nat} {q : Program} {loose : List Str} {XP : (Str -> Option Value) -> Heap -> Prop} {YP : World -> Heap -> Prop} {d : DefRec}
  (hn : l.most = some n) (hdf : d.params.defaults = [])
  (call : ∀ (w : World) (s₀ s₁ : Shared) (mg mb : Str -> Option Value) (fa : Addr) (o : Obj) (pm cd doc : Value) (a : Addr) (vs : List Value) (ns : List Int),
   Ground q loose [] XP w s₀ mg mb s₁.heap -> YP w s₁.heap →
   s₁.heap.get? fa = some o -> o.data = .func (docDef d.name d.params d.body d.scope pm cd doc) -> s₁.heap.CodeRec cd d.name -> mg d.name = some (.ref fa) →
   s₁.heap.get? a = some { cls := .type "list", data := .seq vs.toArray } -> IntsAre vs ns -> ns.length <= n -> s₁.gens = #[] →
   codeAny (model l.prog w) callerA (.call (.ref fa) ⟨[.ref a], []⟩) (λ r s' => r = .ok (.ret (.bool true)) /\ OldK s₁.heap s'.heap /\ s'.os = s₁.os /\ AllBare s'.gens) s₁) :
  WalkO q loose XP YP l.row.toRowW d [] (λ f vs => PySem.call f vs) := by
 intro w s₀ s₁ mg mb G Y fa o pm cd doc dV kV ho hd hcd hD hmg hg args vals as hpre hlay hrd hwl hlo
 obtain rfl : dV = .none := Dflts.none hD hdf
 obtain rfl : kV = .none := Dflts.noKw hD
 obtain ⟨a, vs, ns, rfl, rfl, hobj, hints, hlen⟩ := Qjn hn hpre hwl
 refine enter_call (codeAny_mono (call w s₀ s₁ mg mb fa o pm cd doc a vs ns G Y ho (fd_plain hd) hcd hmg hobj hints hlen hg) λ r s' hq => ?_)
 obtain ⟨rfl, h2, h3, h4⟩ := hq
 exact ⟨.inl ⟨.bool true, .bool true, [], rfl, λ _ => rfl, .bool true, Qjl l _, λ _ => ⟨List.Pairwise.nil, λ _ hm => (nomatch hm)⟩⟩, h2, h3, h4⟩
section
variable {prog : Program} {w : World} {A : Around} {E : Value -> Shared -> Prop} {s : Shared} {K : Frag}
noncomputable def ledger (h : Heap) (L d : Addr) : List (Addr × Obj) := (List.range h.objs.size).filterMap λ a => if a = L ∨ a = d then none else (h.get? a).map λ o => (a, o)
end
end Att
namespace L2
open PySem PySem.Spec PyProof.Rows
theorem Qdy : ∀ {vs : List Value} {ns : List Int}, IntsAre vs ns -> Qr (ns.map V.int) vs
 | _, _, .nil => .nil
 | _, _, .cons n t h => .cons ⟨t, rfl⟩ (Qdy h)
def QpU (H : Hp) : Prop := ∀ b, H b = none ∨ ∃ o xs, H b = some (.frz o (.lst xs))
theorem Qkm {P : Program} {w : World} {K : PySem.W.Frag} {mg mb : Str -> Option Value} {CX : CXT} {k : Nat} {fa a : Addr} {fd : FuncData} {x : Str} {sp : Sp} {s₁ : Shared} {vs : List Value} {ns : List Int}
  (KX : K.In s₁.heap) (hns : s₁.heap.Ns mainGlobals mg) (hb : s₁.heap.Ns builtinsNs mb) (hbb : ∀ x : Str, x ≠ "__name__" -> mb x = bootBuiltins x) (hlim : s₁.heap.NoLimit) (hg : s₁.gens = #[])
  (ha : s₁.heap.get? a = some { cls := .type "list", data := .seq vs.toArray }) (hi : IntsAre vs ns) (hl : ns.length <= sizeLine) (hr : Q7 k callerA)
  (F : ∀ base : Heap, K.In base -> base.Ns mainGlobals mg -> QaS P w K mg base CX k fa fd [x] sp) (hbind : ∀ (s : Shared) (u : Value), BindsTo s fd ⟨[u], []⟩ [(x, u)])
  (hsp : ∀ H : Hp, QpU H -> SqL K H a (ns.map V.int) -> sp [.ref a] H (λ v _ => v = .bl true) λ _ _ _ => False)
  (hCX : ∀ H e s', CX [] H s₁ (λ _ _ _ => False) e s' -> False) :
  codeAny (model P w) callerA (.call (.ref fa) ⟨[.ref a], []⟩) (λ r s' => r = .ok (.ret (.bool true)) /\ OldK s₁.heap s'.heap /\ s'.os = s₁.os /\ AllBare s'.gens) s₁ := by
 have rv := Qdy hi
 have lenV := hi.length
 have core : ∀ H : Hp, QpU H -> SqL K H a (ns.map V.int) -> HOk P w H s₁.heap -> (∀ b, H b ≠ none -> b = a) -> (H a ≠ none -> K.lookup a = none) →
   codeAny (model P w) callerA (.call (.ref fa) ⟨[.ref a], []⟩) (λ r s' => r = .ok (.ret (.bool true)) /\ OldK s₁.heap s'.heap /\ s'.os = s₁.os /\ AllBare s'.gens) s₁ := by
  intro H hO hS hok hA hK
  have base_of : ∀ {b : Addr} {o : Obj}, s₁.heap.get? b = some o -> H b = none -> (Qfn s₁.heap H).get? b = some o := λ e n => QpI e n
  have noA : ∀ {b : Addr} {o : Obj} {es : Array DictEntry} {ep : Nat}, s₁.heap.get? b = some o -> o.data = .dict es ep -> H b = none := λ {b o es ep} e d => by
   cases q : H b with
   | none => rfl
   | some u =>
    have e' : b = a := hA b (by rw [q]; simp)
    subst e'
    rw [ha] at e; cases e
    have d' : Data.seq vs.toArray _ = Data.dict es ep := d
    cases d'
  have nsK : ∀ {b : Addr} {m : Str -> Option Value}, s₁.heap.Ns b m -> (Qfn s₁.heap H).Ns b m := λ {b m} ⟨o, es, ep, e, d, r⟩ => ⟨o, es, ep, base_of e (noA e d), d, r⟩
  have hKb : K.In (Qfn s₁.heap H) := λ b o e => base_of (KX b o e) (by
   cases q : H b with
   | none => rfl
   | some u =>
    have e' : b = a := hA b (by rw [q]; simp)
    subst e'
    rw [hK (by rw [q]; simp)] at e; cases e)
  have hM : Mod K mg (Qfn s₁.heap H) := ⟨hKb, nsK hns, ⟨mb, nsK hb, hbb⟩, let ⟨mc, h1, h2⟩ := hlim; ⟨mc, nsK h1, h2⟩⟩
  have e0 : Qd8 P w K mg (Qfn s₁.heap H) callerA [] s₁ H := ⟨rfl, hM, λ b o e => QqR e, Nat.le_of_eq (Qnf _ _), trivial, λ b hb => absurd (show b ∈ ([] : List Addr) from hb) (by simp), hok, .of_eq hg⟩
  refine codeAny_mono ((F _ hKb (nsK hns)).run callerA [] s₁ H ⟨[.ref a], []⟩ [.ref a] [.ref a] _ _ hr e0 (hbind s₁ (.ref a)) (.cons rfl .nil) (hsp H hO hS)) λ r s' h => ?_
  cases r with
  | error e => exact (hCX H e s' h).elim
  | ok fl =>
   cases fl with
   | next => exact False.elim h
   | brk => exact False.elim h
   | cont => exact False.elim h
   | ret u =>
    obtain ⟨v, H', os, bare, un, hok', r', q⟩ := h
    have q' : v = .bl true := q
    subst q'
    obtain rfl : u = Value.bool true := r'
    refine ⟨rfl, OldK.of_keep λ b o e => ?_, os, bare⟩
    cases q : H b with
    | none => exact un.keep b o e q (by intro z; exact absurd (show b ∈ ([] : List Addr) from z) (by simp)) (by simp)
    | some u =>
     rcases hO b with z | ⟨ob, xs, z⟩
     ·rw [q] at z; cases z
     ·have z2 := un.frzs b ob _ z
      obtain ⟨e1, _⟩ := hok b _ z
      obtain ⟨e2, _⟩ := hok' b _ z2
      rw [e] at e1; cases e1
      exact e2
 cases hk : K.lookup a with
 | some o =>
  have e := KX a o hk
  rw [ha] at e
  cases e
  refine core (λ _ => none) (λ _ => .inl rfl) (.inr ⟨_, vs.toArray, _, hk, rfl, rfl, rfl, by rw [Zt, lenV]; exact hl, by simpa using rv⟩) (λ b u z => by have z' : (none : Option HO) = some u := z; cases z') (λ b z => absurd rfl z) λ z => absurd rfl z
 | none =>
  refine core (λ b => if b = a then some (.frz { cls := .type "list", data := .seq vs.toArray } (.lst (ns.map V.int))) else none) (λ b => ?_) (.inl (.inr ⟨{ cls := .type "list", data := .seq vs.toArray }, if_pos rfl⟩)) (λ b u z => ?_) (λ b z => ?_) λ _ => hk
  ·by_cases hb : b = a
   ·exact .inr ⟨_, _, if_pos hb⟩
   ·exact .inl (if_neg hb)
  ·by_cases hb : b = a
   ·have z' := (if_pos hb).symm.trans z
    cases z'
    subst hb
    exact ⟨ha, by rw [Zw]; exact hl, vs, _, rv, ha⟩
   ·have z' := (if_neg hb).symm.trans z
    cases z'
  ·by_cases hb : b = a
   ·exact hb
   ·exact absurd (if_neg hb) z
end L2
namespace L2
open PySem PySem.Spec PyProof.Rows
noncomputable abbrev KOf {K : PySem.W.Frag} {h : Heap} (_ : K.In h) : PySem.W.Frag := K
theorem QuZ {l : PySem.W.OpenLaw} {n k : Nat} {q : Program} {loose : List Str} {XP : (Str -> Option Value) -> Heap -> Prop} {YP : World -> Heap -> Prop} {d : DefRec} {K : Params -> PySem.W.Frag} {CX : World -> CXT} {sp : World -> Sp} {x : Str}
  (hn : l.most = some n) (hn2 : n <= sizeLine) (hdf : d.params.defaults = []) (hr : Q7 k callerA)
  (hY : ∀ (w : World) (h : Heap), YP w h -> (K w.params).In h)
  (F : ∀ (w : World) (mg : Str -> Option Value) (fa : Addr) (h : Heap), (K w.params).In h -> h.Ns mainGlobals mg -> mg d.name = some (.ref fa) →
   ∃ fd : FuncData, (∀ (s : Shared) (u : Value), BindsTo s fd ⟨[u], []⟩ [(x, u)]) ∧
    ∀ base : Heap, (K w.params).In base -> base.Ns mainGlobals mg -> QaS l.prog w (K w.params) mg base (CX w) k fa fd [x] (sp w))
  (hsp : ∀ (w : World) (H : Hp) (a : Addr) (ns : List Int), ns.length <= n -> QpU H -> SqL (K w.params) H a (ns.map V.int) -> sp w [.ref a] H (λ v _ => v = .bl true) λ _ _ _ => False)
  (hCX : ∀ (w : World) (H : Hp) (s : Shared) (e : Value) (s' : Shared), CX w [] H s (λ _ _ _ => False) e s' -> False) :
  PySem.W.WalkO q loose XP YP l.row.toRowW d [] (λ f vs => PySem.call f vs) := by
 refine Att.Qlw hn hdf λ w s₀ s₁ mg mb fa o pm cd doc a vs ns G Y ho hd hcd hmg hobj hints hlen hg => ?_
 have KX := hY w _ Y
 obtain ⟨fd, hb, hF⟩ := F w mg fa _ KX G.T.g hmg
 exact Qkm KX G.T.g G.T.b G.T.builtins G.T.nolimit hg hobj hints (Zr hlen hn2) hr hF hb (λ H hO hS => hsp w H a ns hlen hO hS) λ H e s' => hCX w H s₁ e s'
end L2
namespace L2
open PySem PySem.Spec PyProof.Rows
noncomputable def QdU (s : Stmt) : Arguments := match s with
 | .FunctionDef _ a _ _ _ _ _ _ _ _ => a
 | _ => { posonlyargs := [], args := [], vararg := none, kwonlyargs := [], kw_defaults := [], kwarg := none, defaults := [] }
noncomputable def Qap (s : Stmt) : List Stmt := match s with
 | .FunctionDef _ _ b _ _ _ _ _ _ _ => b
 | _ => []
noncomputable def Qg (s : Stmt) : Scope := match s with
 | .FunctionDef _ _ _ _ _ _ sc _ _ _ => sc
 | _ => { kind := .function, names := [], isGenerator := false, isCoroutine := false }
noncomputable abbrev CX0 : CXT := λ _ _ _ _ _ _ => False
noncomputable abbrev E0 : XK := λ _ _ _ => False
theorem QmU {X : Cx} : QhL CX0 X E0 := λ _ _ _ _ _ _ _ h => h.elim
structure Fun (K : PySem.W.Frag) (x qual : Str) (st : Stmt) (f : Addr) (fd : FuncData) : Prop where
 ex : ∃ (oc : Value) (od : Option Addr) (kV doc pm : Value) (an : Option Addr) (cdv ct : Value) (osl : Array (Option Value)),
  fd = PySem.W.fnOf x qual (QdU st) (Qap st) (Qg st) .none kV doc pm an cdv ct /\ K.lookup f = some ⟨oc, od, .func fd, osl⟩ /\ PySem.W.codeIn K cdv qual = true
 kp : PySem.W.keepIn K (.ref f) = true
section
variable {P : Program} {w : World} {K : PySem.W.Frag} {mg : Str -> Option Value} {base : Heap}
theorem Fun.ok {x qual : Str} {st : Stmt} {f : Addr} {fd : FuncData} {N ps : List Str} {k : Nat} {sp : Sp} (F : Fun K x qual st f fd) (S : Qbm N ps (Qg st)) (len : ∀ vs H Q E, sp vs H Q E -> vs.length = ps.length)
  (hbody : ∀ (cdv : Value) (A : Around) (outer : List Env) (s : Shared) (H : Hp) (vs : List V) (Q : VK) (E : XK), Q7 k (A.deeper (envOfC qual (Qg st) s.heap.objs.size f cdv)) -> sp vs H Q E →
   ∃ t, PSs (QdF CX0 P w K mg base N qual (Qg st) f cdv A outer s H E).nox (Qap st) t /\ t { nx := λ _ H' => Q .non H', rt := Q } (start N vs) H) : QaS P w K mg base CX0 (k + 1) f fd ps sp := by
 obtain ⟨oc, od, kV, doc, pm, an, cdv, ct, osl, rfl, lk, hcd⟩ := F.ex
 refine Qqd lk hcd S len λ A outer s H vs Q E hr hsp => ?_
 obtain ⟨t, h, q⟩ := hbody cdv A outer s H vs Q E hr hsp
 exact ⟨t, h.nox, q⟩
theorem Fun.binds {x qual : Str} {st : Stmt} {f : Addr} {fd : FuncData} {ps : List Str} (F : Fun K x qual st f fd)
  (h : ∀ (kV doc pm : Value) (an : Option Addr) (cdv ct : Value) (us : List Value), us.length = ps.length -> bindArgs (PySem.W.fnOf x qual (QdU st) (Qap st) (Qg st) .none kV doc pm an cdv ct) ⟨us, []⟩ = pure (ps.zip us)) : Binds K fd ps [] := by
 obtain ⟨oc, od, kV, doc, pm, an, cdv, ct, osl, rfl, lk, hcd⟩ := F.ex
 exact .all (h kV doc pm an cdv ct)
theorem Qsm {x qual : Str} {st : Stmt} {f : Addr} {oc : Value} {od an : Option Addr} {osl : Array (Option Value)} {kV doc pm cdv ct : Value} (l : K.lookup f = some ⟨oc, od, .func (PySem.W.fnOf x qual (QdU st) (Qap st) (Qg st) .none kV doc pm an cdv ct), osl⟩)
  (c : PySem.W.codeIn K cdv qual = true) (k : PySem.W.keepIn K (.ref f) = true) : Fun K x qual st f (PySem.W.fnOf x qual (QdU st) (Qap st) (Qg st) .none kV doc pm an cdv ct) := ⟨⟨oc, od, kV, doc, pm, an, cdv, ct, osl, rfl, l, c⟩, k⟩
end
section
variable {X : Cx}
theorem pv (i : Nat) {x : Str} {pos : Pos} (hN : X.N[i]? = some x := by rfl) (hv : Vis X.env.scope x := by first | exact Or.inl rfl | exact Or.inr (Or.inl rfl) | exact Or.inr (Or.inr rfl)) (hd : (x == ("__debug__" : Str)) = false := by decide)
  (hcd : (x == ("__classdict__" : Str)) = false := by decide) : PE X (.Name x pos) (QhA i) := Qnd hN hv hd hcd
end
theorem Qme {A B : Prop} (h : B) : if false = true then A else B := by
 rw [if_neg ZE]
 exact h
theorem Qmm {A B : Prop} (h : A) : if true = true then A else B := by
 rw [if_pos rfl]
 exact h
def Qy (H H' : Hp) : Prop := ∀ b o, H b = some o -> H' b = some o
theorem Qy.refl (H : Hp) : Qy H H := λ _ _ h => h
theorem Qy.trans {H H1 H2 : Hp} (a : Qy H H1) (b : Qy H1 H2) : Qy H H2 := λ c o h => b c o (a c o h)
theorem Qy.free {H H' : Hp} (e : Qy H H') {l : Addr} (h : H' l = Option.none) : H l = Option.none := by
 cases q : H l with
 | none => rfl
 | some o =>
  rw [e l o q] at h
  cases h
theorem Qy.seq {K : PySem.W.Frag} {H H' : Hp} {a : Addr} {xs : List V} (e : Qy H H') (h : SqL K H a xs) : SqL K H' a xs := by
 rcases h with (h | ⟨o, h⟩) | h
 ·exact .inl (.inl (e _ _ h))
 ·exact .inl (.inr ⟨o, e _ _ h⟩)
 ·exact .inr h
end L2
namespace L2
open PySem PySem.Spec PyProof.Rows
theorem Qjh (env : Env) (body : Str × NameKind -> List (Str × Addr) -> Sem (ForInStep (List (Str × Addr))))
  (hb : ∀ n k cs, body (n, k) cs = if (k == NameKind.free) = true then (do let c ← cellOf env n; pure (ForInStep.yield ((n, c) :: cs))) else pure (ForInStep.yield cs)) :
  ∀ (names : List (Str × NameKind)) (acc : List (Str × Addr)), (∀ y ∈ names, y.2 = .free -> ∃ c, env.cells.lookup y.1 = some c) -> (∀ x c, acc.lookup x = some c -> env.cells.lookup x = some c) →
   ∃ cl, forIn names acc body = (pure cl : Sem _) /\ (∀ x c, cl.lookup x = some c -> env.cells.lookup x = some c) /\ (∀ x, acc.lookup x ≠ none -> cl.lookup x ≠ none) /\ ∀ y ∈ names, y.2 = .free -> cl.lookup y.1 ≠ none
 | [], acc, _, ha => ⟨acc, rfl, ha, λ _ h => h, λ y hy => by simp at hy⟩
 | (n, k) :: r, acc, hn, ha => by
  rw [List.forIn_cons, hb]
  have hr : ∀ y ∈ r, y.2 = .free -> ∃ c, env.cells.lookup y.1 = some c := λ y hy => hn y (Zd _ hy)
  by_cases hk : k = .free
  ·subst hk
   obtain ⟨c, hc⟩ := hn (n, .free) Zi rfl
   have hce : cellOf env n = pure c := by unfold cellOf; rw [show env.cells.lookup n = some c from hc]
   rw [if_pos (by rfl), hce]
   obtain ⟨cl, e, h1, h2, h3⟩ := Qjh env body hb r ((n, c) :: acc) hr (λ x c' e => by
    rw [Zm] at e
    cases q : x == n with
    | true => rw [q] at e; cases e; rw [beq_iff_eq] at q; rw [q]; exact hc
    | false => rw [q] at e; exact ha x c' e)
   have hcons : ∀ x, ((n, c) :: acc).lookup x ≠ none -> cl.lookup x ≠ none := h2
   refine ⟨cl, by simpa using e, h1, λ x hx => hcons x ?_, λ y hy hf => ?_⟩
   ·rw [Zm]; cases x == n with
    | true => simp
    | false => exact hx
   ·rcases Zq.mp hy with rfl | hy
    ·exact hcons _ (by simp [Zm])
    ·exact h3 y hy hf
  ·rw [if_neg (by simpa using hk)]
   obtain ⟨cl, e, h1, h2, h3⟩ := Qjh env body hb r acc hr ha
   refine ⟨cl, by simpa using e, h1, h2, λ y hy hf => ?_⟩
   rcases Zq.mp hy with rfl | hy
   ·exact absurd hf hk
   ·exact h3 y hy hf
theorem QqH {scope : Scope} {env : Env} (h : ∀ y ∈ scope.names, y.2 = .free -> ∃ c, env.cells.lookup y.1 = some c) :
  ∃ cl, closureFor scope env = pure cl /\ (∀ x c, cl.lookup x = some c -> env.cells.lookup x = some c) /\ ∀ y ∈ scope.names, y.2 = .free -> ∃ c, cl.lookup y.1 = some c := by
 unfold closureFor
 obtain ⟨cl, e, h1, _, h3⟩ := Qjh env (λ x cs => match x with | (name, kind) => if (kind == NameKind.free) = true then (do let c ← cellOf env name; pure (ForInStep.yield ((name, c) :: cs))) else pure (ForInStep.yield cs)) (λ _ _ _ => rfl) scope.names [] h (λ x c e => by simp at e)
 refine ⟨cl, ?_, h1, λ y hy hf => Option.ne_none_iff_exists'.mp (h3 y hy hf)⟩
 show (forIn scope.names [] _ >>= λ r => pure r) = _
 rw [e]; rfl
noncomputable def cxc (X : Cx) (N' : List Str) (scope : Scope) (cl : List (Str × Addr)) (C : Addr) (fp : List Addr) (s3 : Shared) (H3 : Hp) : Cx :=
 { X with N := N', s₀ := s3, H₀ := H3, env := compEnvC scope cl C X.env, outer := X.stack, ex := fp, fn := λ x => decide (scope.names.lookup x = some .cell), pn := [], xe := λ _ _ => False }
def PTs (X : Cx) (ifs : List Expr) (t : TT) : Prop :=
 ∀ (pins : List (Addr × Obj)) (s : Shared) (σ : St) (H : Hp) (Q : Bool -> Hp -> Prop), Inv X pins σ H s -> t σ H Q →
  wpAny (model X.prog X.w) X.A (forIn ifs true λ c r => if r = true then do let ok ← isTrue c X.env (eval c X.env); pure (ForInStep.yield ok) else pure (ForInStep.yield r)) (TP X pins σ Q) X.xe s
noncomputable def Quu : TT := λ _ H Q => Q true H
theorem QrA {X : Cx} : PTs X [] Quu := λ _ _ _ H _ I h => wpAny_tests_nil ⟨H, I, h⟩
theorem QqM {X : Cx} {c : Expr} {t : TT} (h : PT X c t) : PTs X [c] t := λ pins s σ H Q I q => wpAny_tests_one (h pins s σ H Q I q)
def Qij (X : Cx) (N' : List Str) (scope : Scope) (σ σ' : St) : Prop :=
 σ'.length = N'.length /\ ∀ (j : Nat) (x : Str) (v : V), N'[j]? = some x -> σ'[j]? = some (some v) -> scope.names.lookup x = some .free /\ ∃ i : Nat, X.N[i]? = some x /\ σ[i]? = some (some v) /\ (X.env.kindOf x = some .cell ∨ X.env.kindOf x = some .free)
noncomputable def QjU (wi : TI) (cap : St -> St -> Prop) (g : TG) (tc : TT) (te : TE) : TE := λ σ H Q => wi σ H λ J H1 => ∃ σc, cap σ σc /\ ∀ D, H1 D = none -> ∃ W : Nat -> Nat -> List V -> Hp -> Prop,
 (∃ m, W 0 m [] (upd H1 D (.lst []))) /\ ∀ i m acc H2, W i m acc H2 -> (J.stop i H2 /\ Q (.ref D) H2) ∨
  (J.go i H2 /\ ∀ x H3, J.yld i H2 x H3 -> g x σc H3 λ σ2 H4 => (∀ (j : Nat) v, σc[j]? = some (some v) -> σ2[j]? = some (some v)) /\ tc σ2 H4 λ b H5 => if b = true then
   te σ2 H5 λ y H6 => H6 D = some (.lst acc) /\ acc.length < sizeLine /\ ∃ m', m' < m /\ W (i + 1) m' (acc ++ [y]) (upd H6 D (.lst (acc ++ [y])))
   else ∃ m', m' < m /\ W (i + 1) m' acc H5)
theorem QbV {env : Env} : ∀ {names : List (Str × NameKind)} {x : Str}, names.lookup x = some .free →
  (names.map λ (n, k) => if (k == NameKind.free && env.scope.kind == .function && env.kindOf n == some .cell) then (n, NameKind.cell) else (n, k)).lookup x = some .cell ∨
  (names.map λ (n, k) => if (k == NameKind.free && env.scope.kind == .function && env.kindOf n == some .cell) then (n, NameKind.cell) else (n, k)).lookup x = some .free
 | [], _, h => by simp at h
 | (n, k) :: r, x, h => by
  have ih := @QbV env r x
  rw [Zv]
  cases hx : x == n with
  | true =>
   simp only [Zm, hx] at h
   cases h
   dsimp only
   split
   ·left; simp [Zm, hx]
   ·right; simp [Zm, hx]
  | false =>
   simp only [Zm, hx] at h
   dsimp only
   split
   ·simp only [Zm, hx]; exact ih h
   ·simp only [Zm, hx]; exact ih h
theorem Qdz {env : Env} : ∀ {names : List (Str × NameKind)} {x : Str},
  ((names.map λ (n, k) => if (k == NameKind.free && env.scope.kind == .function && env.kindOf n == some .cell) then (n, NameKind.cell) else (n, k)).lookup x = some .cell ∨
  (names.map λ (n, k) => if (k == NameKind.free && env.scope.kind == .function && env.kindOf n == some .cell) then (n, NameKind.cell) else (n, k)).lookup x = some .free) →
  ∃ k, (x, k) ∈ names /\ (k = .free ∨ k = .cell)
 | [], _, h => by simp at h
 | (n, k) :: r, x, h => by
  have ih := @Qdz env r x
  rw [Zv] at h
  cases hx : x == n with
  | true =>
   have hn : x = n := by simpa using hx
   subst hn
   dsimp only at h
   split at h
   ·rename_i hc
    simp only [Zg] at hc
    refine ⟨k, Zi, .inl (by simpa using hc.1.1)⟩
   ·simp only [Zm, hx] at h
    refine ⟨k, Zi, ?_⟩
    rcases h with h | h
    ·exact .inr (Option.some.inj h)
    ·exact .inl (Option.some.inj h)
  | false =>
   dsimp only at h
   have : ∃ k, (x, k) ∈ r /\ (k = .free ∨ k = .cell) := by
    apply ih
    split at h
    ·simpa only [Zm, hx] using h
    ·simpa only [Zm, hx] using h
   obtain ⟨k', h1, h2⟩ := this
   exact ⟨k', Zd _ h1, h2⟩
theorem Qe9 : ∀ (names : List (Str × NameKind)) (n : Nat) (acc : List (Str × Addr)) (x : Str) (c : Addr), (cellsFrom n names acc).lookup x = some c -> acc.lookup x = some c ∨ (n <= c /\ (x, NameKind.cell) ∈ names)
 | [], _, _, _, _, h => .inl h
 | (nm, k) :: r, n, acc, x, c, h => by
  unfold cellsFrom at h
  split at h
  ·rename_i hk
   have hk : k = .cell := by simpa using hk
   rcases Qe9 r (n + 1) ((nm, n) :: acc) x c h with h | ⟨h1, h2⟩
   ·rw [Zm] at h
    cases q : x == nm with
    | true =>
     rw [q] at h
     cases h
     have : x = nm := by simpa using q
     exact .inr ⟨Zn _, by rw [this, hk]; exact Zi⟩
    | false => rw [q] at h; exact .inl h
   ·exact .inr ⟨by omega, Zd _ h2⟩
  ·rcases Qe9 r n acc x c h with h | ⟨h1, h2⟩
   ·exact .inl h
   ·exact .inr ⟨h1, Zd _ h2⟩
theorem QkQ : ∀ (names : List (Str × NameKind)) (n : Nat) (acc : List (Str × Addr)) (x : Str) (c : Addr), (x, NameKind.cell) ∈ names -> (cellsFrom n names acc).lookup x = some c -> n <= c
 | (nm, k) :: r, n, acc, x, c, hm, h => by
  unfold cellsFrom at h
  split at h
  ·by_cases hr : (x, NameKind.cell) ∈ r
   ·have := QkQ r (n + 1) _ x c hr h
    omega
   ·have hx : x = nm := by
     rcases Zq.mp hm with e | e
     ·exact (Prod.mk.inj e).1
     ·exact absurd e hr
    rcases Qe9 r (n + 1) ((nm, n) :: acc) x c h with h | ⟨h1, _⟩
    ·rw [Zm, show (x == nm) = true by simpa using hx] at h
     cases h
     exact Zn _
    ·omega
  ·rename_i hk
   rcases Zq.mp hm with e | e
   ·exact absurd (by rw [← (Prod.mk.inj e).2]; rfl) hk
   ·exact QkQ r n acc x c e h
theorem Qk9 : ∀ (names : List (Str × NameKind)) (n : Nat) (acc : List (Str × Addr)), (∀ x y c, acc.lookup x = some c -> acc.lookup y = some c -> x = y) -> (∀ x c, acc.lookup x = some c -> c < n) →
  ∀ x y c, (cellsFrom n names acc).lookup x = some c -> (cellsFrom n names acc).lookup y = some c -> x = y
 | [], _, _, hi, _, x, y, c, h1, h2 => hi x y c h1 h2
 | (nm, k) :: r, n, acc, hi, hb, x, y, c, h1, h2 => by
  unfold cellsFrom at h1 h2
  split at h1
  ·rename_i hk
   rw [if_pos hk] at h2
   refine Qk9 r (n + 1) ((nm, n) :: acc) (λ x y c h1 h2 => ?_) (λ x c h => ?_) x y c h1 h2
   ·rw [Zm] at h1 h2
    cases qx : x == nm with
    | true =>
     rw [qx] at h1
     cases h1
     cases qy : y == nm with
     | true => rw [show x = nm by simpa using qx, show y = nm by simpa using qy]
     | false => rw [qy] at h2; exact absurd (hb y _ h2) (ZL _)
    | false =>
     rw [qx] at h1
     cases qy : y == nm with
     | true => rw [qy] at h2; cases h2; exact absurd (hb x _ h1) (ZL _)
     | false => rw [qy] at h2; exact hi x y c h1 h2
   ·rw [Zm] at h
    cases qx : x == nm with
    | true => rw [qx] at h; cases h; exact ZaS _
    | false => rw [qx] at h; exact ZaL (hb x c h)
  ·rename_i hk
   rw [if_neg hk] at h2
   exact Qk9 r n acc hi hb x y c h1 h2
theorem QeV : ∀ (names : List (Str × NameKind)) (n : Nat) (acc : List (Str × Addr)) (x : Str), (∃ c, acc.lookup x = some c) -> ∃ c, (cellsFrom n names acc).lookup x = some c
 | [], _, _, _, h => h
 | (nm, k) :: r, n, acc, x, h => by
  unfold cellsFrom
  split
  ·refine QeV r (n + 1) _ x ?_
   rw [Zm]
   cases x == nm with
   | true => exact ⟨n, rfl⟩
   | false => exact h
  ·exact QeV r n acc x h
theorem Qli : ∀ (names : List (Str × NameKind)) (n : Nat) (acc : List (Str × Addr)) (x : Str), (x, NameKind.cell) ∈ names -> ∃ c, (cellsFrom n names acc).lookup x = some c
 | (nm, k) :: r, n, acc, x, hm => by
  unfold cellsFrom
  rcases Zq.mp hm with e | e
  ·obtain ⟨e1, e2⟩ := Prod.mk.inj e
   subst e1
   rw [← e2, if_pos (by rfl)]
   exact QeV r (n + 1) _ x ⟨n, by simp [Zm]⟩
  ·split
   ·exact Qli r (n + 1) _ x e
   ·exact Qli r n acc x e
theorem QiR (lo : Nat) : ∀ (names : List (Str × NameKind)) (h : Heap) (acc : List (Str × Addr)), (∀ x c, acc.lookup x = some c -> lo <= c -> h.IsCell c none) -> lo <= h.objs.size →
  ∀ x c, (cellsFrom h.objs.size names acc).lookup x = some c -> lo <= c -> (pushCells h names).IsCell c none
 | [], _, _, ha, _, x, c, e, hl => ha x c e hl
 | (nm, k) :: r, h, acc, ha, hlo, x, c, e, hl => by
  unfold cellsFrom at e
  unfold pushCells
  split at e
  ·rename_i hk
   rw [if_pos hk]
   have hs := ZaE h { cls := .type "cell", data := .cell none }
   refine QiR lo r (h.push { cls := .type "cell", data := .cell none }) ((nm, h.objs.size) :: acc) (λ x c e hl => ?_) (by rw [hs]; omega) x c (by rw [hs]; exact e) hl
   rw [Zm] at e
   cases q : x == nm with
   | true => rw [q] at e; cases e; exact ⟨_, ZF _ rfl, rfl⟩
   | false => rw [q] at e; exact (ha x c e hl).keeps λ b o e => Zs _ e
  ·rename_i hk
   rw [if_neg hk]
   exact QiR lo r h acc ha hlo x c e hl
theorem QmT {M : Model} {A : Around} {E : Value -> Shared -> Prop} {s : Shared} {scope : Scope} {globals builtins : Addr} {cl : List (Str × Addr)} {qual : Str} {env : Env} {Q : Env -> Shared -> Prop}
  (hQ : ∀ h' : Heap, h'.Ns s.heap.objs.size (λ _ => none) -> (∀ b o, s.heap.get? b = some o -> h'.get? b = some o) -> ((∀ x c, cl.lookup x = some c -> c < s.heap.objs.size) -> ∀ x c, (cellsFrom (s.heap.objs.size + 1) scope.names cl).lookup x = some c -> s.heap.objs.size + 1 <= c -> h'.IsCell c none) →
   Q (newEnv scope s.heap.objs.size globals (cellsFrom (s.heap.objs.size + 1) scope.names cl) qual none .none (some env) builtins) { s with heap := h' }) :
  wpAny M A (newFunctionEnv scope globals cl [] qual none .none (some env) builtins) Q E s := by
 simp only [newFunctionEnv, Option.isSome_some, if_true]
 refine wpAny_bind (wpAny_alloc ?_)
 refine wpAny_bind (wpAny_layCells _ (λ name kind cells => by cases hkc : kind == NameKind.cell <;> simp [hkc]) _ _ _ _ ?_)
 have hs := ZaE s.heap { cls := .type "dict", data := .dict #[] }
 rw [show ({ s with heap := s.heap.push { cls := .type "dict", data := .dict #[] } } : Shared).heap.objs.size = s.heap.objs.size + 1 from hs]
 refine wpAny_bind (wpAny_pure (wpAny_pure ?_))
 refine hQ _ ((Heap.Ns.new s.heap (.type "dict")).keeps (pushCells_keeps _ _)) (λ b o e => pushCells_keeps _ _ b o (Zs _ e)) λ hb x c e hl => ?_
 refine QiR (s.heap.objs.size + 1) scope.names (s.heap.push { cls := .type "dict", data := .dict #[] }) cl (λ x c e hl => ?_) (by rw [hs]; exact Zn _) x c (by rw [hs]; exact e) hl
 exact absurd (Zl (hb x c e) (Zr (Zz _) hl)) (ZL _)
section
variable {X : Cx} {tg iter elt : Expr} {ifs : List Expr} {scope : Scope} {N' : List Str} {pos : Pos}
structure Qdt (X : Cx) (N' : List Str) (scope : Scope) : Prop where
 kind : scope.kind = .function
 own : ∀ y ∈ scope.names, y.2 = .cell -> scope.names.lookup y.1 = some .cell
 loc : ∀ y ∈ scope.names, y.2 = .local -> scope.names.lookup y.1 = some .local
 free : ∀ y ∈ scope.names, y.2 = .free -> X.env.kindOf y.1 = some .cell ∨ X.env.kindOf y.1 = some .free
theorem Qo7 {pins : List (Addr × Obj)} {σ σc : St} {H3 : Hp} {s3 : Shared} {fp : List Addr} {cl : List (Str × Addr)} {h' : Heap} {tk : Nat} (S : Qdt X N' scope) (I : Inv X pins σ H3 s3)
  (hf : ∀ b ∈ fp, Qc9 X pins H3 b) (hfl : ∀ b ∈ fp, b < s3.heap.objs.size) (hc1 : ∀ x c, cl.lookup x = some c -> X.env.cells.lookup x = some c) (hc2 : ∀ y ∈ scope.names, y.2 = .free -> ∃ c, cl.lookup y.1 = some c) (cap : Qij X N' scope σ σc)
  (hns : h'.Ns s3.heap.objs.size (λ _ => none)) (hk : ∀ b o, s3.heap.get? b = some o -> h'.get? b = some o)
  (hown : (∀ x c, cl.lookup x = some c -> c < s3.heap.objs.size) -> ∀ x c, (cellsFrom (s3.heap.objs.size + 1) scope.names cl).lookup x = some c -> s3.heap.objs.size + 1 <= c -> h'.IsCell c none) :
  Inv (cxc X N' scope (cellsFrom (s3.heap.objs.size + 1) scope.names cl) s3.heap.objs.size fp s3 H3) [] σc H3 { s3 with heap := h', toks := tk } := by
 have nold : ∀ b, b ∈ fp -> b ≠ s3.heap.objs.size := λ b hb e => absurd (hfl b hb) (by rw [e]; exact ZL _)
 have cellOld : ∀ x c, cl.lookup x = some c -> ∃ v, s3.heap.IsCell c v := λ x c e => I.cell x c (hc1 x c e)
 have cellLt : ∀ x c, cl.lookup x = some c -> c < s3.heap.objs.size := λ x c e => let ⟨v, q⟩ := cellOld x c e; q.lt
 have cellNew : ∀ c v, s3.heap.IsCell c v -> h'.IsCell c v := λ c v ⟨o, ho, hd⟩ => ⟨o, hk c o ho, hd⟩
 have hown := hown cellLt
 have look : ∀ x c, (cellsFrom (s3.heap.objs.size + 1) scope.names cl).lookup x = some c -> cl.lookup x = some c ∨ (s3.heap.objs.size + 1 <= c /\ (x, NameKind.cell) ∈ scope.names) := Qe9 scope.names _ cl
 refine ⟨⟨I.ok.mod, S.kind, I.ok.glob, I.ok.blt, Zn _, Qk9 scope.names _ cl (λ x y c h1 h2 => I.ok.inj x y c (hc1 x c h1) (hc1 y c h2)) (λ x c e => ZaL (cellLt x c e)), λ x hx => ?_, λ x c e1 e2 => ?_, I.ok.hd, I.ok.frames, .inl rfl, λ b hb => ⟨nold b hb, λ x c e => ?_⟩,
  I.bs, Zr I.ok.bsz I.sz, λ b o e hb => ?_, λ b hb hs => ?_, I.stack, I.QiX⟩, rfl, I.bare, Un.kept hk, ⟨_, hns, λ j x v h1 h2 h3 => ?_⟩, λ x c e => ?_, I.hok.fresh (Zn _), λ x c e => ?_, λ p hp => absurd (show p ∈ ([] : List (Addr × Obj)) from hp) (by simp), I.hok.kept hk, cap.1⟩
 ·obtain ⟨k, hm, hk'⟩ := Qdz (env := X.env) (names := scope.names) (x := x) hx
  rcases hk' with rfl | rfl
  ·exact QeV scope.names _ cl x (hc2 _ hm rfl)
  ·exact Qli scope.names _ cl x hm
 ·have e1 : decide (scope.names.lookup x = some .cell) = true := e1
  have := QkQ scope.names _ cl x c (ZP (of_decide_eq_true e1)) e2
  exact Zr (Zz _) this
 ·rcases look x c e with e | ⟨e, _⟩
  ·exact (hf b hb).2.2.2.2.1 x c (hc1 x c e)
  ·intro z
   rw [z] at e
   exact absurd (Zl (hfl b hb) (Zr (Zz _) e)) (ZL _)
 ·rcases (hf b hb).2.2.2.1 with z | z
  ·exact I.ok.noex b o e z
  ·exact absurd (Zl (Zo e) (Zr I.ok.bsz z)) (ZL _)
 ·rcases Zq.mp (I.Qec b hs) with e | z
  ·exact (hf b hb).2.1 e
  ·exact (hf b hb).2.2.1 z
 ·obtain ⟨hl, i, e1, e2, e3⟩ := cap.2 j x v h1 h2
  obtain ⟨m, hn, look'⟩ := I.loc
  obtain ⟨u, r, l⟩ := look' i x v e1 e2 (e3.elim (λ z => .inr (.inl z)) λ z => .inr (.inr z))
  refine ⟨u, r, .inr ⟨QbV hl, ?_⟩⟩
  rcases l with ⟨k, _⟩ | ⟨_, c, ec, hcell⟩
  ·rcases e3 with z | z <;> (rw [k] at z; cases z)
  ·obtain ⟨c', ec'⟩ := QeV scope.names (s3.heap.objs.size + 1) cl x (hc2 (x, .free) (ZP hl) rfl)
   rcases look x c' ec' with q | ⟨_, q⟩
   ·have := hc1 x c' q
    rw [ec] at this; cases this
    exact ⟨c, ec', cellNew c _ hcell⟩
   ·have := S.own _ q rfl
    rw [hl] at this
    cases this
 ·rcases look x c e with q | ⟨q, _⟩
  ·obtain ⟨v, q⟩ := cellOld x c q
   exact ⟨v, cellNew c v q⟩
  ·exact ⟨none, hown x c e q⟩
 ·rcases look x c e with q | ⟨q, _⟩
  ·exact I.freeC x c (hc1 x c q)
  ·exact I.hok.fresh (by omega)
theorem Qng {prog : Program} {w : World} {A : Around} {env : Env} {it acc : Value} {R : Result -> Shared -> Prop} {s0 : Shared} (J : Nat -> Shared -> Prop)
  (turn : ∀ n s, J n s -> wpAny (model prog w) A (pyNext it) (λ r s1 => match r with
   | none => R (.ok .next) s1
   | some v => wpAny (model prog w) A (letOwnedTupleGo tg it v) (λ _ s2 => wpAny (model prog w) A (assign tg env v) (λ _ s3 =>
     wpAny (model prog w) A (forIn ifs true λ c r => if r = true then do let ok ← isTrue c env (eval c env); pure (ForInStep.yield ok) else pure (ForInStep.yield r)) (λ ok s4 =>
      if ok = true then wpAny (model prog w) A (eval elt env) (λ x s5 => wpAny (model prog w) A (call (.builtin "list.append") [acc, x]) (λ _ s6 => ∃ m, m < n /\ J m s6) (λ _ _ => False) s5) (λ _ _ => False) s4
      else ∃ m, m < n /\ J m s4) (λ _ _ => False) s3) (λ _ _ => False) s2) (λ _ _ => False) s1) (λ _ _ => False) s)
  (n : Nat) (h : J n s0) : codeAny (model prog w) A (.compLoop (.ListComp elt [⟨tg, iter, ifs, 0⟩] scope pos) 0 it acc env) R s0 := by
 have up : ∀ {α : Type} {t : Sem α} {Q : α -> Shared -> Prop} {E : Value -> Shared -> Prop} {s : Shared}, wpAny (model prog w) A t Q (λ _ _ => False) s -> wpAny (model prog w) A t Q E s := λ h => wpAny_mono h (λ _ _ q => q) λ _ _ f => f.elim
 refine codeAny_loop (by rfl) J (λ k sk hk => ?_) n h
 show wpAny (model prog w) A ((compTurn (.ListComp elt [⟨tg, iter, ifs, 0⟩] scope pos) 0 it acc env).onRaise (λ x => do noteFrame x env; theTreesLotGoes x)) _ _ sk
 refine wpAny_noted (up ?_)
 rw [compTurn_list]
 refine wpAny_bind (wpAny_standAt (wpAny_bind (thn (turn k sk hk) λ r s1 h1 => ?_)))
 cases r with
 | none => exact wpAny_pure h1
 | some v =>
  refine wpAny_bind (thn h1 λ _ s2 h2 => wpAny_bind (thn h2 λ _ s3 h3 => wpAny_bind (thn h3 λ ok s4 h4 => ?_)))
  cases ok with
  | false => exact wpAny_pure ⟨rfl, h4⟩
  | true => exact wpAny_bind (wpAny_bind (thn h4 λ x s5 h5 => wpAny_bind (thn h5 λ _ s6 h6 => wpAny_pure (wpAny_pure ⟨rfl, h6⟩))))
theorem Qo8 {it D C : Addr} {fp : List Addr} {tn : Nat -> Heap -> Prop} {J : It} {cl : List (Str × Addr)} {s3 s4 : Shared} {H3 : Hp} {σc : St} {g : TG} {tc : TT} {te : TE} {Q : Hp -> Prop} (hcalm : X.calm = true)
  (T : Turn X.prog X.w X.K tg J fp it tn)
  (hg : PG (cxc X N' scope cl C fp s3 H3) tg g) (ht : PTs (cxc X N' scope cl C fp s3 H3) ifs tc) (he : PE (cxc X N' scope cl C fp s3 H3) elt te)
  (I : Inv (cxc X N' scope cl C fp s3 H3) [] σc H3 s4) (st : tn 0 s4.heap) (ff : ∀ b ∈ fp, Qc9 (cxc X N' scope cl C fp s3 H3) [] H3 b)
  (W : Nat -> Nat -> List V -> Hp -> Prop) (hw : ∃ m, W 0 m [] H3)
  (turn : ∀ i m acc H2, W i m acc H2 -> (J.stop i H2 /\ Q H2) ∨
   (J.go i H2 /\ ∀ x H5, J.yld i H2 x H5 -> g x σc H5 λ σ2 H6 => (∀ (j : Nat) v, σc[j]? = some (some v) -> σ2[j]? = some (some v)) /\ tc σ2 H6 λ b H7 => if b = true then
    te σ2 H7 λ y H8 => H8 D = some (.lst acc) /\ acc.length < sizeLine /\ ∃ m', m' < m /\ W (i + 1) m' (acc ++ [y]) (upd H8 D (.lst (acc ++ [y])))
    else ∃ m', m' < m /\ W (i + 1) m' acc H7))
  {R : Result -> Shared -> Prop} (hR : ∀ H' s', Inv (cxc X N' scope cl C fp s3 H3) [] σc H' s' -> Q H' -> R (.ok .next) s') :
  codeAny (model X.prog X.w) X.A (.compStart (.ListComp elt [⟨tg, iter, ifs, 0⟩] scope pos) 0 (.ref it) (.ref D) (compEnvC scope cl C X.env)) R s4 := by
 obtain ⟨m0, w0⟩ := hw
 have stat : ∀ {H' : Hp}, (∀ b ∈ fp, H' b = none) -> ∀ b ∈ fp, Qc9 (cxc X N' scope cl C fp s3 H3) [] H' b := λ hn b hb => ⟨hn b hb, (ff b hb).2⟩
 have loop : codeAny (model X.prog X.w) X.A (.compLoop (.ListComp elt [⟨tg, iter, ifs, 0⟩] scope pos) 0 (.ref it) (.ref D) (compEnvC scope cl C X.env)) R s4 := by
  refine Qng (λ n s' => ∃ i acc H', Inv (cxc X N' scope cl C fp s3 H3) [] σc H' s' /\ tn i s'.heap /\ (∀ b ∈ fp, H' b = none) /\ W i n acc H') ?_ m0 ⟨0, [], H3, I, st, λ b hb => (ff b hb).1, w0⟩
  rintro n s5 ⟨i, acc, H5, I5, st5, fr5, w5⟩
  rcases turn i n acc H5 w5 with ⟨stop, q⟩ | ⟨go, step⟩
  ·refine thn (T.done (cxc X N' scope cl C fp s3 H3) rfl rfl rfl hcalm i [] s5 σc H5 _ I5 (stat fr5) st5 stop) λ r s6 ⟨hr, I6⟩ => ?_
   subst hr
   exact hR H5 s6 I6 q
  ·refine thn (T.item (cxc X N' scope cl C fp s3 H3) rfl rfl rfl hcalm i [] s5 σc H5 _ I5 (stat fr5) st5 go) λ r s6 ⟨u, hr, h6⟩ => ?_
   subst hr
   refine thn h6 λ _ s7 ⟨x, H7, I7, r7, y7, st7, fr7⟩ => ?_
   have I7' := I7.pinned (stat fr7) (T.obj _ _ st7)
   refine thn (hg _ s7 σc H7 x u _ I7' r7 (step x H7 y7)) λ _ s8 ⟨σ8, H8, I8, k8, q8⟩ => ?_
   refine thn (ht _ s8 σ8 H8 _ I8 q8) λ ok s9 ⟨H9, I9, q9⟩ => ?_
   have again : ∀ {H' : Hp} {s' : Shared} {acc' : List V}, Inv (cxc X N' scope cl C fp s3 H3) ([] ++ Qgl fp s7.heap) σ8 H' s' -> (∃ m', m' < n /\ W (i + 1) m' acc' H') →
     ∃ m, m < n /\ ∃ i acc H', Inv (cxc X N' scope cl C fp s3 H3) [] σc H' s' /\ tn i s'.heap /\ (∀ b ∈ fp, H' b = none) /\ W i m acc H' := λ {H' s' acc'} I' ⟨m', hm, w'⟩ => by
    have pin : ∀ b ∈ fp, ∀ o, s7.heap.get? b = some o -> s'.heap.get? b = some o /\ H' b = none := λ b hb o e => by
     have z := I'.pin (b, o) (Zc _ (Zc _ (Qfr hb e)))
     exact ⟨z.1, z.2.1⟩
    refine ⟨m', hm, i + 1, acc', H', ?_, T.keep _ _ _ st7 λ b hb o e => (pin b hb o e).1, λ b hb => ?_, w'⟩
    ·exact I'.QfB.weak (I.len.trans I8.len.symm) k8
    ·obtain ⟨o, e, _⟩ := T.obj _ _ st7 b hb
     exact (pin b hb o e).2
   cases ok with
   | false =>
    rw [if_neg ZE] at q9 ⊢
    exact again I9 q9
   | true =>
    rw [if_pos rfl] at q9 ⊢
    refine thn (he _ s9 σ8 H9 _ I9 q9) λ yv s10 ⟨y, H10, I10, r10, e10, l10, q10⟩ => ?_
    refine thn (Qjq _ s10 σ8 H10 (.ref D) [y] (.ref D) [yv] (λ v H11 => H11 = upd H10 D (.lst (acc ++ [y]))) I10 rfl (.cons r10 .nil) ⟨D, acc, y, rfl, rfl, e10, l10, rfl⟩) λ _ s11 ⟨_, H11, I11, _, e11⟩ => ?_
    subst e11
    exact again I11 q10
 exact codeAny_compStart_list loop (T.self _ 0 _ _ _ st loop)
theorem Qj5 {wi : TI} {g : TG} {tc : TT} {te : TE} {cp : Pos} {use : Option (Value -> Sem Unit)} {pins : List (Addr × Obj)} {s : Shared} {σ : St} {H : Hp} {QV : Value -> Shared -> Prop} {Q : VK} (hcalm : X.calm = true) (S : Qdt X N' scope) (hi : PI X tg iter wi)
  (hin : ∀ cl C fp s3 H3, PG (cxc X N' scope cl C fp s3 H3) tg g /\ PTs (cxc X N' scope cl C fp s3 H3) ifs tc /\ PE (cxc X N' scope cl C fp s3 H3) elt te)
  (hs : ∀ x, foldedSetIterable iter X.env x = pure x) (I : Inv X pins σ H s) (h : QjU wi (Qij X N' scope) g tc te σ H Q)
  (fin : ∀ (D C : Addr) (H' : Hp) (s' : Shared), Inv X pins σ H' s' -> H' C = none -> C ≠ X.env.locals -> X.s₀.heap.objs.size <= C -> (∀ x c, X.env.cells.lookup x = some c -> c ≠ C) -> (∀ p ∈ X.pn ++ pins, p.1 ≠ C) -> (∃ m, s'.heap.Ns C m) -> Q (.ref D) H' →
   compPost (model X.prog X.w) X.A X.xe use QV (.ref D) C (.ok .next) s') :
  wpAny (model X.prog X.w) X.A (comprehension (.ListComp elt [⟨tg, iter, ifs, 0⟩] scope pos) scope X.env cp (newList []) false (eval iter X.env) use) QV X.xe s := by
 obtain ⟨cl, hcl, hc1, hc2⟩ := QqH (scope := scope) (env := X.env) λ y hy hf => I.ok.has y.1 (S.free y hy hf)
 refine wpAny_comprehension_free (g := ⟨tg, iter, ifs, 0⟩) (gs := []) rfl hs hcl S.kind S.loc ?_
 refine thn (hi pins s σ H _ I h) λ v s1 h1 => thn h1 λ itv s2 h2 => ?_
 obtain ⟨it, fp, tn, J, H2, e, I2, T, st2, f2, σc, cap, hw⟩ := h2
 subst e
 have hD0 : H2 s2.heap.objs.size = none := I2.hok.fresh (Zn _)
 obtain ⟨W, hW0, turn⟩ := hw _ hD0
 have fpl : ∀ b ∈ fp, b < s2.heap.objs.size := λ b hb => let ⟨o, e, _⟩ := T.obj _ _ st2 b hb; Zo e
 have hlist : ∀ D : Addr, D = s2.heap.objs.size -> ∃ x, x = D := λ D _ => ⟨D, rfl⟩
 refine wpAny_newObj_type ?_
 have I3 : Inv X pins σ (upd H2 s2.heap.objs.size (.lst [])) { s2 with heap := s2.heap.push { cls := .type "list", dict := none, data := .seq ([] : List Value).toArray } } :=
  I2.laid (t' := s2.toks) (λ b o e => Zs _ e) (Zn _) ⟨ZK _, [], 0, .nil, ZF _ rfl⟩
 generalize hs3 : ({ s2 with heap := s2.heap.push { cls := .type "list", dict := none, data := .seq ([] : List Value).toArray } } : Shared) = s3 at I3
 have hs3' : s3.heap = s2.heap.push { cls := .type "list", dict := none, data := .seq ([] : List Value).toArray } := by rw [← hs3]
 have sz3 : s3.heap.objs.size = s2.heap.objs.size + 1 := by rw [hs3', ZaE]
 have old3 : ∀ b o, s2.heap.get? b = some o -> s3.heap.get? b = some o := λ b o e => by rw [hs3']; exact Zs _ e
 have f3 : ∀ b ∈ fp, Qc9 X pins (upd H2 s2.heap.objs.size (.lst [])) b := λ b hb => ⟨by rw [Qx (ZG (fpl b hb))]; exact (f2 b hb).1, (f2 b hb).2⟩
 have fpl3 : ∀ b ∈ fp, b < s3.heap.objs.size := λ b hb => by rw [sz3]; exact ZaL (fpl b hb)
 refine QmT (λ h4 hns4' keep4 hown4 => ?_)
 have I4 := Qo7 (tk := s3.toks) S I3 f3 fpl3 hc1 hc2 cap hns4' keep4 hown4
 have hout : ∀ H' s', Inv (cxc X N' scope (cellsFrom (s3.heap.objs.size + 1) scope.names cl) s3.heap.objs.size fp s3 (upd H2 s2.heap.objs.size (.lst []))) [] σc H' s' -> Inv X pins σ H' s' := λ H' s' J' =>
  I3.Qp0 (ch := fp) J'.os J'.base J'.hok J'.bare λ b hb => ⟨(f3 b hb).2.2.2.1, (f3 b hb).2.1, (f3 b hb).2.2.2.2.1, (f3 b hb).2.2.2.2.2⟩
 obtain ⟨hg, ht, he⟩ := hin (cellsFrom (s3.heap.objs.size + 1) scope.names cl) s3.heap.objs.size fp s3 (upd H2 s2.heap.objs.size (.lst []))
 have fc : ∀ b ∈ fp, Qc9 (cxc X N' scope (cellsFrom (s3.heap.objs.size + 1) scope.names cl) s3.heap.objs.size fp s3 (upd H2 s2.heap.objs.size (.lst []))) [] (upd H2 s2.heap.objs.size (.lst [])) b := λ b hb =>
  ⟨(f3 b hb).1, ZG (fpl3 b hb), λ hs' => (Zq.mp (I3.Qec b hs')).elim (f3 b hb).2.1 (f3 b hb).2.2.1, .inl hb, λ x c e => (by
   rcases Qe9 scope.names _ cl x c e with e | ⟨e, _⟩
   ·exact (f3 b hb).2.2.2.2.1 x c (hc1 x c e)
   ·intro z
    rw [z] at e
    exact absurd (Zl (fpl3 b hb) (Zr (Zz _) e)) (ZL _)), λ p hp => absurd (show p ∈ ([] : List (Addr × Obj)) from hp) (by simp)⟩
 have hC1 : s3.heap.objs.size ≠ X.env.locals := Ne.symm (ZG I3.lt)
 refine Qo8 (D := s2.heap.objs.size) (C := s3.heap.objs.size) (s3 := s3) (σc := σc) (H3 := upd H2 s2.heap.objs.size (.lst [])) (W := W) (Q := λ H' => Q (.ref s2.heap.objs.size) H') hcalm T hg ht he I4 (T.keep _ _ _ st2 λ b hb o e => keep4 b o (old3 b o e)) fc hW0 turn λ H' s' J' q => ?_
 have O := hout H' s' J'
 refine fin _ _ H' s' O J'.free hC1 (Zr I3.sz (Zn _)) (λ x c e z => ?_) (λ p hp z => ?_) (let ⟨m, hn, _⟩ := J'.loc; ⟨m, hn⟩) q
 ·obtain ⟨v, o, ho, _⟩ := I3.cell x c e
  exact absurd (Zo ho) (by rw [z]; exact ZL _)
 ·exact absurd (Zo (I3.pin p hp).1) (by rw [z]; exact ZL _)
theorem Inv.Qp7 {pins : List (Addr × Obj)} {σ : St} {H : Hp} {s : Shared} {C : Addr} {h' : Heap} (I : Inv X pins σ H s) (hs : Heap.SameBut C s.heap h') (hn : H C = none) (hL : C ≠ X.env.locals) (h1 : X.s₀.heap.objs.size <= C)
  (h2 : ∀ x c, X.env.cells.lookup x = some c -> c ≠ C) (h3 : ∀ p ∈ X.pn ++ pins, p.1 ≠ C) : Inv X pins σ H { s with heap := h' } :=
 I.turned (t' := s.toks) (λ b o hb e => (hs.2 b hb).trans e) hn hL (.inr h1) h2 h3
theorem QlZ {wi : TI} {g : TG} {tc : TT} {te : TE} (hcalm : X.calm = true) (S : Qdt X N' scope) (hi : PI X tg iter wi)
  (hin : ∀ cl C fp s3 H3, PG (cxc X N' scope cl C fp s3 H3) tg g /\ PTs (cxc X N' scope cl C fp s3 H3) ifs tc /\ PE (cxc X N' scope cl C fp s3 H3) elt te)
  (hs : ∀ x, foldedSetIterable iter X.env x = pure x := by intro _; rfl) : PE X (.ListComp elt [⟨tg, iter, ifs, 0⟩] scope pos) (QjU wi (Qij X N' scope) g tc te) := by
 intro pins s σ H Q I h
 rw [eval_ListComp]
 refine Qj5 (use := none) hcalm S hi hin hs I h λ D C H' s' O h1 h2 h3 h4 h5 ⟨m, hm⟩ q => ?_
 exact ⟨m, hm, λ h' hs' => ⟨.ref D, H', O.Qp7 hs' h1 h2 h3 h4 h5, rfl, q⟩⟩
theorem Qqz {wi : TI} {g : TG} {tc : TT} {te : TE} {i : Nat} {x : Str} {pos' spos : Pos} (hN : X.N.Nodup) (hx1 : X.N[i]? = some x) (hx : Loc X.env.scope x) (hf : X.fn x = true ∨ X.env.scope.names.lookup x = some .local) (hcalm : X.calm = true) (S : Qdt X N' scope) (hi : PI X tg iter wi)
  (hin : ∀ cl C fp s3 H3, PG (cxc X N' scope cl C fp s3 H3) tg g /\ PTs (cxc X N' scope cl C fp s3 H3) ifs tc /\ PE (cxc X N' scope cl C fp s3 H3) elt te)
  (hs : ∀ x, foldedSetIterable iter X.env x = pure x := by intro _; rfl) :
  PS X (.Assign [.Name x pos'] (.ListComp elt [⟨tg, iter, ifs, 0⟩] scope pos) spos) (Qf3 (QjU wi (Qij X N' scope) g tc te) (QfC i)) := by
 have hb : ∃ b, swapsWith (.ListComp elt [⟨tg, iter, ifs, 0⟩] scope pos) (some (.Name x pos')) spos.line X.env = pure b := ⟨_, rfl⟩
 obtain ⟨b, hb⟩ := hb
 cases b with
 | false => exact Qe0 hN hx1 hx (QlZ hcalm S hi hin hs) hb hf
 | true =>
  intro pins s σ H D I h
  rw [exec_Assign_Name_used _ _ _ _ hb]
  refine wpAny_bind (wpAny_standAt (wpAny_bind ?_))
  show wpAny _ X.A (do let _ ← comprehension (.ListComp elt [⟨tg, iter, ifs, 0⟩] scope pos) scope X.env _ (newList []) false (eval iter X.env) (some (assign (.Name x pos') X.env))) _ _ s
  refine wpAny_bind (thn (Qj5 (use := some (assign (.Name x pos') X.env)) (QV := λ _ s' => SP X pins D .next s') hcalm S hi hin hs I h λ Dl C H' s' O h1 h2 h3 h4 h5 ⟨m, hm⟩ q => ?_) λ _ s' hq => wpAny_pure (wpAny_pure hq))
  refine wpAny_assign_Name (Qjo O hN hx1 hx (v := .ref Dl) (u := .ref Dl) rfl (λ s2 I2 hsb => ?_) hf)
  obtain ⟨a, sb, ha⟩ := hsb
  have haC : C ≠ a := by
   rcases ha with rfl | ha
   ·exact h2
   ·exact Ne.symm (h4 _ _ ha)
  exact ⟨m, hm.sameBut sb haC, λ h' hs' => ⟨_, H', I2.Qp7 hs' h1 h2 h3 h4 h5, q⟩⟩
end
end L2
namespace L2
open PySem PySem.Spec PyProof.Rows
section
variable {X : Cx} {pins : List (Addr × Obj)} {σ : St} {H H' : Hp} {s : Shared} {h' : Heap}
theorem Inv.QtY {t' : Nat} {ch : List Addr} {T : Addr} {ts : List V} (I : Inv X pins σ H s) (hf : ∀ b ∈ ch, Qc9 X pins H b) (k : ∀ b o, b ∉ ch -> s.heap.get? b = some o -> h'.get? b = some o) (hp : ∀ b ∈ ch, ∃ o, h'.get? b = some o)
  (hT : s.heap.objs.size <= T) (hnew : ts.length <= sizeLine /\ ∃ its : List Value, Qr ts its /\ IsTup h' T its.toArray) : Inv X pins σ (upd H T (.tup ts)) { s with heap := h', toks := t' } := by
 have hn : H T = none := I.hok.fresh hT
 have neT : ∀ b u, H b = some u -> b ≠ T := λ b u e => Qa4 e hn
 have nch : ∀ b u, H b = some u -> b ∉ ch := λ b u e hb => by rw [(hf b hb).1] at e; cases e
 have ltT : ∀ b o, s.heap.get? b = some o -> b ≠ T := λ b o e => ZG (Zl (Zo e) hT)
 refine I.step (g' := s.gens) (d' := s.drawn) (ch := ch) (λ b hb => ?_) (λ b o _ _ hc e _ => k b o hc e) (λ b o _ _ hc e _ => ⟨o.slots, k b o hc e⟩) (λ b o _ e n => by rw [Qx (ltT b o e)]; exact n)
  (λ b o hc e => ⟨o, k b o hc e⟩) (λ b xs e => by rw [Qx (neT b _ e)]; exact e) (λ b o u e => by rw [Qx (neT b _ e)]; exact e) (λ b ps e => ⟨#[], by rw [Qx (neT b _ e), e]; simp⟩) (λ m hm => ?_) (λ b u e => ?_) I.bare
 ·obtain ⟨f0, f1, f2, f3, f4, f5⟩ := hf b hb
  exact ⟨f3, f1, f4, f5⟩
 ·obtain ⟨o, es, ep, ho, r⟩ := hm
  exact ⟨o, es, ep, k _ o (λ z => (hf _ z).2.1 rfl) ho, r⟩
 ·by_cases hb : b = T
  ·subst hb
   rw [QX] at e
   cases e
   exact hnew
  ·rw [Qx hb] at e
   refine (I.hok b u e).QeM (λ c v hc q => k c v ?_ q) (λ c q => by rw [Qx (neT c _ q)]; exact q) λ c xs q => by rw [Qx (neT c _ q)]; exact q
   rcases hc with z | z
   ·rw [z]; exact nch b u e
   ·exact nch c _ z
theorem Inv.turns {t' : Nat} {ch : List Addr} (I : Inv X pins σ H s) (hf : ∀ b ∈ ch, Qc9 X pins H b) (k : ∀ b o, b ∉ ch -> s.heap.get? b = some o -> h'.get? b = some o) : Inv X pins σ H { s with heap := h', toks := t' } := by
 have nch : ∀ b u, H b = some u -> b ∉ ch := λ b u e hb => by rw [(hf b hb).1] at e; cases e
 refine I.step (g' := s.gens) (d' := s.drawn) (ch := ch) (λ b hb => ?_) (λ b o _ _ hc e _ => k b o hc e) (λ b o _ _ hc e _ => ⟨o.slots, k b o hc e⟩) (λ b o _ e n => n)
  (λ b o hc e => ⟨o, k b o hc e⟩) (λ b xs e => e) (λ b o u e => e) (λ b ps e => ⟨#[], by rw [e]; simp⟩) (λ m hm => ?_) (λ b u e => ?_) I.bare
 ·obtain ⟨f0, f1, f2, f3, f4, f5⟩ := hf b hb
  exact ⟨f3, f1, f4, f5⟩
 ·obtain ⟨o, es, ep, ho, r⟩ := hm
  exact ⟨o, es, ep, k _ o (λ z => (hf _ z).2.1 rfl) ho, r⟩
 ·refine (I.hok b u e).QeM (λ c v hc q => k c v ?_ q) (λ c q => q) λ c xs q => q
  rcases hc with z | z
  ·rw [z]; exact nch b u e
  ·exact nch c _ z
end
section
variable {X : Cx}
end
noncomputable def Itz (K : PySem.W.Frag) (a b : Addr) : It :=
 ⟨λ i H => ∃ xs ys x y, SqL K H a xs /\ SqL K H b ys /\ xs[i]? = some x /\ ys[i]? = some y, λ i H v H' => ∃ p x y, v = .ref p /\ H p = none /\ H' = upd H p (.tup [x, y]) /\ (∀ xs, SqL K H a xs -> xs[i]? = some x) /\ ∀ ys, SqL K H b ys -> ys[i]? = some y,
  λ i H => ∃ xs ys, SqL K H a xs /\ SqL K H b ys /\ (xs.length <= i ∨ ys.length <= i)⟩
structure Qrb (z TI TO i1 i2 : Addr) : Prop where
 a : TI ≠ z
 b : TO ≠ z
 c : i1 ≠ z
 d : i2 ≠ z
 e : TI ≠ TO
 f : TI ≠ i1
 g : TI ≠ i2
 h : TO ≠ i1
 i : TO ≠ i2
 j : i1 ≠ i2
theorem QoZ {P : Program} {w : World} {K : PySem.W.Frag} {es : List Expr} {tk : Nat} {tpos : Pos} (l1 l2 z TI TO i1 i2 : Addr) (D : Qrb z TI TO i1 i2) :
  Turn P w K (.Tuple es tk tpos) (Itz K l1 l2) [z, TI, TO, i1, i2] z (λ i h => IsZip h z TI TO .none /\ IsPair h TI (.ref i1) (.ref i2) /\ (∃ a b, IsPair h TO a b) /\ h.IsListIter i1 l1 i /\ h.IsListIter i2 l2 i) where
 mem := by simp
 obj := λ i h st b hb => by
  obtain ⟨hz, hTI, ⟨p, q, hTO⟩, ⟨o1, ho1, hc1, hd1⟩, ⟨o2, ho2, hc2, hd2⟩⟩ := st
  have hb : b = z ∨ b = TI ∨ b = TO ∨ b = i1 ∨ b = i2 := by simpa using hb
  rcases hb with rfl | rfl | rfl | rfl | rfl
  ·exact ⟨_, hz, λ v z => by cases z⟩
  ·exact ⟨_, hTI, λ v z => by cases z⟩
  ·exact ⟨_, hTO, λ v z => by cases z⟩
  ·exact ⟨o1, ho1, λ v z => by rw [hd1] at z; cases z⟩
  ·exact ⟨o2, ho2, λ v z => by rw [hd2] at z; cases z⟩
 keep := λ i h h' st k => by
  obtain ⟨hz, hTI, ⟨p, q, hTO⟩, h1, h2⟩ := st
  exact ⟨k z (by simp) _ hz, k TI (by simp) _ hTI, ⟨p, q, k TO (by simp) _ hTO⟩, h1.at λ o e => k i1 (by simp) o e, h2.at λ o e => k i2 (by simp) o e⟩
 item := by
  intro X hP hw hK hc i pins s σ H E I hf st hg
  subst hP hw hK
  obtain ⟨hz, hTI, ⟨a0, b0, hTO⟩, h1, h2⟩ := st
  obtain ⟨xs, ys, x, y, hq1, hq2, hx, hy⟩ := hg
  obtain ⟨its, rv, p, hzz⟩ := I.list hq1
  obtain ⟨its2, rv2, p2, hzz2⟩ := I.list hq2
  obtain ⟨u, hu, ru⟩ := rv.get hx
  obtain ⟨u2, hu2, ru2⟩ := rv2.get hy
  have free : ∀ l ys, SqL X.K H l ys -> ∀ b, b ∈ [z, TI, TO, i1, i2] -> l ≠ b := λ l ys hq b hb e => by
   subst e
   rcases hq with (hq | ⟨o, hq⟩) | ⟨o, its, n, hk, hc', _, hd', _⟩
   ·rw [(hf l hb).1] at hq; cases hq
   ·rw [(hf l hb).1] at hq; cases hq
   ·have e1 := I.kIn l o hk
    obtain ⟨o1, ho1, hcc1, hd1⟩ := id h1
    obtain ⟨o2, ho2, hcc2, hd2⟩ := id h2
    have hb : l = z ∨ l = TI ∨ l = TO ∨ l = i1 ∨ l = i2 := by simpa using hb
    rcases hb with rfl | rfl | rfl | rfl | rfl
    ·rw [hz] at e1; cases e1; simp at hc'
    ·rw [hTI] at e1; cases e1; simp at hc'
    ·rw [hTO] at e1; cases e1; simp at hc'
    ·rw [ho1] at e1; cases e1; rw [hc'] at hcc1; simp at hcc1
    ·rw [ho2] at e1; cases e1; rw [hc'] at hcc2; simp at hcc2
  have A1 := free l1 xs hq1
  have A2 := free l2 ys hq2
  have DD : ZipApart z TI TO i1 i2 l1 l2 := ⟨D.a, D.b, D.c, D.d, D.e, D.f, D.g, D.h, D.i, D.j, A1 z (by simp), A1 TO (by simp), A1 i1 (by simp), A1 i2 (by simp), A2 z (by simp), A2 TO (by simp), A2 i1 (by simp), A2 i2 (by simp)⟩
  refine wpAny_pyNext_zip_item DD hz hTI hTO h1 h2 p.isList p2.isList (x := u) (y := u2) (by simpa using hu) (by simpa using hu2) λ h3 z3 TO3 a3 b3 T3 sz3 k3 => ?_
  refine ⟨.ref s.heap.objs.size, rfl, wpAny_letOwnedTupleGo_zip z3 λ h4 z4 hs4 => ?_⟩
  replace hs4 : Heap.SameBut z h3 h4 := hs4
  have lt : ∀ {c o}, s.heap.get? c = some o -> c < s.heap.objs.size := λ e => Zo e
  have hzlt := lt hz
  have all : ∀ b ∈ [z, TI, TO, i1, i2], b < s.heap.objs.size := λ b hb => by
   have hb : b = z ∨ b = TI ∨ b = TO ∨ b = i1 ∨ b = i2 := by simpa using hb
   obtain ⟨o1, ho1, _⟩ := h1
   obtain ⟨o2, ho2, _⟩ := h2
   rcases hb with rfl | rfl | rfl | rfl | rfl
   ·exact lt hz
   ·exact lt hTI
   ·exact lt hTO
   ·exact lt ho1
   ·exact lt ho2
  have kk : ∀ b o, b ∉ [z, TI, TO, i1, i2] -> s.heap.get? b = some o -> h4.get? b = some o := λ b o hb q => by
   have n1 : b ≠ z := λ e => hb (by simp [e])
   exact hs4.extBut b o n1 (k3 b o n1 (λ e => hb (by simp [e])) (λ e => hb (by simp [e])) (λ e => hb (by simp [e])) q)
  have TI4 : IsPair h4 TI (.ref i1) (.ref i2) := hs4.extBut _ _ D.a (k3 _ _ D.a D.e D.f D.g hTI)
  have TO4 : IsPair h4 TO u u2 := hs4.extBut _ _ D.b TO3
  have a4 : h4.IsListIter i1 l1 (i + 1) := a3.extBut hs4.extBut D.c
  have b4 : h4.IsListIter i2 l2 (i + 1) := b3.extBut hs4.extBut D.d
  have T4 : IsTup h4 s.heap.objs.size [u, u2].toArray := ⟨_, (hs4.2 _ (Nat.ne_of_gt hzlt)).trans T3, rfl, _, rfl⟩
  refine ⟨.ref s.heap.objs.size, upd H s.heap.objs.size (.tup [x, y]), I.QtY (t' := s.toks) hf kk (λ b hb => ?_) (Zn _) ⟨by show 2 <= sizeLine; decide, _, .cons ru (.cons ru2 .nil), T4⟩, rfl,
   ⟨_, x, y, rfl, I.hok.fresh (Zn _), rfl, λ zs hy' => by rw [I.QhH hy' hq1]; exact hx, λ zs hy' => by rw [I.QhH hy' hq2]; exact hy⟩, ⟨z4, TI4, ⟨_, _, TO4⟩, a4, b4⟩, λ b hb => ?_⟩
  ·have hb : b = z ∨ b = TI ∨ b = TO ∨ b = i1 ∨ b = i2 := by simpa using hb
   obtain ⟨o1, ho1, _⟩ := a4
   obtain ⟨o2, ho2, _⟩ := b4
   rcases hb with rfl | rfl | rfl | rfl | rfl
   ·exact ⟨_, z4⟩
   ·exact ⟨_, TI4⟩
   ·exact ⟨_, TO4⟩
   ·exact ⟨_, ho1⟩
   ·exact ⟨_, ho2⟩
  ·rw [Qx (ZG (all b hb))]; exact (hf b hb).1
 done := by
  intro X hP hw hK hc i pins s σ H E I hf st hg
  subst hP hw hK
  obtain ⟨hz, hTI, ⟨a0, b0, hTO⟩, h1, h2⟩ := st
  obtain ⟨xs, ys, hq1, hq2, hx⟩ := hg
  obtain ⟨its, rv, p, hzz⟩ := I.list hq1
  obtain ⟨its2, rv2, p2, hzz2⟩ := I.list hq2
  have free : ∀ l ys, SqL X.K H l ys -> ∀ b, b ∈ [z, TI, TO, i1, i2] -> l ≠ b := λ l ys hq b hb e => by
   subst e
   rcases hq with (hq | ⟨o, hq⟩) | ⟨o, its, n, hk, hc', _, hd', _⟩
   ·rw [(hf l hb).1] at hq; cases hq
   ·rw [(hf l hb).1] at hq; cases hq
   ·have e1 := I.kIn l o hk
    obtain ⟨o1, ho1, hcc1, hd1⟩ := id h1
    obtain ⟨o2, ho2, hcc2, hd2⟩ := id h2
    have hb : l = z ∨ l = TI ∨ l = TO ∨ l = i1 ∨ l = i2 := by simpa using hb
    rcases hb with rfl | rfl | rfl | rfl | rfl
    ·rw [hz] at e1; cases e1; simp at hc'
    ·rw [hTI] at e1; cases e1; simp at hc'
    ·rw [hTO] at e1; cases e1; simp at hc'
    ·rw [ho1] at e1; cases e1; rw [hc'] at hcc1; simp at hcc1
    ·rw [ho2] at e1; cases e1; rw [hc'] at hcc2; simp at hcc2
  have A1 := free l1 xs hq1
  have A2 := free l2 ys hq2
  have DD : ZipApart z TI TO i1 i2 l1 l2 := ⟨D.a, D.b, D.c, D.d, D.e, D.f, D.g, D.h, D.i, D.j, A1 z (by simp), A1 TO (by simp), A1 i1 (by simp), A1 i2 (by simp), A2 z (by simp), A2 TO (by simp), A2 i1 (by simp), A2 i2 (by simp)⟩
  have hl := rv.length
  have hl2 := rv2.length
  refine wpAny_pyNext_zip_end (I.ok.hd hc) DD hz hTI hTO h1 h2 p.isList p2.isList (by rcases hx with hx | hx; (left; simp; omega); (right; simp; omega)) λ h3 k3 => ⟨rfl, ?_⟩
  exact I.turns (t' := s.toks) hf λ b o hb q => k3 b o (λ e => hb (by simp [e])) (λ e => hb (by simp [e])) (λ e => hb (by simp [e])) (λ e => hb (by simp [e])) q
 self := λ _ _ _ _ _ st h => wpAny_pyIter_zip st.1 h
section
variable {X : Cx}
noncomputable def Qun (K : PySem.W.Frag) (ta : TA) : TI := λ σ H R => ta σ H λ vs H1 => ∃ a b, vs = [.ref a, .ref b] /\ (∃ xs, SqL K H1 a xs) /\ (∃ ys, SqL K H1 b ys) /\ R (Itz K a b) H1
theorem Qr4 {a b : Expr} {ta : TA} {p pos : Pos} {es : List Expr} {tk : Nat} {tpos : Pos} (hg : Gl X "zip") (hm : X.mg "zip" = none) (ha : PA X [a, b] ta) (hs : starEach [a, b] X.env = [(false, eval a X.env), (false, eval b X.env)]) (hs2 : starEach [b] X.env = [(false, eval b X.env)]) :
  PI X (.Tuple es tk tpos) (.Call (.Name "zip" p) [a, b] [] pos) (Qun X.K ta) := by
 intro pins s σ H R I h
 refine Call_ (Qc2 I hg hm PyProof.Rows.boot_zip (ZR (thn (ha pos pins s σ H _ I h) λ us s1 ⟨vs, H1, I1, r1, q1⟩ => ?_) (by rw [hs, hs2]) (by rw [hs2]; rfl)))
 obtain ⟨l, l2, e, ⟨xs, hq⟩, ⟨ys, hq2⟩, q⟩ := q1
 subst e
 obtain ⟨u, u2, rfl, ru, ru2⟩ := vals2 r1
 cases ru
 cases ru2
 obtain ⟨its, rv, pl, hz⟩ := I1.list hq
 obtain ⟨its2, rv2, pl2, hz2⟩ := I1.list hq2
 refine call_zip_2 pl.isList pl2.isList λ h2 hz hTI hTO h1 h2' hsz hk2 => ?_
 have I2 : Inv X pins σ H1 { s1 with heap := h2 } := I1.kept (t' := s1.toks) hk2
 refine wpAny_pyIter_zip hz ⟨_, [s1.heap.objs.size + 4, s1.heap.objs.size + 2, s1.heap.objs.size + 3, s1.heap.objs.size, s1.heap.objs.size + 1], _, _, H1, rfl, I2, QoZ l l2 _ _ _ _ _ ⟨?_, ?_, ?_, ?_, ?_, ?_, ?_, ?_, ?_, ?_⟩, ⟨hz, hTI, ⟨_, _, hTO⟩, h1, h2'⟩, λ b hb => ?_, q⟩
 iterate 10 (exact (by intro e; first | (have e' : (s1.heap.objs.size : Nat) + _ = _ := e; omega) | (have e' : (s1.heap.objs.size : Nat) = _ := e; omega)))
 have hle : s1.heap.objs.size <= b := by
  simp only [Zq, List.not_mem_nil, or_false] at hb
  rcases hb with rfl | rfl | rfl | rfl | rfl <;> first | exact Zn _ | exact Nat.le_add_right _ _
 exact I1.Qmf hle (I1.hok.fresh hle)
end
end L2
namespace L2
open PySem PySem.Spec
section
variable {prog : Program} {w : World} {A : Around} {E : Value -> Shared -> Prop} {s : Shared}
structure Six (z TI TO i1 i2 i3 : Addr) : Prop where
 TIz : TI ≠ z
 TOz : TO ≠ z
 i1z : i1 ≠ z
 i2z : i2 ≠ z
 i3z : i3 ≠ z
 TITO : TI ≠ TO
 TIi1 : TI ≠ i1
 TIi2 : TI ≠ i2
 TIi3 : TI ≠ i3
 TOi1 : TO ≠ i1
 TOi2 : TO ≠ i2
 TOi3 : TO ≠ i3
 i12 : i1 ≠ i2
 i13 : i1 ≠ i3
 i23 : i2 ≠ i3
end
section
variable {prog : Program} {w : World} {A : Around} {E : Value -> Shared -> Prop} {s : Shared}
end
open PyProof.Rows
section
variable {X : Cx}
end
end L2
namespace HS
open PySem PySem.Spec PyProof.Rows L2
inductive D where
 | non | bl (b : Bool) | int (i : Int) | str (x : Str) | tup (xs : List D) | lst (xs : List D) | exc (x : Str)
mutual
noncomputable def D.flat : D -> Bool
 | .lst _ => false
 | .tup xs => QP xs
 | .non => true
 | .bl _ => true
 | .int _ => true
 | .str _ => true
 | .exc _ => true
noncomputable def QP : List D -> Bool
 | [] => true
 | d :: ds => d.flat && QP ds
end
mutual
noncomputable def D.nl : D -> Nat
 | .lst xs => nls xs + 1
 | .tup xs => nls xs
 | .non => 0
 | .bl _ => 0
 | .int _ => 0
 | .str _ => 0
 | .exc _ => 0
noncomputable def nls : List D -> Nat
 | [] => 0
 | d :: ds => d.nl + nls ds
end
mutual
theorem QdS : ∀ (d : D), d.flat = true -> d.nl = 0
 | .non, _ => rfl
 | .bl _, _ => rfl
 | .int _, _ => rfl
 | .str _, _ => rfl
 | .exc _, _ => rfl
 | .tup xs, h => by simp only [D.nl]; simp only [D.flat] at h; exact Qhb xs h
 | .lst xs, h => by simp [D.flat] at h
theorem Qhb : ∀ (ds : List D), QP ds = true -> nls ds = 0
 | [], _ => rfl
 | d :: ds, h => by simp only [QP, Zg] at h; simp only [nls, QdS d h.1, Qhb ds h.2]
end
def Fix (K : PySem.W.Frag) (H : Hp) (a : Addr) (vs : List V) : Prop :=
 (∃ o, H a = some (.frz o (.lst vs))) ∨
  ∃ (its : List Value) (n : Nat), K.lookup a = some { cls := .type "list", data := .seq its.toArray n } /\ vs.length <= sizeLine /\ Qr vs its
def QcM (a C : Addr) (h : Heap) : Prop := ∃ o vs, h.get? a = some o /\ o.cls = .ref C /\ o.data = .fields vs
def ExcAt (K : PySem.W.Frag) (H : Hp) (a : Addr) (x : Str) : Prop := ∃ C, PySem.W.nsIn K mainGlobals x = some (some (.ref C)) /\ H a = some (.ext (QcM a C))
theorem Qmr {K : PySem.W.Frag} {H H' : Hp} {a : Addr} {x : Str} (s : Qy H H') (h : ExcAt K H a x) : ExcAt K H' a x := by
 obtain ⟨C, h1, h2⟩ := h
 exact ⟨C, h1, s _ _ h2⟩
theorem Qno {K : PySem.W.Frag} {H : Hp} {a p : Addr} {x : Str} {zs ys : List V} (hp : H p = some (.lst zs)) (h : ExcAt K H a x) : ExcAt K (upd H p (.lst ys)) a x := by
 obtain ⟨C, h1, h2⟩ := h
 exact ⟨C, h1, by rw [Qx (Qj3 h2 hp (by intro z; cases z))]; exact h2⟩
mutual
noncomputable def Rp (K : PySem.W.Frag) (H : Hp) : D -> V -> List Addr -> Prop
 | .non, v, F => v = .non /\ F = []
 | .bl b, v, F => v = .bl b /\ F = []
 | .int i, v, F => v = .int i /\ F = []
 | .str x, v, F => v = .str x /\ F = []
 | .exc x, v, F => (∃ a, v = .ref a /\ ExcAt K H a x) /\ F = []
 | .tup ds, v, F => ∃ a vs, v = .ref a /\ SqT K H a vs /\ Rps K H ds vs F
 | .lst ds, v, F => ds.length <= sizeLine /\ ∃ a vs, v = .ref a /\ ((∃ G, F = a :: G /\ H a = some (.lst vs) /\ Rps K H ds vs G) ∨ (Fix K H a vs /\ Rps K H ds vs F))
noncomputable def Rps (K : PySem.W.Frag) (H : Hp) : List D -> List V -> List Addr -> Prop
 | [], vs, F => vs = [] /\ F = []
 | d :: ds, vs, F => ∃ v ws F1 F2, vs = v :: ws /\ F = F1 ++ F2 /\ Rp K H d v F1 /\ Rps K H ds ws F2
end
theorem QkE {K : PySem.W.Frag} {H H' : Hp} {a : Addr} {vs : List V} (s : Qy H H') (h : SqT K H a vs) : SqT K H' a vs := by
 rcases h with (h | ⟨o, h⟩) | h
 ·exact .inl (.inl (s _ _ h))
 ·exact .inl (.inr ⟨o, s _ _ h⟩)
 ·exact .inr h
theorem QkO {K : PySem.W.Frag} {H H' : Hp} {a : Addr} {vs : List V} (s : Qy H H') (h : Fix K H a vs) : Fix K H' a vs := by
 rcases h with ⟨o, h⟩ | h
 ·exact .inl ⟨o, s _ _ h⟩
 ·exact .inr h
theorem QlM {K : PySem.W.Frag} {H : Hp} {a p : Addr} {vs zs ys : List V} (hp : H p = some (.lst zs)) (h : SqT K H a vs) : SqT K (upd H p (.lst ys)) a vs := by
 rcases h with (h | ⟨o, h⟩) | h
 ·exact .inl (.inl (by rw [Qx (Qj3 h hp (by intro z; cases z))]; exact h))
 ·exact .inl (.inr ⟨o, by rw [Qx (Qj3 h hp (by intro z; cases z))]; exact h⟩)
 ·exact .inr h
theorem QrC {K : PySem.W.Frag} {H : Hp} {a p : Addr} {vs zs ys : List V} (hp : H p = some (.lst zs)) (h : Fix K H a vs) : Fix K (upd H p (.lst ys)) a vs := by
 rcases h with ⟨o, h⟩ | h
 ·exact .inl ⟨o, by rw [Qx (Qj3 h hp (by intro z; cases z))]; exact h⟩
 ·exact .inr h
section
variable {K : PySem.W.Frag} {H H' : Hp}
mutual
theorem Rp.same (s : Qy H H') : ∀ {d : D} {v : V} {F : List Addr}, Rp K H d v F -> Rp K H' d v F
 | .exc _, _, _, h => by
  simp only [Rp] at h ⊢
  obtain ⟨⟨a, e, q⟩, z⟩ := h
  exact ⟨⟨a, e, Qmr s q⟩, z⟩
 | .non, _, _, h => h
 | .bl _, _, _, h => h
 | .int _, _, _, h => h
 | .str _, _, _, h => h
 | .tup ds, _, _, h => by
  simp only [Rp] at h ⊢
  obtain ⟨a, vs, e, q, r⟩ := h
  exact ⟨a, vs, e, QkE s q, Rps.same s r⟩
 | .lst ds, _, _, h => by
  simp only [Rp] at h ⊢
  obtain ⟨hz, a, vs, e, ⟨G, eF, q, r⟩ | ⟨q, r⟩⟩ := h
  ·exact ⟨hz, a, vs, e, .inl ⟨G, eF, s _ _ q, Rps.same s r⟩⟩
  ·exact ⟨hz, a, vs, e, .inr ⟨QkO s q, Rps.same s r⟩⟩
theorem Rps.same (s : Qy H H') : ∀ {ds : List D} {vs : List V} {F : List Addr}, Rps K H ds vs F -> Rps K H' ds vs F
 | [], _, _, h => h
 | d :: ds, _, _, h => by
  simp only [Rps] at h ⊢
  obtain ⟨v, ws, F1, F2, e, eF, r, q⟩ := h
  exact ⟨v, ws, F1, F2, e, eF, Rp.same s r, Rps.same s q⟩
end
mutual
theorem Rp.upd {p : Addr} {zs ys : List V} (hp : H p = some (.lst zs)) : ∀ {d : D} {v : V} {F : List Addr}, Rp K H d v F -> p ∉ F -> Rp K (upd H p (.lst ys)) d v F
 | .exc _, _, _, h, _ => by
  simp only [Rp] at h ⊢
  obtain ⟨⟨a, e, q⟩, z⟩ := h
  exact ⟨⟨a, e, Qno hp q⟩, z⟩
 | .non, _, _, h, _ => h
 | .bl _, _, _, h, _ => h
 | .int _, _, _, h, _ => h
 | .str _, _, _, h, _ => h
 | .tup ds, _, _, h, hn => by
  simp only [Rp] at h ⊢
  obtain ⟨a, vs, e, q, r⟩ := h
  exact ⟨a, vs, e, QlM hp q, Rps.upd hp r hn⟩
 | .lst ds, _, _, h, hn => by
  simp only [Rp] at h ⊢
  obtain ⟨hz, a, vs, e, ⟨G, eF, q, r⟩ | ⟨q, r⟩⟩ := h
  ·subst eF
   have h1 : a ≠ p := λ z => hn (by rw [z]; exact Zi)
   exact ⟨hz, a, vs, e, .inl ⟨G, rfl, by rw [Qx h1]; exact q, Rps.upd hp r λ z => hn (Zd _ z)⟩⟩
  ·exact ⟨hz, a, vs, e, .inr ⟨QrC hp q, Rps.upd hp r hn⟩⟩
theorem Rps.upd {p : Addr} {zs ys : List V} (hp : H p = some (.lst zs)) : ∀ {ds : List D} {vs : List V} {F : List Addr}, Rps K H ds vs F -> p ∉ F -> Rps K (upd H p (.lst ys)) ds vs F
 | [], _, _, h, _ => h
 | d :: ds, _, _, h, hn => by
  simp only [Rps] at h ⊢
  obtain ⟨v, ws, F1, F2, e, eF, r, q⟩ := h
  subst eF
  exact ⟨v, ws, F1, F2, e, rfl, Rp.upd hp r λ z => hn (Ze _ z), Rps.upd hp q λ z => hn (Zc _ z)⟩
end
mutual
theorem Rp.mem : ∀ {d : D} {v : V} {F : List Addr}, Rp K H d v F -> ∀ a ∈ F, ∃ vs, H a = some (.lst vs)
 | .non, _, _, h, a, ha => by simp only [Rp] at h; rw [h.2] at ha; simp at ha
 | .bl _, _, _, h, a, ha => by simp only [Rp] at h; rw [h.2] at ha; simp at ha
 | .int _, _, _, h, a, ha => by simp only [Rp] at h; rw [h.2] at ha; simp at ha
 | .str _, _, _, h, a, ha => by simp only [Rp] at h; rw [h.2] at ha; simp at ha
 | .exc _, _, _, h, a, ha => by simp only [Rp] at h; rw [h.2] at ha; simp at ha
 | .tup ds, _, _, h, a, ha => by
  simp only [Rp] at h
  obtain ⟨_, vs, e, q, r⟩ := h
  exact Rps.mem r a ha
 | .lst ds, _, _, h, a, ha => by
  simp only [Rp] at h
  obtain ⟨_, b, vs, e, ⟨G, eF, q, r⟩ | ⟨q, r⟩⟩ := h
  ·subst eF
   rcases Zq.mp ha with z | z
   ·exact ⟨vs, by rw [z]; exact q⟩
   ·exact Rps.mem r a z
  ·exact Rps.mem r a ha
theorem Rps.mem : ∀ {ds : List D} {vs : List V} {F : List Addr}, Rps K H ds vs F -> ∀ a ∈ F, ∃ vs, H a = some (.lst vs)
 | [], _, _, h, a, ha => by simp only [Rps] at h; rw [h.2] at ha; simp at ha
 | d :: ds, _, _, h, a, ha => by
  simp only [Rps] at h
  obtain ⟨v, ws, F1, F2, e, eF, r, q⟩ := h
  subst eF
  rcases ZD.mp ha with z | z
  ·exact Rp.mem r a z
  ·exact Rps.mem q a z
end
mutual
theorem Rp.QbZ : ∀ {d : D} {v : V} {F : List Addr}, Rp K H d v F -> d.flat = true -> F = []
 | .non, _, _, h, _ => by simp only [Rp] at h; exact h.2
 | .bl _, _, _, h, _ => by simp only [Rp] at h; exact h.2
 | .int _, _, _, h, _ => by simp only [Rp] at h; exact h.2
 | .str _, _, _, h, _ => by simp only [Rp] at h; exact h.2
 | .exc _, _, _, h, _ => by simp only [Rp] at h; exact h.2
 | .tup ds, _, _, h, hf => by
  simp only [Rp] at h
  simp only [D.flat] at hf
  obtain ⟨_, vs, e, q, r⟩ := h
  exact Rps.QbZ r hf
 | .lst ds, _, _, h, hf => by simp [D.flat] at hf
theorem Rps.QbZ : ∀ {ds : List D} {vs : List V} {F : List Addr}, Rps K H ds vs F -> QP ds = true -> F = []
 | [], _, _, h, _ => by simp only [Rps] at h; exact h.2
 | d :: ds, _, _, h, hf => by
  simp only [Rps] at h
  simp only [QP, Zg] at hf
  obtain ⟨v, ws, F1, F2, e, eF, r, q⟩ := h
  rw [eF, Rp.QbZ r hf.1, Rps.QbZ q hf.2]; rfl
end
mutual
theorem Rp.Qam : ∀ {d : D} {v : V} {F : List Addr}, Rp K H d v F -> F.length <= d.nl
 | .non, _, _, h => by simp only [Rp] at h; rw [h.2]; exact ZK _
 | .bl _, _, _, h => by simp only [Rp] at h; rw [h.2]; exact ZK _
 | .int _, _, _, h => by simp only [Rp] at h; rw [h.2]; exact ZK _
 | .str _, _, _, h => by simp only [Rp] at h; rw [h.2]; exact ZK _
 | .exc _, _, _, h => by simp only [Rp] at h; rw [h.2]; exact ZK _
 | .tup ds, _, _, h => by
  simp only [Rp] at h
  obtain ⟨_, vs, e, q, r⟩ := h
  simp only [D.nl]
  exact Rps.Qam r
 | .lst ds, _, _, h => by
  simp only [Rp] at h
  simp only [D.nl]
  obtain ⟨_, b, vs, e, ⟨G, eF, q, r⟩ | ⟨q, r⟩⟩ := h
  ·rw [eF, ZJ]; have := Rps.Qam r; omega
  ·have := Rps.Qam r; omega
theorem Rps.Qam : ∀ {ds : List D} {vs : List V} {F : List Addr}, Rps K H ds vs F -> F.length <= nls ds
 | [], _, _, h => by simp only [Rps] at h; rw [h.2]; exact ZK _
 | d :: ds, _, _, h => by
  simp only [Rps] at h
  obtain ⟨v, ws, F1, F2, e, eF, r, q⟩ := h
  simp only [nls]
  rw [eF, Zu]
  have := Rp.Qam r
  have := Rps.Qam q
  omega
end
theorem Rps.length : ∀ {ds : List D} {vs : List V} {F : List Addr}, Rps K H ds vs F -> ds.length = vs.length
 | [], _, _, h => by simp only [Rps] at h; rw [h.1]; rfl
 | d :: ds, _, _, h => by
  simp only [Rps] at h
  obtain ⟨v, ws, F1, F2, e, eF, r, q⟩ := h
  rw [e, ZJ, ZJ, Rps.length q]
theorem Rps.append : ∀ {ds es : List D} {vs ws : List V} {F G : List Addr}, Rps K H ds vs F -> Rps K H es ws G -> Rps K H (ds ++ es) (vs ++ ws) (F ++ G)
 | [], _, _, _, _, _, h, g => by simp only [Rps] at h; rw [h.1, h.2]; exact g
 | d :: ds, _, _, _, _, _, h, g => by
  simp only [Rps, Zbq] at h ⊢
  obtain ⟨v, ws, F1, F2, e, eF, r, q⟩ := h
  subst e eF
  exact ⟨v, _, F1, _, rfl, by rw [ZaK], r, Rps.append q g⟩
theorem Rps.get : ∀ {ds : List D} {vs : List V} {F : List Addr} {i : Nat} {d : D}, Rps K H ds vs F -> ds[i]? = some d -> ∃ v F1 G F2, vs[i]? = some v /\ F = F1 ++ (G ++ F2) /\ Rp K H d v G /\ (F.length = nls ds -> G.length = d.nl)
 | [], _, _, _, _, _, e => by simp at e
 | d :: ds, _, _, 0, _, h, e => by
  simp only [Rps] at h
  obtain ⟨v, ws, F1, F2, e1, eF, r, q⟩ := h
  simp at e; subst e e1 eF
  refine ⟨v, [], F1, F2, by simp, rfl, r, λ hl => ?_⟩
  simp only [nls, Zu] at hl
  have := Rp.Qam r
  have := Rps.Qam q
  omega
 | d :: ds, _, _, i + 1, _, h, e => by
  simp only [Rps] at h
  obtain ⟨v, ws, F1, F2, e1, eF, r, q⟩ := h
  obtain ⟨v', G1, G, G2, h1, h2, h3, h4⟩ := Rps.get q (i := i) (by simpa using e)
  have l1 := Rp.Qam r
  have l2 := Rps.Qam q
  subst e1 eF
  refine ⟨v', F1 ++ G1, G, G2, by simpa using h1, by rw [h2, ZaK], h3, λ hl => h4 ?_⟩
  simp only [nls, Zu] at hl
  omega
theorem Fix.sq {K : PySem.W.Frag} {H : Hp} {a : Addr} {vs : List V} (h : Fix K H a vs) : SqL K H a vs := by
 rcases h with ⟨o, h⟩ | ⟨its, n, h, hz, r⟩
 ·exact .inl (.inr ⟨o, h⟩)
 ·exact .inr ⟨_, its.toArray, n, h, rfl, rfl, rfl, by rw [Zt, ← r.length]; exact hz, by simpa using r⟩
theorem _root_.L2.Inv.Qkc {X : Cx} {pins : List (Addr × Obj)} {σ : L2.St} {H : Hp} {s : Shared} {a : Addr} {vs : List V} (I : Inv X pins σ H s) (h : H a = some (.lst vs) ∨ Fix X.K H a vs) :
  vs.length <= sizeLine /\ ∃ (its : List Value) (n : Nat), Qr vs its /\ vs.length = its.length /\ s.heap.get? a = some { cls := .type "list", data := .seq its.toArray n } := by
 rcases h with h | ⟨o, h⟩ | ⟨its, n, h, hz, r⟩
 ·exact I.QoW h
 ·obtain ⟨e, hz, its, n, r, e2⟩ := I.hok a _ h
  exact ⟨hz, its, n, r, r.length, e2⟩
 ·exact ⟨hz, its, n, r, r.length, I.kIn _ _ h⟩
theorem Rp.lst_inv {K : PySem.W.Frag} {H : Hp} {ds : List D} {v : V} {F : List Addr} (h : Rp K H (.lst ds) v F) :
  ∃ a vs G, v = .ref a /\ (H a = some (.lst vs) ∨ Fix K H a vs) /\ Rps K H ds vs G /\ ds.length <= sizeLine /\ (F = a :: G ∨ F = G) := by
 simp only [Rp] at h
 obtain ⟨hz, a, vs, e, ⟨G, eF, q, r⟩ | ⟨q, r⟩⟩ := h
 ·exact ⟨a, vs, G, e, .inl q, r, hz, .inl eF⟩
 ·exact ⟨a, vs, F, e, .inr q, r, hz, .inr rfl⟩
theorem Q5 {K : PySem.W.Frag} {H : Hp} {a : Addr} {vs : List V} (h : H a = some (.lst vs) ∨ Fix K H a vs) : SqL K H a vs := h.elim (λ h => SqL.of h) Fix.sq
theorem Rp.QaK {K : PySem.W.Frag} {H : Hp} {ds : List D} {v : V} {F : List Addr} (h : Rp K H (.tup ds) v F) : ∃ a vs, v = .ref a /\ SqT K H a vs /\ Rps K H ds vs F := by
 simp only [Rp] at h
 exact h
theorem Rp.Qdw {K : PySem.W.Frag} {H : Hp} {ds : List D} {a : Addr} {vs : List V} {G : List Addr} (h : H a = some (.lst vs)) (r : Rps K H ds vs G) (hz : ds.length <= sizeLine) : Rp K H (.lst ds) (.ref a) (a :: G) := by
 simp only [Rp]
 exact ⟨hz, a, vs, rfl, .inl ⟨G, rfl, h, r⟩⟩
theorem Rp.QnA {K : PySem.W.Frag} {H : Hp} {ds : List D} {a : Addr} {vs : List V} {G : List Addr} (h : H a = some (.tup vs)) (r : Rps K H ds vs G) : Rp K H (.tup ds) (.ref a) G := by
 simp only [Rp]
 exact ⟨a, vs, rfl, SqT.of h, r⟩
theorem Rp.int_inv {K : PySem.W.Frag} {H : Hp} {i : Int} {v : V} {F : List Addr} (h : Rp K H (.int i) v F) : v = .int i := by simp only [Rp] at h; exact h.1
theorem Rp.Qf5 {K : PySem.W.Frag} {H : Hp} {i : Bool} {v : V} {F : List Addr} (h : Rp K H (.bl i) v F) : v = .bl i := by simp only [Rp] at h; exact h.1
theorem Rp.Qi0 {K : PySem.W.Frag} {H : Hp} {v : V} {F : List Addr} (h : Rp K H .non v F) : v = .non := by simp only [Rp] at h; exact h.1
theorem Rp.str_inv {K : PySem.W.Frag} {H : Hp} {i : Str} {v : V} {F : List Addr} (h : Rp K H (.str i) v F) : v = .str i := by simp only [Rp] at h; exact h.1
theorem Rp.int_mk {K : PySem.W.Frag} {H : Hp} {i : Int} : Rp K H (.int i) (.int i) [] := by simp [Rp]
theorem Rp.QbW {K : PySem.W.Frag} {H : Hp} {i : Bool} : Rp K H (.bl i) (.bl i) [] := by simp [Rp]
theorem Rp.Qf1 {K : PySem.W.Frag} {H : Hp} : Rp K H .non .non [] := by simp [Rp]
theorem Rp.str_mk {K : PySem.W.Frag} {H : Hp} {i : Str} : Rp K H (.str i) (.str i) [] := by simp [Rp]
theorem QcG {H : Hp} {p : Addr} {o : HO} (h : H p = none) : Qy H (L2.upd H p o) := λ b u e => by rw [Qx (Qa4 e h)]; exact e
end
end HS
namespace HS
open PySem PySem.Spec L2
noncomputable abbrev En := List (Option (D × Bool))
structure R where
 d : D
 fr : Bool
 M : List Nat
structure RA where
 ds : List D
 fr : Bool
 M : List Nat
noncomputable abbrev DE := En -> Option R
noncomputable abbrev DA := En -> Option RA
noncomputable abbrev DT := En -> Option Bool
structure Rel (K : PySem.W.Frag) (H0 : Hp) (A0 : List Addr) (hs : List (V × D × List Addr)) (ρ : En) (F : Nat -> List Addr) (σ : St) (H : Hp) : Prop where
 len : ρ.length = σ.length
 val : ∀ (i : Nat) d b, ρ[i]? = some (some (d, b)) -> ∃ v, σ[i]? = some (some v) /\ Rp K H d v (F i)
 own : ∀ (i : Nat) d, ρ[i]? = some (some (d, true)) -> (F i).length = d.nl /\ (F i).Nodup /\ (∀ a ∈ F i, H0 a = none) /\ (∀ (j : Nat) d' b', j ≠ i -> ρ[j]? = some (some (d', b')) -> ∀ a ∈ F i, a ∉ F j) /\ ∀ t ∈ hs, ∀ a ∈ F i, a ∉ t.2.2
 src : ∀ (i : Nat) d b, ρ[i]? = some (some (d, b)) -> ∀ a ∈ F i, H0 a = none ∨ a ∈ A0
 held : ∀ t ∈ hs, Rp K H t.2.1 t.1 t.2.2 /\ ∀ a ∈ t.2.2, H0 a = none ∨ a ∈ A0
 same : Qy H0 H
def Src (ρ : En) (F : Nat -> List Addr) (H : Hp) (M : List Nat) (G : List Addr) : Prop :=
 ∀ a ∈ G, H a = none ∨ ∃ (i : Nat) (d : D) (b : Bool), ρ[i]? = some (some (d, b)) /\ a ∈ F i /\ (b = true -> i ∈ M)
noncomputable def nw (H : Hp) (a : Addr) : Nat := match H a with | none => 1 | some _ => 0
def Cnt (F : Nat -> List Addr) (H : Hp) (M : List Nat) (G : List Addr) : Prop :=
 ∀ a, G.count a <= nw H a + ((M.map F).flatten).count a
def QaO (ρ : En) (M : List Nat) : Prop := ∀ i ∈ M, ∃ d, ρ[i]? = some (some (d, true))
structure QR (K : PySem.W.Frag) (ρ : En) (F : Nat -> List Addr) (H H' : Hp) (r : R) (v : V) (G : List Addr) : Prop where
 same : Qy H H'
 rp : Rp K H' r.d v G
 src : Src ρ F H r.M G
 cnt : r.fr = true -> Cnt F H r.M G /\ G.length = r.d.nl
 own : QaO ρ r.M
structure Qmw (K : PySem.W.Frag) (ρ : En) (F : Nat -> List Addr) (H H' : Hp) (r : RA) (vs : List V) (G : List Addr) : Prop where
 same : Qy H H'
 rp : Rps K H' r.ds vs G
 src : Src ρ F H r.M G
 cnt : r.fr = true -> Cnt F H r.M G /\ G.length = nls r.ds
 own : QaO ρ r.M
noncomputable def tV (K : PySem.W.Frag) (H0 : Hp) (A0 : List Addr) (f : DE) : TE := λ σ H Q => ∃ ρ hs F r, Rel K H0 A0 hs ρ F σ H /\ f ρ = some r /\ ∀ v H' G, QR K ρ F H H' r v G -> Q v H'
noncomputable def tVA (K : PySem.W.Frag) (H0 : Hp) (A0 : List Addr) (f : DA) : TA := λ σ H Q => ∃ ρ hs F r, Rel K H0 A0 hs ρ F σ H /\ f ρ = some r /\ ∀ v H' G, Qmw K ρ F H H' r v G -> Q v H'
noncomputable def tVT (K : PySem.W.Frag) (H0 : Hp) (A0 : List Addr) (f : DT) : TT := λ σ H Q => ∃ ρ hs F b, Rel K H0 A0 hs ρ F σ H /\ f ρ = some b /\ ∀ H', Qy H H' -> Q b H'
def SE (X : Cx) (e : Expr) (f : DE) : Prop := ∀ H0 A0, PE X e (tV X.K H0 A0 f)
def SA (X : Cx) (es : List Expr) (f : DA) : Prop := ∀ H0 A0, PA X es (tVA X.K H0 A0 f)
def ST (X : Cx) (e : Expr) (f : DT) : Prop := ∀ H0 A0, PT X e (tVT X.K H0 A0 f)
theorem _root_.L2.PE.mono {X : Cx} {e : Expr} {t t' : TE} (h : PE X e t) (m : ∀ σ H Q, t' σ H Q -> t σ H Q) : PE X e t' := λ pins s σ H Q I q => h pins s σ H Q I (m σ H Q q)
theorem _root_.L2.PT.mono {X : Cx} {e : Expr} {t t' : TT} (h : PT X e t) (m : ∀ σ H Q, t' σ H Q -> t σ H Q) : PT X e t' := λ pins s σ H Q I q => h pins s σ H Q I (m σ H Q q)
theorem _root_.L2.PA.mono {X : Cx} {e : List Expr} {t t' : TA} (h : PA X e t) (m : ∀ σ H Q, t' σ H Q -> t σ H Q) : PA X e t' := λ pos pins s σ H Q I q => h pos pins s σ H Q I (m σ H Q q)
section
variable {K : PySem.W.Frag} {H0 H H' : Hp} {A0 : List Addr} {hs : List (V × D × List Addr)} {ρ : En} {F : Nat -> List Addr} {σ : St}
theorem Rel.ext (r : Rel K H0 A0 hs ρ F σ H) (s : Qy H H') : Rel K H0 A0 hs ρ F σ H' where
 len := r.len
 val := λ i d b e => let ⟨v, h1, h2⟩ := r.val i d b e; ⟨v, h1, h2.same s⟩
 own := r.own
 src := r.src
 held := λ t ht => ⟨(r.held t ht).1.same s, (r.held t ht).2⟩
 same := r.same.trans s
theorem Rel.mem (r : Rel K H0 A0 hs ρ F σ H) {i : Nat} {d : D} {b : Bool} (e : ρ[i]? = some (some (d, b))) {a : Addr} (h : a ∈ F i) : ∃ vs, H a = some (.lst vs) :=
 let ⟨_, _, h2⟩ := r.val i d b e; h2.mem a h
theorem Qdc {a : Addr} {o : HO} (h : H a = some o) : nw H a = 0 := by simp [nw, h]
theorem QaI {a : Addr} (h : H a = none) : nw H a = 1 := by simp [nw, h]
theorem Rel.fl0 (r : Rel K H0 A0 hs ρ F σ H) {M : List Nat} (ow : QaO ρ M) {a : Addr} (h : H a = none) : ((M.map F).flatten).count a = 0 := by
 rw [ZH]
 intro hm
 obtain ⟨l, hl, ha⟩ := ZaU.mp hm
 obtain ⟨i, hi, rfl⟩ := ZX.mp hl
 obtain ⟨d, e⟩ := ow i hi
 obtain ⟨vs, q⟩ := r.mem e ha
 rw [h] at q; cases q
theorem Cnt.append (r : Rel K H0 A0 hs ρ F σ H) {H1 : Hp} {M1 M2 : List Nat} {G1 G2 : List Addr} (c1 : Cnt F H M1 G1) (c2 : Cnt F H1 M2 G2) (s : Qy H H1) (m1 : ∀ a ∈ G1, ∃ vs, H1 a = some (.lst vs)) : Cnt F H (M1 ++ M2) (G1 ++ G2) := λ a => by
 rw [ZW, Zam, List.flatten_append, ZW]
 have h1 := c1 a
 have h2 := c2 a
 cases q : H1 a with
 | some o => rw [Qdc q] at h2; omega
 | none =>
  rw [QaI q] at h2
  have h3 : H a = none := s.free q
  rw [QaI h3] at h1 ⊢
  have h4 : G1.count a = 0 := ZH.mpr λ hm => by obtain ⟨vs, z⟩ := m1 a hm; rw [q] at z; cases z
  omega
theorem Src.append {H1 : Hp} {M1 M2 : List Nat} {G1 G2 : List Addr} (c1 : Src ρ F H M1 G1) (c2 : Src ρ F H1 M2 G2) (s : Qy H H1) : Src ρ F H (M1 ++ M2) (G1 ++ G2) := λ a ha => by
 rcases ZD.mp ha with h | h
 ·rcases c1 a h with z | ⟨i, d, b, e, m, w⟩
  ·exact .inl z
  ·exact .inr ⟨i, d, b, e, m, λ hb => Ze _ (w hb)⟩
 ·rcases c2 a h with z | ⟨i, d, b, e, m, w⟩
  ·exact .inl (s.free z)
  ·exact .inr ⟨i, d, b, e, m, λ hb => Zc _ (w hb)⟩
theorem QaO.append {M1 M2 : List Nat} (h1 : QaO ρ M1) (h2 : QaO ρ M2) : QaO ρ (M1 ++ M2) := λ i hi => (ZD.mp hi).elim (h1 i) (h2 i)
theorem QaO.nil : QaO ρ [] := λ i hi => by simp at hi
theorem Src.nil {M : List Nat} : Src ρ F H M [] := λ a ha => by simp at ha
theorem Cnt.nil {M : List Nat} : Cnt F H M [] := λ a => by simp
theorem QR.flat {d : D} {v : V} (s : Qy H H') (r : Rp K H' d v []) (hf : d.flat = true := by rfl) : QR K ρ F H H' ⟨d, true, []⟩ v [] := ⟨s, r, Src.nil, λ _ => ⟨Cnt.nil, (QdS d hf).symm⟩, QaO.nil⟩
theorem QR.sub {r : R} {v u : V} {d : D} {G G' : List Addr} {H1 : Hp} (p : QR K ρ F H H1 r v G) (rp : Rp K H1 d u G') (hs : ∀ a, G'.count a <= G.count a) (hn : G.length = r.d.nl -> G'.length = d.nl) : QR K ρ F H H1 ⟨d, r.fr, r.M⟩ u G' where
 same := p.same
 rp := rp
 src := λ a ha => p.src a (by
  have := hs a
  have h1 : 0 < G'.count a := Zag.mpr ha
  exact Zag.mp (by omega))
 cnt := λ h => ⟨λ a => Zr (hs a) ((p.cnt h).1 a), hn (p.cnt h).2⟩
 own := p.own
noncomputable def R.norm (r : R) : R := if r.d.flat then ⟨r.d, true, []⟩ else r
theorem R.Qcu (r : R) : r.norm.d = r.d := by unfold R.norm; split <;> rfl
theorem QR.norm {r : R} {v : V} {G : List Addr} (p : QR K ρ F H H' r v G) : QR K ρ F H H' r.norm v G := by
 unfold R.norm
 split
 ·rename_i h
  have := p.rp.QbZ h
  subst this
  exact .flat p.same p.rp h
 ·exact p
end
noncomputable def Qa (i : Nat) : DE := λ ρ => match ρ[i]? with
 | some (some (d, b)) => if d.flat then some ⟨d, true, []⟩ else if b then some ⟨d, true, [i]⟩ else some ⟨d, false, []⟩
 | _ => none
noncomputable def dC (d : D) : DE := λ _ => some ⟨d, true, []⟩
section
variable {X : Cx}
theorem QnI {i : Nat} {x : Str} {pos : Pos} (h : PE X (.Name x pos) (QhA i)) : SE X (.Name x pos) (Qa i) := λ H0 A0 => h.mono λ σ H Q ⟨ρ, hs, F, r, rel, e, q⟩ => by
 unfold Qa at e
 split at e
 ·rename_i d b q1
  obtain ⟨v, h1, h2⟩ := rel.val i d b q1
  refine ⟨v, h1, q v H (F i) ?_⟩
  split at e
  ·rename_i hf
   cases e
   have := h2.QbZ hf
   rw [this] at h2 ⊢
   exact .flat (Qy.refl _) h2 hf
  ·split at e
   ·rename_i hb
    cases e
    subst hb
    exact ⟨Qy.refl _, h2, λ a ha => .inr ⟨i, d, true, q1, ha, λ _ => by simp⟩, λ _ => ⟨λ a => (by simp), (rel.own i d q1).1⟩, λ j hj => by simp at hj; subst hj; exact ⟨d, q1⟩⟩
   ·rename_i hb
    cases e
    simp at hb
    subst hb
    exact ⟨Qy.refl _, h2, λ a ha => .inr ⟨i, d, false, q1, ha, λ z => by cases z⟩, λ z => (by cases z), QaO.nil⟩
 ·cases e
theorem Qhd {e : Expr} {d : D} {v : V} (h : PE X e (tC v)) (r : ∀ K H, Rp K H d v []) (hf : d.flat = true) : SE X e (dC d) := λ H0 A0 => h.mono λ σ H Q ⟨ρ, hs, F, r', rel, e, q⟩ => by
 cases e
 exact q v H [] (.flat (Qy.refl _) (r _ _) hf)
theorem two {K : PySem.W.Frag} {H0 : Hp} {A0 : List Addr} {fa fb : DE} {σ : St} {H : Hp} {hs : List (V × D × List Addr)} {ρ : En} {F : Nat -> List Addr} {ra rb : R} {Rr : V -> V -> Hp -> Prop} (rel : Rel K H0 A0 hs ρ F σ H) (ea : fa ρ = some ra) (eb : fb ρ = some rb)
  (k : ∀ x y H1 H2 G1 G2, QR K ρ F H H1 ra x G1 -> QR K ρ F H1 H2 rb y G2 -> Rr x y H2) : tV K H0 A0 fa σ H λ x H1 => tV K H0 A0 fb σ H1 λ y H2 => Rr x y H2 :=
 ⟨ρ, hs, F, ra, rel, ea, λ x H1 G1 p1 => ⟨ρ, hs, F, rb, rel.ext p1.same, eb, λ y H2 G2 p2 => k x y H1 H2 G1 G2 p1 p2⟩⟩
noncomputable def dOp (g : D -> D -> Option D) (fa fb : DE) : DE := λ ρ => (fa ρ).bind λ ra => (fb ρ).bind λ rb => (g ra.d rb.d).map λ d => ⟨d, true, []⟩
theorem Qi9 {g : D -> D -> Option D} {fa fb : DE} {ρ : En} {r : R} (e : dOp g fa fb ρ = some r) : ∃ ra rb d, fa ρ = some ra /\ fb ρ = some rb /\ g ra.d rb.d = some d /\ r = ⟨d, true, []⟩ := by
 unfold dOp at e
 cases h1 : fa ρ with
 | none => rw [h1] at e; cases e
 | some ra =>
  cases h2 : fb ρ with
  | none => rw [h1, h2] at e; cases e
  | some rb =>
   rw [h1, h2] at e
   cases h3 : g ra.d rb.d with
   | none => simp [h3] at e
   | some d => simp [h3] at e; exact ⟨ra, rb, d, rfl, rfl, h3, e.symm⟩
def Qcq (K : PySem.W.Frag) (g : D -> D -> Option D) (r : R2) : Prop := ∀ a b d, g a b = some d -> d.flat = true /\ ∀ H x y F G (Q : VK), Rp K H a x F -> Rp K H b y G -> (∀ v, (∀ H', Rp K H' d v []) -> Q v H) -> r x y H Q
theorem Qj2 {a b : Expr} {op : Operator} {pos : Pos} {fa fb : DE} {g : D -> D -> Option D} {r : R2} (ho : OpR X (binaryOp op) r) (hg : Qcq X.K g r) (ha : SE X a fa) (hb : SE X b fb) : SE X (.BinOp a op b pos) (dOp g fa fb) := λ H0 A0 =>
 (QmX ho (ha H0 A0) (hb H0 A0)).mono λ σ H Q ⟨ρ, hs, F, r', rel, e, q⟩ => by
  obtain ⟨ra, rb, d, ea, eb, eg, rfl⟩ := Qi9 e
  refine two rel ea eb λ x y H1 H2 G1 G2 p1 p2 => (hg _ _ _ eg).2 H2 x y G1 G2 Q (p1.rp.same p2.same) p2.rp λ v hv => ?_
  exact q v H2 [] (.flat (p1.same.trans p2.same) (hv H2) (hg _ _ _ eg).1)
theorem Qk0 {a b : Expr} {op : CmpOp} {pos : Pos} {fa fb : DE} {g : D -> D -> Option D} {r : R2} (ho : OpR X (compareOp op) r) (hg : Qcq X.K g r) (ha : SE X a fa) (hb : SE X b fb) (hm : behindInMarks op b = false) : SE X (.Compare a [op] [b] pos) (dOp g fa fb) := λ H0 A0 =>
 (QqY ho (ha H0 A0) (hb H0 A0) hm).mono λ σ H Q ⟨ρ, hs, F, r', rel, e, q⟩ => by
  obtain ⟨ra, rb, d, ea, eb, eg, rfl⟩ := Qi9 e
  refine two rel ea eb λ x y H1 H2 G1 G2 p1 p2 => (hg _ _ _ eg).2 H2 x y G1 G2 Q (p1.rp.same p2.same) p2.rp λ v hv => ?_
  exact q v H2 [] (.flat (p1.same.trans p2.same) (hv H2) (hg _ _ _ eg).1)
end
end HS
namespace HS
open PySem PySem.Spec L2
noncomputable def QdD (i j : Int) : Int := if 0 <= j then i / j else i.fdiv j
noncomputable def Qce (i j : Int) : Int := if 0 <= j then i % j else i.fmod j
theorem Qja (i j : Int) : QdD i j = i.fdiv j := by
 unfold QdD; split
 ·rw [Int.fdiv_eq_ediv_of_nonneg _ (by assumption)]
 ·rfl
theorem QiD (i j : Int) : Qce i j = i.fmod j := by
 unfold Qce; split
 ·rw [Int.fmod_eq_emod_of_nonneg _ (by assumption)]
 ·rfl
noncomputable def QcU (i j : Int) : Bool := decide (i.natAbs < 2 ^ 64) || decide (j.natAbs < 2 ^ 64) || (decide (Builtin.Int.intBits i <= 2 ^ 20) && decide (Builtin.Int.intBits j <= 2 ^ 20))
noncomputable def Qdr (j : Int) : Bool := decide (j ≠ 0) && decide (j.natAbs < 2 ^ 8000)
noncomputable def gI (f : Int -> Int -> Option D) (a b : D) : Option D := match a, b with
 | .int i, .int j => f i j
 | _, _ => none
noncomputable def Qbn := gI λ i j => some (.int (i - j))
noncomputable def Qco := gI λ i j => if Qdr j then some (.int (QdD i j)) else none
noncomputable def QaW := gI λ i j => if j ≠ 0 then some (.int (Qce i j)) else none
noncomputable def Qcr := gI λ i j => if 0 <= j /\ j <= 1000 /\ i.natAbs < 2 ^ 200 then some (.int (i ^ j.toNat)) else none
noncomputable def gLt := gI λ i j => some (.bl (decide (i < j)))
noncomputable def gLe := gI λ i j => some (.bl (decide (i <= j)))
noncomputable def gGt := gI λ i j => some (.bl (decide (j < i)))
noncomputable def gGe := gI λ i j => some (.bl (decide (j <= i)))
theorem Qm7 {f : Int -> Int -> Option D} {a b d : D} (h : gI f a b = some d) : ∃ i j, a = .int i /\ b = .int j /\ f i j = some d := by
 unfold gI at h
 split at h
 ·exact ⟨_, _, rfl, rfl, h⟩
 ·cases h
section
variable {K : PySem.W.Frag} {X : Cx}
theorem Qga {f : Int -> Int -> Option D} {r : R2} (hf : ∀ i j d, f i j = some d -> d.flat = true) (h : ∀ i j d, f i j = some d -> ∀ H (Q : VK), (∀ v, (∀ H', Rp K H' d v []) -> Q v H) -> r (.int i) (.int j) H Q) : Qcq K (gI f) r := λ a b d e => by
 obtain ⟨i, j, rfl, rfl, ef⟩ := Qm7 e
 refine ⟨hf i j d ef, λ H x y F G Q ha hb q => ?_⟩
 rw [ha.int_inv, hb.int_inv]
 exact h i j d ef H Q q
theorem QsF : Qcq K Qbn (rI0 λ i j => .int (i - j)) := Qga (λ i j d e => by cases e; rfl) λ i j d e H Q q => by cases e; exact ⟨i, j, rfl, rfl, q _ λ _ => .int_mk⟩
theorem Qo3 {i j : Int} (h : QcU i j = true) : IntMulOk i j := by
 have small : ∀ k : Int, k.natAbs < 2 ^ 64 -> Builtin.Int.intBits k <= 64 := λ k hk => by
  unfold Builtin.Int.intBits
  split
  ·omega
  ·rename_i h0; have h0' : k.natAbs ≠ 0 := λ z => by simp_all
   have := (Nat.log2_lt h0').mpr hk; omega
 unfold QcU at h
 simp only [ZbA, Zg, decide_eq_true_eq] at h
 rcases h with (h | h) | ⟨h1, h2⟩
 ·exact .of_left (small i h)
 ·exact .of_right (small j h)
 ·exact .of_bits h1 h2
theorem Qrr : OpR X (binaryOp .Mult) (rI (λ i j => QcU i j = true) λ i j => .int (i * j)) := opI λ _ _ _ _ _ _ _ hc q => PyProof.Rows.mul_int q (Qo3 hc)
theorem Qrx : OpR X (binaryOp .FloorDiv) (rI (λ i j => Qdr j = true) λ i j => .int (QdD i j)) := opI λ i j _ _ _ _ _ hc q => by
 unfold Qdr at hc
 simp only [Zg, decide_eq_true_eq] at hc
 rw [Qja] at q
 refine PyProof.Rows.floordiv_int hc.1 q (.inl (PyProof.noPylong_of_log2 ?_))
 have h0 : j.natAbs ≠ 0 := by omega
 exact Nat.lt_trans ((Nat.log2_lt h0).mpr hc.2) (by decide)
theorem Qrh : OpR X (binaryOp .Mod) (rI (λ i j => j ≠ 0) λ i j => .int (Qce i j)) := opI λ i j _ _ _ _ _ hc q => by
 rw [QiD] at q
 exact PyProof.Rows.mod_int' hc q
theorem Qsp : Qcq K Qco (rI (λ i j => Qdr j = true) λ i j => .int (QdD i j)) := Qga (λ i j d e => by split at e <;> cases e; rfl) λ i j d e H Q q => by
 split at e
 ·cases e; exact ⟨i, j, rfl, rfl, by assumption, q _ λ _ => .int_mk⟩
 ·cases e
theorem QrT : Qcq K QaW (rI (λ i j => j ≠ 0) λ i j => .int (Qce i j)) := Qga (λ i j d e => by split at e <;> cases e; rfl) λ i j d e H Q q => by
 split at e
 ·cases e; exact ⟨i, j, rfl, rfl, by assumption, q _ λ _ => .int_mk⟩
 ·cases e
theorem QqK : OpR X (binaryOp .Pow) (rI (λ i j => 0 <= j /\ j <= 1000 /\ i.natAbs < 2 ^ 200) λ i j => .int (i ^ j.toNat)) := opI λ i j _ _ _ _ _ hc q => by
 refine PyProof.Rows.pow_int hc.1 ?_ q
 have hb : Builtin.Int.intBits i <= 200 := by
  unfold Builtin.Int.intBits
  split
  ·omega
  ·rename_i h0; have h0' : i.natAbs ≠ 0 := λ z => by simp_all
   have := (Nat.log2_lt h0').mpr hc.2.2; omega
 have h1 : ((Builtin.Int.intBits i : Nat) : Int) * j <= 200 * 1000 := Int.mul_le_mul (by omega) hc.2.1 hc.1 (by decide)
 omega
theorem QsA : Qcq K Qcr (rI (λ i j => 0 <= j /\ j <= 1000 /\ i.natAbs < 2 ^ 200) λ i j => .int (i ^ j.toNat)) := Qga (λ i j d e => by split at e <;> cases e; rfl) λ i j d e H Q q => by
 split at e
 ·rename_i h; cases e; exact ⟨i, j, rfl, rfl, h, q _ λ _ => .int_mk⟩
 ·cases e
theorem QtZ : Qcq K gLt (rI0 λ i j => .bl (decide (i < j))) := Qga (λ i j d e => by cases e; rfl) λ i j d e H Q q => by cases e; exact ⟨i, j, rfl, rfl, q _ λ _ => .QbW⟩
theorem QtK : Qcq K gLe (rI0 λ i j => .bl (decide (i <= j))) := Qga (λ i j d e => by cases e; rfl) λ i j d e H Q q => by cases e; exact ⟨i, j, rfl, rfl, q _ λ _ => .QbW⟩
theorem Qti : Qcq K gGt (rI0 λ i j => .bl (decide (j < i))) := Qga (λ i j d e => by cases e; rfl) λ i j d e H Q q => by cases e; exact ⟨i, j, rfl, rfl, q _ λ _ => .QbW⟩
theorem Qtj : Qcq K gGe (rI0 λ i j => .bl (decide (j <= i))) := Qga (λ i j d e => by cases e; rfl) λ i j d e H Q q => by cases e; exact ⟨i, j, rfl, rfl, q _ λ _ => .QbW⟩
end
theorem Qb5 : ∀ (xs ys : List D), QP (xs ++ ys) = (QP xs && QP ys)
 | [], ys => by simp [QP]
 | x :: xs, ys => by simp [QP, Qb5 xs ys, Bool.and_assoc]
noncomputable def QaN (ds : List D) (M : List Nat) : R := if QP ds then ⟨.lst ds, true, []⟩ else ⟨.lst ds, false, M⟩
section
variable {K : PySem.W.Frag} {H0 H H' : Hp} {A0 : List Addr} {hs : List (V × D × List Addr)} {ρ : En} {F : Nat -> List Addr} {σ : L2.St}
theorem QR.QaN {ds : List D} {M : List Nat} {vs : List V} {G : List Addr} {H1 : Hp} {p : Addr} (s : Qy H H1) (hp : H1 p = none) (r : Rps K H1 ds vs G) (hz : ds.length <= sizeLine) (src : Src ρ F H M G) (ow : QaO ρ M) :
  QR K ρ F H (upd H1 p (.lst vs)) (QaN ds M) (.ref p) (p :: G) := by
 have s2 : Qy H1 (upd H1 p (.lst vs)) := QcG hp
 have rp : Rp K (upd H1 p (.lst vs)) (.lst ds) (.ref p) (p :: G) := Rp.Qdw QX (r.same s2) hz
 have hH : H p = none := s.free hp
 unfold HS.QaN
 split
 ·rename_i hf
  have := r.QbZ hf
  subst this
  refine ⟨s.trans s2, rp, λ a ha => ?_, λ _ => ⟨λ a => ?_, by simp only [D.nl, Qhb ds hf]; rfl⟩, QaO.nil⟩
  ·have : a = p := by simpa using ha
   subst this; exact .inl hH
  ·rw [List.count_singleton]
   split
   ·rename_i e; have e' : p = a := by simpa using e
    subst e'; rw [QaI hH]; omega
   ·omega
 ·refine ⟨s.trans s2, rp, λ a ha => ?_, λ z => (by cases z), ow⟩
  rcases Zq.mp ha with rfl | h
  ·exact .inl hH
  ·exact src a h
end
noncomputable def QU (fa fb : DE) : DE := λ ρ => (fa ρ).bind λ ra => (fb ρ).bind λ rb => match ra.d, rb.d with
 | .int i, .int j => some ⟨.int (i + j), true, []⟩
 | .lst xs, .lst ys => if xs.length + ys.length <= sizeLine then some (QaN (xs ++ ys) (ra.M ++ rb.M)) else none
 | _, _ => none
noncomputable def Qaw (fa fb : DE) : DE := λ ρ => (fa ρ).bind λ ra => (fb ρ).bind λ rb => match ra.d, rb.d with
 | .int i, .int j => if QcU i j then some ⟨.int (i * j), true, []⟩ else none
 | .lst xs, .int j => if xs.length * j.toNat <= sizeLine /\ -(2 ^ 63) <= j /\ j < 2 ^ 63 /\ QP xs = true then some ⟨.lst (List.replicate j.toNat xs).flatten, true, []⟩ else none
 | _, _ => none
theorem Qmc {fa fb : DE} {ρ : En} {k : R -> R -> Option R} {r : R} (e : ((fa ρ).bind λ ra => (fb ρ).bind λ rb => k ra rb) = some r) : ∃ ra rb, fa ρ = some ra /\ fb ρ = some rb /\ k ra rb = some r := by
 cases h1 : fa ρ with
 | none => rw [h1] at e; cases e
 | some ra =>
  cases h2 : fb ρ with
  | none => rw [h1, h2] at e; cases e
  | some rb => rw [h1, h2] at e; exact ⟨ra, rb, rfl, rfl, e⟩
theorem bind1 {α β : Type} {x : Option α} {k : α -> Option β} {r : β} (e : x.bind k = some r) : ∃ a, x = some a /\ k a = some r := by
 cases x with
 | none => cases e
 | some a => exact ⟨a, rfl, e⟩
section
variable {X : Cx} {a b : Expr} {fa fb : DE} {pos : Pos}
noncomputable def Qtz (K : PySem.W.Frag) : R2 := λ x y H Q => ∃ l c xs zs, x = .ref l /\ y = .ref c /\ (H l = some (.lst xs) ∨ Fix K H l xs) /\ (H c = some (.lst zs) ∨ Fix K H c zs) /\ xs.length + zs.length <= sizeLine /\ ∀ p, H p = none -> Q (.ref p) (upd H p (.lst (xs ++ zs)))
theorem Qq4 : OpR X (binaryOp .Add) (Qtz X.K) := by
 intro pins s σ H x y v u Q I rx ry h
 obtain ⟨l, c, xs, zs, rfl, rfl, hH, hB, hz, q⟩ := h
 cases rx
 cases ry
 obtain ⟨z, its, n, r, hl, e⟩ := I.Qkc hH
 obtain ⟨z2, its2, n2, r2, hl2, e2⟩ := I.Qkc hB
 refine PySem.P.add_list e e2 ?_ (by rw [Zt, Zt]; omega)
 have ea : its.toArray ++ its2.toArray = (its ++ its2).toArray := by simp
 rw [ea]
 exact ⟨.ref _, _, I.QrK (t' := s.toks) (r.append r2) (by rw [Zu]; omega), rfl, q _ I.fresh⟩
theorem QsO (ha : SE X a fa) (hb : SE X b fb) : SE X (.BinOp a .Add b pos) (QU fa fb) := λ H0 A0 =>
 (QmX (Qsn.or Qq4) (ha H0 A0) (hb H0 A0)).mono λ σ H Q ⟨ρ, hs, F, r', rel, e, q⟩ => by
  obtain ⟨ra, rb, ea, eb, ek⟩ := Qmc e
  refine two rel ea eb λ x y H1 H2 G1 G2 p1 p2 => ?_
  have p1' := p1.rp.same p2.same
  have p2' := p2.rp
  have c1 := p1.src.append p2.src p1.same
  have o1 := p1.own.append p2.own
  revert ek
  revert p1' p2'
  cases ra.d <;> cases rb.d <;> intro p1' p2' ek <;> first | (cases ek; done) | skip
  ·cases ek
   rw [p1'.int_inv, p2'.int_inv]
   exact .inl ⟨_, _, rfl, rfl, q _ H2 [] (.flat (p1.same.trans p2.same) .int_mk)⟩
  ·rename_i xs ys
   dsimp only at ek
   split at ek
   ·rename_i hz
    cases ek
    obtain ⟨l, vs, L1, rfl, hl, rl, zl, el⟩ := p1'.lst_inv
    obtain ⟨c, ws, L2', rfl, hc, rc, zc, ec⟩ := p2'.lst_inv
    have n1 := rl.length
    have n2 := rc.length
    refine .inr ⟨l, c, vs, ws, rfl, rfl, hl, hc, by omega, λ p hp => ?_⟩
    refine q _ _ (p :: (L1 ++ L2')) (QR.QaN (p1.same.trans p2.same) hp (rl.append rc) (by rw [Zu]; exact hz) (λ a ha => c1 a ?_) o1)
    rcases ZD.mp ha with h | h
    ·refine Ze _ ?_
     rcases el with rfl | rfl
     ·exact Zd _ h
     ·exact h
    ·refine Zc _ ?_
     rcases ec with rfl | rfl
     ·exact Zd _ h
     ·exact h
   ·cases ek
noncomputable def QtD (K : PySem.W.Frag) : R2 := λ x y H Q => ∃ l k xs, x = .ref l /\ y = .int k /\ (H l = some (.lst xs) ∨ Fix K H l xs) /\ -(2 ^ 63) <= k /\ k < 2 ^ 63 /\ xs.length * k.toNat <= sizeLine ∧
 ∀ p, H p = none -> Q (.ref p) (upd H p (.lst (List.replicate k.toNat xs).flatten))
theorem QqE : OpR X (binaryOp .Mult) (QtD X.K) := by
 intro pins s σ H x y v u Q I rx ry h
 obtain ⟨l, k, xs, rfl, rfl, hH, h1, h2, hz, q⟩ := h
 cases rx
 obtain ⟨t, rfl⟩ := ry
 obtain ⟨z, its, n, r, hl, e⟩ := I.Qkc hH
 have hlen : its.toArray.size * k.toNat <= sizeLine := by rw [Zt, ← hl]; exact hz
 have hcap : ¬ its.toArray.size * k.toNat > (2 ^ 63 - 1) / 8 := by
  have : (sizeLine : Nat) <= (2 ^ 63 - 1) / 8 := by decide
  omega
 have hfit : ¬ (!Builtin.List.listFitsIndex k) = true := by
  rw [fitsIndex_both h1 h2]
  exact ZE
 have hlong : ¬ Builtin.List.listTooLong (its.toArray.size * k.toNat) = true := by
  rw [QoU hlen]
  exact ZE
 have hnew : List.foldl (λ x1 x2 => x1 ++ x2) #[] (List.replicate (if its.toArray.isEmpty = true then 0 else k.toNat) its.toArray) = (List.replicate k.toNat its).flatten.toArray := by
  have f0 : ∀ m : Nat, List.foldl (λ x1 x2 => x1 ++ x2) #[] (List.replicate m its.toArray) = (List.replicate m its).flatten.toArray := λ m => by
   have := foldl_rep its m []
   rw [List.nil_append] at this
   exact this
  rw [f0]
  cases its with
  | nil => simp
  | cons a r' => rw [if_neg (by simp)]
 open PyProof.Rows in
 refine wpAny_binaryOp_repeat_ref (T := "list") (U := "int") (by decide) ⟨_, e, rfl⟩ (λ s' => typeIs_int s' k t) noFill_list_mul F.fills_int_mul F.slot_int_rmul repeat_list F.slot_int_index.lookup
  (call_meets F.slot_int_rmul (typeIs_int s k t) F.entry_int_rmul (F.args_int_rmul_2 _ _) (int___rmul___int_list k t l its.toArray n)
   ⟨e, rfl, ⟨_, e, rfl⟩, call_meets F.slot_list_mul ⟨_, e, rfl⟩ F.entry_list_mul (F.args_list_mul_2 _ _) (AutoListH.list___mul___list_int_3 l its.toArray n k t hfit hcap hlong) ⟨e, ?_⟩⟩)
 rw [hnew]
 exact ⟨.ref _, _, I.QrK (t' := s.toks) (r.rep k.toNat) (by rw [len_rep, Nat.mul_comm]; exact hz), rfl, q _ I.fresh⟩
theorem QjA {xs : List D} (h : QP xs = true) : ∀ n : Nat, QP (List.replicate n xs).flatten = true
 | 0 => by simp [QP]
 | n + 1 => by rw [ZQ, ZV, Qb5, h, QjA h n]; rfl
theorem Rps.rep {K : PySem.W.Frag} {H : Hp} {ds : List D} {vs : List V} (h : Rps K H ds vs []) : ∀ n : Nat, Rps K H (List.replicate n ds).flatten (List.replicate n vs).flatten []
 | 0 => by simp [Rps]
 | n + 1 => by rw [ZQ, ZV, ZQ, ZV]; exact h.append (Rps.rep h n)
theorem QsQ (ha : SE X a fa) (hb : SE X b fb) : SE X (.BinOp a .Mult b pos) (Qaw fa fb) := λ H0 A0 =>
 (QmX (Qrr.or QqE) (ha H0 A0) (hb H0 A0)).mono λ σ H Q ⟨ρ, hs, F, r', rel, e, q⟩ => by
  obtain ⟨ra, rb, ea, eb, ek⟩ := Qmc e
  refine two rel ea eb λ x y H1 H2 G1 G2 p1 p2 => ?_
  have p1' := p1.rp.same p2.same
  have p2' := p2.rp
  revert ek
  revert p1' p2'
  cases ra.d <;> cases rb.d <;> intro p1' p2' ek <;> first | (cases ek; done) | skip
  ·dsimp only at ek
   split at ek
   ·rename_i hm
    cases ek
    rw [p1'.int_inv, p2'.int_inv]
    exact .inl ⟨_, _, rfl, rfl, hm, q _ H2 [] (.flat (p1.same.trans p2.same) .int_mk)⟩
   ·cases ek
  ·rename_i xs j
   dsimp only at ek
   split at ek
   ·rename_i hz
    cases ek
    obtain ⟨hz1, hz2, hz3, hf⟩ := hz
    obtain ⟨l, vs, L1, rfl, hl, rl, zl, el⟩ := p1'.lst_inv
    have n1 := rl.length
    have e0 := rl.QbZ hf
    subst e0
    rw [p2'.int_inv]
    refine .inr ⟨l, j, vs, rfl, rfl, hl, hz2, hz3, by rw [← n1]; exact hz1, λ p hp => ?_⟩
    have w : HS.QaN (List.replicate j.toNat xs).flatten [] = ⟨.lst (List.replicate j.toNat xs).flatten, true, []⟩ := by
     unfold HS.QaN; rw [if_pos (QjA hf _)]
    rw [← w] at q
    exact q _ _ (p :: []) (QR.QaN (p1.same.trans p2.same) hp (rl.rep _) (by rw [len_rep, Nat.mul_comm]; exact hz1) Src.nil QaO.nil)
   ·cases ek
end
end HS
namespace HS
open PySem PySem.Spec L2
noncomputable def Qf : DA := λ _ => some ⟨[], true, []⟩
noncomputable def Qb (fa : DE) (fr : DA) : DA := λ ρ => (fa ρ).bind λ r => (fr ρ).bind λ rs => some ⟨r.d :: rs.ds, r.fr && rs.fr, r.M ++ rs.M⟩
noncomputable def Qho (fa : DA) : DE := λ ρ => (fa ρ).bind λ r => if r.ds.length <= 64 then some ⟨.tup r.ds, r.fr, r.M⟩ else none
noncomputable def QY (fa : DA) : DE := λ ρ => (fa ρ).bind λ r => if r.ds.length <= 64 then some ⟨.lst r.ds, r.fr, r.M⟩ else none
section
variable {X : Cx} {a b e : Expr} {es : List Expr} {fa fb : DE} {fs : DA} {pos : Pos}
theorem QfV : SA X [] Qf := λ H0 A0 => Qcs.mono λ σ H Q ⟨ρ, hs, F, r', rel, e, q⟩ => by
 cases e
 exact q [] H [] ⟨Qy.refl _, by simp [Rps], Src.nil, λ _ => ⟨Cnt.nil, rfl⟩, QaO.nil⟩
theorem QdQ (ha : SE X e fa) (hr : SA X es fs) (hs : starEach (e :: es) X.env = (false, eval e X.env) :: starEach es X.env) : SA X (e :: es) (Qb fa fs) := λ H0 A0 =>
 (Qan (ha H0 A0) (hr H0 A0) hs).mono λ σ H Q ⟨ρ, hs, F, r', rel, e, q⟩ => by
  obtain ⟨r, e1, e⟩ := bind1 e
  obtain ⟨rs, e2, e⟩ := bind1 e
  cases e
  refine ⟨ρ, hs, F, r, rel, e1, λ x H1 G1 p1 => ⟨ρ, hs, F, rs, rel.ext p1.same, e2, λ xs H2 G2 p2 => ?_⟩⟩
  refine q _ H2 (G1 ++ G2) ⟨p1.same.trans p2.same, ?_, p1.src.append p2.src p1.same, λ h => ?_, p1.own.append p2.own⟩
  ·simp only [Rps]
   exact ⟨x, xs, G1, G2, rfl, rfl, p1.rp.same p2.same, p2.rp⟩
  ·simp only [Zg] at h
   exact ⟨(p1.cnt h.1).1.append rel (p2.cnt h.2).1 p1.same p1.rp.mem, by simp only [nls, Zu, (p1.cnt h.1).2, (p2.cnt h.2).2]⟩
theorem Qfo {n : Nat} (h : n <= 64) : n <= sizeLine := Zr h (by decide)
theorem Qsc {k : Nat} (ha : SA X es fs) : SE X (.Tuple es k pos) (Qho fs) := λ H0 A0 =>
 (Qnt (ha H0 A0)).mono λ σ H Q ⟨ρ, hs, F, r', rel, e, q⟩ => by
  obtain ⟨r, e1, e⟩ := bind1 e
  split at e
  ·rename_i hz
   cases e
   refine ⟨ρ, hs, F, r, rel, e1, λ xs H1 G p => ⟨by rw [← p.rp.length]; exact Qfo hz, λ c hc => q _ _ G ⟨p.same.trans (QcG hc), Rp.QnA QX (p.rp.same (QcG hc)), p.src, λ h => ⟨(p.cnt h).1, by simp only [D.nl]; exact (p.cnt h).2⟩, p.own⟩⟩⟩
  ·cases e
theorem QnW (ha : SA X es fs) : SE X (.List es pos) (QY fs) := λ H0 A0 =>
 (QrN (ha H0 A0)).mono λ σ H Q ⟨ρ, hs, F, r', rel, e, q⟩ => by
  obtain ⟨r, e1, e⟩ := bind1 e
  split at e
  ·rename_i hz
   cases e
   refine ⟨ρ, hs, F, r, rel, e1, λ xs H1 G p => ⟨by rw [← p.rp.length]; exact Qfo hz, λ c hc => ?_⟩⟩
   have hH : H c = none := p.same.free hc
   refine q _ _ (c :: G) ⟨p.same.trans (QcG hc), Rp.Qdw QX (p.rp.same (QcG hc)) (Qfo hz), λ z hz' => ?_, λ h => ⟨λ z => ?_, by simp only [D.nl, ZJ, (p.cnt h).2]⟩, p.own⟩
   ·rcases Zq.mp hz' with rfl | h
    ·exact .inl hH
    ·exact p.src z h
   ·rw [Zaq]
    have := (p.cnt h).1 z
    split
    ·rename_i e'
     have e' : c = z := by simpa using e'
     subst e'
     have h0 : G.count c = 0 := ZH.mpr λ hm => by obtain ⟨vs, w⟩ := p.rp.mem c hm; rw [hc] at w; cases w
     rw [QaI hH]; omega
    ·exact this
  ·cases e
noncomputable def D.items : D -> Option (List D)
 | .lst xs => some xs
 | .tup xs => some xs
 | _ => none
noncomputable def Qo (fa fb : DE) : DE := λ ρ => (fa ρ).bind λ ra => (fb ρ).bind λ rb => match rb.d with
 | .int i => (ra.d.items).bind λ xs => (atI xs i).map λ d => (R.norm ⟨d, ra.fr, ra.M⟩)
 | _ => none
theorem Qqu {α β : Type} {xs : List α} {i : Int} {d : α} (h : atI xs i = some d) : ∃ j : Nat, xs[j]? = some d /\ ∀ (ys : List β), ys.length = xs.length -> ∀ y, ys[j]? = some y -> atI ys i = some y := by
 unfold atI at h
 cases e : ixN xs.length i with
 | none => rw [e] at h; cases h
 | some j =>
  rw [e] at h
  refine ⟨j, h, λ ys hl y hy => ?_⟩
  unfold atI
  rw [hl, e]
  exact hy
theorem Qs4 (ha : SE X a fa) (hb : SE X b fb) (hs : QgD b) : SE X (.Subscript a b pos) (Qo fa fb) := λ H0 A0 =>
 (Qqh (Ql2.or QnL) (ha H0 A0) (hb H0 A0) hs).mono λ σ H Q ⟨ρ, hs, F, r', rel, e, q⟩ => by
  obtain ⟨ra, rb, ea, eb, ek⟩ := Qmc e
  refine two rel ea eb λ x y H1 H2 G1 G2 p1 p2 => ?_
  have p1' := p1.rp.same p2.same
  have p2' := p2.rp
  have pp : QR X.K ρ F H H2 ra x G1 := ⟨p1.same.trans p2.same, p1', p1.src, p1.cnt, p1.own⟩
  cases hb' : rb.d with
  | int i =>
   rw [hb'] at ek p2'
   rw [p2'.int_inv]
   obtain ⟨xs, ex, ek⟩ := bind1 ek
   obtain ⟨d, ed, ek⟩ := Zb.mp ek
   subst ek
   obtain ⟨j, hj, hm⟩ := Qqu (β := V) ed
   have fin : ∀ (L : List Addr) (vs : List V), Rps X.K H2 xs vs L -> (∀ z, L.count z <= G1.count z) -> (G1.length = ra.d.nl -> L.length = nls xs) -> ∃ v, atI vs i = some v /\ Q v H2 := λ L vs rl hc hn => by
    obtain ⟨v, F1, G, F2, hv, eF, rv, hx⟩ := rl.get hj
    refine ⟨v, hm vs rl.length.symm v hv, q v H2 G (QR.norm (QR.sub pp rv (λ z => Zr ?_ (hc z)) λ z => hx (hn z)))⟩
    rw [eF, ZW, ZW]; omega
   cases hra : ra.d with
   | lst ys =>
    rw [hra] at ex p1'
    cases ex
    obtain ⟨l, vs, L, rfl, hl, rl, zl, el⟩ := p1'.lst_inv
    have hn : G1.length = ra.d.nl -> L.length = nls xs := λ hz => by
     have := rl.Qam
     simp only [hra, D.nl] at hz
     rcases el with rfl | rfl
     ·rw [ZJ] at hz; omega
     ·omega
    have hc : ∀ z, L.count z <= G1.count z := λ z => by
     rcases el with rfl | rfl
     ·rw [Zaq]; omega
     ·exact Zn _
    obtain ⟨v, h1, h2⟩ := fin L vs rl hc hn
    exact .inl ⟨l, vs, i, v, rfl, rfl, Q5 hl, h1, h2⟩
   | tup ys =>
    rw [hra] at ex p1'
    cases ex
    obtain ⟨l, vs, rfl, hl, rl⟩ := p1'.QaK
    obtain ⟨v, h1, h2⟩ := fin G1 vs rl (λ z => Zn _) λ z => (by simpa only [hra, D.nl] using z)
    exact .inr ⟨l, vs, i, v, rfl, rfl, hl, h1, h2⟩
   | _ => rw [hra] at ex; cases ex
  | _ => rw [hb'] at ek; cases ek
noncomputable abbrev DO := En -> Option (Option Int)
noncomputable def Qaq : DO := λ _ => some none
noncomputable def Qas (f : DE) : DO := λ ρ => (f ρ).bind λ r => match r.d with
 | .int i => some (some i)
 | _ => none
noncomputable def tVO (K : PySem.W.Frag) (H0 : Hp) (A0 : List Addr) (f : DO) : TO := λ σ H Q => ∃ ρ hs F o, Rel K H0 A0 hs ρ F σ H /\ f ρ = some o /\ ∀ H', Qy H H' -> Q o H'
def SO (X : Cx) (e : Option Expr) (f : DO) : Prop := ∀ H0 A0, PO X e (tVO X.K H0 A0 f)
theorem _root_.L2.PO.mono {X : Cx} {e : Option Expr} {t t' : TO} (h : PO X e t) (m : ∀ σ H Q, t' σ H Q -> t σ H Q) : PO X e t' := by
 intro pins s σ H Q I q
 exact h pins s σ H Q I (m σ H Q q)
theorem QqT : SO X none Qaq := λ H0 A0 => Qrq.mono λ σ H Q ⟨ρ, hs, F, o, rel, e, q⟩ => by
 cases e
 exact q H (Qy.refl _)
theorem Qrk (h : SE X a fa) : SO X (some a) (Qas fa) := λ H0 A0 => (Qqm (h H0 A0)).mono λ σ H Q ⟨ρ, hs, F, o, rel, e, q⟩ => by
 obtain ⟨r, e1, e⟩ := bind1 e
 refine ⟨ρ, hs, F, r, rel, e1, λ v H1 G p => ?_⟩
 have rp := p.rp
 cases hr : r.d with
 | int i =>
  rw [hr] at e rp
  cases e
  exact ⟨i, rp.int_inv, q H1 p.same⟩
 | _ => rw [hr] at e; cases e
noncomputable def cutD (xs : List D) (lo hi : Option Int) : List D := (xs.drop (HT.sIx xs.length 0 lo)).take (HT.sIx xs.length xs.length hi - HT.sIx xs.length 0 lo)
noncomputable def Qbc (fa : DE) (lo hi : DO) : DE := λ ρ => (fa ρ).bind λ ra => (lo ρ).bind λ l => (hi ρ).bind λ h => match ra.d with
 | .lst xs => some (QaN (cutD xs l h) ra.M)
 | _ => none
theorem Rps.drop : ∀ {ds : List D} {vs : List V} {F : List Addr} {K : PySem.W.Frag} {H : Hp} (n : Nat), Rps K H ds vs F -> ∃ G, Rps K H (ds.drop n) (vs.drop n) G /\ ∀ a ∈ G, a ∈ F
 | [], vs, F, K, H, n, h => by simp only [Rps] at h; rw [h.1, h.2]; exact ⟨[], by simp [Rps], λ _ h => h⟩
 | d :: ds, vs, F, K, H, 0, h => ⟨F, by simpa using h, λ _ h => h⟩
 | d :: ds, vs, F, K, H, n + 1, h => by
  simp only [Rps] at h
  obtain ⟨v, ws, F1, F2, e, eF, r, q⟩ := h
  subst e eF
  obtain ⟨G, h1, h2⟩ := Rps.drop n q
  exact ⟨G, by simpa using h1, λ a ha => Zc _ (h2 a ha)⟩
theorem Rps.take : ∀ {ds : List D} {vs : List V} {F : List Addr} {K : PySem.W.Frag} {H : Hp} (n : Nat), Rps K H ds vs F -> ∃ G, Rps K H (ds.take n) (vs.take n) G /\ ∀ a ∈ G, a ∈ F
 | [], vs, F, K, H, n, h => by simp only [Rps] at h; rw [h.1, h.2]; exact ⟨[], by simp [Rps], λ _ h => h⟩
 | d :: ds, vs, F, K, H, 0, h => ⟨[], by simp [Rps], λ _ h => by simp at h⟩
 | d :: ds, vs, F, K, H, n + 1, h => by
  simp only [Rps] at h
  obtain ⟨v, ws, F1, F2, e, eF, r, q⟩ := h
  subst e eF
  obtain ⟨G, h1, h2⟩ := Rps.take n q
  refine ⟨F1 ++ G, ?_, λ a ha => ?_⟩
  ·simp only [List.take_succ_cons, Rps]
   exact ⟨v, _, F1, G, rfl, rfl, r, h1⟩
  ·rcases ZD.mp ha with h | h
   ·exact Ze _ h
   ·exact Zc _ (h2 a h)
theorem Qtc {lo hi : Option Expr} {fl fh : DO} {p2 : Pos} (ha : SE X a fa) (hl : SO X lo fl) (hh : SO X hi fh) : SE X (.Subscript a (.Slice lo hi none p2) pos) (Qbc fa fl fh) := λ H0 A0 =>
 (Qo4 Qq0 (ha H0 A0) (hl H0 A0) (hh H0 A0)).mono λ σ H Q ⟨ρ, hs, F, r', rel, e, q⟩ => by
  obtain ⟨ra, e1, e⟩ := bind1 e
  obtain ⟨l, e2, e⟩ := bind1 e
  obtain ⟨h, e3, e⟩ := bind1 e
  refine ⟨ρ, hs, F, ra, rel, e1, λ x H1 G1 p1 => ⟨ρ, hs, F, l, rel.ext p1.same, e2, λ H2 s2 => ⟨ρ, hs, F, h, (rel.ext p1.same).ext s2, e3, λ H3 s3 => ?_⟩⟩⟩
  have rp := p1.rp.same (s2.trans s3)
  cases hra : ra.d with
  | lst xs =>
   rw [hra] at e rp
   cases e
   obtain ⟨c, vs, L, rfl, hc, rl, zl, el⟩ := rp.lst_inv
   refine ⟨c, vs, rfl, Q5 hc, λ p hp => ?_⟩
   obtain ⟨G2, h2, m2⟩ := rl.drop (HT.sIx xs.length 0 l)
   obtain ⟨G3, h3, m3⟩ := h2.take (HT.sIx xs.length xs.length h - HT.sIx xs.length 0 l)
   have n1 := rl.length
   rw [show QiG vs l h = (vs.drop (HT.sIx xs.length 0 l)).take (HT.sIx xs.length xs.length h - HT.sIx xs.length 0 l) by unfold QiG; rw [n1]]
   refine q _ _ (p :: G3) (QR.QaN (p1.same.trans (s2.trans s3)) hp h3 ?_ (λ z hz => p1.src z ?_) p1.own)
   ·unfold cutD; rw [ZaT, List.length_drop]; omega
   ·have := m2 z (m3 z hz)
    rcases el with rfl | rfl
    ·exact Zd _ this
    ·exact this
  | _ => rw [hra] at e; cases e
noncomputable def dBf (g : List D -> Option D) (fs : DA) : DE := λ ρ => (fs ρ).bind λ r => (g r.ds).map λ d => ⟨d, true, []⟩
def Qf7 (K : PySem.W.Frag) (g : List D -> Option D) (r : List V -> Hp -> VK -> Prop) : Prop := ∀ ds d, g ds = some d -> d.flat = true /\ ∀ H vs F (Q : VK), Rps K H ds vs F -> (∀ v, (∀ H', Rp K H' d v []) -> Q v H) -> r vs H Q
theorem Qj0 {x : Str} {id : String} {g : List D -> Option D} {r : List V -> Hp -> VK -> Prop} {p : Pos} (hc : QbY X (.builtin id) r) (hk : Qf7 X.K g r) (hg : Gl X x) (hm : X.mg x = none) (hv : bootBuiltins x = some (.builtin id)) (ha : SA X (e :: es) fs) (hn : x ≠ "__name__") (hdb : (x == ("__debug__" : Str)) = false)
  (he : starEach (e :: es) X.env = (false, eval e X.env) :: starEach es X.env) (hpl : (backTo pos (starEach es X.env)).any (·.1) = false) : SE X (.Call (.Name x p) (e :: es) [] pos) (dBf g fs) := λ H0 A0 =>
 (Qfi hc hg hm hv (ha H0 A0) hn hdb he hpl).mono λ σ H Q ⟨ρ, hs, F, r', rel, e, q⟩ => by
  obtain ⟨ra, e1, e⟩ := bind1 e
  obtain ⟨d, ed, e⟩ := Zb.mp e
  subst e
  exact ⟨ρ, hs, F, ra, rel, e1, λ vs H1 G p1 => (hk _ _ ed).2 H1 vs G Q p1.rp λ v hv => q v H1 [] (.flat p1.same (hv _) (hk _ _ ed).1)⟩
theorem Rps.one {K : PySem.W.Frag} {H : Hp} {d : D} {vs : List V} {F : List Addr} (h : Rps K H [d] vs F) : ∃ v, vs = [v] /\ Rp K H d v F := by
 simp only [Rps] at h
 obtain ⟨v, ws, F1, F2, rfl, rfl, r, rfl, rfl⟩ := h
 exact ⟨v, rfl, by simpa using r⟩
theorem Rps.two {K : PySem.W.Frag} {H : Hp} {d e : D} {vs : List V} {F : List Addr} (h : Rps K H [d, e] vs F) : ∃ v w F1 F2, vs = [v, w] /\ Rp K H d v F1 /\ Rp K H e w F2 := by
 simp only [Rps] at h
 obtain ⟨v, ws, F1, F2, rfl, rfl, r, w, ws', F3, F4, rfl, rfl, r2, rfl, rfl⟩ := h
 exact ⟨v, w, F1, F3, rfl, r, r2⟩
noncomputable def Qal : List D -> Option D
 | [.lst xs] => some (.int xs.length)
 | [.tup xs] => some (.int xs.length)
 | _ => none
theorem Qse {K : PySem.W.Frag} : Qf7 K Qal (λ xs H Q => ∃ p ys, xs = [.ref p] /\ (SqL K H p ys ∨ SqT K H p ys) /\ Q (.int ys.length) H) := λ ds d e => by
 unfold Qal at e
 split at e
 ·cases e
  refine ⟨rfl, λ H vs F Q r q => ?_⟩
  obtain ⟨v, rfl, rp⟩ := r.one
  obtain ⟨l, ws, L, rfl, hl, rl, zl, el⟩ := rp.lst_inv
  exact ⟨l, ws, rfl, .inl (Q5 hl), by rw [← rl.length]; exact q _ λ _ => .int_mk⟩
 ·cases e
  refine ⟨rfl, λ H vs F Q r q => ?_⟩
  obtain ⟨v, rfl, rp⟩ := r.one
  obtain ⟨l, ws, rfl, hl, rl⟩ := rp.QaK
  exact ⟨l, ws, rfl, .inr hl, by rw [← rl.length]; exact q _ λ _ => .int_mk⟩
 ·cases e
noncomputable def QgF : List D -> Option D
 | [.int i, .int j] => some (.int (if j < i then j else i))
 | _ => none
noncomputable def QgZ : List D -> Option D
 | [.int i] => some (.int (if i < 0 then -i else i))
 | _ => none
theorem QrH {K : PySem.W.Frag} : Qf7 K QgF (λ xs H Q => ∃ i j, xs = [.int i, .int j] /\ Q (.int (if j < i then j else i)) H) := λ ds d e => by
 unfold QgF at e
 split at e
 ·cases e
  refine ⟨rfl, λ H vs F Q r q => ?_⟩
  obtain ⟨v, w, F1, F2, rfl, r1, r2⟩ := r.two
  exact ⟨_, _, by rw [r1.int_inv, r2.int_inv], q _ λ _ => .int_mk⟩
 ·cases e
theorem Qsf {K : PySem.W.Frag} : Qf7 K QgZ (λ xs H Q => ∃ i, xs = [.int i] /\ Q (.int (if i < 0 then -i else i)) H) := λ ds d e => by
 unfold QgZ at e
 split at e
 ·cases e
  refine ⟨rfl, λ H vs F Q r q => ?_⟩
  obtain ⟨v, rfl, r1⟩ := r.one
  exact ⟨_, by rw [r1.int_inv], q _ λ _ => .int_mk⟩
 ·cases e
noncomputable def dList (fs : DA) : DE := λ ρ => (fs ρ).bind λ r => match r.ds with
 | [.lst xs] => some (QaN xs r.M)
 | [.tup xs] => if xs.length <= sizeLine then some (QaN xs r.M) else none
 | _ => none
theorem Qqq {p : Pos} (hg : Gl X "list") (hm : X.mg "list" = none) (ha : SA X (e :: es) fs) (he : starEach (e :: es) X.env = (false, eval e X.env) :: starEach es X.env) (hpl : (backTo pos (starEach es X.env)).any (·.1) = false) :
  SE X (.Call (.Name "list" p) (e :: es) [] pos) (dList fs) := λ H0 A0 =>
 (Qjk Qgc hg hm ZaM (ha H0 A0) (by decide) (by decide) he hpl).mono λ σ H Q ⟨ρ, hs, F, r', rel, e, q⟩ => by
  obtain ⟨ra, e1, e⟩ := bind1 e
  refine ⟨ρ, hs, F, ra, rel, e1, λ vs H1 G p1 => ?_⟩
  have rp := p1.rp
  have src := p1.src
  split at e
  ·rename_i xs hds
   cases e
   rw [hds] at rp
   obtain ⟨v, rfl, rq⟩ := rp.one
   obtain ⟨l, ws, L, rfl, hl, rl, zl, el⟩ := rq.lst_inv
   refine ⟨l, ws, rfl, .inl (Q5 hl), λ c hc => q _ _ (c :: L) (QR.QaN p1.same hc rl zl (λ z hz => src z ?_) p1.own)⟩
   rcases el with rfl | rfl
   ·exact Zd _ hz
   ·exact hz
  ·rename_i xs hds
   split at e
   ·rename_i hz
    cases e
    rw [hds] at rp
    obtain ⟨v, rfl, rq⟩ := rp.one
    obtain ⟨l, ws, rfl, hl, rl⟩ := rq.QaK
    exact ⟨l, ws, rfl, .inr hl, λ c hc => q _ _ (c :: G) (QR.QaN p1.same hc rl hz src p1.own)⟩
   ·cases e
  ·cases e
end
end HS
namespace HS
open PySem PySem.Spec L2
mutual
noncomputable def D.py : D -> PyData
 | .non => .none
 | .bl b => .bool b
 | .int i => .int i
 | .str x => .str x
 | .tup xs => .tuple (pys xs)
 | .lst xs => .list (pys xs)
 | .exc _ => .none
noncomputable def pys : List D -> List PyData
 | [] => []
 | d :: ds => d.py :: pys ds
end
theorem Ql4 : ∀ ds : List D, pys ds = ds.map D.py
 | [] => rfl
 | d :: ds => by simp [pys, Ql4 ds]
noncomputable def D.sim : Nat -> D -> Bool
 | _, .non => true
 | _, .bl _ => true
 | _, .int _ => true
 | _, .str x => PyData.canLay0 (.str x)
 | 0, .tup xs => xs.isEmpty
 | 0, .lst xs => xs.isEmpty
 | n + 1, .tup xs => xs.all (D.sim n)
 | n + 1, .lst xs => xs.all (D.sim n)
 | _, .exc _ => false
theorem Qek : ∀ {ds : List D}, (∀ d ∈ ds, d.py.canLay0 = true) -> PyData.canLayAll0 (pys ds) = true
 | [], _ => rfl
 | d :: ds, h => by
  simp only [pys, PyData.canLayAll0, Zg]
  exact ⟨h d Zi, Qek λ e he => h e (Zd _ he)⟩
theorem QeK {n : Nat} : ∀ {ds : List D}, (∀ d ∈ ds, d.py.depth <= n) -> PyData.depthAll (pys ds) <= n
 | [], _ => ZK _
 | d :: ds, h => by
  simp only [pys, PyData.depthAll]
  exact Nat.max_le.mpr ⟨h d Zi, QeK λ e he => h e (Zd _ he)⟩
theorem Qbt : ∀ (n : Nat) (d : D), d.sim n = true -> d.py.canLay0 = true /\ d.py.depth <= n + 1
 | n, .exc _, h => by cases n <;> cases h
 | n, .non, _ => by simp [D.py, PyData.canLay0, PyData.depth]
 | n, .bl _, _ => by simp [D.py, PyData.canLay0, PyData.depth]
 | n, .int _, _ => by simp [D.py, PyData.canLay0, PyData.depth]
 | n, .str x, h => by
  simp only [D.py, PyData.depth]
  refine ⟨?_, ZK _⟩
  cases n <;> exact h
 | 0, .tup xs, h => by
  have : xs = [] := by simpa [D.sim] using h
  subst this
  simp [D.py, pys, PyData.canLay0, PyData.canLayAll0, PyData.depth, PyData.depthAll]
 | 0, .lst xs, h => by
  have : xs = [] := by simpa [D.sim] using h
  subst this
  simp [D.py, pys, PyData.canLay0, PyData.canLayAll0, PyData.depth, PyData.depthAll]
 | n + 1, .tup xs, h => by
  simp only [D.sim, ZZ] at h
  simp only [D.py, PyData.canLay0, PyData.depth]
  exact ⟨Qek λ d hd => (Qbt n d (h d hd)).1, ZaX (QeK λ d hd => (Qbt n d (h d hd)).2) 1⟩
 | n + 1, .lst xs, h => by
  simp only [D.sim, ZZ] at h
  simp only [D.py, PyData.canLay0, PyData.depth]
  exact ⟨Qek λ d hd => (Qbt n d (h d hd)).1, ZaX (QeK λ d hd => (Qbt n d (h d hd)).2) 1⟩
noncomputable def deq (a b : D) : Bool := PyData.eqv a.py b.py
theorem Qld {n : Nat} {d : D} (h : d.sim n = true) : deq d d = true := SeqAt.eqv_refl _ (Qbt n d h).1
mutual
noncomputable def D.noX : D -> Bool
 | .exc _ => false
 | .tup xs => Qhe xs
 | .lst xs => Qhe xs
 | .non => true
 | .bl _ => true
 | .int _ => true
 | .str _ => true
noncomputable def Qhe : List D -> Bool
 | [] => true
 | d :: ds => d.noX && Qhe ds
end
theorem QiJ : ∀ {ds : List D}, (∀ d ∈ ds, d.noX = true) -> Qhe ds = true
 | [], _ => rfl
 | d :: ds, h => by
  simp only [Qhe, Zg]
  exact ⟨h d Zi, QiJ λ e he => h e (Zd _ he)⟩
theorem QbN : ∀ (n : Nat) (d : D), d.sim n = true -> d.noX = true
 | n, .exc _, h => by cases n <;> cases h
 | n, .non, _ => rfl
 | n, .bl _, _ => rfl
 | n, .int _, _ => rfl
 | n, .str x, _ => rfl
 | 0, .tup xs, h => by
  have : xs = [] := by simpa [D.sim] using h
  subst this; rfl
 | 0, .lst xs, h => by
  have : xs = [] := by simpa [D.sim] using h
  subst this; rfl
 | n + 1, .tup xs, h => by
  simp only [D.sim, ZZ] at h
  simp only [D.noX]
  exact QiJ λ d hd => QbN n d (h d hd)
 | n + 1, .lst xs, h => by
  simp only [D.sim, ZZ] at h
  simp only [D.noX]
  exact QiJ λ d hd => QbN n d (h d hd)
section
variable {X : Cx} {pins : List (Addr × Obj)} {σ : L2.St} {H : Hp} {s : Shared}
mutual
theorem Rp.reads (I : Inv X pins σ H s) : ∀ {d : D} {v : V} {F : List Addr} {u : Value}, d.noX = true -> Rp X.K H d v F -> RelV v u -> ∃ as, Reads s.heap u d.py as
 | .exc _, v, _, u, hx, h, r => by cases hx
 | .non, v, _, u, hx, h, r => by
  rw [h.Qi0] at r
  cases (show u = Value.none from r)
  exact ⟨_, .none⟩
 | .bl b, v, _, u, hx, h, r => by
  rw [h.Qf5] at r
  cases (show u = Value.bool b from r)
  exact ⟨_, .bool b⟩
 | .int i, v, _, u, hx, h, r => by
  rw [h.int_inv] at r
  obtain ⟨t, rfl⟩ := (show ∃ t, u = Value.int i t from r)
  exact ⟨_, .int i t⟩
 | .str i, v, _, u, hx, h, r => by
  rw [h.str_inv] at r
  obtain ⟨t, rfl⟩ := (show ∃ t, u = Value.str i t from r)
  exact ⟨_, .str i t⟩
 | .tup ds, v, _, u, hx, h, r => by
  obtain ⟨a, vs, rfl, hq, rs⟩ := h.QaK
  cases (show u = Value.ref a from r)
  obtain ⟨its, rv, ⟨o, h1, h2, n, h3⟩, _⟩ := I.tuple hq
  obtain ⟨as, ra⟩ := Rps.reads I (by simpa only [D.noX] using hx) rs rv
  exact ⟨_, .tuple h1 h2 h3 (by simpa using ra)⟩
 | .lst ds, v, _, u, hx, h, r => by
  simp only [Rp] at h
  obtain ⟨hz, a, vs, rfl, h⟩ := h
  have key : ∃ G, (H a = some (.lst vs) ∨ Fix X.K H a vs) /\ Rps X.K H ds vs G := by
   rcases h with ⟨G, _, q, rs⟩ | ⟨q, rs⟩
   ·exact ⟨G, .inl q, rs⟩
   ·exact ⟨_, .inr q, rs⟩
  obtain ⟨G, hq, rs⟩ := key
  cases (show u = Value.ref a from r)
  obtain ⟨_, its, n, rv, _, e⟩ := I.Qkc hq
  obtain ⟨as, ra⟩ := Rps.reads I (by simpa only [D.noX] using hx) rs rv
  exact ⟨_, .list e rfl rfl (by simpa using ra)⟩
theorem Rps.reads (I : Inv X pins σ H s) : ∀ {ds : List D} {vs : List V} {F : List Addr} {us : List Value}, Qhe ds = true -> Rps X.K H ds vs F -> Qr vs us -> ∃ as, ReadsAll s.heap us (pys ds) as
 | [], vs, _, us, _, h, r => by
  simp only [Rps] at h
  rw [h.1] at r
  cases r
  exact ⟨_, .nil⟩
 | d :: ds, vs, _, us, hx, h, r => by
  simp only [Qhe, Zg] at hx
  simp only [Rps] at h
  obtain ⟨v, ws, F1, F2, rfl, rfl, h1, h2⟩ := h
  cases r with
  | cons r rr =>
   obtain ⟨as, ra⟩ := Rp.reads I hx.1 h1 r
   obtain ⟨bs, rb⟩ := Rps.reads I hx.2 h2 rr
   exact ⟨_, .cons ra rb⟩
end
end
noncomputable def gEq (a b : D) : Option D := if a.sim 8 && b.sim 8 then some (.bl (deq a b)) else none
noncomputable def gNe (a b : D) : Option D := if a.sim 8 && b.sim 8 then some (.bl (!deq a b)) else none
noncomputable def gIn (neg : Bool) (a b : D) : Option D := match b with
 | .lst xs => if a.sim 8 && b.sim 8 then some (.bl (if neg then !(xs.any λ y => deq y a) else xs.any λ y => deq y a)) else none
 | .tup xs => if a.sim 8 && b.sim 8 then some (.bl (if neg then !(xs.any λ y => deq y a) else xs.any λ y => deq y a)) else none
 | _ => none
noncomputable def QsX (K : PySem.W.Frag) : R2 := λ x y H Q => ∃ a b F G, Rp K H a x F /\ Rp K H b y G /\ a.sim 8 = true /\ b.sim 8 = true /\ Q (.bl (deq a b)) H
noncomputable def QsL (K : PySem.W.Frag) : R2 := λ x y H Q => ∃ a b F G, Rp K H a x F /\ Rp K H b y G /\ a.sim 8 = true /\ b.sim 8 = true /\ Q (.bl (!deq a b)) H
section
variable {X : Cx}
theorem Qoh (hu : X.A.units + 64 < cLine) : OpR X (compareOp .Eq) (QsX X.K) := by
 intro pins s σ H x y v u Q I rx ry h
 obtain ⟨a, b, F, G, ha, hb, sa, sb, q⟩ := h
 obtain ⟨as, ra⟩ := Rp.reads I (QbN 8 _ sa) ha rx
 obtain ⟨bs, rb⟩ := Rp.reads I (QbN 8 _ sb) hb ry
 have h1 := Qbt 8 a sa
 have h2 := Qbt 8 b sb
 exact SeqAt.compareEq_reads ra rb h1.1 h2.1 (by have := Nat.min_le_left a.py.depth b.py.depth; omega) ⟨.bl _, H, I, rfl, q⟩
theorem QnE (hu : X.A.units + 64 < cLine) : OpR X (compareOp .NotEq) (QsL X.K) := by
 intro pins s σ H x y v u Q I rx ry h
 obtain ⟨a, b, F, G, ha, hb, sa, sb, q⟩ := h
 obtain ⟨as, ra⟩ := Rp.reads I (QbN 8 _ sa) ha rx
 obtain ⟨bs, rb⟩ := Rp.reads I (QbN 8 _ sb) hb ry
 have h1 := Qbt 8 a sa
 have h2 := Qbt 8 b sb
 exact SeqAt.compareNe_reads ra rb h1.1 h2.1 (by have := Nat.min_le_left a.py.depth b.py.depth; omega) ⟨.bl _, H, I, rfl, q⟩
theorem Qp9 {K : PySem.W.Frag} : Qcq K gEq (QsX K) := λ a b d e => by
 unfold gEq at e
 split at e
 ·rename_i h
  simp only [Zg] at h
  cases e
  exact ⟨rfl, λ H x y F G Q ha hb q => ⟨a, b, F, G, ha, hb, h.1, h.2, q _ λ _ => .QbW⟩⟩
 ·cases e
theorem QpY {K : PySem.W.Frag} : Qcq K gNe (QsL K) := λ a b d e => by
 unfold gNe at e
 split at e
 ·rename_i h
  simp only [Zg] at h
  cases e
  exact ⟨rfl, λ H x y F G Q ha hb q => ⟨a, b, F, G, ha, hb, h.1, h.2, q _ λ _ => .QbW⟩⟩
 ·cases e
noncomputable def QpR (K : PySem.W.Frag) (neg : Bool) : R2 := λ x y H Q => ∃ a b F G xs, Rp K H a x F /\ Rp K H b y G /\ a.sim 8 = true /\ b.sim 8 = true /\ (b = .lst xs ∨ b = .tup xs) /\ Q (.bl (if neg then !(xs.any λ y => deq y a) else xs.any λ y => deq y a)) H
theorem Qob (xs : List D) (a : D) : ((pys xs).any λ y => PyData.eqv y a.py) = xs.any λ y => deq y a := by
 rw [Ql4, List.any_map]; rfl
theorem QrX (hu : X.A.units + 64 < cLine) : OpR X (compareOp .In) (QpR X.K false) := by
 intro pins s σ H x y v u Q I rx ry h
 obtain ⟨a, b, F, G, xs, ha, hb, sa, sb, hk, q⟩ := h
 obtain ⟨as, ra⟩ := Rp.reads I (QbN 8 _ sa) ha rx
 obtain ⟨bs, rb⟩ := Rp.reads I (QbN 8 _ sb) hb ry
 have h1 := Qbt 8 a sa
 have h2 := Qbt 8 b sb
 have q' : Q (.bl ((pys xs).any λ y => PyData.eqv y a.py)) H := by rw [Qob]; exact q
 rcases hk with rfl | rfl
 ·exact SeqAt.in_list_reads rb ra h2.1 h1.1 (by have := ZaV (PyData.depthAll (pys xs)) a.py.depth; omega) ⟨.bl _, H, I, rfl, q'⟩
 ·exact SeqAt.in_tuple_reads rb ra h2.1 h1.1 (by have := ZaV (PyData.depthAll (pys xs)) a.py.depth; omega) ⟨.bl _, H, I, rfl, q'⟩
theorem Qnc (hu : X.A.units + 64 < cLine) : OpR X (compareOp .NotIn) (QpR X.K true) := by
 intro pins s σ H x y v u Q I rx ry h
 obtain ⟨a, b, F, G, xs, ha, hb, sa, sb, hk, q⟩ := h
 obtain ⟨as, ra⟩ := Rp.reads I (QbN 8 _ sa) ha rx
 obtain ⟨bs, rb⟩ := Rp.reads I (QbN 8 _ sb) hb ry
 have h1 := Qbt 8 a sa
 have h2 := Qbt 8 b sb
 have q' : Q (.bl (!(pys xs).any λ y => PyData.eqv y a.py)) H := by rw [Qob]; exact q
 rcases hk with rfl | rfl
 ·exact SeqAt.notIn_list_reads rb ra h2.1 h1.1 (by have := ZaV (PyData.depthAll (pys xs)) a.py.depth; omega) ⟨.bl _, H, I, rfl, q'⟩
 ·exact SeqAt.notIn_tuple_reads rb ra h2.1 h1.1 (by have := ZaV (PyData.depthAll (pys xs)) a.py.depth; omega) ⟨.bl _, H, I, rfl, q'⟩
theorem Qqe {K : PySem.W.Frag} {neg : Bool} : Qcq K (gIn neg) (QpR K neg) := λ a b d e => by
 unfold gIn at e
 split at e
 ·split at e
  ·rename_i h
   simp only [Zg] at h
   cases e
   exact ⟨rfl, λ H x y F G Q ha hb q => ⟨a, _, F, G, _, ha, hb, h.1, h.2, .inl rfl, q _ λ _ => .QbW⟩⟩
  ·cases e
 ·split at e
  ·rename_i h
   simp only [Zg] at h
   cases e
   exact ⟨rfl, λ H x y F G Q ha hb q => ⟨a, _, F, G, _, ha, hb, h.1, h.2, .inr rfl, q _ λ _ => .QbW⟩⟩
  ·cases e
 ·cases e
noncomputable def D.tyN : D -> String
 | .non => "NoneType" | .bl _ => "bool" | .int _ => "int" | .str _ => "str" | .tup _ => "tuple" | .lst _ => "list" | .exc _ => "?"
noncomputable def D.isE : D -> Bool
 | .exc _ => true
 | _ => false
noncomputable def D.isa (T : String) (d : D) : Option Bool := if (T == "int" || T == "bool" || T == "list" || T == "tuple" || T == "str") && !d.isE then some (d.tyN == T || (d.tyN == "bool" && T == "int")) else none
theorem Qsi {pins : List (Addr × Obj)} {σ : L2.St} {H : Hp} {s : Shared} {A : Around} {E Q : Value -> Shared -> Prop} {d : D} {v : V} {F : List Addr} {u : Value} {T : String} {b : Bool} (I : Inv X pins σ H s) (rp : Rp X.K H d v F) (rx : RelV v u) (e : d.isa T = some b) (h : ∀ tk, Q (.bool b) { s with toks := tk }) :
  wpAny (model X.prog X.w) A (call (.builtin "isinstance") [u, .type T]) Q E s := by
 have kit : PySem.W.kitOne X.K (.type d.tyN) (.type T) = some b := by
  unfold D.isa at e
  split at e
  ·rename_i hT
   cases e
   simp only [Zg, ZbA, beq_iff_eq] at hT
   obtain ⟨hT, hE⟩ := hT
   rcases hT with (((rfl | rfl) | rfl) | rfl) | rfl <;> cases d <;> first | rfl | (cases hE)
  ·cases e
 cases d with
 | exc x => unfold D.isa at e; split at e; (rename_i hT; exfalso; simp only [Zg] at hT; exact nomatch hT.2); cases e
 | non => rw [rp.Qi0] at rx; cases (show u = Value.none from rx); exact Zar PySem.W.kitx_none I.kIn True.intro kit (λ z => nomatch z) h
 | bl y => rw [rp.Qf5] at rx; cases (show u = Value.bool y from rx); exact Zar PySem.W.kitx_bool I.kIn True.intro kit (λ z => nomatch z) h
 | int i => rw [rp.int_inv] at rx; obtain ⟨t, q⟩ := (show ∃ t, u = Value.int i t from rx); cases q; exact Zar PySem.W.kitx_int I.kIn True.intro kit (λ z => nomatch z) h
 | str y => rw [rp.str_inv] at rx; obtain ⟨t, q⟩ := (show ∃ t, u = Value.str y t from rx); cases q; exact Zar PySem.W.kitx_str I.kIn True.intro kit (λ z => nomatch z) h
 | tup ds =>
  obtain ⟨a, vs, rfl, hq, _⟩ := rp.QaK
  cases (show u = Value.ref a from rx)
  obtain ⟨its, rv, ⟨o, h1, h2, n, h3⟩, _⟩ := I.tuple hq
  exact Zar PySem.W.kitx_tuple I.kIn ⟨o, h1, h2⟩ kit (λ z => nomatch z) h
 | lst ds =>
  obtain ⟨a, vs, G, rfl, hq, _⟩ := rp.lst_inv
  cases (show u = Value.ref a from rx)
  obtain ⟨_, its, n, rv, _, e1⟩ := I.Qkc hq
  exact Zar PySem.W.kitx_list I.kIn ⟨_, e1, rfl⟩ kit (λ z => nomatch z) h
noncomputable def Quq (K : PySem.W.Frag) : List V -> Hp -> VK -> Prop := λ xs H Q => ∃ x T d F b, xs = [x, .ty T] /\ Rp K H d x F /\ d.isa T = some b /\ Q (.bl b) H
theorem Qpc : QbY X (.builtin "isinstance") (Quq X.K) := by
 intro pins s σ H xs us Q I r h
 obtain ⟨x, T, d, F, b, rfl, rp, e, q⟩ := h
 obtain ⟨u, w, rfl, ru, rw'⟩ := vals2 r
 cases (show w = Value.type T from rw')
 exact Qsi I rp ru e λ tk => ⟨.bl b, H, I.tok _, rfl, q⟩
noncomputable def Qg1 (T : String) (fa : DE) : DE := λ ρ => (fa ρ).bind λ r => (r.d.isa T).map λ b => ⟨.bl b, true, []⟩
theorem Qsv {a : Expr} {fa : DE} {T : String} {x : Str} {p p2 pos : Pos} (hg : Gl X "isinstance") (hm : X.mg "isinstance" = none) (ha : SE X a fa) (hT : PE X (.Name x p2) (tC (.ty T)))
  (he : starEach [a, .Name x p2] X.env = (false, eval a X.env) :: starEach [.Name x p2] X.env) : SE X (.Call (.Name "isinstance" p) [a, .Name x p2] [] pos) (Qg1 T fa) := λ H0 A0 =>
 (Qfi Qpc hg hm Zaz (Qan (ha H0 A0) (Qan hT Qcs) he) (by decide) (by decide) he (by rfl)).mono λ σ H Q ⟨ρ, hs, F, r', rel, e, q⟩ => by
  obtain ⟨r, e1, e⟩ := bind1 e
  obtain ⟨b, eb, e⟩ := Zb.mp e
  subst e
  exact ⟨ρ, hs, F, r, rel, e1, λ v H1 G p => ⟨v, T, r.d, G, b, rfl, p.rp, eb, q _ H1 [] (.flat p.same .QbW)⟩⟩
noncomputable def D.tru : D -> Option Bool
 | .non => some false
 | .bl b => some b
 | .int i => some (i != 0)
 | .lst xs => some (!xs.isEmpty)
 | .tup xs => some (!xs.isEmpty)
 | .str _ => none
 | .exc _ => none
theorem Qj1 {K : PySem.W.Frag} {H : Hp} {d : D} {v : V} {F : List Addr} {b : Bool} (h : Rp K H d v F) (e : d.tru = some b) : QoD K v H b := by
 have emp : ∀ {ds : List D} {vs : List V} {G : List Addr}, Rps K H ds vs G -> (!ds.isEmpty) = !vs.isEmpty := λ {ds vs G} r => by
  have := r.length
  cases ds <;> cases vs <;> simp_all
 cases d with
 | non => rw [h.Qi0]; cases e; exact rfl
 | bl c => rw [h.Qf5]; cases e; exact rfl
 | int i => rw [h.int_inv]; cases e; exact rfl
 | str i => cases e
 | exc i => cases e
 | tup ds => cases e; obtain ⟨a, vs, rfl, hq, r⟩ := h.QaK; exact .inr (.inl ⟨vs, hq, emp r⟩)
 | lst ds => cases e; obtain ⟨a, vs, G, rfl, hq, r, _⟩ := h.lst_inv; exact .inl ⟨vs, Q5 hq, emp r⟩
noncomputable def QG (fa : DE) : DT := λ ρ => (fa ρ).bind λ r => r.d.tru
noncomputable def QiA (f g : DT) : DT := λ ρ => (f ρ).bind λ b => if b = true then g ρ else some false
noncomputable def bOr (f g : DT) : DT := λ ρ => (f ρ).bind λ b => if b = true then some true else g ρ
noncomputable def QcZ (f : DT) : DT := λ ρ => (f ρ).bind λ b => some (!b)
def SW (X : Cx) (e : Expr) (f : DT) : Prop := ∀ H0 A0, PW X e (tVT X.K H0 A0 f)
theorem _root_.L2.PW.mono {X : Cx} {e : Expr} {t t' : TT} (h : PW X e t) (m : ∀ σ H Q, t' σ H Q -> t σ H Q) : PW X e t' := λ wh pins s σ H Q I q => h wh pins s σ H Q I (m σ H Q q)
variable {a b e : Expr} {fa fb : DE} {ga gb gc : DT} {pos : Pos} {rest : List Expr}
theorem QrO (ha : SE X a fa) (he : ∀ whole, isTrue a X.env whole = (do let v ← whole; standAt a.pos; holding [v] (truthy v))) : ST X a (QG fa) := λ H0 A0 =>
 (Qpy (ha H0 A0) he).mono λ σ H Q ⟨ρ, hs, F, b, rel, e, q⟩ => by
  obtain ⟨r, e1, e⟩ := bind1 e
  exact ⟨ρ, hs, F, r, rel, e1, λ v H1 G p => ⟨b, Qj1 p.rp e, q H1 p.same⟩⟩
theorem Qtd {op : CmpOp} {g : D -> D -> Option D} {r : R2} (ho : OpR X (compareOp op) r) (hg : Qcq X.K g r) (hbl : ∀ a b d, g a b = some d -> ∃ k, d = .bl k) (ha : SE X a fa) (hb : SE X b fb) (hm : behindInMarks op b = false) : ST X (.Compare a [op] [b] pos) (QG (dOp g fa fb)) := λ H0 A0 =>
 (Qqv ho (ha H0 A0) (hb H0 A0) hm).mono λ σ H Q ⟨ρ, hs, F, k, rel, e, q⟩ => by
  obtain ⟨r', e0, e⟩ := bind1 e
  obtain ⟨ra, rb, d, ea, eb, eg, rfl⟩ := Qi9 e0
  obtain ⟨k', rfl⟩ := hbl _ _ _ eg
  cases e
  refine two rel ea eb λ x y H1 H2 G1 G2 p1 p2 => (hg _ _ _ eg).2 H2 x y G1 G2 _ (p1.rp.same p2.same) p2.rp λ v hv => ?_
  exact ⟨_, (hv H2).Qf5, q H2 (p1.same.trans p2.same)⟩
theorem Qsa (ha : ST X a ga) : ST X (.UnaryOp .Not a pos) (QcZ ga) := λ H0 A0 =>
 (QsH (ha H0 A0)).mono λ σ H Q ⟨ρ, hs, F, b, rel, e, q⟩ => by
  obtain ⟨c, e1, e⟩ := bind1 e
  cases e
  exact ⟨ρ, hs, F, c, rel, e1, λ H1 s1 => q H1 s1⟩
theorem Qrf (ha : ST X a ga) : SW X (.BoolOp .And [a] pos) ga := λ H0 A0 => QqI (ha H0 A0)
theorem Qr6 (ha : ST X a ga) : SW X (.BoolOp .Or [a] pos) ga := λ H0 A0 => QsW (ha H0 A0)
theorem QrL (ha : ST X a ga) (hb : SW X (.BoolOp .And (b :: rest) pos) gb) : SW X (.BoolOp .And (a :: b :: rest) pos) (QiA ga gb) := λ H0 A0 =>
 (Qss (ha H0 A0) (hb H0 A0)).mono λ σ H Q ⟨ρ, hs, F, c, rel, e, q⟩ => by
  obtain ⟨d, e1, e⟩ := bind1 e
  refine ⟨ρ, hs, F, d, rel, e1, λ H1 s1 => ?_⟩
  cases d with
  | true => exact ⟨ρ, hs, F, c, rel.ext s1, e, λ H2 s2 => q H2 (s1.trans s2)⟩
  | false => cases e; exact q H1 s1
theorem Qt1 (ha : ST X a ga) (hb : SW X (.BoolOp .Or (b :: rest) pos) gb) : SW X (.BoolOp .Or (a :: b :: rest) pos) (bOr ga gb) := λ H0 A0 =>
 (Qtr (ha H0 A0) (hb H0 A0)).mono λ σ H Q ⟨ρ, hs, F, c, rel, e, q⟩ => by
  obtain ⟨d, e1, e⟩ := bind1 e
  refine ⟨ρ, hs, F, d, rel, e1, λ H1 s1 => ?_⟩
  cases d with
  | true => cases e; exact q H1 s1
  | false => exact ⟨ρ, hs, F, c, rel.ext s1, e, λ H2 s2 => q H2 (s1.trans s2)⟩
theorem SW.st (h : SW X e ga) : ST X e ga := λ H0 A0 => (h H0 A0).pt
noncomputable def Qen (fa fb : DE) : DE := λ ρ => (fa ρ).bind λ ra => (ra.d.tru).bind λ b => if b = true then fb ρ else some ra
noncomputable def dOr (fa fb : DE) : DE := λ ρ => (fa ρ).bind λ ra => (ra.d.tru).bind λ b => if b = true then some ra else fb ρ
noncomputable def Ql8 (fa : DE) : DE := λ ρ => (fa ρ).bind λ ra => (ra.d.tru).bind λ b => some ⟨.bl (!b), true, []⟩
theorem Qh3 {op} (h : SE X a fa) : SE X (.BoolOp op [a] pos) fa := λ H0 A0 => QsT (h H0 A0)
theorem QR.ext {K : PySem.W.Frag} {ρ : En} {F : Nat -> List Addr} {H H1 H2 : Hp} {r : R} {v : V} {G : List Addr} (s : Qy H H1) (p : QR K ρ F H1 H2 r v G) {H0 : Hp} {A0 : List Addr} {hs : List (V × D × List Addr)} {σ : L2.St} (rel : Rel K H0 A0 hs ρ F σ H) : QR K ρ F H H2 r v G where
 same := s.trans p.same
 rp := p.rp
 src := λ a ha => (p.src a ha).elim (λ z => .inl (s.free z)) .inr
 cnt := λ h => ⟨λ a => Zr ((p.cnt h).1 a) (ZaX (by
  cases q : H1 a with
  | none => rw [QaI q, QaI (s.free q)]; exact Zn _
  | some o => rw [Qdc q]; exact ZK _) _), (p.cnt h).2⟩
 own := p.own
theorem Qoc (ha : SE X a fa) (hb : SE X (.BoolOp .And (b :: rest) pos) fb) : SE X (.BoolOp .And (a :: b :: rest) pos) (Qen fa fb) := λ H0 A0 => by
 intro pins s σ H Q I ⟨ρ, hs, F, r, rel, e, q⟩
 obtain ⟨ra, e1, e⟩ := bind1 e
 obtain ⟨c, e2, e⟩ := bind1 e
 refine PyProof.Rows.BoolOp_and (thn (ha H0 A0 pins s σ H _ I ⟨ρ, hs, F, ra, rel, e1, λ v H' G p => (⟨G, p⟩ : ∃ G, QR X.K ρ F H H' ra v G)⟩) λ v s1 ⟨x, H1, I1, r1, G, p⟩ => ?_)
 refine thn (Qik pins s1 σ H1 x v (λ k H2 => k = c /\ H2 = H1) I1 r1 ⟨c, Qj1 p.rp e2, rfl, rfl⟩) λ k s2 ⟨H2, I2, e3, e4⟩ => ?_
 subst e3 e4
 cases k with
 | true => exact hb H0 A0 pins s2 σ _ Q I2 ⟨ρ, hs, F, r, rel.ext p.same, e, λ w H3 G3 p3 => q w H3 G3 (p3.ext p.same rel)⟩
 | false => cases e; exact ⟨x, _, I2, r1, q x _ G p⟩
theorem Qqa (ha : SE X a fa) (hb : SE X (.BoolOp .Or (b :: rest) pos) fb) : SE X (.BoolOp .Or (a :: b :: rest) pos) (dOr fa fb) := λ H0 A0 => by
 intro pins s σ H Q I ⟨ρ, hs, F, r, rel, e, q⟩
 obtain ⟨ra, e1, e⟩ := bind1 e
 obtain ⟨c, e2, e⟩ := bind1 e
 refine PyProof.Rows.BoolOp_or (thn (ha H0 A0 pins s σ H _ I ⟨ρ, hs, F, ra, rel, e1, λ v H' G p => (⟨G, p⟩ : ∃ G, QR X.K ρ F H H' ra v G)⟩) λ v s1 ⟨x, H1, I1, r1, G, p⟩ => ?_)
 refine thn (Qik pins s1 σ H1 x v (λ k H2 => k = c /\ H2 = H1) I1 r1 ⟨c, Qj1 p.rp e2, rfl, rfl⟩) λ k s2 ⟨H2, I2, e3, e4⟩ => ?_
 subst e3 e4
 cases k with
 | false => exact hb H0 A0 pins s2 σ _ Q I2 ⟨ρ, hs, F, r, rel.ext p.same, e, λ w H3 G3 p3 => q w H3 G3 (p3.ext p.same rel)⟩
 | true => cases e; exact ⟨x, _, I2, r1, q x _ G p⟩
theorem Qni (ha : SE X a fa) : SE X (.UnaryOp .Not a pos) (Ql8 fa) := λ H0 A0 => by
 intro pins s σ H Q I ⟨ρ, hs, F, r, rel, e, q⟩
 obtain ⟨ra, e1, e⟩ := bind1 e
 obtain ⟨c, e2, e⟩ := bind1 e
 cases e
 refine PyProof.Rows.UnaryOp_ (thn (ha H0 A0 pins s σ H _ I ⟨ρ, hs, F, ra, rel, e1, λ v H' G p => (⟨G, p⟩ : ∃ G, QR X.K ρ F H H' ra v G)⟩) λ v s1 ⟨x, H1, I1, r1, G, p⟩ => ?_)
 refine PyProof.Rows.not_of (thn (Qik pins s1 σ H1 x v (λ k H2 => k = c /\ H2 = H1) I1 r1 ⟨c, Qj1 p.rp e2, rfl, rfl⟩) λ k s2 ⟨H2, I2, e3, e4⟩ => ?_)
 subst e3 e4
 exact ⟨.bl (!k), _, I2, rfl, q _ _ [] (.flat p.same .QbW)⟩
noncomputable def Qr3 (fa : DE) : DE := λ ρ => (fa ρ).bind λ ra => match ra.d with
 | .int i => some ⟨.int (-i), true, []⟩
 | _ => none
theorem Qsk (ha : SE X a fa) : SE X (.UnaryOp .USub a pos) (Qr3 fa) := λ H0 A0 =>
 (QtO QsU (ha H0 A0)).mono λ σ H Q ⟨ρ, hs, F, r, rel, e, q⟩ => by
  obtain ⟨ra, e1, e⟩ := bind1 e
  refine ⟨ρ, hs, F, ra, rel, e1, λ v H1 G p => ?_⟩
  have rp := p.rp
  cases hr : ra.d with
  | int i =>
   rw [hr] at e rp
   cases e
   exact ⟨i, rp.int_inv, q _ H1 [] (.flat p.same .int_mk)⟩
  | _ => rw [hr] at e; cases e
end
end HS
namespace HS
open PySem PySem.Spec L2
section
variable {K : PySem.W.Frag} {H0 H H' : Hp} {A0 : List Addr} {hs : List (V × D × List Addr)} {ρ ρ' : En} {F : Nat -> List Addr} {σ : L2.St}
def Qb8 (ρ ρ' : En) : Prop := ρ'.length = ρ.length /\ ∀ (i : Nat) d b, ρ'[i]? = some (some (d, b)) -> ∃ b', ρ[i]? = some (some (d, b')) /\ (b = true -> b' = true)
theorem Qb8.refl : Qb8 ρ ρ := ⟨rfl, λ i d b h => ⟨b, h, id⟩⟩
theorem Qb8.trans {ρ'' : En} (a : Qb8 ρ ρ') (b : Qb8 ρ' ρ'') : Qb8 ρ ρ'' := ⟨b.1.trans a.1, λ i d c h => by
 obtain ⟨c', h1, h2⟩ := b.2 i d c h
 obtain ⟨c'', h3, h4⟩ := a.2 i d c' h1
 exact ⟨c'', h3, λ z => h4 (h2 z)⟩⟩
theorem Rel.weak (r : Rel K H0 A0 hs ρ F σ H) (w : Qb8 ρ ρ') : Rel K H0 A0 hs ρ' F σ H where
 len := w.1.trans r.len
 val := λ i d b e => let ⟨b', h, _⟩ := w.2 i d b e; r.val i d b' h
 own := λ i d e => by
  obtain ⟨b', h, hb⟩ := w.2 i d true e
  have : b' = true := hb rfl
  subst this
  obtain ⟨h1, h2, h3, h4, h5⟩ := r.own i d h
  exact ⟨h1, h2, h3, λ j d' b' hj e' => let ⟨b'', h', _⟩ := w.2 j d' b' e'; h4 j d' b'' hj h', h5⟩
 src := λ i d b e => let ⟨b', h, _⟩ := w.2 i d b e; r.src i d b' h
 held := r.held
 same := r.same
noncomputable def kill : List Nat -> En -> En
 | [], ρ => ρ
 | i :: M, ρ => kill M (ρ.set i none)
noncomputable def Q4 : List Nat -> En -> En
 | [], ρ => ρ
 | i :: M, ρ => Q4 M (match ρ[i]? with
  | some (some (d, _)) => ρ.set i (some (d, false))
  | _ => ρ)
theorem Qf9 (i : Nat) : Qb8 ρ (ρ.set i none) := ⟨by simp, λ j d b h => by
 by_cases hj : i = j
 ·subst hj
  by_cases hl : i < ρ.length
  ·rw [Zj hl] at h; cases h
  ·rw [Zp (by simp; omega)] at h; cases h
 ·rw [Zf hj] at h
  exact ⟨b, h, id⟩⟩
theorem Qb6 : ∀ (M : List Nat) (ρ : En), Qb8 ρ (kill M ρ)
 | [], ρ => .refl
 | i :: M, ρ => (Qf9 i).trans (Qb6 M _)
theorem Qgm : ∀ (M : List Nat) (ρ : En) (i : Nat) (d : D) (b : Bool), i ∈ M -> (kill M ρ)[i]? = some (some (d, b)) -> False
 | [], ρ, i, d, b, h, _ => by simp at h
 | j :: M, ρ, i, d, b, h, e => by
  rcases Zq.mp h with rfl | h
  ·obtain ⟨b', e', _⟩ := (Qb6 M (ρ.set i none)).2 i d b e
   by_cases hl : i < ρ.length
   ·rw [Zj hl] at e'; cases e'
   ·rw [Zp (by simp; omega)] at e'; cases e'
  ·exact Qgm M _ i d b h e
theorem Qpt (i : Nat) : Qb8 ρ (match ρ[i]? with
  | some (some (d, _)) => ρ.set i (some (d, false))
  | _ => ρ) := by
 split
 ·rename_i d b e
  refine ⟨by simp, λ j d' b' h => ?_⟩
  by_cases hj : i = j
  ·subst hj
   have hl : i < ρ.length := (Zh.mp e).1
   rw [Zj hl] at h
   cases h
   exact ⟨b, e, λ z => by cases z⟩
  ·rw [Zf hj] at h
   exact ⟨b', h, id⟩
 ·exact .refl
theorem Qag : ∀ (M : List Nat) (ρ : En), Qb8 ρ (Q4 M ρ)
 | [], ρ => .refl
 | i :: M, ρ => (Qpt i).trans (Qag M _)
theorem Qib : ∀ (M : List Nat) (ρ : En) (i : Nat) (d : D), i ∈ M -> (Q4 M ρ)[i]? = some (some (d, true)) -> False
 | [], ρ, i, d, h, _ => by simp at h
 | j :: M, ρ, i, d, h, e => by
  rcases Zq.mp h with rfl | h
  ·obtain ⟨b', e', hb⟩ := (Qag M _).2 i d true e
   have : b' = true := hb rfl
   subst this
   split at e'
   ·rename_i d' b e1
    have hl : i < ρ.length := (Zh.mp e1).1
    rw [Zj hl] at e'
    cases e'
   ·rename_i h1
    exact h1 d true e'
  ·exact Qib M _ i d h e
def Shr (H0 : Hp) (A0 : List Addr) (ρ : En) (F : Nat -> List Addr) (G : List Addr) : Prop :=
 ∀ a ∈ G, (H0 a = none ∨ a ∈ A0) /\ ∀ (i : Nat) d, ρ[i]? = some (some (d, true)) -> a ∉ F i
theorem Shr.of (r : Rel K H0 A0 hs ρ F σ H) {M : List Nat} {G : List Addr} (s : Src ρ F H M G) : Shr H0 A0 (Q4 M ρ) F G := λ a ha => by
 have w := Qag M ρ
 rcases s a ha with h | ⟨i, d, b, e, m, hm⟩
 ·refine ⟨.inl (r.same.free h), λ j d' e' hj => ?_⟩
  obtain ⟨b', e2, _⟩ := w.2 j d' true e'
  obtain ⟨vs, q⟩ := r.mem e2 hj
  rw [h] at q; cases q
 ·refine ⟨r.src i d b e a m, λ j d' e' hj => ?_⟩
  obtain ⟨b', e2, hb⟩ := w.2 j d' true e'
  have : b' = true := hb rfl
  subst this
  by_cases hij : i = j
  ·subst hij
   rw [e] at e2
   cases e2
   exact Qib M ρ i _ (hm rfl) e'
  ·exact (r.own j d' e2).2.2.2.1 i d b hij e a hj m
theorem Rel.Qk3 (r : Rel K H0 A0 hs ρ F σ H) {i : Nat} {d : D} {v : V} {G : List Addr} (rp : Rp K H d v G) (sh : Shr H0 A0 ρ F G) :
  Rel K H0 A0 hs (ρ.set i (some (d, d.flat))) (λ j => if j = i then G else F j) (σ.set i (some v)) H where
 len := by simp [r.len]
 val := λ j d' b e => by
  by_cases hj : j = i
  ·subst hj
   have hl : j < ρ.length := by
    by_cases hl : j < ρ.length
    ·exact hl
    ·rw [Zp (by simp; omega)] at e; cases e
   rw [Zj hl] at e
   cases e
   exact ⟨v, by rw [Zj (by rw [← r.len]; exact hl)], by rw [if_pos rfl]; exact rp⟩
  ·rw [Zf (Ne.symm hj)] at e
   obtain ⟨w, h1, h2⟩ := r.val j d' b e
   exact ⟨w, by rw [Zf (Ne.symm hj)]; exact h1, by rw [if_neg hj]; exact h2⟩
 own := λ j d' e => by
  by_cases hj : j = i
  ·subst hj
   have hl : j < ρ.length := by
    by_cases hl : j < ρ.length
    ·exact hl
    ·rw [Zp (by simp; omega)] at e; cases e
   rw [Zj hl] at e
   have e1 := Option.some.inj (Option.some.inj e)
   have ed : d = d' := congrArg Prod.fst e1
   have ef : d.flat = true := congrArg Prod.snd e1
   subst ed
   have := rp.QbZ ef
   subst this
   rw [if_pos rfl]
   exact ⟨(QdS d ef).symm, Zau, λ a ha => by simp at ha, λ _ _ _ _ _ a ha => by simp at ha, λ _ _ a ha => by simp at ha⟩
  ·rw [Zf (Ne.symm hj)] at e
   obtain ⟨h1, h2, h3, h4, h5⟩ := r.own j d' e
   rw [if_neg hj]
   refine ⟨h1, h2, h3, λ k d'' b hk ek a ha => ?_, h5⟩
   by_cases hki : k = i
   ·subst hki
    rw [if_pos rfl]
    exact λ hG => (sh a hG).2 j d' e ha
   ·rw [Zf (Ne.symm hki)] at ek
    rw [if_neg hki]
    exact h4 k d'' b hk ek a ha
 src := λ j d' b e a ha => by
  by_cases hj : j = i
  ·subst hj
   rw [if_pos rfl] at ha
   exact (sh a ha).1
  ·rw [Zf (Ne.symm hj)] at e
   rw [if_neg hj] at ha
   exact r.src j d' b e a ha
 held := r.held
 same := r.same
theorem QtX (r : Rel K H0 A0 hs ρ F σ H) {M : List Nat} (ow : QaO ρ M) (nd : M.Nodup) (a : Addr) : ((M.map F).flatten).count a <= 1 := by
 induction M with
 | nil => simp
 | cons i M ih =>
  rw [Zv, ZV, ZW]
  obtain ⟨h1, h2⟩ := Zap.mp nd
  have ih' := ih (λ j hj => ow j (Zd _ hj)) h2
  obtain ⟨d, e⟩ := ow i Zi
  obtain ⟨_, nd1, _, apart, _⟩ := r.own i d e
  by_cases ha : a ∈ F i
  ·have c1 : (F i).count a <= 1 := Zaj.mp nd1 a
   have c2 : ((M.map F).flatten).count a = 0 := ZH.mpr λ hm => by
    obtain ⟨l, hl, hal⟩ := ZaU.mp hm
    obtain ⟨j, hj, rfl⟩ := ZX.mp hl
    obtain ⟨d', e'⟩ := ow j (Zd _ hj)
    exact apart j d' true (λ z => h1 (z ▸ hj)) e' a ha hal
   omega
  ·have : (F i).count a = 0 := ZH.mpr ha
   omega
theorem QR.fresh (r : Rel K H0 A0 hs ρ F σ H) {rr : R} {v : V} {G : List Addr} (p : QR K ρ F H H' rr v G) (hf : rr.fr = true) (nd : rr.M.Nodup) :
  G.Nodup /\ ∀ a ∈ G, H0 a = none /\ (H a = none ∨ ∃ i d, i ∈ rr.M /\ ρ[i]? = some (some (d, true)) /\ a ∈ F i) := by
 obtain ⟨c, _⟩ := p.cnt hf
 refine ⟨Zaj.mpr λ a => ?_, λ a ha => ?_⟩
 ·have h1 := c a
  have h2 := QtX r p.own nd a
  cases q : H a with
  | none => rw [QaI q, r.fl0 p.own q] at h1; omega
  | some o => rw [Qdc q] at h1; omega
 ·cases q : H a with
  | none => exact ⟨r.same.free q, .inl rfl⟩
  | some o =>
   have h1 := c a
   rw [Qdc q] at h1
   have h2 : 0 < G.count a := Zag.mpr ha
   obtain ⟨l, hl, hal⟩ := ZaU.mp (Zag.mp (by omega : 0 < ((rr.M.map F).flatten).count a))
   obtain ⟨i, hi, rfl⟩ := ZX.mp hl
   obtain ⟨d, e⟩ := p.own i hi
   exact ⟨(r.own i d e).2.2.1 a hal, .inr ⟨i, d, hi, e, hal⟩⟩
theorem Rel.QuG (r : Rel K H0 A0 hs ρ F σ H) {i : Nat} {rr : R} {v : V} {G : List Addr} (p : QR K ρ F H H' rr v G) (hf : rr.fr = true) (nd : rr.M.Nodup) :
  Rel K H0 A0 hs ((kill rr.M ρ).set i (some (rr.d, true))) (λ j => if j = i then G else F j) (σ.set i (some v)) H' := by
 have r1 := (r.ext p.same).weak (Qb6 rr.M ρ)
 obtain ⟨gn, gs⟩ := p.fresh r hf nd
 have gl := (p.cnt hf).2
 have apart : ∀ (j : Nat) d b, (kill rr.M ρ)[j]? = some (some (d, b)) -> ∀ a ∈ G, a ∉ F j := λ j d b e a ha hj => by
  obtain ⟨b', e', _⟩ := (Qb6 rr.M ρ).2 j d b e
  rcases (gs a ha).2 with q | ⟨k, d', hk, ek, hak⟩
  ·obtain ⟨vs, w⟩ := r.mem e' hj
   rw [q] at w; cases w
  ·have hjk : j ≠ k := λ z => by subst z; exact Qgm rr.M ρ j d b hk e
   exact (r.own k d' ek).2.2.2.1 j d b' hjk e' a hak hj
 have apartH : ∀ t ∈ hs, ∀ a ∈ G, a ∉ t.2.2 := λ t ht a ha hj => by
  rcases (gs a ha).2 with q | ⟨k, d', hk, ek, hak⟩
  ·obtain ⟨vs, w⟩ := (r.held t ht).1.mem a hj
   rw [q] at w; cases w
  ·exact (r.own k d' ek).2.2.2.2 t ht a hak hj
 have lt : ∀ {j : Nat} {x : Option (D × Bool)} {y : D × Bool}, ((kill rr.M ρ).set j x)[j]? = some (some y) -> j < (kill rr.M ρ).length := λ {j x y} e => by
  by_cases hl : j < (kill rr.M ρ).length
  ·exact hl
  ·rw [Zp (by simp; omega)] at e; cases e
 refine ⟨by simp [r1.len], λ j d b e => ?_, λ j d e => ?_, λ j d b e a ha => ?_, r1.held, r1.same⟩
 ·by_cases hj : j = i
  ·subst hj
   have hl := lt e
   rw [Zj hl] at e
   cases e
   exact ⟨v, by rw [Zj (by rw [← r1.len]; exact hl)], by rw [if_pos rfl]; exact p.rp⟩
  ·rw [Zf (Ne.symm hj)] at e
   obtain ⟨w, h1, h2⟩ := r1.val j d b e
   exact ⟨w, by rw [Zf (Ne.symm hj)]; exact h1, by rw [if_neg hj]; exact h2⟩
 ·by_cases hj : j = i
  ·subst hj
   have hl := lt e
   rw [Zj hl] at e
   cases e
   rw [if_pos rfl]
   refine ⟨gl, gn, λ a ha => (gs a ha).1, λ k d' b hk ek a ha => ?_, apartH⟩
   rw [Zf (Ne.symm hk)] at ek
   rw [if_neg hk]
   exact apart k d' b ek a ha
  ·rw [Zf (Ne.symm hj)] at e
   obtain ⟨h1, h2, h3, h4, h5⟩ := r1.own j d e
   rw [if_neg hj]
   refine ⟨h1, h2, h3, λ k d' b hk ek a ha => ?_, h5⟩
   by_cases hki : k = i
   ·subst hki
    rw [if_pos rfl]
    exact λ hG => apart j d true e a hG ha
   ·rw [Zf (Ne.symm hki)] at ek
    rw [if_neg hki]
    exact h4 k d' b hk ek a ha
 ·by_cases hj : j = i
  ·subst hj
   rw [if_pos rfl] at ha
   exact .inl (gs a ha).1
  ·rw [Zf (Ne.symm hj)] at e
   rw [if_neg hj] at ha
   exact r1.src j d b e a ha
noncomputable def asg (i : Nat) (r : R) (ρ : En) : En :=
 if r.norm.fr && decide r.norm.M.Nodup then (kill r.norm.M ρ).set i (some (r.d, true)) else (Q4 r.norm.M ρ).set i (some (r.d, r.d.flat))
theorem Rel.asg (r : Rel K H0 A0 hs ρ F σ H) {i : Nat} {rr : R} {v : V} {G : List Addr} (p : QR K ρ F H H' rr v G) : ∃ F', Rel K H0 A0 hs (asg i rr ρ) F' (σ.set i (some v)) H' := by
 have p' := p.norm
 unfold HS.asg
 split
 ·rename_i h
  simp only [Zg, decide_eq_true_eq] at h
  have := r.QuG (i := i) p' h.1 h.2
  rw [rr.Qcu] at this
  exact ⟨_, this⟩
 ·have r1 := (r.ext p'.same).weak (Qag rr.norm.M ρ)
  have rp := p'.rp
  rw [rr.Qcu] at rp
  have sh := Shr.of r p'.src
  exact ⟨_, r1.Qk3 rp sh⟩
theorem Rel.hold (r : Rel K H0 A0 hs ρ F σ H) {ts : List (V × D × List Addr)} (h : ∀ t ∈ ts, Rp K H t.2.1 t.1 t.2.2 /\ Shr H0 A0 ρ F t.2.2) : Rel K H0 A0 (ts ++ hs) ρ F σ H where
 len := r.len
 val := r.val
 own := λ i d e => by
  obtain ⟨h1, h2, h3, h4, h5⟩ := r.own i d e
  refine ⟨h1, h2, h3, h4, λ t ht a ha hm => ?_⟩
  rcases ZD.mp ht with z | z
  ·exact ((h t z).2 a hm).2 i d e ha
  ·exact h5 t z a ha hm
 src := r.src
 held := λ t ht => by
  rcases ZD.mp ht with z | z
  ·exact ⟨(h t z).1, λ a ha => ((h t z).2 a ha).1⟩
  ·exact r.held t z
 same := r.same
theorem Rel.Qk7 {ts : List (V × D × List Addr)} (r : Rel K H0 A0 (ts ++ hs) ρ F σ H) : Rel K H0 A0 hs ρ F σ H where
 len := r.len
 val := r.val
 own := λ i d e => let ⟨h1, h2, h3, h4, h5⟩ := r.own i d e; ⟨h1, h2, h3, h4, λ t ht => h5 t (Zc _ ht)⟩
 src := r.src
 held := λ t ht => r.held t (Zc _ ht)
 same := r.same
end
end HS
namespace HS
open PySem PySem.Spec L2
structure Ret (K : PySem.W.Frag) (H0 : Hp) (A0 : List Addr) (d : D) (fr : Bool) (v : V) (H' : Hp) (G : List Addr) : Prop where
 same : Qy H0 H'
 rp : Rp K H' d v G
 src : ∀ a ∈ G, H0 a = none ∨ a ∈ A0
 cnt : fr = true -> G.Nodup /\ G.length = d.nl /\ ∀ a ∈ G, H0 a = none
noncomputable abbrev Den := List D -> Option (D × Bool)
noncomputable def spV (K : PySem.W.Frag) (n : Nat) (den : Den) : Sp := λ vs H Q _ => ∃ ds F d fr, Rps K H ds vs F /\ ds.length = n /\ den ds = some (d, fr) /\ ∀ v H' G, Ret K H F d fr v H' G -> Q v H'
theorem QlE {K : PySem.W.Frag} {n : Nat} {den : Den} {ps : List Str} (hn : ps.length = n) : ∀ vs H Q E, spV K n den vs H Q E -> vs.length = ps.length := λ vs H Q E ⟨ds, F, d, fr, r, hl, _⟩ => by rw [hn, ← hl, r.length]
noncomputable def Qi (n : Nat) (den : Den) (dfl : List D) (fs : DA) : DE := λ ρ => (fs ρ).bind λ r => if r.ds.length + dfl.length = n then (den (r.ds ++ dfl)).map λ q => if q.2 = true then ⟨q.1, true, []⟩ else R.norm ⟨q.1, false, r.M⟩ else none
section
variable {X : Cx} {e : Expr} {es : List Expr} {fs : DA} {pos p : Pos} {x : Str} {n k : Nat} {f : Addr} {fd : FuncData} {ps : List Str} {den : Den} {dfl : List D} {dvs : List V} {ds : List Value}
theorem Qgk {σ : L2.St} {H H0 : Hp} {A0 : List Addr} {Q : VK} (hdf : ∀ H, Rps X.K H dfl dvs []) : tV X.K H0 A0 (Qi n den dfl fs) σ H Q -> Qmv (spV X.K n den) dvs E0 (tVA X.K H0 A0 fs) σ H Q := λ ⟨ρ, hs, F, r, rel, e, q⟩ => by
 obtain ⟨ra, e1, e⟩ := bind1 e
 split at e
 ·rename_i hl
  obtain ⟨⟨d, fr⟩, e2, e⟩ := Zb.mp e
  refine ⟨ρ, hs, F, ra, rel, e1, λ vs H1 G p1 => ⟨ra.ds ++ dfl, G ++ [], d, fr, p1.rp.append (hdf H1), by rw [Zu]; exact hl, e2, λ v H2 G2 rt => ?_⟩⟩
  subst e
  have src : Src ρ F H ra.M G2 := λ a ha => by
   rcases rt.src a ha with z | z
   ·exact .inl (p1.same.free z)
   ·rw [Zac] at z
    exact p1.src a z
  split at q
  ·rename_i hf
   have hf : fr = true := hf
   obtain ⟨nd, hn, fresh⟩ := rt.cnt hf
   have hH : ∀ a ∈ G2, H a = none := λ a ha => p1.same.free (fresh a ha)
   refine q v H2 G2 ⟨p1.same.trans rt.same, rt.rp, λ a ha => .inl (hH a ha), λ _ => ⟨λ a => ?_, hn⟩, QaO.nil⟩
   by_cases ha : a ∈ G2
   ·rw [QaI (hH a ha)]; have := Zaj.mp nd a; omega
   ·rw [ZH.mpr ha]; exact ZK _
  ·refine q v H2 G2 (QR.norm ⟨p1.same.trans rt.same, rt.rp, src, λ z => (by cases z), p1.own⟩)
 ·cases e
theorem QqD (Fk : QaS X.prog X.w X.K X.mg X.base CX0 k f fd ps (spV X.K n den)) (hr : Q7 k X.A) (hg : Gl X x) (hm : X.mg x = some (.ref f)) (hk : PySem.W.keepIn X.K (.ref f) = true) (hb : Binds X.K fd ps ds) (hd : Qr dvs ds) (hdf : ∀ H, Rps X.K H dfl dvs [])
  (ha : SA X (e :: es) fs) (hdb : (x == ("__debug__" : Str)) = false) (he : starEach (e :: es) X.env = (false, eval e X.env) :: starEach es X.env) (hpl : (backTo pos (starEach es X.env)).any (·.1) = false) :
  SE X (.Call (.Name x p) (e :: es) [] pos) (Qi n den dfl fs) := λ H0 A0 =>
 (Qqo Fk hr hg hm hk hb hd QmU (ha H0 A0) hdb he hpl).mono λ σ H Q h => Qgk hdf h
theorem QpK (Fk : QaS X.prog X.w X.K X.mg X.base CX0 k f fd ps (spV X.K n den)) (hr : Q7 k X.A) (hg : Gl X x) (hm : X.mg x = some (.ref f)) (hk : PySem.W.keepIn X.K (.ref f) = true) (hb : Binds X.K fd ps ds) (hd : Qr dvs ds) (hdf : ∀ H, Rps X.K H dfl dvs [])
  (hdb : (x == ("__debug__" : Str)) = false) : SE X (.Call (.Name x p) [] [] pos) (Qi n den dfl Qf) := λ H0 A0 =>
 (QoL Fk hr hg hm hk hb hd QmU hdb).mono λ σ H Q h => by
  have h' := Qgk (X := X) (H0 := H0) (A0 := A0) hdf h
  obtain ⟨ρ, hs, F, r, rel, e, q⟩ := h'
  cases e
  exact q [] H [] ⟨Qy.refl _, by simp [Rps], Src.nil, λ _ => ⟨Cnt.nil, rfl⟩, QaO.nil⟩
end
structure IR where
 items : List D
 M : List Nat
noncomputable abbrev DI := En -> Option IR
def QiM (K : PySem.W.Frag) (H : Hp) (ts : List (V × D × List Addr)) : Prop := ∀ t ∈ ts, Rp K H t.2.1 t.1 t.2.2
structure Walk (K : PySem.W.Frag) (J : It) (ts : List (V × D × List Addr)) (ds : List D) : Prop where
 stop : ∀ H, QiM K H ts -> J.stop ds.length H
 go : ∀ i H, i < ds.length -> QiM K H ts -> J.go i H
 yld : ∀ (i : Nat) d H x H', ds[i]? = some d -> QiM K H ts -> J.yld i H x H' -> Qy H H' /\ ∃ G, Rp K H' d x G /\ ∀ a ∈ G, ∃ t ∈ ts, a ∈ t.2.2
noncomputable def tI (K : PySem.W.Frag) (H0 : Hp) (A0 : List Addr) (f : DI) : TI := λ σ H Rr => ∃ ρ hs F ir, Rel K H0 A0 hs ρ F σ H /\ f ρ = some ir ∧
 ∀ J H1 ts, Qy H H1 -> Walk K J ts ir.items -> (∀ t ∈ ts, Rp K H1 t.2.1 t.1 t.2.2 /\ Src ρ F H ir.M t.2.2) -> QaO ρ ir.M -> ir.items.length <= sizeLine -> Rr J H1
def SI (X : Cx) (tg e : Expr) (f : DI) : Prop := ∀ H0 A0, PI X tg e (tI X.K H0 A0 f)
theorem _root_.L2.PI.mono {X : Cx} {tg e : Expr} {t t' : TI} (h : PI X tg e t) (m : ∀ σ H Q, t' σ H Q -> t σ H Q) : PI X tg e t' := λ pins s σ H Q I q => h pins s σ H Q I (m σ H Q q)
section
variable {X : Cx} {tg a b : Expr} {fa fb : DE} {fs : DA} {pos p : Pos}
theorem Rps.nth {K : PySem.W.Frag} {H : Hp} {ds : List D} {vs : List V} {F : List Addr} {i : Nat} {d : D} (h : Rps K H ds vs F) (e : ds[i]? = some d) : ∃ v G, vs[i]? = some v /\ Rp K H d v G /\ ∀ a ∈ G, a ∈ F := by
 obtain ⟨v, F1, G, F2, h1, h2, h3, _⟩ := h.get e
 exact ⟨v, G, h1, h3, λ a ha => by rw [h2]; exact Zc _ (Ze _ ha)⟩
noncomputable def QuP (K : PySem.W.Frag) (tl : TE) : TI := λ σ H Rr => tl σ H λ x H1 => (∃ a, x = .ref a /\ (∃ xs, SqL K H1 a xs) /\ Rr (Itl K a) H1) ∨ (∃ a, x = .ref a /\ (∃ xs, SqT K H1 a xs) /\ Rr (Itt K a) H1)
theorem Qr5 {l : Expr} {tl : TE} (hl : PE X l tl) : PI X tg l (QuP X.K tl) := by
 intro pins s σ H Rr I h
 refine thn (hl pins s σ H _ I h) λ v s1 ⟨x, H1, I1, r1, q1⟩ => ?_
 rcases q1 with ⟨a, e, ⟨xs, hq⟩, q⟩ | ⟨a, e, ⟨xs, hq⟩, q⟩
 ·subst e
  cases r1
  obtain ⟨its, rv, pl, hz⟩ := I1.list hq
  refine wpAny_pyIter_list pl.isList ⟨s1.heap.objs.size, [s1.heap.objs.size], _, _, H1, rfl, I1.kept (t' := s1.toks) λ b o e => Zs _ e, Qn4 a _, ⟨_, ZF _ rfl, rfl, rfl⟩, λ b hb => ?_, q⟩
  have e : b = s1.heap.objs.size := by simpa using hb
  subst e
  exact I1.Qmf (Zn _) (I1.hok.fresh (Zn _))
 ·subst e
  cases r1
  obtain ⟨its, rv, pl, hz⟩ := I1.tuple hq
  refine wpAny_pyIter_tuple (show s1.heap.IsTuple a its.toArray from pl) ⟨s1.heap.objs.size, [s1.heap.objs.size], _, _, H1, rfl, I1.kept (t' := s1.toks) λ b o e => Zs _ e, QmF a _, ⟨_, ZF _ rfl, rfl, rfl⟩, λ b hb => ?_, q⟩
  have e : b = s1.heap.objs.size := by simpa using hb
  subst e
  exact I1.Qmf (Zn _) (I1.hok.fresh (Zn _))
noncomputable def QaV (fa : DE) : DI := λ ρ => (fa ρ).bind λ r => match r.d with
 | .lst xs => some ⟨xs, r.M⟩
 | .tup xs => if xs.length <= sizeLine then some ⟨xs, r.M⟩ else none
 | _ => none
theorem Qm5 {K : PySem.W.Frag} {c : Addr} {ds : List D} {G : List Addr} : Walk K (Itl K c) [(.ref c, .lst ds, G)] ds where
 stop := λ H h => by
  obtain ⟨l, vs, L, e, hl, rl, zl, el⟩ := (h _ (ZI.mpr rfl)).lst_inv
  cases e
  exact ⟨vs, Q5 hl, by rw [rl.length]; exact Zn _⟩
 go := λ i H hi h => by
  obtain ⟨l, vs, L, e, hl, rl, zl, el⟩ := (h _ (ZI.mpr rfl)).lst_inv
  cases e
  have : i < vs.length := by rw [← rl.length]; exact hi
  exact ⟨vs, vs[i], Q5 hl, by simp [this]⟩
 yld := λ i d H x H' e h y => by
  obtain ⟨l, vs, L, e1, hl, rl, zl, el⟩ := (h _ (ZI.mpr rfl)).lst_inv
  cases e1
  obtain ⟨rfl, y⟩ := y
  obtain ⟨v, G', h1, h2, h3⟩ := rl.nth e
  have := y vs (Q5 hl)
  rw [h1] at this
  cases this
  refine ⟨Qy.refl _, G', h2, λ z hz => ⟨_, ZI.mpr rfl, ?_⟩⟩
  have := h3 z hz
  rcases el with rfl | rfl
  ·exact Zd _ this
  ·exact this
theorem Qox {K : PySem.W.Frag} {c : Addr} {ds : List D} {G : List Addr} : Walk K (Itt K c) [(.ref c, .tup ds, G)] ds where
 stop := λ H h => by
  obtain ⟨l, vs, e, hl, rl⟩ := (h _ (ZI.mpr rfl)).QaK
  cases e
  exact ⟨vs, hl, by rw [rl.length]; exact Zn _⟩
 go := λ i H hi h => by
  obtain ⟨l, vs, e, hl, rl⟩ := (h _ (ZI.mpr rfl)).QaK
  cases e
  have : i < vs.length := by rw [← rl.length]; exact hi
  exact ⟨vs, vs[i], hl, by simp [this]⟩
 yld := λ i d H x H' e h y => by
  obtain ⟨l, vs, e1, hl, rl⟩ := (h _ (ZI.mpr rfl)).QaK
  cases e1
  obtain ⟨rfl, y⟩ := y
  obtain ⟨v, G', h1, h2, h3⟩ := rl.nth e
  have := y vs hl
  rw [h1] at this
  cases this
  exact ⟨Qy.refl _, G', h2, λ z hz => ⟨_, ZI.mpr rfl, h3 z hz⟩⟩
theorem Qsy (ha : SE X a fa) : SI X tg a (QaV fa) := λ H0 A0 => (Qr5 (ha H0 A0)).mono λ σ H Rr ⟨ρ, hs, F, ir, rel, e, q⟩ => by
 obtain ⟨r, e1, e⟩ := bind1 e
 refine ⟨ρ, hs, F, r, rel, e1, λ v H1 G p => ?_⟩
 have rp := p.rp
 cases hr : r.d with
 | lst xs =>
  rw [hr] at e rp
  cases e
  obtain ⟨c, vs, L, rfl, hl, rl, zl, el⟩ := rp.lst_inv
  refine .inl ⟨c, rfl, ⟨vs, Q5 hl⟩, q _ H1 [(.ref c, .lst xs, G)] p.same Qm5 (λ t ht => ?_) p.own zl⟩
  rw [ZI.mp ht]
  exact ⟨rp, p.src⟩
 | tup xs =>
  rw [hr] at e rp
  dsimp only at e
  split at e
  ·rename_i hz
   cases e
   obtain ⟨c, vs, rfl, hl, rl⟩ := rp.QaK
   refine .inr ⟨c, rfl, ⟨vs, hl⟩, q _ H1 [(.ref c, .tup xs, G)] p.same Qox (λ t ht => ?_) p.own hz⟩
   rw [ZI.mp ht]
   exact ⟨rp, p.src⟩
  ·cases e
 | _ => rw [hr] at e; cases e
noncomputable def QfY (lo : Int) (n : Nat) : List D := (List.range n).map λ (k : Nat) => .int (lo + (k : Int))
theorem Qfg {lo : Int} {n : Nat} : (QfY lo n).length = n := by simp [QfY]
theorem QoT {lo : Int} {n i : Nat} {d : D} (h : (QfY lo n)[i]? = some d) : i < n /\ d = .int (lo + i) := by
 unfold QfY at h
 rw [Zk] at h
 cases q : (List.range n)[i]? with
 | none => rw [q] at h; cases h
 | some k =>
  rw [q] at h
  obtain ⟨h1, h2⟩ := Zh.mp q
  simp at h1 h2
  subst h2
  exact ⟨h1, (Option.some.inj h).symm⟩
theorem QhJ {K : PySem.W.Frag} {lo : Int} {n : Nat} : Walk K (Itr lo n) [] (QfY lo n) where
 stop := λ H _ => by rw [Qfg]; exact Zn _
 go := λ i H hi _ => by rw [Qfg] at hi; exact hi
 yld := λ i d H x H' e _ y => by
  obtain ⟨h1, rfl⟩ := QoT e
  obtain ⟨rfl, rfl⟩ := y
  exact ⟨Qy.refl _, [], .int_mk, λ z hz => by simp at hz⟩
noncomputable def QaB (fa : DE) : DI := λ ρ => (fa ρ).bind λ r => match r.d with
 | .int j => if j <= 16777216 /\ -(2 ^ 62) <= j then some ⟨QfY 0 j.toNat, []⟩ else none
 | _ => none
noncomputable def QdL (fa fb : DE) : DI := λ ρ => (fa ρ).bind λ r => (fb ρ).bind λ r' => match r.d, r'.d with
 | .int i, .int j => if j - i <= 16777216 /\ -(2 ^ 62) <= i /\ i < 2 ^ 62 /\ -(2 ^ 62) <= j /\ j < 2 ^ 62 then some ⟨QfY i (j - i).toNat, []⟩ else none
 | _, _ => none
theorem QgB : (sizeLine : Nat) = 16777216 := sizeLine_eq
theorem Qnw (hg : Gl X "range") (hm : X.mg "range" = none) (ha : SE X a fa) (hs : starEach [a] X.env = [(false, eval a X.env)]) : SI X tg (.Call (.Name "range" p) [a] [] pos) (QaB fa) := λ H0 A0 =>
 (Qn3 hg hm (Qan (ha H0 A0) Qcs hs) hs).mono λ σ H Rr ⟨ρ, hs, F, ir, rel, e, q⟩ => by
  obtain ⟨r, e1, e⟩ := bind1 e
  refine ⟨ρ, hs, F, r, rel, e1, λ v H1 G pp => ?_⟩
  have rp := pp.rp
  cases hr : r.d with
  | int j =>
   rw [hr] at e rp
   dsimp only at e
   split at e
   ·rename_i hz
    cases e
    rw [rp.int_inv]
    refine ⟨j, rfl, hz.2, by omega, q _ H1 [] pp.same QhJ (λ t ht => by simp at ht) QaO.nil ?_⟩
    rw [Qfg, QgB]; omega
   ·cases e
  | _ => rw [hr] at e; cases e
theorem QnU (hg : Gl X "range") (hm : X.mg "range" = none) (ha : SE X a fa) (hb : SE X b fb) (hs : starEach [a, b] X.env = [(false, eval a X.env), (false, eval b X.env)]) (hs2 : starEach [b] X.env = [(false, eval b X.env)]) :
  SI X tg (.Call (.Name "range" p) [a, b] [] pos) (QdL fa fb) := λ H0 A0 =>
 (QnF hg hm (Qan (ha H0 A0) (Qan (hb H0 A0) Qcs hs2) (by rw [hs, hs2])) hs hs2).mono λ σ H Rr ⟨ρ, hs, F, ir, rel, e, q⟩ => by
  obtain ⟨r, e1, e⟩ := bind1 e
  obtain ⟨r', e2, e⟩ := bind1 e
  refine ⟨ρ, hs, F, r, rel, e1, λ v H1 G pp => ⟨ρ, hs, F, r', rel.ext pp.same, e2, λ v' H2 G' pp' => ?_⟩⟩
  have rp := pp.rp.same pp'.same
  have rp' := pp'.rp
  cases hr : r.d with
  | int i =>
   cases hr' : r'.d with
   | int j =>
    rw [hr, hr'] at e
    rw [hr] at rp
    rw [hr'] at rp'
    dsimp only at e
    split at e
    ·rename_i hz
     cases e
     rw [rp.int_inv, rp'.int_inv]
     refine ⟨i, j, rfl, hz.2, q _ H2 [] (pp.same.trans pp'.same) QhJ (λ t ht => by simp at ht) QaO.nil ?_⟩
     rw [Qfg, QgB]; omega
    ·cases e
   | _ => rw [hr, hr'] at e; cases e
  | _ => rw [hr] at e; cases e
noncomputable def Qgf (xs ys : List D) : List D := (xs.zip ys).map λ q => .tup [q.1, q.2]
theorem Qhw {xs ys : List D} : (Qgf xs ys).length = min xs.length ys.length := by simp [Qgf]
theorem QpL {xs ys : List D} {i : Nat} {d : D} (h : (Qgf xs ys)[i]? = some d) : ∃ e f, xs[i]? = some e /\ ys[i]? = some f /\ d = .tup [e, f] := by
 unfold Qgf at h
 rw [Zk] at h
 cases q : (xs.zip ys)[i]? with
 | none => rw [q] at h; cases h
 | some e =>
  rw [q] at h
  obtain ⟨h1, h2⟩ := List.getElem?_zip_eq_some.mp q
  exact ⟨e.1, e.2, h1, h2, (Option.some.inj h).symm⟩
theorem Qpq {K : PySem.W.Frag} {c c' : Addr} {xs ys : List D} {G G' : List Addr} : Walk K (Itz K c c') [(.ref c, .lst xs, G), (.ref c', .lst ys, G')] (Qgf xs ys) where
 stop := λ H h => by
  obtain ⟨l, vs, L, e, hl, rl, zl, el⟩ := (h _ (Zi)).lst_inv
  obtain ⟨l', vs', L', e', hl', rl', zl', el'⟩ := (h _ (Zd _ Zi)).lst_inv
  cases e
  cases e'
  refine ⟨vs, vs', Q5 hl, Q5 hl', ?_⟩
  rw [Qhw, ← rl.length, ← rl'.length]; omega
 go := λ i H hi h => by
  obtain ⟨l, vs, L, e, hl, rl, zl, el⟩ := (h _ (Zi)).lst_inv
  obtain ⟨l', vs', L', e', hl', rl', zl', el'⟩ := (h _ (Zd _ Zi)).lst_inv
  cases e
  cases e'
  rw [Qhw] at hi
  have h1 : i < vs.length := by rw [← rl.length]; omega
  have h2 : i < vs'.length := by rw [← rl'.length]; omega
  exact ⟨vs, vs', vs[i], vs'[i], Q5 hl, Q5 hl', by simp [h1], by simp [h2]⟩
 yld := λ i d H x H' e h y => by
  obtain ⟨l, vs, L, e1, hl, rl, zl, el⟩ := (h _ (Zi)).lst_inv
  obtain ⟨l', vs', L', e1', hl', rl', zl', el'⟩ := (h _ (Zd _ Zi)).lst_inv
  cases e1
  cases e1'
  obtain ⟨d1, d2, ea, eb, rfl⟩ := QpL e
  obtain ⟨pp, u, u', rfl, hp, rfl, y, y'⟩ := y
  obtain ⟨v, G1, h1, h2, h3⟩ := rl.nth ea
  obtain ⟨v', G2, h1', h2', h3'⟩ := rl'.nth eb
  have := y vs (Q5 hl)
  rw [h1] at this
  cases this
  have := y' vs' (Q5 hl')
  rw [h1'] at this
  cases this
  have s := QcG (o := .tup [u, u']) hp
  refine ⟨s, G1 ++ G2, Rp.QnA QX ?_, λ z hz => ?_⟩
  ·simp only [Rps]
   exact ⟨u, [u'], G1, G2, rfl, rfl, h2.same s, u', [], G2, [], rfl, by simp, h2'.same s, rfl, rfl⟩
  ·rcases ZD.mp hz with hz | hz
   ·refine ⟨_, Zi, ?_⟩
    have := h3 z hz
    rcases el with rfl | rfl
    ·exact Zd _ this
    ·exact this
   ·refine ⟨_, Zd _ Zi, ?_⟩
    have := h3' z hz
    rcases el' with rfl | rfl
    ·exact Zd _ this
    ·exact this
noncomputable def Qcx (fa fb : DE) : DI := λ ρ => (fa ρ).bind λ r => (fb ρ).bind λ r' => match r.d, r'.d with
 | .lst xs, .lst ys => some ⟨Qgf xs ys, r.M ++ r'.M⟩
 | _, _ => none
theorem Qsd {es : List Expr} {tk : Nat} {tpos : Pos} (hg : Gl X "zip") (hm : X.mg "zip" = none) (ha : SE X a fa) (hb : SE X b fb) (hs : starEach [a, b] X.env = [(false, eval a X.env), (false, eval b X.env)]) (hs2 : starEach [b] X.env = [(false, eval b X.env)]) :
  SI X (.Tuple es tk tpos) (.Call (.Name "zip" p) [a, b] [] pos) (Qcx fa fb) := λ H0 A0 =>
 (Qr4 hg hm (Qan (ha H0 A0) (Qan (hb H0 A0) Qcs hs2) (by rw [hs, hs2])) hs hs2).mono λ σ H Rr ⟨ρ, hs, F, ir, rel, e, q⟩ => by
  obtain ⟨r, e1, e⟩ := bind1 e
  obtain ⟨r', e2, e⟩ := bind1 e
  refine ⟨ρ, hs, F, r, rel, e1, λ v H1 G pp => ⟨ρ, hs, F, r', rel.ext pp.same, e2, λ v' H2 G' pp' => ?_⟩⟩
  have rp := pp.rp.same pp'.same
  have rp' := pp'.rp
  cases hr : r.d with
  | lst xs =>
   cases hr' : r'.d with
   | lst ys =>
    rw [hr, hr'] at e
    rw [hr] at rp
    rw [hr'] at rp'
    cases e
    obtain ⟨c, vs, L, rfl, hl, rl, zl, el⟩ := rp.lst_inv
    obtain ⟨c', vs', L', rfl, hl', rl', zl', el'⟩ := rp'.lst_inv
    refine ⟨c, c', rfl, ⟨vs, Q5 hl⟩, ⟨vs', Q5 hl'⟩, q _ H2 [(.ref c, .lst xs, G), (.ref c', .lst ys, G')] (pp.same.trans pp'.same) Qpq (λ t ht => ?_) (pp.own.append pp'.own) (by rw [Qhw]; omega)⟩
    have sa := pp.src.append pp'.src pp.same
    rcases Zq.mp ht with rfl | ht
    ·exact ⟨rp, λ z hz => sa z (Ze _ hz)⟩
    ·rw [ZI.mp ht]
     exact ⟨rp', λ z hz => sa z (Zc _ hz)⟩
   | _ => rw [hr, hr'] at e; cases e
  | _ => rw [hr] at e; cases e
end
end HS
namespace HS
open PySem L2
section
variable {X : Cx} {a b c : Expr} {fa fb fc : DE} {pos p : Pos}
end
end HS
namespace HS
open PySem PySem.Spec L2
inductive Tg where
 | nm (i : Nat)
 | tp (is : List Nat)
noncomputable def Tg.slots : Tg -> List Nat
 | .nm i => [i]
 | .tp is => is
noncomputable def QcT : List Nat -> List D -> En -> En
 | i :: is, d :: ds, ρ => QcT is ds (ρ.set i (some (d, d.flat)))
 | _, _, ρ => ρ
noncomputable def QaT : Tg -> D -> En -> Option En
 | .nm i, d, ρ => some (ρ.set i (some (d, d.flat)))
 | .tp is, .tup xs, ρ => if xs.length = is.length then some (QcT is xs ρ) else none
 | .tp is, .lst xs, ρ => if xs.length = is.length then some (QcT is xs ρ) else none
 | .tp _, _, _ => none
noncomputable def tG (K : PySem.W.Frag) (H0 : Hp) (A0 : List Addr) (t : Tg) : TG := λ v σ H Q => ∃ ρ hs F d G ρ', Rel K H0 A0 hs ρ F σ H /\ Rp K H d v G /\ Shr H0 A0 ρ F G /\ QaT t d ρ = some ρ' ∧
 ∀ σ' F', Rel K H0 A0 hs ρ' F' σ' H -> (∀ j, j ∉ t.slots -> σ'[j]? = σ[j]?) -> (∀ j a, a ∈ F' j -> a ∈ F j ∨ a ∈ G) -> Q σ' H
def SG (X : Cx) (tg : Expr) (t : Tg) : Prop := ∀ H0 A0, PG X tg (tG X.K H0 A0 t)
theorem _root_.L2.PG.mono {X : Cx} {tg : Expr} {t t' : TG} (h : PG X tg t) (m : ∀ v σ H Q, t' v σ H Q -> t v σ H Q) : PG X tg t' := λ pins s σ H v u Q I r q => h pins s σ H v u Q I r (m v σ H Q q)
noncomputable def Qh4 : List Nat -> TGs
 | [] => Qsg
 | i :: is => Qqc (QfC i) (Qh4 is)
theorem Shr.set {H0 : Hp} {A0 : List Addr} {ρ : En} {F : Nat -> List Addr} {G G1 : List Addr} {i : Nat} {d : D} (h : Shr H0 A0 ρ F G) (hf : d.flat = true -> G1 = []) : Shr H0 A0 (ρ.set i (some (d, d.flat))) (λ j => if j = i then G1 else F j) G := λ a ha => by
 refine ⟨(h a ha).1, λ j d' e => ?_⟩
 by_cases hj : j = i
 ·subst hj
  show ¬ a ∈ (if j = j then G1 else F j)
  rw [if_pos rfl]
  have hl : j < ρ.length := by
   by_cases hl : j < ρ.length
   ·exact hl
   ·rw [Zp (by simp; omega)] at e; cases e
  rw [Zj hl] at e
  have e1 := Option.some.inj (Option.some.inj e)
  rw [hf (congrArg Prod.snd e1)]
  simp
 ·rw [Zf (Ne.symm hj)] at e
  show ¬ a ∈ (if j = i then G1 else F j)
  rw [if_neg hj]
  exact (h a ha).2 j d' e
theorem Qg4 {K : PySem.W.Frag} {H0 : Hp} {A0 : List Addr} {hs : List (V × D × List Addr)} : ∀ (is : List Nat) (ds : List D) (vs : List V) (ρ : En) (F : Nat -> List Addr) (σ : L2.St) (H : Hp) (G : List Addr) (Q : L2.St -> Hp -> Prop),
  Rel K H0 A0 hs ρ F σ H -> Rps K H ds vs G -> Shr H0 A0 ρ F G -> ds.length = is.length →
  (∀ σ' F', Rel K H0 A0 hs (QcT is ds ρ) F' σ' H -> (∀ j, j ∉ is -> σ'[j]? = σ[j]?) -> (∀ j a, a ∈ F' j -> a ∈ F j ∨ a ∈ G) -> Q σ' H) -> Qh4 is vs σ H Q
 | [], ds, vs, ρ, F, σ, H, G, Q, rel, rp, sh, hl, q => by
  have : ds = [] := by simpa using hl
  subst this
  simp only [Rps] at rp
  exact ⟨rp.1, q σ F rel (λ _ _ => rfl) λ _ _ h => .inl h⟩
 | i :: is, [], vs, ρ, F, σ, H, G, Q, rel, rp, sh, hl, q => by simp at hl
 | i :: is, d :: ds, vs, ρ, F, σ, H, G, Q, rel, rp, sh, hl, q => by
  simp only [Rps] at rp
  obtain ⟨v, ws, G1, G2, rfl, rfl, r1, r2⟩ := rp
  refine ⟨v, ws, rfl, ?_⟩
  have sh1 : Shr H0 A0 ρ F G1 := λ a ha => sh a (Ze _ ha)
  have sh2 : Shr H0 A0 ρ F G2 := λ a ha => sh a (Zc _ ha)
  refine Qg4 is ds ws _ _ _ H G2 Q (rel.Qk3 (i := i) r1 sh1) r2 (sh2.set r1.QbZ) (by simpa using hl) λ σ' F' rel' k m => q σ' F' rel' (λ j hj => ?_) λ j a ha => ?_
  ·have h1 : j ≠ i := λ z => hj (by rw [z]; exact Zi)
   rw [k j λ z => hj (Zd _ z), Zf (Ne.symm h1)]
  ·rcases m j a ha with z | z
   ·by_cases hj : j = i
    ·rw [if_pos hj] at z; exact .inr (Ze _ z)
    ·rw [if_neg hj] at z; exact .inl z
   ·exact .inr (Zc _ z)
section
variable {X : Cx} {tg : Expr} {pos : Pos}
theorem Qro {i : Nat} {x : Str} (h : PG X (.Name x pos) (QfC i)) : SG X (.Name x pos) (.nm i) := λ H0 A0 => h.mono λ v σ H Q ⟨ρ, hs, F, d, G, ρ', rel, rp, sh, e, q⟩ => by
 cases e
 refine q _ _ (rel.Qk3 (i := i) rp sh) (λ j hj => ?_) λ j a ha => ?_
 ·have : j ≠ i := λ z => hj (by simp [Tg.slots, z])
  rw [Zf (Ne.symm this)]
 ·by_cases hj : j = i
  ·rw [if_pos hj] at ha; exact .inr ha
  ·rw [if_neg hj] at ha; exact .inl ha
theorem QqN {es : List Expr} {k : Nat} {t : TGs} {n : Nat} (hc : X.calm = true) (h : PGs X es t)
  (hn : (assignEach es X.env).length = n) (hst : (assignEach es X.env).findIdx? (·.1) = none) : PG X (.Tuple es k pos) (λ v σ H Q => ∃ a xs, v = .ref a /\ SqL X.K H a xs /\ xs.length = n /\ t xs σ H Q) := by
 intro pins s σ H v u Q I r hw
 obtain ⟨a, xs, e1, hq, hl, hw⟩ := hw
 subst e1
 cases r
 obtain ⟨its, rv, ht, hz⟩ := I.list hq
 rw [PyProof.Rows.assign_Tuple]
 refine wpAny_bind (wpAny_standAt ?_)
 unfold unpack
 rw [hn, hst, show n = its.toArray.size by simp [← hl, rv.length]]
 refine wpAny_bind (wpAny_holding (PySem.W.kun_itemsOf (I.ok.hd hc) ht.isList λ h' hx => ?_))
 have I1 : Inv X pins σ H { s with heap := h' } := I.kept (t' := s.toks) λ b o e => hx b o (ZG (Zo e)) e
 exact h pins _ σ H xs _ Q I1 (by simpa using rv) hw
theorem QsY {es : List Expr} {k : Nat} {is : List Nat} (hc : X.calm = true) (h : PGs X es (Qh4 is)) (hn : (assignEach es X.env).length = is.length) (hst : (assignEach es X.env).findIdx? (·.1) = none) : SG X (.Tuple es k pos) (.tp is) := λ H0 A0 =>
 λ pins s σ H v u Q I r ⟨ρ, hs, F, d, G, ρ', rel, rp, sh, e, q⟩ => by
  cases d with
  | tup xs =>
   simp only [QaT] at e
   split at e
   ·rename_i hl
    cases e
    obtain ⟨a, vs, rfl, hq, rs⟩ := rp.QaK
    exact Qs2 hc h hn hst pins s σ H _ u Q I r ⟨a, vs, rfl, hq, by rw [← rs.length]; exact hl, Qg4 is xs vs ρ F σ H G Q rel rs sh hl q⟩
   ·cases e
  | lst xs =>
   simp only [QaT] at e
   split at e
   ·rename_i hl
    cases e
    obtain ⟨a, vs, L, rfl, hq, rs, _, eG⟩ := rp.lst_inv
    have sub : ∀ b ∈ L, b ∈ G := λ b hb => by
     rcases eG with rfl | rfl
     ·exact Zd _ hb
     ·exact hb
    exact QqN hc h hn hst pins s σ H _ u Q I r ⟨a, vs, rfl, Q5 hq, by rw [← rs.length]; exact hl, Qg4 is xs vs ρ F σ H L Q rel rs (λ b hb => sh b (sub b hb)) hl λ σ' F' rel' k m => q σ' F' rel' k λ j b hb => (m j b hb).imp id (sub b)⟩
   ·cases e
  | _ => simp only [QaT] at e; cases e
end
noncomputable def QdI (cap : List (Option Nat)) (ρ : En) : En := cap.map λ o => o.bind λ i => match ρ[i]? with
 | some (some (d, _)) => some (d, d.flat)
 | _ => none
noncomputable def Qm0 (cap : List (Option Nat)) (ρ : En) : List Nat := cap.filterMap λ o => o.bind λ i => match ρ[i]? with
 | some (some (d, b)) => if b && !d.flat then some i else none
 | _ => none
noncomputable def Qez (t : Tg) (ft : DT) (fe : DE) (ρc : En) (acc : List D × Bool) (d : D) : Option (List D × Bool) :=
 (QaT t d ρc).bind λ ρ1 => (ft ρ1).bind λ c => if c = true then (fe ρ1).map λ r => (acc.1 ++ [r.d], acc.2 && r.norm.fr) else some acc
noncomputable def QW (fi : DI) (t : Tg) (cap : List (Option Nat)) (ft : DT) (fe : DE) : DE := λ ρ => (fi ρ).bind λ ir =>
 (ir.items.foldlM (Qez t ft fe (QdI cap ρ)) ([], true)).map λ q => if q.2 = true then ⟨.lst q.1, true, []⟩ else ⟨.lst q.1, false, ir.M ++ Qm0 cap ρ⟩
def Qcg (ρ : En) : Prop := ∀ (j : Nat) d, ρ[j]? = some (some (d, true)) -> d.flat = true
theorem Qcg.set {ρ : En} (h : Qcg ρ) (i : Nat) (d : D) : Qcg (ρ.set i (some (d, d.flat))) := λ j d' e => by
 by_cases hj : j = i
 ·subst hj
  have hl : j < ρ.length := by
   by_cases hl : j < ρ.length
   ·exact hl
   ·rw [Zp (by simp; omega)] at e; cases e
  rw [Zj hl] at e
  have e1 := Option.some.inj (Option.some.inj e)
  have h1 : d = d' := congrArg Prod.fst e1
  have h2 : d.flat = true := congrArg Prod.snd e1
  rw [← h1]; exact h2
 ·rw [Zf (Ne.symm hj)] at e
  exact h j d' e
theorem Qcg.QcT : ∀ (is : List Nat) (ds : List D) {ρ : En}, Qcg ρ -> Qcg (QcT is ds ρ)
 | [], _, _, h => h
 | _ :: _, [], _, h => h
 | i :: is, d :: ds, _, h => Qcg.QcT is ds (h.set i d)
theorem Qcg.bind {t : Tg} {d : D} {ρ ρ' : En} (h : Qcg ρ) (e : QaT t d ρ = some ρ') : Qcg ρ' := by
 cases t with
 | nm i => cases e; exact h.set i d
 | tp is =>
  cases d with
  | tup xs =>
   simp only [QaT] at e
   split at e
   ·cases e; exact h.QcT is xs
   ·cases e
  | lst xs =>
   simp only [QaT] at e
   split at e
   ·cases e; exact h.QcT is xs
   ·cases e
  | _ => simp only [QaT] at e; cases e
theorem QgW (cap : List (Option Nat)) (ρ : En) : Qcg (QdI cap ρ) := λ j d e => by
 unfold QdI at e
 rw [Zk] at e
 cases q : cap[j]? with
 | none => rw [q] at e; cases e
 | some o =>
  rw [q] at e
  cases o with
  | none => cases e
  | some i =>
   simp only [ZN, Za, Option.some.injEq] at e
   split at e
   ·have e1 := Option.some.inj e
    have h1 := congrArg Prod.fst e1
    have h2 := congrArg Prod.snd e1
    dsimp only at h1 h2
    rw [← h1]; exact h2
   ·cases e
theorem Qji {cap : List (Option Nat)} {ρ : En} {j : Nat} {d : D} {b : Bool} (e : (QdI cap ρ)[j]? = some (some (d, b))) : ∃ i b', cap[j]? = some (some i) /\ ρ[i]? = some (some (d, b')) := by
 unfold QdI at e
 rw [Zk] at e
 cases q : cap[j]? with
 | none => rw [q] at e; cases e
 | some o =>
  rw [q] at e
  cases o with
  | none => cases e
  | some i =>
   simp only [ZN, Za, Option.some.injEq] at e
   split at e
   ·rename_i d' b' hi
    have e1 := Option.some.inj e
    have h1 : d' = d := congrArg Prod.fst e1
    subst h1
    exact ⟨i, b', rfl, hi⟩
   ·cases e
def Qk4 (X : Cx) (ifs : List Expr) (f : DT) : Prop := ∀ H0 A0, PTs X ifs (tVT X.K H0 A0 f)
noncomputable def Qaf : DT := λ _ => some true
theorem QoH {X : Cx} : Qk4 X [] Qaf := λ H0 A0 pins s σ H Q I ⟨ρ, hs, F, b, rel, e, q⟩ => by
 cases e
 exact QrA pins s σ H Q I (q H (Qy.refl _))
theorem Qpr {X : Cx} {c : Expr} {f : DT} (h : ST X c f) : Qk4 X [c] f := λ H0 A0 => QqM (h H0 A0)
structure QjY (X : Cx) (N' : List Str) (scope : Scope) (cap : List (Option Nat)) (tgs : List Nat) : Prop where
 len : cap.length = N'.length
 get : ∀ (j i : Nat), cap[j]? = some (some i) -> ∃ x, N'[j]? = some x /\ scope.names.lookup x = some .free /\ X.N[i]? = some x /\ (X.env.kindOf x = some .cell ∨ X.env.kindOf x = some .free)
 apart : ∀ (j i : Nat), cap[j]? = some (some i) -> j ∉ tgs
theorem join_some {α : Type} {o : Option (Option α)} {v : α} (h : o.join = some v) : o = some (some v) := by
 cases o with
 | none => cases h
 | some p => cases p with
  | none => cases h
  | some x => exact h ▸ rfl
theorem Qjr {X : Cx} {N' : List Str} {scope : Scope} {fi : DI} {t : Tg} {cap : List (Option Nat)} {ft : DT} {fe : DE} {H0 : Hp} {A0 : List Addr} {σ : L2.St} {H : Hp} {Q : VK} (hc : QjY X N' scope cap t.slots) :
  tV X.K H0 A0 (QW fi t cap ft fe) σ H Q -> QjU (tI X.K H0 A0 fi) (Qij X N' scope) (tG X.K (λ _ => none) [] t) (tVT X.K (λ _ => none) [] ft) (tV X.K (λ _ => none) [] fe) σ H Q := λ ⟨ρ, hs, F, r, rel, e, q⟩ => by
 obtain ⟨ir, e1, e⟩ := bind1 e
 obtain ⟨⟨xs, f⟩, ef, e⟩ := Zb.mp e
 subst e
 refine ⟨ρ, hs, F, ir, rel, e1, λ J H1 ts s1 wk hts ow hz => ?_⟩
 refine ⟨cap.map λ o => o.bind λ i => σ[i]?.join, ⟨by simp [hc.len], λ j x v hN hv => ?_⟩, λ Dl hD => ?_⟩
 ·rw [Zk] at hv
  cases qc : cap[j]? with
  | none => rw [qc] at hv; cases hv
  | some o =>
   rw [qc] at hv
   cases o with
   | none => cases hv
   | some i =>
    simp only [ZN, Za, Option.some.injEq] at hv
    obtain ⟨y, h1, h2, h3, h4⟩ := hc.get j i qc
    rw [hN] at h1; cases h1
    exact ⟨h2, i, h3, join_some hv, h4⟩
 generalize hσc : (cap.map λ o => o.bind λ i => σ[i]?.join) = σc
 generalize hρc : QdI cap ρ = ρc at ef
 have hF0 : ∃ Fc : Nat -> List Addr, Fc = λ j => match cap[j]? with
  | some (some i) => (match ρ[i]? with
   | some (some _) => F i
   | _ => [])
  | _ => [] := ⟨_, rfl⟩
 obtain ⟨Fc, hFc⟩ := hF0
 have rel1 := rel.ext s1
 have relC : ∀ H2, Qy H1 H2 -> Rel X.K (λ _ => none) [] [] ρc Fc σc H2 := λ H2 s2 => by
  refine ⟨by rw [← hρc, ← hσc]; simp [QdI], λ j d b e => ?_, λ j d e => ?_, λ j d b e a ha => .inl rfl, λ t ht => (by simp at ht), λ b o z => (by cases z)⟩
  ·rw [← hρc] at e
   obtain ⟨i, b', h1, h2⟩ := Qji e
   obtain ⟨v, h3, h4⟩ := (rel1.ext s2).val i d b' h2
   refine ⟨v, ?_, ?_⟩
   ·rw [← hσc, Zk, h1]
    simp only [ZN, Za, h3, Option.join_some]
   ·rw [hFc]; simp only [h1, h2]; exact h4
  ·have hf : d.flat = true := QgW cap ρ j d (by rw [hρc]; exact e)
   have : Fc j = [] := by
    rw [← hρc] at e
    obtain ⟨i, b', h1, h2⟩ := Qji e
    obtain ⟨v, h3, h4⟩ := rel1.val i d b' h2
    rw [hFc]; simp only [h1, h2]; exact h4.QbZ hf
   rw [this]
   exact ⟨(QdS d hf).symm, Zau, λ a ha => (by simp at ha), λ _ _ _ _ _ a ha => (by simp at ha), λ t ht => (by simp at ht)⟩
 have shC : ∀ G, Shr (λ _ => none) [] ρc Fc G := λ G a ha => ⟨.inl rfl, λ j d e hj => by
  have h0 := (relC H1 (Qy.refl _)).own j d e
  have hf : d.flat = true := QgW cap ρ j d (by rw [hρc]; exact e)
  have : (Fc j).length = 0 := by rw [h0.1, QdS d hf]
  rw [List.eq_nil_of_length_eq_zero this] at hj
  simp at hj⟩
 have hSh : Qcg ρc := by rw [← hρc]; exact QgW cap ρ
 have heldOf : ∀ H2, Qy H1 H2 -> QiM X.K H2 ts := λ H2 s2 t ht => (hts t ht).1.same s2
 have oldOf : ∀ a, ((∃ t ∈ ts, a ∈ t.2.2) ∨ ∃ j, a ∈ Fc j) -> (∃ vs, H1 a = some (.lst vs)) /\ (H a = none ∨ ∃ (i : Nat) (d : D) (b : Bool), ρ[i]? = some (some (d, b)) /\ a ∈ F i /\ (b = true -> i ∈ ir.M ++ Qm0 cap ρ)) := λ a ha => by
  rcases ha with ⟨t, ht, ha⟩ | ⟨j, ha⟩
  ·refine ⟨(hts t ht).1.mem a ha, ?_⟩
   rcases (hts t ht).2 a ha with z | ⟨i, d, b, e, m, w⟩
   ·exact .inl z
   ·exact .inr ⟨i, d, b, e, m, λ hb => Ze _ (w hb)⟩
  ·have ha0 := ha
   rw [hFc] at ha
   dsimp only at ha
   split at ha
   ·rename_i i hi
    split at ha
    ·rename_i db hdb
     obtain ⟨d, b⟩ := db
     obtain ⟨v, h3, h4⟩ := rel1.val i d b hdb
     refine ⟨h4.mem a ha, .inr ⟨i, d, b, hdb, ha, λ hb => Zc _ ?_⟩⟩
     unfold Qm0
     refine Zaw.mpr ⟨some i, Zas hi, ?_⟩
     simp only [Za, hdb]
     have hnf : d.flat = false := by
      cases hf : d.flat with
      | false => rfl
      | true => rw [h4.QbZ hf] at ha; simp at ha
     rw [hb, hnf]; rfl
    ·simp at ha
   ·simp at ha
 have fresh5 : ∀ H2, Qy H1 H2 -> ∀ a, H2 a = none -> H1 a = none := λ H2 s2 a h => s2.free h
 refine ⟨λ i m acc H2 => m = ir.items.length - i /\ i <= ir.items.length /\ Qy H1 H2 /\ H2 Dl = some (.lst acc) /\ ∃ (ys : List D) (g : Bool) (G : List Addr), (ir.items.drop i).foldlM (Qez t ft fe ρc) (ys, g) = some (xs, f) /\ Rps X.K H2 ys acc G /\ ys.length <= i ∧
  (∀ a ∈ G, a ≠ Dl /\ (H1 a = none ∨ (∃ t ∈ ts, a ∈ t.2.2) ∨ ∃ j, a ∈ Fc j)) /\ (g = true -> G.length = nls ys /\ ∀ a, G.count a <= nw H1 a), ⟨ir.items.length, rfl, ZK _, QcG hD, QX, [], true, [], by simpa using ef, by simp [Rps], Zn _, λ a ha => (by simp at ha), λ _ => ⟨rfl, λ a => by simp⟩⟩, ?_⟩
 rintro i m acc H2 ⟨rfl, hi, s2, eD, ys, g, G, hfold, rps, hlen, hG, hcnt⟩
 by_cases hlt : i < ir.items.length
 ·refine .inr ⟨wk.go i H2 hlt (heldOf H2 s2), λ x H3 hy => ?_⟩
  obtain ⟨s3, G0, rp0, hG0⟩ := wk.yld i ir.items[i] H2 x H3 (by simp [hlt]) (heldOf H2 s2) hy
  rw [ZU hlt, Zbr] at hfold
  obtain ⟨acc1, hstep, hrest⟩ := bind1 hfold
  unfold Qez at hstep
  obtain ⟨ρ1, eb, hstep⟩ := bind1 hstep
  obtain ⟨c, ec, hstep⟩ := bind1 hstep
  have sh1 : Qcg ρ1 := hSh.bind eb
  refine ⟨ρc, [], Fc, ir.items[i], G0, ρ1, relC H3 (s2.trans s3), rp0, shC G0, eb, λ σ2 F2 rel2 keep mem2 => ⟨λ j v hv => ?_, ρ1, [], F2, c, rel2, ec, λ H5 s5 => ?_⟩⟩
  ·have hj : j ∉ t.slots := λ hj => by
    rw [← hσc, Zk] at hv
    cases qc : cap[j]? with
    | none => rw [qc] at hv; cases hv
    | some o =>
     cases o with
     | none => rw [qc] at hv; cases hv
     | some k => exact hc.apart j k qc hj
   rw [keep j hj]; exact hv
  have s15 : Qy H1 H5 := (s2.trans s3).trans s5
  have eD5 : H5 Dl = some (.lst acc) := s5 _ _ (s3 _ _ eD)
  cases c with
  | false =>
   rw [if_neg ZE] at hstep
   refine Qme ?_
   cases hstep
   exact ⟨_, by omega, rfl, hlt, s15, eD5, ys, g, G, hrest, rps.same (s3.trans s5), by omega, hG, hcnt⟩
  | true =>
   rw [if_pos rfl] at hstep
   refine Qmm ?_
   obtain ⟨rr, er, hstep⟩ := Zb.mp hstep
   subst hstep
   refine ⟨ρ1, [], F2, rr, rel2.ext s5, er, λ y H6 Ge pe => ?_⟩
   have eD6 : H6 Dl = some (.lst acc) := pe.same _ _ eD5
   have s16 := s15.trans pe.same
   refine ⟨eD6, ?_, _, by omega, rfl, hlt, ?_⟩
   ·rw [← rps.length]; exact ZY hlen (Zl hlt hz)
   have hGe : ∀ a ∈ Ge, a ≠ Dl /\ (H1 a = none ∨ (∃ t ∈ ts, a ∈ t.2.2) ∨ ∃ j, a ∈ Fc j) := λ a ha => by
    rcases pe.src a ha with z | ⟨j, d, b, ej, hj, _⟩
    ·exact ⟨λ w => (by rw [w, eD5] at z; cases z), .inl (s15.free z)⟩
    ·have h1 : (∃ t ∈ ts, a ∈ t.2.2) ∨ ∃ j, a ∈ Fc j := by
      rcases mem2 j a hj with w | w
      ·exact .inr ⟨j, w⟩
      ·exact .inl (hG0 a w)
     obtain ⟨⟨vs, w⟩, _⟩ := oldOf a h1
     exact ⟨λ w' => (by rw [w', hD] at w; cases w), .inr h1⟩
   have nD : Dl ∉ G := λ h => (hG _ h).1 rfl
   have nDe : Dl ∉ Ge := λ h => (hGe _ h).1 rfl
   have sU : Qy H1 (L2.upd H6 Dl (.lst (acc ++ [y]))) := λ b o hb => by rw [Qx (Qa4 hb hD)]; exact s16 b o hb
   refine ⟨sU, QX, ys ++ [rr.d], g && rr.norm.fr, G ++ Ge, hrest, ?_, by rw [Zu, ZaP]; omega, λ a ha => ?_, λ hg => ?_⟩
   ·refine Rps.append ((rps.same ((s3.trans s5).trans pe.same)).upd eD6 nD) ?_
    simp only [Rps]
    exact ⟨y, [], Ge, [], rfl, by simp, pe.rp.upd eD6 nDe, rfl, rfl⟩
   ·rcases ZD.mp ha with h | h
    ·exact hG a h
    ·exact hGe a h
   ·simp only [Zg] at hg
    obtain ⟨l1, c1⟩ := hcnt hg.1
    have pn := pe.norm
    obtain ⟨c2, l2⟩ := pn.cnt hg.2
    rw [rr.Qcu] at l2
    have nlapp : ∀ (as bs : List D), nls (as ++ bs) = nls as + nls bs := λ as bs => by
     induction as with
     | nil => simp [nls]
     | cons a as ih => simp only [Zbq, nls, ih]; omega
    refine ⟨by rw [Zu, l1, l2, nlapp]; simp [nls], λ a => ?_⟩
    have fl : ((rr.norm.M.map F2).flatten).count a = 0 := by
     rw [ZH]
     intro hm
     obtain ⟨l, hl, hal⟩ := ZaU.mp hm
     obtain ⟨j, hj, rfl⟩ := ZX.mp hl
     obtain ⟨d, ej⟩ := pn.own j hj
     have hf := sh1 j d ej
     obtain ⟨v, _, rv⟩ := rel2.val j d true ej
     rw [rv.QbZ hf] at hal
     simp at hal
    have h1 := c1 a
    have h2 := c2 a
    rw [fl] at h2
    rw [ZW]
    cases q5 : H5 a with
    | some o => rw [Qdc q5] at h2; omega
    | none =>
     rw [QaI q5] at h2
     have h0 : G.count a = 0 := ZH.mpr λ hm => by
      obtain ⟨vs, w⟩ := rps.mem a hm
      rw [s5 _ _ (s3 _ _ w)] at q5; cases q5
     rw [QaI (s15.free q5)]
     omega
 ·have hn : i = ir.items.length := by omega
  subst hn
  refine .inl ⟨wk.stop H2 (heldOf H2 s2), ?_⟩
  rw [Zbs] at hfold
  have : (ys, g) = (xs, f) := Option.some.inj hfold
  cases this
  have rp : Rp X.K H2 (.lst xs) (.ref Dl) (Dl :: G) := Rp.Qdw eD rps (Zr hlen hz)
  have hHD : H Dl = none := s1.free hD
  split at q
  ·rename_i hg
   have hg : f = true := hg
   obtain ⟨l1, c1⟩ := hcnt hg
   have hn : ∀ a ∈ G, H1 a = none := λ a ha => by
    have := c1 a
    have h2 : 0 < G.count a := Zag.mpr ha
    cases w : H1 a with
    | none => rfl
    | some o => rw [Qdc w] at this; omega
   refine q _ H2 (Dl :: G) ⟨s1.trans s2, rp, λ a ha => ?_, λ _ => ⟨λ a => ?_, by simp only [D.nl, ZJ, l1]⟩, QaO.nil⟩
   ·rcases Zq.mp ha with rfl | h
    ·exact .inl hHD
    ·exact .inl (s1.free (hn a h))
   ·rw [Zaq]
    have h1 := c1 a
    split
    ·rename_i w
     have w : Dl = a := by simpa using w
     subst w
     have h0 : G.count Dl = 0 := ZH.mpr λ h => (hG _ h).1 rfl
     rw [QaI hHD]; omega
    ·cases w : H1 a with
     | none => rw [QaI w] at h1; rw [QaI (s1.free w)]; omega
     | some o => rw [Qdc w] at h1; omega
  ·refine q _ H2 (Dl :: G) ⟨s1.trans s2, rp, λ a ha => ?_, λ z => (by cases z), ?_⟩
   ·rcases Zq.mp ha with rfl | h
    ·exact .inl hHD
    ·rcases (hG a h).2 with z | z
     ·exact .inl (s1.free z)
     ·exact (oldOf a z).2
   ·refine ow.append λ i hi => ?_
    unfold Qm0 at hi
    obtain ⟨o, _, ho⟩ := Zaw.mp hi
    cases o with
    | none => cases ho
    | some k =>
     simp only [Za] at ho
     split at ho
     ·rename_i d b hk
      split at ho
      ·rename_i hb
       cases ho
       simp only [Zg] at hb
       rw [hb.1] at hk
       exact ⟨d, hk⟩
      ·cases ho
     ·cases ho
section
variable {X : Cx} {tg iter elt : Expr} {ifs : List Expr} {scope : Scope} {N' : List Str} {pos : Pos} {fi : DI} {t : Tg} {cap : List (Option Nat)} {ft : DT} {fe : DE}
theorem Qrc (hcalm : X.calm = true) (S : Qdt X N' scope) (hi : SI X tg iter fi) (hcap : QjY X N' scope cap t.slots)
  (hin : ∀ cl C fp s3 H3, SG (cxc X N' scope cl C fp s3 H3) tg t /\ Qk4 (cxc X N' scope cl C fp s3 H3) ifs ft /\ SE (cxc X N' scope cl C fp s3 H3) elt fe) (hs : ∀ x, foldedSetIterable iter X.env x = pure x) :
  SE X (.ListComp elt [⟨tg, iter, ifs, 0⟩] scope pos) (QW fi t cap ft fe) := λ H0 A0 =>
 (QlZ hcalm S (hi H0 A0) (λ cl C fp s3 H3 => ⟨(hin cl C fp s3 H3).1 _ _, (hin cl C fp s3 H3).2.1 _ _, (hin cl C fp s3 H3).2.2 _ _⟩) hs).mono λ σ H Q h => Qjr hcap h
end
end HS
namespace HS
open PySem PySem.Spec L2
inductive Out where
 | nx (ρ : En)
 | bk (ρ : En)
 | ct (ρ : En)
 | rt (d : D) (fr : Bool)
noncomputable abbrev DS := En -> Option Out
noncomputable def Fits (K : PySem.W.Frag) (H0 : Hp) (A0 : List Addr) (hs : List (V × D × List Addr)) (E : Ends) : Out -> Prop
 | .nx ρ => ∀ σ H F, Rel K H0 A0 hs ρ F σ H -> E.nx σ H
 | .bk ρ => ∀ σ H F, Rel K H0 A0 hs ρ F σ H -> E.bk σ H
 | .ct ρ => ∀ σ H F, Rel K H0 A0 hs ρ F σ H -> E.ct σ H
 | .rt d fr => ∀ v H G, Ret K H0 A0 d fr v H G -> E.rt v H
noncomputable def tS (K : PySem.W.Frag) (H0 : Hp) (A0 : List Addr) (f : DS) : TS := λ E σ H => ∃ ρ hs F o, Rel K H0 A0 hs ρ F σ H /\ f ρ = some o /\ Fits K H0 A0 hs E o
def S1 (X : Cx) (st : Stmt) (f : DS) : Prop := ∀ H0 A0, PS X st (tS X.K H0 A0 f)
def SS (X : Cx) (sts : List Stmt) (f : DS) : Prop := ∀ H0 A0, PSs X sts (tS X.K H0 A0 f)
theorem _root_.L2.PS.mono {X : Cx} {st : Stmt} {t t' : TS} (h : PS X st t) (m : ∀ D σ H, t' D σ H -> t D σ H) : PS X st t' := λ pins s σ H D I q => h pins s σ H D I (m D σ H q)
theorem _root_.L2.PSs.mono {X : Cx} {st : List Stmt} {t t' : TS} (h : PSs X st t) (m : ∀ D σ H, t' D σ H -> t D σ H) : PSs X st t' := λ pins s σ H D I q => h pins s σ H D I (m D σ H q)
noncomputable def Ql : DS := λ ρ => some (.nx ρ)
noncomputable def Qe (f g : DS) : DS := λ ρ => (f ρ).bind λ o => match o with
 | .nx ρ' => g ρ'
 | .bk ρ' => some (.bk ρ')
 | .ct ρ' => some (.ct ρ')
 | .rt d fr => some (.rt d fr)
noncomputable def Qph : DS := λ ρ => some (.bk ρ)
noncomputable def QoJ : DS := λ ρ => some (.ct ρ)
noncomputable def Qt (i : Nat) (fa : DE) : DS := λ ρ => (fa ρ).bind λ r => some (.nx (asg i r ρ))
noncomputable def Q9 (fa : DE) : DE := λ ρ => (fa ρ).map λ r => ⟨r.d, false, r.M⟩
noncomputable def QL (fa : DE) : DS := λ ρ => (fa ρ).bind λ r => some (.rt r.d (r.norm.fr && decide r.norm.M.Nodup))
noncomputable def Qmn : DS := λ _ => some (.rt .non true)
noncomputable def Qds (fa : DE) : DS := λ ρ => (fa ρ).bind λ _ => some (.nx ρ)
noncomputable def sIf (g : DT) (f1 f2 : DS) : DS := λ ρ => (g ρ).bind λ b => if b = true then f1 ρ else f2 ρ
noncomputable def Qcj (t : Tg) (fb : DS) : List D -> DS
 | [], ρ => some (.nx ρ)
 | d :: ds, ρ => (QaT t d ρ).bind λ ρ1 => (fb ρ1).bind λ o => match o with
  | .nx ρ2 => Qcj t fb ds ρ2
  | .ct ρ2 => Qcj t fb ds ρ2
  | .bk ρ2 => some (.nx ρ2)
  | .rt d fr => some (.rt d fr)
noncomputable def QcV (fi : DI) (t : Tg) (fb : DS) : DS := λ ρ => (fi ρ).bind λ ir => Qcj t fb ir.items (Q4 ir.M ρ)
noncomputable def Qau (g : DT) (fb : DS) : Nat -> DS
 | 0, _ => none
 | n + 1, ρ => (g ρ).bind λ b => if b = true then (fb ρ).bind λ o => match o with
  | .nx ρ2 => Qau g fb n ρ2
  | .ct ρ2 => Qau g fb n ρ2
  | .bk ρ2 => some (.nx ρ2)
  | .rt d fr => some (.rt d fr)
  else some (.nx ρ)
section
variable {X : Cx} {st : Stmt} {sts : List Stmt} {e : Expr} {fa : DE} {f g : DS} {gc : DT} {pos : Pos}
theorem QnH : SS X [] Ql := λ H0 A0 => QqX.mono λ E σ H ⟨ρ, hs, F, o, rel, e, q⟩ => by
 cases e
 exact q σ H F rel
theorem QiI (h1 : S1 X st f) (h2 : SS X sts g) : SS X (st :: sts) (Qe f g) := λ H0 A0 => (Qet (h1 H0 A0) (h2 H0 A0)).mono λ E σ H ⟨ρ, hs, F, o, rel, e, q⟩ => by
 obtain ⟨o1, e1, e⟩ := bind1 e
 refine ⟨ρ, hs, F, o1, rel, e1, ?_⟩
 cases o1 with
 | nx ρ' => exact λ σ' H' F' rel' => ⟨ρ', hs, F', o, rel', e, q⟩
 | bk ρ' => cases e; exact q
 | ct ρ' => cases e; exact q
 | rt d fr => cases e; exact q
theorem Qqr : S1 X (.Pass pos) Ql := λ H0 A0 => QqA.mono λ E σ H ⟨ρ, hs, F, o, rel, e, q⟩ => by
 cases e
 exact q σ H F rel
theorem QoO : S1 X (.Break pos) Qph := λ H0 A0 => QpJ.mono λ E σ H ⟨ρ, hs, F, o, rel, e, q⟩ => by
 cases e
 exact q σ H F rel
theorem Qqx : S1 X (.Continue pos) QoJ := λ H0 A0 => Qly.mono λ E σ H ⟨ρ, hs, F, o, rel, e, q⟩ => by
 cases e
 exact q σ H F rel
theorem QpC (h : SE X e fa) : SE X e (Q9 fa) := λ H0 A0 => (h H0 A0).mono λ σ H Q ⟨ρ, hs, F, r, rel, e, q⟩ => by
 obtain ⟨r', e1, rfl⟩ := Zb.mp e
 exact ⟨ρ, hs, F, r', rel, e1, λ v H' G p => q v H' G ⟨p.same, p.rp, p.src, λ z => (by cases z), p.own⟩⟩
theorem Qh9 {i : Nat} (h : ∀ H0 A0, PS X st (Qf3 (tV X.K H0 A0 fa) (QfC i))) : S1 X st (Qt i fa) := λ H0 A0 => (h H0 A0).mono λ E σ H ⟨ρ, hs, F, o, rel, e, q⟩ => by
 obtain ⟨r, e1, e⟩ := bind1 e
 cases e
 refine ⟨ρ, hs, F, r, rel, e1, λ v H' G p => ?_⟩
 obtain ⟨F', rel'⟩ := rel.asg (i := i) p
 exact q _ _ F' rel'
theorem QqF (h : PS X st (QjV (tV X.K H0 A0 fa))) : PS X st (tS X.K H0 A0 (Qds fa)) := h.mono λ E σ H ⟨ρ, hs, F, o, rel, e, q⟩ => by
 obtain ⟨r, e1, e⟩ := bind1 e
 cases e
 exact ⟨ρ, hs, F, r, rel, e1, λ v H' G p => q σ H' F (rel.ext p.same)⟩
theorem Rel.ret {K : PySem.W.Frag} {H0 H H' : Hp} {A0 : List Addr} {hs : List (V × D × List Addr)} {ρ : En} {F : Nat -> List Addr} {σ : L2.St} (rel : Rel K H0 A0 hs ρ F σ H) {r : R} {v : V} {G : List Addr} (p : QR K ρ F H H' r v G) : Ret K H0 A0 r.d (r.norm.fr && decide r.norm.M.Nodup) v H' G where
 same := rel.same.trans p.same
 rp := p.rp
 src := λ a ha => by
  rcases p.src a ha with z | ⟨i, d, b, e, m, _⟩
  ·exact .inl (rel.same.free z)
  ·exact rel.src i d b e a m
 cnt := λ h => by
  simp only [Zg, decide_eq_true_eq] at h
  have p' := p.norm
  obtain ⟨h1, h2⟩ := p'.fresh rel h.1 h.2
  have h3 := (p'.cnt h.1).2
  rw [r.Qcu] at h3
  exact ⟨h1, h3, λ a ha => (h2 a ha).1⟩
theorem Qm2 (he : SE X e fa) : S1 X (.Return (some e) pos) (QL fa) := λ H0 A0 => (QnX (he H0 A0)).mono λ E σ H ⟨ρ, hs, F, o, rel, e, q⟩ => by
 obtain ⟨r, e1, e⟩ := bind1 e
 cases e
 exact ⟨ρ, hs, F, r, rel, e1, λ v H' G p => q v H' G (rel.ret p)⟩
theorem Qq2 : S1 X (.Return none pos) Qmn := λ H0 A0 => Qq1.mono λ E σ H ⟨ρ, hs, F, o, rel, e, q⟩ => by
 cases e
 exact q .non H [] ⟨rel.same, .Qf1, λ a ha => (by simp at ha), λ _ => ⟨Zau, rfl, λ a ha => (by simp at ha)⟩⟩
theorem Qtl {c : Expr} {a b : List Stmt} (hc : ST X c gc) (ha : SS X a f) (hb : SS X b g) : S1 X (.If c a b pos) (sIf gc f g) := λ H0 A0 => (Qp3 (hc H0 A0) (ha H0 A0) (hb H0 A0)).mono λ E σ H ⟨ρ, hs, F, o, rel, e, q⟩ => by
 obtain ⟨c, e1, e⟩ := bind1 e
 refine ⟨ρ, hs, F, c, rel, e1, λ H1 s1 => ?_⟩
 cases c with
 | true => exact Qmm ⟨ρ, hs, F, o, rel.ext s1, e, q⟩
 | false => exact Qme ⟨ρ, hs, F, o, rel.ext s1, e, q⟩
theorem QrS {tg iter : Expr} {body : List Stmt} {fi : DI} {t : Tg} (hp : PassesOwn (model X.prog X.w) X.A X.env X.xe) (hc : X.calm = true) (hi : SI X tg iter fi) (hg : SG X tg t) (hb : SS X body f) (hs : ∀ x, foldedSetIterable iter X.env x = pure x) :
  S1 X (.For tg iter body [] pos) (QcV fi t f) := λ H0 A0 => (Qon hp hc (hi H0 A0) (hg H0 A0) (hb H0 A0) hs).mono λ E σ H ⟨ρ, hs, F, o, rel, e, q⟩ => by
 obtain ⟨ir, e1, e⟩ := bind1 e
 refine ⟨ρ, hs, F, ir, rel, e1, λ J H1 ts s1 wk hts ow hz => ?_⟩
 have rel1 : Rel X.K H0 A0 (ts ++ hs) (Q4 ir.M ρ) F σ H1 := ((rel.ext s1).weak (Qag ir.M ρ)).hold λ t ht => ⟨(hts t ht).1, Shr.of rel (hts t ht).2⟩
 refine ⟨λ i m σ' H' => m = ir.items.length - i /\ i <= ir.items.length /\ ∃ ρi Fi, Rel X.K H0 A0 (ts ++ hs) ρi Fi σ' H' /\ Qcj t f (ir.items.drop i) ρi = some o, ⟨_, rfl, ZK _, _, F, rel1, by simpa using e⟩, ?_⟩
 rintro i m σ' H' ⟨rfl, hi', ρi, Fi, reli, ei⟩
 have held : QiM X.K H' ts := λ t ht => (reli.held t (Ze _ ht)).1
 by_cases hlt : i < ir.items.length
 ·rw [ZU hlt] at ei
  unfold Qcj at ei
  obtain ⟨ρ1, eb, ei⟩ := bind1 ei
  obtain ⟨o1, eo, ei⟩ := bind1 ei
  refine .inr ⟨wk.go i H' hlt held, λ σ2 H2 => ∃ ρ2 F2, Rel X.K H0 A0 (ts ++ hs) ρ2 F2 σ2 H2 /\ Qcj t f (ir.items.drop (i + 1)) ρ2 = some o, λ σ2 H2 ⟨ρ2, F2, rel2, e2⟩ => ⟨_, by omega, rfl, hlt, ρ2, F2, rel2, e2⟩, λ x H2 hy => ?_⟩
  obtain ⟨s2, G0, rp0, hG0⟩ := wk.yld i ir.items[i] H' x H2 (by simp [hlt]) held hy
  have shr : Shr H0 A0 ρi Fi G0 := λ a ha => by
   obtain ⟨t, ht, hat⟩ := hG0 a ha
   exact ⟨(reli.held t (Ze _ ht)).2 a hat, λ j d ej hj => (reli.own j d ej).2.2.2.2 t (Ze _ ht) a hj hat⟩
  refine ⟨ρi, ts ++ hs, Fi, ir.items[i], G0, ρ1, reli.ext s2, rp0, shr, eb, λ σ3 F3 rel3 _ _ => ⟨ρ1, ts ++ hs, F3, o1, rel3, eo, ?_⟩⟩
  cases o1 with
  | nx ρ2 => exact λ σ4 H4 F4 rel4 => ⟨ρ2, F4, rel4, ei⟩
  | ct ρ2 => exact λ σ4 H4 F4 rel4 => ⟨ρ2, F4, rel4, ei⟩
  | bk ρ2 => cases ei; exact λ σ4 H4 F4 rel4 => q σ4 H4 F4 rel4.Qk7
  | rt d fr => cases ei; exact q
 ·have hn : i = ir.items.length := by omega
  subst hn
  rw [Zbs] at ei
  cases ei
  exact .inl ⟨wk.stop H' held, q σ' H' Fi reli.Qk7⟩
theorem QoR {c : Expr} {body : List Stmt} {n : Nat} (hp : PassesOwn (model X.prog X.w) X.A X.env X.xe) (hc : ST X c gc) (hb : SS X body f) : S1 X (.While c body [] pos) (Qau gc f n) := λ H0 A0 => (QpE hp (hc H0 A0) (hb H0 A0)).mono λ E σ H ⟨ρ, hs, F, o, rel, e, q⟩ => by
 refine ⟨λ m σ' H' => ∃ ρi Fi, Rel X.K H0 A0 hs ρi Fi σ' H' /\ Qau gc f m ρi = some o, ⟨n, ρ, F, rel, e⟩, ?_⟩
 rintro m σ' H' ⟨ρi, Fi, reli, ei⟩
 cases m with
 | zero => cases ei
 | succ m =>
  unfold Qau at ei
  obtain ⟨b, eb, ei⟩ := bind1 ei
  refine ⟨ρi, hs, Fi, b, reli, eb, λ H1 s1 => ?_⟩
  cases b with
  | false =>
   rw [if_neg ZE] at ei
   cases ei
   exact Qme (q σ' H1 Fi (reli.ext s1))
  | true =>
   rw [if_pos rfl] at ei
   obtain ⟨o1, eo, ei⟩ := bind1 ei
   refine Qmm ⟨λ σ2 H2 => ∃ ρ2 F2, Rel X.K H0 A0 hs ρ2 F2 σ2 H2 /\ Qau gc f m ρ2 = some o, λ σ2 H2 h => ⟨m, ZaS _, h⟩, ρi, hs, Fi, o1, reli.ext s1, eo, ?_⟩
   cases o1 with
   | nx ρ2 => exact λ σ4 H4 F4 rel4 => ⟨ρ2, F4, rel4, ei⟩
   | ct ρ2 => exact λ σ4 H4 F4 rel4 => ⟨ρ2, F4, rel4, ei⟩
   | bk ρ2 => cases ei; exact λ σ4 H4 F4 rel4 => q σ4 H4 F4 rel4
   | rt d fr => cases ei; exact q
theorem Rel.QuB {K : PySem.W.Frag} {H0 H : Hp} {A0 : List Addr} {hs : List (V × D × List Addr)} {ρ : En} {F : Nat -> List Addr} {σ : L2.St} (rel : Rel K H0 A0 hs ρ F σ H) {i : Nat} {d : D} {v : V} (rp : Rp K H d v []) (hf : d.flat = true) :
  ∃ F', Rel K H0 A0 hs (ρ.set i (some (d, true))) F' (σ.set i (some v)) H := by
 have := rel.Qk3 (i := i) rp (λ a ha => by simp at ha)
 rw [hf] at this
 exact ⟨_, this⟩
end
end HS
namespace HS
open PySem PySem.Spec L2
section
variable {K : PySem.W.Frag} {H H' : Hp}
theorem Rps.split : ∀ {ds : List D} {vs : List V} {F : List Addr} {j : Nat} {d : D}, Rps K H ds vs F -> ds[j]? = some d →
  ∃ F1 G F2 v, F = F1 ++ (G ++ F2) /\ vs[j]? = some v /\ Rps K H (ds.take j) (vs.take j) F1 /\ Rp K H d v G /\ Rps K H (ds.drop (j + 1)) (vs.drop (j + 1)) F2
 | [], _, _, _, _, _, e => by simp at e
 | d :: ds, _, _, 0, _, h, e => by
  simp only [Rps] at h
  obtain ⟨v, ws, F1, F2, rfl, rfl, r, q⟩ := h
  simp at e; subst e
  exact ⟨[], F1, F2, v, rfl, by simp, by simp [Rps], r, by simpa using q⟩
 | d :: ds, _, _, j + 1, _, h, e => by
  simp only [Rps] at h
  obtain ⟨v, ws, F1, F2, rfl, rfl, r, q⟩ := h
  obtain ⟨G1, G, G2, v', h1, h2, h3, h4, h5⟩ := Rps.split q (j := j) (by simpa using e)
  refine ⟨F1 ++ G1, G, G2, v', by rw [h1, ZaK], by simpa using h2, ?_, h4, by simpa using h5⟩
  simp only [List.take_succ_cons, Rps]
  exact ⟨v, _, F1, G1, rfl, rfl, r, h3⟩
theorem Rps.join {ds : List D} {vs : List V} {F1 G F2 : List Addr} {j : Nat} {d : D} {v : V} (h1 : Rps K H (ds.take j) (vs.take j) F1) (hd : Rp K H d v G) (h2 : Rps K H (ds.drop (j + 1)) (vs.drop (j + 1)) F2) (hj : j < ds.length) (hv : vs[j]? = some v) :
  Rps K H (ds.set j d) vs (F1 ++ (G ++ F2)) := by
 have e1 : ds.set j d = ds.take j ++ d :: ds.drop (j + 1) := Zan .. |>.trans (by rw [if_pos hj])
 have hjv : j < vs.length := (Zh.mp hv).1
 have hve : vs[j] = v := (Zh.mp hv).2
 have e2 : vs = vs.take j ++ v :: vs.drop (j + 1) := by
  rw [← hve, ← ZU hjv, ZaQ]
 rw [e1, e2]
 refine h1.append ?_
 simp only [Rps]
 refine ⟨v, _, G, F2, rfl, rfl, hd, h2⟩
theorem Rps.Qqf {ds : List D} {vs : List V} {F1 G F2 : List Addr} {j : Nat} {d : D} {v : V} (h1 : Rps K H (ds.take j) (vs.take j) F1) (hd : Rp K H d v G) (h2 : Rps K H (ds.drop (j + 1)) (vs.drop (j + 1)) F2) (hj : j < ds.length) (hv : j < vs.length) :
  Rps K H (ds.set j d) (vs.set j v) (F1 ++ (G ++ F2)) := by
 have e1 : ds.set j d = ds.take j ++ d :: ds.drop (j + 1) := Zan .. |>.trans (by rw [if_pos hj])
 have e2 : vs.set j v = vs.take j ++ v :: vs.drop (j + 1) := Zan .. |>.trans (by rw [if_pos hv])
 rw [e1, e2]
 refine h1.append ?_
 simp only [Rps]
 exact ⟨v, _, G, F2, rfl, rfl, hd, h2⟩
noncomputable def Focus (K : PySem.W.Frag) (H : Hp) : List Int -> D -> V -> List Addr -> D -> V -> List Addr -> Prop
 | [], d, v, F, dm, w, Gm => dm = d /\ w = v /\ Gm = F /\ Rp K H d v F
 | i :: is, d, v, F, dm, w, Gm => ∃ (ds : List D) (a : Addr) (vs : List V) (j : Nat) (F1 G F2 : List Addr) (d' : D) (v' : V), v = .ref a /\ ixN ds.length i = some j ∧
   ((d = .lst ds /\ ds.length <= sizeLine /\ ((F = a :: (F1 ++ (G ++ F2)) /\ H a = some (.lst vs)) ∨ (F = F1 ++ (G ++ F2) /\ Fix K H a vs))) ∨ (d = .tup ds /\ F = F1 ++ (G ++ F2) /\ SqT K H a vs)) ∧
   Rps K H (ds.take j) (vs.take j) F1 /\ Rps K H (ds.drop (j + 1)) (vs.drop (j + 1)) F2 /\ ds[j]? = some d' /\ vs[j]? = some v' /\ ds.length = vs.length /\ Focus K H is d' v' G dm w Gm
theorem Focus.same (s : Qy H H') : ∀ {is : List Int} {d : D} {v : V} {F : List Addr} {dm : D} {w : V} {Gm : List Addr}, Focus K H is d v F dm w Gm -> Focus K H' is d v F dm w Gm
 | [], _, _, _, _, _, _, h => ⟨h.1, h.2.1, h.2.2.1, h.2.2.2.same s⟩
 | i :: is, _, _, _, _, _, _, h => by
  obtain ⟨ds, a, vs, j, F1, G, F2, d', v', h1, h2, h3, h4, h5, h6, h7, h8, h9⟩ := h
  refine ⟨ds, a, vs, j, F1, G, F2, d', v', h1, h2, ?_, h4.same s, h5.same s, h6, h7, h8, h9.same s⟩
  rcases h3 with ⟨e, z, q⟩ | ⟨e, eF, q⟩
  ·refine .inl ⟨e, z, ?_⟩
   rcases q with ⟨eF, q⟩ | ⟨eF, q⟩
   ·exact .inl ⟨eF, s _ _ q⟩
   ·exact .inr ⟨eF, QkO s q⟩
  ·exact .inr ⟨e, eF, QkE s q⟩
theorem Focus.rp : ∀ {is : List Int} {d : D} {v : V} {F : List Addr} {dm : D} {w : V} {Gm : List Addr}, Focus K H is d v F dm w Gm -> Rp K H dm w Gm
 | [], _, _, _, _, _, _, h => by
  obtain ⟨rfl, rfl, rfl, r⟩ := h
  exact r
 | i :: is, _, _, _, _, _, _, h => by
  obtain ⟨ds, a, vs, j, F1, G, F2, d', v', h1, h2, h3, h4, h5, h6, h7, h8, h9⟩ := h
  exact h9.rp
theorem Focus.Qog : ∀ {is : List Int} {d : D} {v : V} {F : List Addr} {dm : D} {w : V} {Gm : List Addr}, Focus K H is d v F dm w Gm -> Rp K H d v F
 | [], _, _, _, _, _, _, h => h.2.2.2
 | i :: is, _, _, _, _, _, _, h => by
  obtain ⟨ds, a, vs, j, F1, G, F2, d', v', rfl, h2, h3, h4, h5, h6, h7, h8, h9⟩ := h
  have hjl : j < ds.length := (Zh.mp h6).1
  have hdj : ds[j] = d' := (Zh.mp h6).2
  have j1 := Rps.join h4 h9.Qog h5 hjl h7
  rw [show ds.set j d' = ds by rw [← hdj]; exact List.set_getElem_self hjl] at j1
  rcases h3 with ⟨rfl, hz, ⟨rfl, q⟩ | ⟨rfl, q⟩⟩ | ⟨rfl, rfl, q⟩
  ·exact Rp.Qdw q j1 hz
  ·simp only [Rp]
   exact ⟨hz, a, vs, rfl, .inr ⟨q, j1⟩⟩
  ·simp only [Rp]
   exact ⟨a, vs, rfl, q, j1⟩
theorem Focus.one {d : D} {v : V} {F : List Addr} {ds : List D} {i : Int} {d' : D} (r : Rp K H d v F) (hd : d.items = some ds) (hi : atI ds i = some d') :
  ∃ a vs v' G, v = .ref a /\ ((d = .lst ds /\ SqL K H a vs) ∨ (d = .tup ds /\ SqT K H a vs)) /\ atI vs i = some v' /\ Focus K H [i] d v F d' v' G := by
 unfold atI at hi
 cases hj : ixN ds.length i with
 | none => rw [hj] at hi; cases hi
 | some j =>
  rw [hj] at hi
  have hdj : ds[j]? = some d' := hi
  have fin : ∀ (vs : List V) (L : List Addr), Rps K H ds vs L -> ∃ v' G F1 F2, L = F1 ++ (G ++ F2) /\ vs[j]? = some v' /\ atI vs i = some v' /\ Rps K H (ds.take j) (vs.take j) F1 /\ Rp K H d' v' G /\ Rps K H (ds.drop (j + 1)) (vs.drop (j + 1)) F2 /\ ds.length = vs.length := λ vs L rl => by
   obtain ⟨F1, G, F2, v', h1, h2, h3, h4, h5⟩ := rl.split hdj
   refine ⟨v', G, F1, F2, h1, h2, ?_, h3, h4, h5, rl.length⟩
   unfold atI
   rw [← rl.length, hj]
   exact h2
  cases d with
  | lst xs =>
   cases hd
   simp only [Rp] at r
   obtain ⟨hz, a, vs, rfl, ⟨L, rfl, q, rl⟩ | ⟨q, rl⟩⟩ := r
   ·obtain ⟨v', G, F1, F2, h1, h2, h3, h4, h5, h6, h7⟩ := fin vs L rl
    exact ⟨a, vs, v', G, rfl, .inl ⟨rfl, SqL.of q⟩, h3, ds, a, vs, j, F1, G, F2, d', v', rfl, hj, .inl ⟨rfl, hz, .inl ⟨by rw [h1], q⟩⟩, h4, h6, hdj, h2, h7, rfl, rfl, rfl, h5⟩
   ·obtain ⟨v', G, F1, F2, h1, h2, h3, h4, h5, h6, h7⟩ := fin vs _ rl
    exact ⟨a, vs, v', G, rfl, .inl ⟨rfl, q.sq⟩, h3, ds, a, vs, j, F1, G, F2, d', v', rfl, hj, .inl ⟨rfl, hz, .inr ⟨h1, q⟩⟩, h4, h6, hdj, h2, h7, rfl, rfl, rfl, h5⟩
  | tup xs =>
   cases hd
   obtain ⟨a, vs, rfl, q, rl⟩ := r.QaK
   obtain ⟨v', G, F1, F2, h1, h2, h3, h4, h5, h6, h7⟩ := fin vs _ rl
   exact ⟨a, vs, v', G, rfl, .inr ⟨rfl, q⟩, h3, ds, a, vs, j, F1, G, F2, d', v', rfl, hj, .inr ⟨rfl, h1, q⟩, h4, h6, hdj, h2, h7, rfl, rfl, rfl, h5⟩
  | _ => cases hd
theorem Focus.snoc : ∀ {is : List Int} {d : D} {v : V} {F : List Addr} {dm : D} {w : V} {Gm : List Addr} {i : Int} {d' : D} {v' : V} {G : List Addr}, Focus K H is d v F dm w Gm -> Focus K H [i] dm w Gm d' v' G -> Focus K H (is ++ [i]) d v F d' v' G
 | [], _, _, _, _, _, _, _, _, _, _, h, g => by
  obtain ⟨rfl, rfl, rfl, r⟩ := h
  exact g
 | k :: is, _, _, _, _, _, _, _, _, _, _, h, g => by
  obtain ⟨ds, a, vs, j, F1, G, F2, d', v', h1, h2, h3, h4, h5, h6, h7, h8, h9⟩ := h
  exact ⟨ds, a, vs, j, F1, G, F2, d', v', h1, h2, h3, h4, h5, h6, h7, h8, h9.snoc g⟩
noncomputable def QcA : D -> List Int -> Option D
 | d, [] => some d
 | d, i :: is => (d.items).bind λ ds => (atI ds i).bind λ d' => QcA d' is
theorem Qh2 : ∀ {is : List Int} {d : D} {i : Int} {d' : D}, QcA d (is ++ [i]) = some d' -> ∃ dm ds, QcA d is = some dm /\ dm.items = some ds /\ atI ds i = some d'
 | [], d, i, d', h => by
  obtain ⟨ds, h1, h⟩ := bind1 h
  obtain ⟨d'', h2, h⟩ := bind1 h
  cases h
  exact ⟨d, ds, rfl, h1, h2⟩
 | k :: is, d, i, d', h => by
  obtain ⟨ds, h1, h⟩ := bind1 h
  obtain ⟨d'', h2, h⟩ := bind1 h
  obtain ⟨dm, es, h3, h4, h5⟩ := Qh2 h
  refine ⟨dm, es, ?_, h4, h5⟩
  simp only [QcA, h1, h2, Za, h3]
noncomputable def Qbr : List Int -> D -> D -> D
 | [], _, new => new
 | i :: is, .lst ds, new => match ixN ds.length i with
  | some j => .lst (ds.set j (Qbr is (ds.getD j .non) new))
  | none => .lst ds
 | i :: is, .tup ds, new => match ixN ds.length i with
  | some j => .tup (ds.set j (Qbr is (ds.getD j .non) new))
  | none => .tup ds
 | _ :: _, d, _ => d
theorem QgC : ∀ {ds : List D} {j : Nat} {d e : D}, ds[j]? = some d -> nls (ds.set j e) + d.nl = nls ds + e.nl
 | [], _, _, _, h => by simp at h
 | x :: ds, 0, d, e, h => by simp at h; subst h; simp only [List.set_cons_zero, nls]; omega
 | x :: ds, j + 1, d, e, h => by
  have := QgC (ds := ds) (j := j) (e := e) (by simpa using h)
  simp only [List.set_cons_succ, nls]; omega
theorem QdK : ∀ (as bs : List D), nls (as ++ bs) = nls as + nls bs
 | [], bs => by simp [nls]
 | a :: as, bs => by simp only [Zbq, nls, QdK as bs]; omega
theorem Focus.mut {p : Addr} {dsm ds' : List D} {vs' : List V} {G' : List Addr} : ∀ {is : List Int} {d : D} {v : V} {F : List Addr} {Gm : List Addr}, Focus K H is d v F (.lst dsm) (.ref p) Gm -> F.Nodup -> F.length = d.nl →
  ∃ vsm Gp, H p = some (.lst vsm) /\ Gm = p :: Gp /\ Rps K H dsm vsm Gp /\ Gp.length = nls dsm /\ p ∈ F /\ (∀ a ∈ Gp, a ∈ F) /\ p ∉ Gp ∧
   (Rps K (upd H p (.lst vs')) ds' vs' G' -> ds'.length <= sizeLine -> G'.length = nls ds' →
    ∃ F', Rp K (upd H p (.lst vs')) (Qbr is d (.lst ds')) v F' /\ F'.length = (Qbr is d (.lst ds')).nl /\ ∀ a, F'.count a + Gp.count a = F.count a + G'.count a)
 | [], d, v, F, Gm, h, nd, hl => by
  obtain ⟨rfl, rfl, rfl, r⟩ := h
  simp only [Rp] at r
  obtain ⟨hz, a, vs, e, h⟩ := r
  cases e
  rcases h with ⟨L, rfl, q, rl⟩ | ⟨q, rl⟩
  ·obtain ⟨n1, n2⟩ := Zap.mp nd
   have hl' : L.length = nls dsm := by simp only [D.nl, ZJ] at hl; omega
   refine ⟨vs, L, q, rfl, rl, hl', Zi, λ a ha => Zd _ ha, n1, λ r' hz' hl2 => ⟨p :: G', Rp.Qdw QX r' hz', ?_, λ a => ?_⟩⟩
   ·simp only [Qbr, D.nl, ZJ, hl2]
   ·rw [Zaq, Zaq]; omega
  ·have := rl.Qam
   simp only [D.nl] at hl
   omega
 | i :: is, d, v, F, Gm, h, nd, hl => by
  obtain ⟨ds, a, vs, j, F1, G, F2, d', v', rfl, hj, h3, h4, h5, h6, h7, h8, h9⟩ := h
  have hjl : j < ds.length := (Zh.mp h6).1
  have gd : ds.getD j .non = d' := by rw [Zaa, h6]; rfl
  have l1 := h4.Qam
  have l2 := h5.Qam
  have l3 := h9.Qog.Qam
  have nlsplit : nls (ds.take j) + (d'.nl + nls (ds.drop (j + 1))) = nls ds := by
   have e1 : ds = ds.take j ++ d' :: ds.drop (j + 1) := by
    have : ds[j] = d' := (Zh.mp h6).2
    rw [← this, ← ZU hjl, ZaQ]
   have e2 := congrArg nls e1
   rw [QdK] at e2
   simp only [nls] at e2
   exact e2.symm
  have core : (F1 ++ (G ++ F2)).Nodup -> (F1 ++ (G ++ F2)).length = nls ds -> _ := λ nd' hl' => by
   simp only [Zu] at hl'
   have hG : G.length = d'.nl := by omega
   have ndG : G.Nodup := (ZaN.mp (ZaN.mp nd').2.1).1
   exact (h9.mut (vs' := vs') (ds' := ds') (G' := G') ndG hG)
  have apart : (F1 ++ (G ++ F2)).Nodup -> p ∈ G -> p ∉ F1 /\ p ∉ F2 := λ nd' hp => by
   have n1 := ZaN.mp nd'
   have n2 := ZaN.mp n1.2.1
   exact ⟨λ h => n1.2.2 p h p (Ze _ hp) rfl, λ h => n2.2.2 p hp p h rfl⟩
  have cnt : ∀ (G'' Gp : List Addr), (∀ a, G''.count a + Gp.count a = G.count a + G'.count a) -> ∀ a, (F1 ++ (G'' ++ F2)).count a + Gp.count a = (F1 ++ (G ++ F2)).count a + G'.count a := λ G'' Gp hc a => by
   have := hc a
   simp only [ZW]; omega
  rcases h3 with ⟨rfl, hz, ⟨rfl, q⟩ | ⟨rfl, q⟩⟩ | ⟨rfl, rfl, q⟩
  ·
   obtain ⟨n1, n2⟩ := Zap.mp nd
   have hl' : (F1 ++ (G ++ F2)).length = nls ds := by simp only [D.nl, ZJ] at hl; omega
   obtain ⟨vsm, Gp, e1, e2, e3, e4, e5, e6, e7, e8⟩ := core n2 hl'
   have ap := apart n2 e5
   have hap : a ≠ p := λ z => n1 (by rw [z]; exact Zc _ (Ze _ e5))
   refine ⟨vsm, Gp, e1, e2, e3, e4, Zd _ (Zc _ (Ze _ e5)), λ b hb => Zd _ (Zc _ (Ze _ (e6 b hb))), e7, λ r' hz' hl2 => ?_⟩
   obtain ⟨G'', f1, f2, f3⟩ := e8 r' hz' hl2
   have j1 := Rps.join (h4.upd (ys := vs') e1 ap.1) f1 (h5.upd (ys := vs') e1 ap.2) hjl h7
   refine ⟨a :: (F1 ++ (G'' ++ F2)), ?_, ?_, λ b => ?_⟩
   ·simp only [Qbr, hj, gd]
    exact Rp.Qdw (by rw [Qx hap]; exact q) j1 (by rw [Zal]; exact hz)
   ·have := QgC (ds := ds) (j := j) (e := Qbr is d' (.lst ds')) h6
    simp only [Qbr, hj, gd, D.nl, ZJ, Zu, f2] at hl' ⊢
    omega
   ·have := cnt G'' Gp f3 b
    rw [Zaq, Zaq]; omega
  ·have : (F1 ++ (G ++ F2)).length <= nls ds := by simp only [Zu]; omega
   simp only [D.nl] at hl
   omega
  ·
   have hl' : (F1 ++ (G ++ F2)).length = nls ds := by simpa only [D.nl] using hl
   obtain ⟨vsm, Gp, e1, e2, e3, e4, e5, e6, e7, e8⟩ := core nd hl'
   have ap := apart nd e5
   refine ⟨vsm, Gp, e1, e2, e3, e4, Zc _ (Ze _ e5), λ b hb => Zc _ (Ze _ (e6 b hb)), e7, λ r' hz' hl2 => ?_⟩
   obtain ⟨G'', f1, f2, f3⟩ := e8 r' hz' hl2
   have j1 := Rps.join (h4.upd (ys := vs') e1 ap.1) f1 (h5.upd (ys := vs') e1 ap.2) hjl h7
   refine ⟨F1 ++ (G'' ++ F2), ?_, ?_, cnt G'' Gp f3⟩
   ·simp only [Qbr, hj, gd, Rp]
    exact ⟨a, vs, rfl, QlM e1 q, j1⟩
   ·have := QgC (ds := ds) (j := j) (e := Qbr is d' (.lst ds')) h6
    simp only [Qbr, hj, gd, D.nl, Zu, f2] at hl' ⊢
    omega
end
end HS
namespace HS
open PySem PySem.Spec L2
section
variable {K : PySem.W.Frag} {H0 H H1 H2 : Hp} {A0 : List Addr} {hs : List (V × D × List Addr)} {ρ : En} {F : Nat -> List Addr} {σ : L2.St}
theorem Rel.mut (rel : Rel K H0 A0 hs ρ F σ H) {r : R} {vn : V} {Gn : List Addr} (p : QR K ρ F H H1 r vn Gn) (hf : r.fr = true) (nd : r.M.Nodup) (s12 : Qy H1 H2) {x : Nat} {d : D} (hx : ρ[x]? = some (some (d, true))) (hxM : x ∉ r.M) {v0 : V} (hv0 : σ[x]? = some (some v0))
  {dnew : D} {q : Addr} {F' : List Addr} {vsm vs' : List V} (e1 : H2 q = some (.lst vsm)) (e5 : q ∈ F x) (f1 : Rp K (upd H2 q (.lst vs')) dnew v0 F') (f2 : F'.length = dnew.nl) (cF : ∀ a, F'.count a <= (F x).count a + Gn.count a) :
  ∃ F', Rel K H0 A0 hs ((kill r.M ρ).set x (some (dnew, true))) F' σ (upd H2 q (.lst vs')) := by
 obtain ⟨ol, on, o0, oap, oh⟩ := rel.own x d hx
 obtain ⟨gn, gs⟩ := p.fresh rel hf nd
 have rel2 := (rel.ext p.same).ext s12
 have relk := rel2.weak (Qb6 r.M ρ)
 have apn : ∀ a ∈ Gn, a ∉ F x := λ a ha hax => by
  rcases (gs a ha).2 with z | ⟨k, d', hk, ek, hak⟩
  ·obtain ⟨vs, w⟩ := rel.mem hx hax
   rw [z] at w; cases w
  ·have : k ≠ x := λ z => hxM (z ▸ hk)
   exact oap k d' true this ek a hax hak
 have memF : ∀ a ∈ F', a ∈ F x ∨ a ∈ Gn := λ a ha => by
  have h1 := cF a
  have h2 : 0 < F'.count a := Zag.mpr ha
  by_cases h : a ∈ F x
  ·exact .inl h
  ·rw [ZH.mpr h] at h1
   exact .inr (Zag.mp (by omega))
 have apart : ∀ (j : Nat) d' b, j ≠ x -> (kill r.M ρ)[j]? = some (some (d', b)) -> ∀ a ∈ F', a ∉ F j := λ j d' b hj e a ha haj => by
  obtain ⟨b', e', _⟩ := (Qb6 r.M ρ).2 j d' b e
  rcases memF a ha with h | h
  ·exact oap j d' b' hj e' a h haj
  ·rcases (gs a h).2 with z | ⟨k, d'', hk, ek, hak⟩
   ·obtain ⟨vs, w⟩ := rel.mem e' haj
    rw [z] at w; cases w
   ·have hjk : j ≠ k := λ z => by subst z; exact Qgm r.M ρ j d' b hk e
    exact (rel.own k d'' ek).2.2.2.1 j d' b' hjk e' a hak haj
 have apartH : ∀ t ∈ hs, ∀ a ∈ F', a ∉ t.2.2 := λ t ht a ha hat => by
  rcases memF a ha with h | h
  ·exact oh t ht a h hat
  ·rcases (gs a h).2 with z | ⟨k, d'', hk, ek, hak⟩
   ·obtain ⟨vs, w⟩ := (rel.held t ht).1.mem a hat
    rw [z] at w; cases w
   ·exact (rel.own k d'' ek).2.2.2.2 t ht a hak hat
 have nqj : ∀ (j : Nat) d' b, j ≠ x -> ρ[j]? = some (some (d', b)) -> q ∉ F j := λ j d' b hj e h => oap j d' b hj e q e5 h
 have nF' : F'.Nodup := Zaj.mpr λ a => by
  have h1 := cF a
  have h2 := Zaj.mp on a
  have h3 := Zaj.mp gn a
  by_cases h : a ∈ Gn
  ·rw [ZH.mpr (apn a h)] at h1; omega
  ·rw [ZH.mpr h] at h1; omega
 have lt : ∀ {j : Nat} {z : Option (D × Bool)} {y : D × Bool}, ((kill r.M ρ).set j z)[j]? = some (some y) -> j < (kill r.M ρ).length := λ {j z y} e => by
  by_cases hl : j < (kill r.M ρ).length
  ·exact hl
  ·rw [Zp (by simp; omega)] at e; cases e
 refine ⟨λ j => if j = x then F' else F j, by simp [relk.len], λ j d' b e => ?_, λ j d' e => ?_, λ j d' b e a ha => ?_, λ t ht => ⟨(relk.held t ht).1.upd e1 λ h => oh t ht q e5 h, (relk.held t ht).2⟩, λ b o hb => ?_⟩
 ·by_cases hj : j = x
  ·subst hj
   have hl := lt e
   rw [Zj hl] at e
   cases e
   exact ⟨v0, hv0, by rw [if_pos rfl]; exact f1⟩
  ·rw [Zf (Ne.symm hj)] at e
   obtain ⟨w, h1, h2⟩ := relk.val j d' b e
   obtain ⟨b', e', _⟩ := (Qb6 r.M ρ).2 j d' b e
   exact ⟨w, h1, by rw [if_neg hj]; exact h2.upd e1 (nqj j d' b' hj e')⟩
 ·by_cases hj : j = x
  ·subst hj
   have hl := lt e
   rw [Zj hl] at e
   cases e
   rw [if_pos rfl]
   refine ⟨f2, nF', λ a ha => ?_, λ k d'' b hk ek a ha => ?_, apartH⟩
   ·rcases memF a ha with h | h
    ·exact o0 a h
    ·exact (gs a h).1
   ·rw [Zf (Ne.symm hk)] at ek
    rw [if_neg hk]
    exact apart k d'' b hk ek a ha
  ·rw [Zf (Ne.symm hj)] at e
   obtain ⟨h1, h2, h3, h4, h5⟩ := relk.own j d' e
   rw [if_neg hj]
   refine ⟨h1, h2, h3, λ k d'' b hk ek a ha => ?_, h5⟩
   by_cases hki : k = x
   ·subst hki
    rw [if_pos rfl]
    exact λ hG => apart j d' true hj e a hG ha
   ·rw [Zf (Ne.symm hki)] at ek
    rw [if_neg hki]
    exact h4 k d'' b hk ek a ha
 ·by_cases hj : j = x
  ·subst hj
   rw [if_pos rfl] at ha
   rcases memF a ha with h | h
   ·exact .inl (o0 a h)
   ·exact .inl (gs a h).1
  ·rw [Zf (Ne.symm hj)] at e
   rw [if_neg hj] at ha
   exact relk.src j d' b e a ha
 ·have hbq : b ≠ q := λ z => by rw [z, o0 q e5] at hb; cases hb
  rw [Qx hbq]
  exact relk.same b o hb
end
noncomputable abbrev DP := En -> Option (List Int)
noncomputable def Qc5 : DP := λ _ => some []
noncomputable def Qim (p : DP) (fb : DE) : DP := λ ρ => (p ρ).bind λ is => (fb ρ).bind λ r => match r.d with
 | .int i => some (is ++ [i])
 | _ => none
noncomputable def tP (K : PySem.W.Frag) (H0 : Hp) (A0 : List Addr) (x : Nat) (pf : DP) : TE := λ σ H Q => ∃ ρ hs F d b is dm, Rel K H0 A0 hs ρ F σ H /\ ρ[x]? = some (some (d, b)) /\ pf ρ = some is /\ QcA d is = some dm ∧
 ∀ v0 v H' Gm, Qy H H' -> σ[x]? = some (some v0) -> Focus K H' is d v0 (F x) dm v Gm -> Q v H'
def SPa (X : Cx) (e : Expr) (x : Nat) (pf : DP) : Prop := ∀ H0 A0, PE X e (tP X.K H0 A0 x pf)
section
variable {X : Cx} {a b e : Expr} {fa fb : DE} {pf : DP} {x : Nat} {pos : Pos}
theorem QoX {y : Str} (h : PE X (.Name y pos) (QhA x)) : SPa X (.Name y pos) x Qc5 := λ H0 A0 => h.mono λ σ H Q ⟨ρ, hs, F, d, b, is, dm, rel, hx, hp, hd, q⟩ => by
 cases hp
 cases hd
 obtain ⟨v, h1, h2⟩ := rel.val x d b hx
 exact ⟨v, h1, q v v H (F x) (Qy.refl _) h1 ⟨rfl, rfl, rfl, h2⟩⟩
theorem Qrj (ha : SPa X a x pf) (hb : SE X b fb) (hs : QgD b) : SPa X (.Subscript a b pos) x (Qim pf fb) := λ H0 A0 =>
 (Qqh (Ql2.or QnL) (ha H0 A0) (hb H0 A0) hs).mono λ σ H Q ⟨ρ, hs, F, d, b', is, dm, rel, hx, hp, hd, q⟩ => by
  obtain ⟨is', e1, hp⟩ := bind1 hp
  obtain ⟨r, e2, hp⟩ := bind1 hp
  cases hr : r.d with
  | int i =>
   rw [hr] at hp
   cases hp
   obtain ⟨dn, ds, g1, g2, g3⟩ := Qh2 hd
   refine ⟨ρ, hs, F, d, b', is', dn, rel, hx, e1, g1, λ v0 w H1 Gm s1 hv fo => ⟨ρ, hs, F, r, rel.ext s1, e2, λ u H2 G p2 => ?_⟩⟩
   have rp := p2.rp
   rw [hr] at rp
   rw [rp.int_inv]
   have fo2 := fo.same p2.same
   obtain ⟨c, vs, v', G', rfl, hc, h3, h4⟩ := Focus.one fo2.rp g2 g3
   have fin := q v0 v' H2 G' (s1.trans p2.same) hv (fo2.snoc h4)
   rcases hc with ⟨_, hc⟩ | ⟨_, hc⟩
   ·exact .inl ⟨c, vs, i, v', rfl, rfl, hc, h3, fin⟩
   ·exact .inr ⟨c, vs, i, v', rfl, rfl, hc, h3, fin⟩
  | _ => rw [hr] at hp; cases hp
noncomputable def Qfd (x : Nat) (pf : DP) (fi fa : DE) : DS := λ ρ => (fa ρ).bind λ r0 => match ρ[x]? with
 | some (some (d, true)) => (pf ρ).bind λ is => (fi ρ).bind λ ri => match ri.d, QcA d is with
  | .int k, some (.lst ds) => (ixN ds.length k).bind λ j => if r0.norm.fr && decide r0.norm.M.Nodup && !r0.norm.M.contains x then some (.nx ((kill r0.norm.M ρ).set x (some (Qbr is d (.lst (ds.set j r0.d)), true)))) else
   if is.isEmpty && !r0.norm.M.contains x then some (.nx ((Q4 r0.norm.M ρ).set x (some (.lst (ds.set j r0.d), false)))) else
   none
  | _, _ => none
 | _ => none
theorem set_mk {K : PySem.W.Frag} {H2 : Hp} {q : Addr} {dsm : List D} {vsm : List V} {Gp Gn : List Addr} {j : Nat} {dn : D} {vn : V} (hq : H2 q = some (.lst vsm)) (rs : Rps K H2 dsm vsm Gp) (hl : Gp.length = nls dsm) (nq : q ∉ Gp) (nqn : q ∉ Gn) (hn : Rp K H2 dn vn Gn) (hnl : Gn.length = dn.nl) (hj : j < dsm.length) :
  ∃ G', Rps K (upd H2 q (.lst (vsm.set j vn))) (dsm.set j dn) (vsm.set j vn) G' /\ G'.length = nls (dsm.set j dn) /\ ∀ a, G'.count a <= Gp.count a + Gn.count a := by
 obtain ⟨F1, G, F2, v, e1, e2, h1, h2, h3⟩ := rs.split (j := j) (d := dsm[j]) (by simp [hj])
 subst e1
 have hjv : j < vsm.length := by rw [← rs.length]; exact hj
 have n1 : q ∉ F1 := λ h => nq (Ze _ h)
 have n2 : q ∉ F2 := λ h => nq (Zc _ (Zc _ h))
 refine ⟨F1 ++ (Gn ++ F2), Rps.Qqf (h1.upd hq n1) (hn.upd hq nqn) (h3.upd hq n2) hj hjv, ?_, λ a => ?_⟩
 ·have := QgC (ds := dsm) (j := j) (d := dsm[j]) (e := dn) (by simp [hj])
  have l1 := h1.Qam
  have l2 := h2.Qam
  have l3 := h3.Qam
  have e1 : nls (dsm.take j) + ((dsm[j]).nl + nls (dsm.drop (j + 1))) = nls dsm := by
   have e2 := congrArg nls (ZaQ j dsm)
   rw [QdK, ZU hj] at e2
   simpa only [nls] using e2
  simp only [Zu] at hl ⊢
  omega
 ·simp only [ZW]; omega
theorem QR.QjT {K : PySem.W.Frag} {ρ : En} {F : Nat -> List Addr} {H H1 H2 : Hp} {r : R} {v : V} {G : List Addr} (p : QR K ρ F H H1 r v G) (s : Qy H1 H2) : QR K ρ F H H2 r v G := ⟨p.same.trans s, p.rp.same s, p.src, p.cnt, p.own⟩
theorem Qi2 {K : PySem.W.Frag} {H2 : Hp} {q : Addr} {dsm : List D} {vsm : List V} {Gp Gn : List Addr} {j : Nat} {dn : D} {vn : V} (hq : H2 q = some (.lst vsm)) (rs : Rps K H2 dsm vsm Gp) (nq : q ∉ Gp) (nqn : q ∉ Gn) (hn : Rp K H2 dn vn Gn) (hj : j < dsm.length) :
  ∃ G', Rps K (upd H2 q (.lst (vsm.set j vn))) (dsm.set j dn) (vsm.set j vn) G' /\ ∀ a ∈ G', a ∈ Gp ∨ a ∈ Gn := by
 obtain ⟨F1, G, F2, v, e1, e2, h1, h2, h3⟩ := rs.split (j := j) (d := dsm[j]) (by simp [hj])
 subst e1
 have hjv : j < vsm.length := by rw [← rs.length]; exact hj
 have n1 : q ∉ F1 := λ h => nq (Ze _ h)
 have n2 : q ∉ F2 := λ h => nq (Zc _ (Zc _ h))
 refine ⟨F1 ++ (Gn ++ F2), Rps.Qqf (h1.upd hq n1) (hn.upd hq nqn) (h3.upd hq n2) hj hjv, λ a ha => ?_⟩
 rcases ZD.mp ha with h | h
 ·exact .inl (Ze _ h)
 ·rcases ZD.mp h with h | h
  ·exact .inr h
  ·exact .inl (Zc _ (Zc _ h))
theorem QgR : ∀ (M : List Nat) (ρ : En) (x : Nat), x ∉ M -> (Q4 M ρ)[x]? = ρ[x]?
 | [], ρ, x, _ => rfl
 | i :: M, ρ, x, h => by
  have hi : i ≠ x := λ e => h (e ▸ Zi)
  unfold Q4
  rw [QgR M _ x λ e => h (Zd _ e)]
  split
  ·rw [Zf hi]
  ·rfl
theorem Rel.QuV {K : PySem.W.Frag} {H0 H : Hp} {A0 : List Addr} {hs : List (V × D × List Addr)} {ρ : En} {F : Nat -> List Addr} {σ : L2.St} (rel : Rel K H0 A0 hs ρ F σ H) {x : Nat} {d : D} (hx : ρ[x]? = some (some (d, true))) {Gn : List Addr} (sh : Shr H0 A0 ρ F Gn) {v0 : V} (hv0 : σ[x]? = some (some v0))
  {dnew : D} {q : Addr} {G' : List Addr} {vsm vs' : List V} (e1 : H q = some (.lst vsm)) (e5 : q ∈ F x) (f1 : Rp K (upd H q (.lst vs')) dnew v0 G') (mem : ∀ a ∈ G', a ∈ F x ∨ a ∈ Gn) :
  ∃ F', Rel K H0 A0 hs (ρ.set x (some (dnew, false))) F' σ (upd H q (.lst vs')) := by
 obtain ⟨ol, on, o0, oap, oh⟩ := rel.own x d hx
 have lt : ∀ {j : Nat} {z : Option (D × Bool)} {y : D × Bool}, (ρ.set j z)[j]? = some (some y) -> j < ρ.length := λ {j z y} e => by
  by_cases hl : j < ρ.length
  ·exact hl
  ·rw [Zp (by simp; omega)] at e; cases e
 refine ⟨λ j => if j = x then G' else F j, by simp [rel.len], λ j d' b e => ?_, λ j d' e => ?_, λ j d' b e a ha => ?_, λ t ht => ⟨(rel.held t ht).1.upd e1 λ h => oh t ht q e5 h, (rel.held t ht).2⟩, λ b o hb => ?_⟩
 ·by_cases hj : j = x
  ·subst hj
   have hl := lt e
   rw [Zj hl] at e
   cases e
   exact ⟨v0, hv0, by rw [if_pos rfl]; exact f1⟩
  ·rw [Zf (Ne.symm hj)] at e
   obtain ⟨w, h1, h2⟩ := rel.val j d' b e
   exact ⟨w, h1, by rw [if_neg hj]; exact h2.upd e1 λ h => oap j d' b hj e q e5 h⟩
 ·by_cases hj : j = x
  ·subst hj
   have hl := lt e
   rw [Zj hl] at e
   cases e
  ·rw [Zf (Ne.symm hj)] at e
   obtain ⟨h1, h2, h3, h4, h5⟩ := rel.own j d' e
   rw [if_neg hj]
   refine ⟨h1, h2, h3, λ k d'' b hk ek a ha => ?_, h5⟩
   by_cases hki : k = x
   ·subst hki
    rw [if_pos rfl]
    intro hG
    rcases mem a hG with h | h
    ·exact h4 k d true (Ne.symm hj) hx a ha h
    ·exact (sh a h).2 j d' e ha
   ·rw [Zf (Ne.symm hki)] at ek
    rw [if_neg hki]
    exact h4 k d'' b hk ek a ha
 ·by_cases hj : j = x
  ·subst hj
   rw [if_pos rfl] at ha
   rcases mem a ha with h | h
   ·exact .inl (o0 a h)
   ·exact (sh a h).1
  ·rw [Zf (Ne.symm hj)] at e
   rw [if_neg hj] at ha
   exact rel.src j d' b e a ha
 ·have hbq : b ≠ q := λ z => by rw [z, o0 q e5] at hb; cases hb
  rw [Qx hbq]
  exact rel.same b o hb
theorem QrY {i : Expr} {pos' : Pos} {fi : DE} (hv : SE X e fa) (ho : SPa X a x pf) (hi : SE X i fi)
  (h : ∀ te to ti, PE X e te -> PE X a to -> PE X i ti -> PS X (.Assign [.Subscript a i pos'] e pos) (Qf3 te (L2.Qbn to ti QjZ))) : S1 X (.Assign [.Subscript a i pos'] e pos) (Qfd x pf fi fa) := λ H0 A0 =>
 (h _ _ _ (hv H0 A0) (ho H0 A0) (hi H0 A0)).mono λ E σ H ⟨ρ, hs, F, o, rel, e, q⟩ => by
  obtain ⟨r0, e1, e⟩ := bind1 e
  split at e
  ·rename_i d hx
   obtain ⟨is, e2, e⟩ := bind1 e
   obtain ⟨ri, e3, e⟩ := bind1 e
   split at e
   ·rename_i k ds hk hp
    obtain ⟨j, e4, e⟩ := bind1 e
    split at e
    ·rename_i hc
     cases e
     simp only [Zg, decide_eq_true_eq, Zak] at hc
     obtain ⟨⟨c1, c2⟩, c3⟩ := hc
     have c3 : x ∉ r0.norm.M := λ h => by rw [ZaR.mpr h] at c3; cases c3
     refine ⟨ρ, hs, F, r0, rel, e1, λ vn H1 Gn p => ⟨ρ, hs, F, d, true, is, .lst ds, rel.ext p.same, hx, e2, hp, λ v0 w H2 Gm s2 hv0 fo => ⟨ρ, hs, F, ri, (rel.ext p.same).ext s2, e3, λ u H3 Gi pi => ?_⟩⟩⟩
     have p' := (p.norm.QjT s2).QjT pi.same
     have fo3 := fo.same pi.same
     have rpi := pi.rp
     rw [hk] at rpi
     rw [rpi.int_inv]
     obtain ⟨l, ws, L, rfl, _⟩ := fo3.rp.lst_inv
     obtain ⟨ol, on, _, oap, _⟩ := rel.own x d hx
     have hjl := (QdW e4).2.1
     obtain ⟨gn, gs⟩ := p'.fresh rel c1 c2
     have rn := p'.rp
     rw [r0.Qcu] at rn
     have hnl := (p'.cnt c1).2
     rw [r0.Qcu] at hnl
     obtain ⟨vsm, _, f1, _⟩ := fo3.mut (vs' := []) (ds' := []) (G' := []) on ol
     obtain ⟨_, _, _, _, _, _, zl, _⟩ := fo3.rp.lst_inv
     have key : ∃ F', Rp X.K (upd H3 l (.lst (vsm.set j vn))) (Qbr is d (.lst (ds.set j r0.d))) v0 F' /\ F'.length = (Qbr is d (.lst (ds.set j r0.d))).nl /\ l ∈ F x /\ ds.length = vsm.length /\ ∀ a, F'.count a <= (F x).count a + Gn.count a := by
      have own5 : ∀ G', _ := λ G' => fo3.mut (vs' := vsm.set j vn) (ds' := ds.set j r0.d) (G' := G') on ol
      obtain ⟨vs1, Gp, g1, g2, g3, g4, g5, g6, g7, _⟩ := own5 []
      rw [f1] at g1; cases g1
      have hq : l ∉ Gn := λ h => by
       rcases (gs l h).2 with z | ⟨k', d', hk', ek, hak⟩
       ·obtain ⟨vs, w⟩ := rel.mem hx g5
        rw [z] at w; cases w
       ·exact oap k' d' true (λ z => c3 (z ▸ hk')) ek l g5 hak
      obtain ⟨G', m1, m2, m3⟩ := set_mk f1 g3 g4 g7 hq rn hnl hjl
      obtain ⟨vs2, Gp2, k1, k2, k3, k4, k5, k6, k7, k8⟩ := own5 G'
      have eG : Gp2 = Gp := by rw [g2] at k2; exact (List.cons.inj k2).2.symm
      subst eG
      obtain ⟨F', h1, h2, h3⟩ := k8 m1 (by rw [Zal]; exact zl) m2
      exact ⟨F', h1, h2, g5, g3.length, λ a => by have := h3 a; have := m3 a; omega⟩
     obtain ⟨F', k1, k2, k3, k4, k5⟩ := key
     refine ⟨l, vsm, k, j, rfl, rfl, f1, by rw [← k4]; exact e4, ?_⟩
     obtain ⟨F'', rel'⟩ := rel.mut p' c1 c2 (Qy.refl _) hx c3 hv0 f1 k3 k1 k2 k5
     exact q _ _ F'' rel'
    ·
     split at e
     ·rename_i hc
      cases e
      simp only [Zg, Zak, List.isEmpty_iff] at hc
      obtain ⟨rfl, c3⟩ := hc
      have c3 : x ∉ r0.norm.M := λ h => by rw [ZaR.mpr h] at c3; cases c3
      refine ⟨ρ, hs, F, r0, rel, e1, λ vn H1 Gn p => ⟨ρ, hs, F, d, true, [], .lst ds, rel.ext p.same, hx, e2, hp, λ v0 w H2 Gm s2 hv0 fo => ⟨ρ, hs, F, ri, (rel.ext p.same).ext s2, e3, λ u H3 Gi pi => ?_⟩⟩⟩
      have p' := (p.norm.QjT s2).QjT pi.same
      have fo3 := fo.same pi.same
      have rpi := pi.rp
      rw [hk] at rpi
      rw [rpi.int_inv]
      obtain ⟨l, ws, L, rfl, _⟩ := fo3.rp.lst_inv
      obtain ⟨ol, on, _, oap, _⟩ := rel.own x d hx
      have hjl := (QdW e4).2.1
      have rn := p'.rp
      rw [r0.Qcu] at rn
      obtain ⟨vsm, Gp, f1, g2, g3, g4, g5, g6, g7, _⟩ := fo3.mut (vs' := []) (ds' := []) (G' := []) on ol
      obtain ⟨_, _, _, _, _, _, zl, _⟩ := fo3.rp.lst_inv
      have sh := Shr.of rel p'.src
      have relD := (rel.ext p'.same).weak (Qag r0.norm.M ρ)
      have hxD : (Q4 r0.norm.M ρ)[x]? = some (some (d, true)) := by rw [QgR _ _ _ c3]; exact hx
      have hq : l ∉ Gn := λ h => (sh l h).2 x d hxD g5
      obtain ⟨G', m1, m3⟩ := Qi2 f1 g3 g7 hq rn hjl
      have e0 : v0 = .ref l := (fo3.2.1).symm
      subst e0
      refine ⟨l, vsm, k, j, rfl, rfl, f1, by rw [← g3.length]; exact e4, ?_⟩
      obtain ⟨F'', rel'⟩ := relD.QuV (dnew := .lst (ds.set j r0.d)) (G' := l :: G') (vs' := vsm.set j vn) hxD sh hv0 f1 g5 (Rp.Qdw QX m1 (by rw [Zal]; exact zl)) λ a ha => by
       rcases Zq.mp ha with h | h
       ·exact .inl (h ▸ g5)
       ·rcases m3 a h with h | h
        ·exact .inl (g6 a h)
        ·exact .inr h
      exact q _ _ F'' rel'
     ·
      cases e
   ·cases e
  ·cases e
end
end HS
namespace HS
open PySem PySem.Spec L2
section
variable {K : PySem.W.Frag} {H0 H H1 H2 H3 : Hp} {A0 : List Addr} {hs : List (V × D × List Addr)} {ρ : En} {F : Nat -> List Addr} {σ : L2.St}
theorem Rel.write (rel : Rel K H0 A0 hs ρ F σ H) {r : R} {vn : V} {Gn : List Addr} (p : QR K ρ F H H3 r vn Gn) (hf : r.fr = true) (nd : r.M.Nodup) {x : Nat} {d : D} (hx : ρ[x]? = some (some (d, true))) (hxM : x ∉ r.M) {v0 w : V} (hv0 : σ[x]? = some (some v0))
  {is : List Int} {ds : List D} {Gm : List Addr} (fo : Focus K H3 is d v0 (F x) (.lst ds) w Gm) :
  ∃ l vsm Gp, w = .ref l /\ H3 l = some (.lst vsm) /\ Rps K H3 ds vsm Gp /\ Gp.length = nls ds /\ l ∉ Gp /\ l ∉ Gn /\ ds.length <= sizeLine ∧
   ∀ ds' vs' G', Rps K (upd H3 l (.lst vs')) ds' vs' G' -> ds'.length <= sizeLine -> G'.length = nls ds' -> (∀ a, G'.count a <= Gp.count a + Gn.count a) →
    ∃ F', Rel K H0 A0 hs ((kill r.M ρ).set x (some (Qbr is d (.lst ds'), true))) F' σ (upd H3 l (.lst vs')) := by
 obtain ⟨l, ws, L, rfl, _, _, zl, _⟩ := fo.rp.lst_inv
 obtain ⟨ol, on, _, oap, _⟩ := rel.own x d hx
 obtain ⟨gn, gs⟩ := p.fresh rel hf nd
 obtain ⟨vsm, Gp, g1, g2, g3, g4, g5, g6, g7, _⟩ := fo.mut (vs' := []) (ds' := []) (G' := []) on ol
 have hq : l ∉ Gn := λ h => by
  rcases (gs l h).2 with z | ⟨k', d', hk', ek, hak⟩
  ·obtain ⟨vs, w⟩ := rel.mem hx g5
   rw [z] at w; cases w
  ·exact oap k' d' true (λ z => hxM (z ▸ hk')) ek l g5 hak
 refine ⟨l, vsm, Gp, rfl, g1, g3, g4, g7, hq, zl, λ ds' vs' G' m1 m2 m3 m4 => ?_⟩
 obtain ⟨vs2, Gp2, k1, k2, k3, k4, k5, k6, k7, k8⟩ := fo.mut (vs' := vs') (ds' := ds') (G' := G') on ol
 have eG : Gp2 = Gp := by rw [g2] at k2; exact (List.cons.inj k2).2.symm
 subst eG
 obtain ⟨F', h1, h2, h3⟩ := k8 m1 m2 m3
 exact rel.mut p hf nd (Qy.refl _) hx hxM hv0 g1 g5 h1 h2 λ a => by have := h3 a; have := m4 a; omega
end
section
variable {X : Cx} {a b e : Expr} {fa fb : DE} {pf : DP} {x : Nat} {pos apos : Pos}
noncomputable def QhW (r : R) (x : Nat) : Bool := r.norm.fr && decide r.norm.M.Nodup && !r.norm.M.contains x
theorem Qnl {r : R} {x : Nat} (h : QhW r x = true) : r.norm.fr = true /\ r.norm.M.Nodup /\ x ∉ r.norm.M := by
 unfold QhW at h
 simp only [Zg, decide_eq_true_eq, Zak] at h
 exact ⟨h.1.1, h.1.2, λ z => by rw [ZaR.mpr z] at h; cases h.2⟩
noncomputable def QeI (x : Nat) (pf : DP) (fa : DE) : DS := λ ρ => match ρ[x]? with
 | some (some (d, true)) => (pf ρ).bind λ is => (fa ρ).bind λ r0 => match QcA d is with
  | some (.lst ds) => if QhW r0 x && decide (ds.length < sizeLine) then some (.nx ((kill r0.norm.M ρ).set x (some (Qbr is d (.lst (ds ++ [r0.d])), true)))) else none
  | _ => none
 | _ => none
theorem Qpe {H0 : Hp} {A0 : List Addr} {E : Ends} {σ : L2.St} {H : Hp} : tS X.K H0 A0 (QeI x pf fa) E σ H -> QjV (tBM X.K "list" QlF (tP X.K H0 A0 x pf) (Qmy (tV X.K H0 A0 fa) QmB)) E σ H := λ ⟨ρ, hs, F, o, rel, e, q⟩ => by
 unfold QeI at e
 split at e
 ·rename_i d hx
  obtain ⟨is, e2, e⟩ := bind1 e
  obtain ⟨r0, e1, e⟩ := bind1 e
  split at e
  ·rename_i ds hp
   split at e
   ·rename_i hc
    simp only [Zg, decide_eq_true_eq] at hc
    obtain ⟨c1, c2, c3⟩ := Qnl hc.1
    cases e
    refine ⟨ρ, hs, F, d, true, is, .lst ds, rel, hx, e2, hp, λ v0 w H2 Gm s2 hv0 fo => ?_⟩
    have ty : tyV X.K "list" w H2 := by
     obtain ⟨l, ws, L, rfl, hl, _⟩ := fo.rp.lst_inv
     exact .inl ⟨rfl, ws, Q5 hl⟩
    refine ⟨ty, ρ, hs, F, r0, rel.ext s2, e1, λ vn H3 Gn p => ?_⟩
    have p' := p.norm
    obtain ⟨l, vsm, Gp, rfl, g1, g2, g3, g4, g5, g6, g7⟩ := (rel.ext s2).write p' c1 c2 hx c3 hv0 (fo.same p.same)
    refine ⟨l, vsm, vn, rfl, rfl, g1, by rw [← g2.length]; exact hc.2, ?_⟩
    have rn := p'.rp
    rw [r0.Qcu] at rn
    have hnl := (p'.cnt c1).2
    rw [r0.Qcu] at hnl
    have rw1 : Rps X.K (upd H3 l (.lst (vsm ++ [vn]))) [r0.d] [vn] Gn := by
     simp only [Rps]
     exact ⟨vn, [], Gn, [], rfl, by simp, rn.upd g1 g5, rfl, rfl⟩
    obtain ⟨F', rel'⟩ := g7 (ds ++ [r0.d]) (vsm ++ [vn]) (Gp ++ Gn) ((g2.upd g1 g4).append rw1) (by rw [Zu, ZaP]; omega) (by rw [Zu, QdK, g3, hnl]; simp [nls]) (λ a => by rw [ZW]; omega)
    exact q _ _ F' rel'
   ·cases e
  ·cases e
 ·cases e
end
end HS
namespace HS
open PySem PySem.Spec L2 PyProof.Rows
noncomputable def D.Qp8 : D -> Option Int
 | .int i => some i
 | _ => none
noncomputable def Qfp : List D -> Option (List Int)
 | [] => some []
 | d :: ds => (d.Qp8).bind λ i => (Qfp ds).map λ r => i :: r
theorem Qf8 : ∀ {ds : List D} {ns : List Int}, Qfp ds = some ns -> ds = ns.map .int
 | [], _, h => by cases h; rfl
 | d :: ds, ns, h => by
  unfold Qfp at h
  obtain ⟨i, h1, h⟩ := bind1 h
  obtain ⟨r, h2, rfl⟩ := Zb.mp h
  cases d with
  | int j => cases h1; rw [Qf8 h2]; rfl
  | _ => cases h1
theorem Qlh : ∀ (ns : List Int), Qfp (ns.map D.int) = some ns
 | [] => rfl
 | n :: ns => by simp [Qfp, Qlh ns, D.Qp8]
theorem Rps.ints {K : PySem.W.Frag} {H : Hp} : ∀ {ns : List Int} {vs : List V} {F : List Addr}, Rps K H (ns.map .int) vs F -> vs = ns.map .int
 | [], _, _, h => by simp only [List.map_nil, Rps] at h; rw [h.1]; rfl
 | n :: ns, _, _, h => by
  simp only [Zv, Rps] at h
  obtain ⟨v, ws, F1, F2, rfl, rfl, r, q⟩ := h
  rw [r.int_inv, Rps.ints q]; rfl
theorem Qdy {ns : List Int} {us : List Value} (h : Qr (ns.map V.int) us) : IntsAre us ns := intsAre_of h
section
variable {X : Cx} {a b e : Expr} {es : List Expr} {fa fb : DE} {fs : DA} {pos p2 : Pos}
theorem QhV {us : List Value} {ns : List Int} (hi : IntsAre us ns) : ∃ xs : Array (Int × Tok), us.toArray = intItems xs /\ ns = xs.toList.map (·.1) := by
 obtain ⟨xs, e⟩ := hi.allInts.items
 exact ⟨xs, e, by rw [← hi.numsOf, ← nums_intItems, ← e]⟩
theorem Qlb {prog : Program} {w : World} {A : Around} {E : Value -> Shared -> Prop} {s : Shared} {l : Addr} {xs : Array (Int × Tok)} {Q : Value -> Shared -> Prop} (hh : A.handled = none) (hl : s.heap.IsTuple l (intItems xs))
  (h : ∀ h' tk t', (∀ b o, s.heap.get? b = some o -> h'.get? b = some o) -> Q (.int (preSum (numAt xs) xs.size) t') { s with heap := h', toks := tk }) :
  wpAny (model prog w) A (call (.builtin "sum") [.ref l]) Q E s := by
 have hlt : l < s.heap.objs.size := by obtain ⟨_, e, _⟩ := hl; exact Zo e
 refine call_sum_walkG (wpAny_pyIter_tuple hl ?_)
 refine ⟨_, [_, l], [_], _, _, _, numAt xs, rfl, Walks.tuple (A := A.in1) hh _ l (ZG hlt) (intItems xs), ⟨⟨_, ZF _ rfl, rfl, rfl⟩, hl.push _⟩, λ b hb => ?_, (λ _ _ => intItems_at), λ h' tk t' hk => ?_⟩
 ·show b < (s.heap.push _).objs.size
  rw [ZaE]
  rcases Zq.mp hb with rfl | hb
  ·exact ZaS _
  ·rcases Zq.mp hb with rfl | hb
   ·exact ZaL hlt
   ·cases hb
 ·have := h h' tk t' λ b o e => by
   refine hk b o (λ hm => ?_) (Zs _ e)
   rcases Zq.mp hm with e1 | hm
   ·exact absurd (e1 ▸ Zo e) (ZL _)
   ·cases hm
  simpa [intItems] using this
noncomputable def Qr7 (K : PySem.W.Frag) : List V -> Hp -> VK -> Prop := λ xs H Q => ∃ (p : Addr) (ns : List Int), xs = [.ref p] /\ (SqL K H p (ns.map V.int) ∨ SqT K H p (ns.map V.int)) /\ Q (.int ns.sum) H
theorem Qol (hc : X.calm = true) : QbY X (.builtin "sum") (Qr7 X.K) := by
 intro pins s σ H xs us Q I r h
 obtain ⟨p, ns, rfl, hq, q⟩ := h
 obtain ⟨u, rfl, rx⟩ := vals1 r
 cases rx
 rcases hq with hq | hq
 ·obtain ⟨its, r', pl, hz⟩ := I.list hq
  obtain ⟨ys, e, hns⟩ := QhV (Qdy r')
  have hl := pl.isList
  rw [e] at hl
  refine sum_intListG (I.ok.hd hc) hl λ h' tk t' hk => ?_
  refine ⟨.int ns.sum, H, I.kept hk, ⟨t', ?_⟩, q⟩
  rw [preSum_eq, Zax (by simp), hns]
 ·obtain ⟨its, r', pl, hz⟩ := I.tuple hq
  obtain ⟨ys, e, hns⟩ := QhV (Qdy r')
  have hl := pl
  rw [e] at hl
  refine Qlb (I.ok.hd hc) hl λ h' tk t' hk => ?_
  refine ⟨.int ns.sum, H, I.kept hk, ⟨t', ?_⟩, q⟩
  rw [preSum_eq, Zax (by simp), hns]
noncomputable def Qgx : List D -> Option D
 | [.lst xs] => (Qfp xs).map λ ns => .int ns.sum
 | [.tup xs] => (Qfp xs).map λ ns => .int ns.sum
 | _ => none
theorem QqZ {K : PySem.W.Frag} : Qf7 K Qgx (Qr7 K) := λ ds d e => by
 unfold Qgx at e
 split at e
 ·obtain ⟨ns, h1, rfl⟩ := Zb.mp e
  refine ⟨rfl, λ H vs F Q r q => ?_⟩
  obtain ⟨v, rfl, rp⟩ := r.one
  obtain ⟨l, ws, L, rfl, hl, rl, zl, el⟩ := rp.lst_inv
  rw [Qf8 h1] at rl
  rw [rl.ints] at hl
  exact ⟨l, ns, rfl, .inl (Q5 hl), q _ λ _ => .int_mk⟩
 ·obtain ⟨ns, h1, rfl⟩ := Zb.mp e
  refine ⟨rfl, λ H vs F Q r q => ?_⟩
  obtain ⟨v, rfl, rp⟩ := r.one
  obtain ⟨l, ws, rfl, hl, rl⟩ := rp.QaK
  rw [Qf8 h1] at rl
  rw [rl.ints] at hl
  exact ⟨l, ns, rfl, .inr hl, q _ λ _ => .int_mk⟩
 ·cases e
end
end HS
namespace HS
open PySem PySem.Spec L2 PyProof.Rows
theorem QgN : ∀ {vs : List V} {us : List Value}, us.length = vs.length -> (∀ (k : Nat) (v : V), vs[k]? = some v -> ∃ u, us[k]? = some u /\ RelV v u) -> Qr vs us
 | [], [], _, _ => .nil
 | [], _ :: _, h, _ => by simp at h
 | _ :: _, [], h, _ => by simp at h
 | v :: vs, u :: us, h, g => by
  obtain ⟨u', e, r⟩ := g 0 v rfl
  cases e
  exact .cons r (QgN (by simpa using h) λ k v hk => g (k + 1) v hk)
section
variable {X : Cx} {a b c e tg : Expr} {es : List Expr} {fa fb fc : DE} {fs : DA} {pos p2 : Pos}
theorem Qnm {pins : List (Addr × Obj)} {σ : L2.St} {H : Hp} {s : Shared} {Q : VK} {E : Value -> Shared -> Prop} {j : Int} {t u v : Tok} {tk : Nat} (I : Inv X pins σ H s) (hc : X.calm = true) (h0 : 0 <= j) (h1 : j <= 1000000)
  (q : ∀ l, H l = none -> Q (.ref l) (upd H l (.lst ((List.range j.toNat).map λ (k : Nat) => V.int (k : Int))))) :
  wpAny (model X.prog X.w) X.A (call (.type "list") [.ref s.heap.objs.size]) (EP X pins σ Q) E { s with heap := s.heap.push { cls := .type "range", data := .fields #[.int 0 t, .int j u, .int 1 v] }, toks := tk } := by
 have I2 : Inv X pins σ H { s with heap := s.heap.push { cls := .type "range", data := .fields #[.int 0 t, .int j u, .int 1 v] }, toks := tk } := I.kept λ b o e => Zs _ e
 refine call_list_range (n := j.toNat) (I.ok.hd hc) (IsRange.new ..) (small_one (by omega) (by omega) (by omega) (by omega)) (by rw [rangeSize_one]; split <;> omega) (by omega) λ h' tk' acc' c' hk hS hacc => ?_
 have hv : Qr ((List.range j.toNat).map λ (k : Nat) => V.int (k : Int)) acc'.toList := by
  have hl := hacc.1
  refine QgN (by simp [hl]) λ k v hk => ?_
  rw [Zk] at hk
  have hkl : k < j.toNat := by
   by_cases z : k < j.toNat
   ·exact z
   ·rw [Zp (by simp; omega)] at hk; cases hk
  rw [Zx hkl] at hk
  cases hk
  obtain ⟨w, hw⟩ : ∃ w, acc'[k]? = some w := ⟨acc'[k]'(by omega), by rw [Array.getElem?_eq_getElem (by omega)]⟩
  obtain ⟨t', rfl⟩ := hacc.2 k w hw
  exact ⟨_, by rw [Array.getElem?_toList]; exact hw, ⟨t', by simp⟩⟩
 refine ⟨.ref _, _, I2.laid hk (Zn _) (show Qa7 X.prog X.w _ h' _ (.lst _) from ⟨by simp [QgB]; omega, acc'.toList, c', hv, by simpa using hS⟩), rfl, q _ (I2.hok.fresh (Zn _))⟩
theorem Qod {p p' pos' : Pos} {ta : TA} (hg : Gl X "list") (hm : X.mg "list" = none) (hg' : Gl X "range") (hm' : X.mg "range" = none) (hc : X.calm = true) (ha : PA X [a] ta) (hs : starEach [a] X.env = [(false, eval a X.env)]) :
  PE X (.Call (.Name "list" p) [.Call (.Name "range" p') [a] [] pos'] [] pos) (λ σ H Q => ta σ H λ vs H1 => ∃ j : Int, vs = [.int j] /\ 0 <= j /\ j <= 1000000 /\ ∀ l, H1 l = none -> Q (.ref l) (upd H1 l (.lst ((List.range j.toNat).map λ (k : Nat) => V.int (k : Int))))) := by
 intro pins s σ H Q I h
 refine wpAny_Call_Name_kw (Qc2 I hg hm boot_list ?_ (by decide) (by decide))
 refine ZR (Calls.spliced_cons ?_) rfl rfl
 refine Call_ (Qc2 I hg' hm' boot_range (ZR (thn (ha pos' pins s σ H _ I h) λ us s1 ⟨vs, H1, I1, r1, q1⟩ => ?_) hs rfl))
 obtain ⟨j, e, q1, q2, q⟩ := q1
 subst e
 cases r1 with
 | cons r rr =>
  cases rr
  obtain ⟨t, rfl⟩ := r
  exact call_range_1 (Calls.spliced_nil (Qnm I1 hc q1 q2 q))
noncomputable def Qmo (fa : DE) : DE := λ ρ => (fa ρ).bind λ r => match r.d with
 | .int j => if 0 <= j /\ j <= 1000000 then some ⟨.lst ((List.range j.toNat).map λ (k : Nat) => .int (k : Int)), true, []⟩ else none
 | _ => none
theorem Rps.ofInts {K : PySem.W.Frag} {H : Hp} : ∀ ns : List Int, Rps K H (ns.map .int) (ns.map .int) []
 | [] => by simp [Rps]
 | n :: ns => by simp only [Zv, Rps]; exact ⟨_, _, [], [], rfl, rfl, .int_mk, Rps.ofInts ns⟩
theorem QnD : ∀ ns : List Int, QP (ns.map .int) = true
 | [] => rfl
 | n :: ns => by simp [QP, D.flat, QnD ns]
theorem QqP {p p' pos' : Pos} (hg : Gl X "list") (hm : X.mg "list" = none) (hg' : Gl X "range") (hm' : X.mg "range" = none) (hc : X.calm = true) (ha : SE X a fa) (hs : starEach [a] X.env = [(false, eval a X.env)]) :
  SE X (.Call (.Name "list" p) [.Call (.Name "range" p') [a] [] pos'] [] pos) (Qmo fa) := λ H0 A0 =>
 (Qod hg hm hg' hm' hc (Qan (ha H0 A0) Qcs hs) hs).mono λ σ H Q ⟨ρ, hs, F, r', rel, e, q⟩ => by
  obtain ⟨ra, e1, e⟩ := bind1 e
  refine ⟨ρ, hs, F, ra, rel, e1, λ v H1 G p1 => ?_⟩
  cases hd : ra.d with
  | int j =>
   rw [hd] at e
   dsimp only at e
   split at e
   ·rename_i hj
    cases e
    have rp := p1.rp
    rw [hd] at rp
    refine ⟨j, by rw [rp.int_inv], hj.1, hj.2, λ l hl => ?_⟩
    have e2 : ((List.range j.toNat).map λ (k : Nat) => D.int (k : Int)) = ((List.range j.toNat).map λ (k : Nat) => (k : Int)).map D.int := by rw [Zay]; rfl
    have e3 : ((List.range j.toNat).map λ (k : Nat) => V.int (k : Int)) = ((List.range j.toNat).map λ (k : Nat) => (k : Int)).map V.int := by rw [Zay]; rfl
    have := QR.QaN (M := []) (ρ := ρ) (F := F) p1.same hl (Rps.ofInts (K := X.K) (H := H1) ((List.range j.toNat).map λ (k : Nat) => (k : Int))) (by simp [QgB]; omega) Src.nil QaO.nil
    rw [← e2, ← e3] at this
    unfold QaN at this
    rw [if_pos (by rw [e2]; exact QnD _)] at this
    exact q _ _ _ this
   ·cases e
  | _ => rw [hd] at e; cases e
end
end HS
namespace HS
open PySem PySem.Spec PyProof.Rows L2
section
variable {X : Cx} {a b c : Expr} {fa fb fc : DE} {pos : Pos}
end
end HS
namespace HS
open PySem PySem.Spec L2
structure FnR where
 n : Nat
 dfl : List D
 den : Den
structure Th where
 N : List Str
 sc : List (Str × NameKind)
 Γ : List (Str × FnR)
 cs : List (Str × Int)
 tr : Stmt -> Option DS := λ _ => none
noncomputable def posOf (x : Str) : List Str -> Option Nat
 | [] => none
 | y :: ys => if x = y then some 0 else (posOf x ys).map (· + 1)
theorem QeA : ∀ {x : Str} {ys : List Str} {i : Nat}, posOf x ys = some i -> ys[i]? = some x
 | x, [], i, h => by cases h
 | x, y :: ys, i, h => by
  unfold posOf at h
  split at h
  ·rename_i e; cases h; subst e; rfl
  ·obtain ⟨j, hj, rfl⟩ := Zb.mp h
   simpa using QeA hj
noncomputable def look {α : Type} (x : Str) : List (Str × α) -> Option α
 | [] => none
 | (y, a) :: r => if x = y then some a else look x r
theorem QaX {α : Type} : ∀ {x : Str} {l : List (Str × α)}, look x l = l.lookup x
 | x, [] => rfl
 | x, (y, a) :: r => by
  unfold look
  rw [Zm]
  by_cases h : x = y
  ·subst h; simp
  ·rw [if_neg h, QaX]
   have : (x == y) = false := by simpa using h
   rw [this]
noncomputable def Qqg : NameKind -> Bool
 | .local => true | .cell => true | .free => true | _ => false
noncomputable def Qp2 : NameKind -> Bool
 | .local => true | .cell => true | _ => false
noncomputable def Qus : NameKind -> Bool
 | .globalImplicit => true | _ => false
noncomputable def isFree : NameKind -> Bool
 | .free => true | _ => false
noncomputable def odd (x : Str) : Bool := decide (x = "__debug__") || decide (x = "__classdict__") || decide (x = "__name__")
noncomputable def Th.slot (Θ : Th) (x : Str) : Option Nat := if ((look x Θ.sc).map Qqg).getD false && !odd x then posOf x Θ.N else none
noncomputable def Th.Qb2 (Θ : Th) (x : Str) : Option Nat := if ((look x Θ.sc).map Qp2).getD false && !odd x then posOf x Θ.N else none
noncomputable def Th.gl (Θ : Th) (x : Str) : Bool := ((look x Θ.sc).map Qus).getD false && !odd x
def Qrm (X : Cx) (x : Str) (r : FnR) : Prop := ∃ k f fd ps, QaS X.prog X.w X.K X.mg X.base CX0 k f fd ps (spV X.K r.n r.den) /\ Q7 k X.A /\ X.mg x = some (.ref f) /\ PySem.W.keepIn X.K (.ref f) = true ∧
 ∀ m, m <= r.dfl.length -> ∃ ds dvs, Binds X.K fd ps ds /\ Qr dvs ds /\ ∀ H, Rps X.K H (r.dfl.drop (r.dfl.length - m)) dvs []
noncomputable def QkM : List Str := ["range", "enumerate", "zip", "len", "list", "min", "max", "sum", "abs", "isinstance", "int", "bool", "tuple", "str", "divmod", "sorted", "any", "all"]
structure CtxB (X : Cx) (Θ : Th) : Prop where
 N : X.N = Θ.N
 nd : Θ.N.Nodup
 lc : ∀ x, look x Θ.sc = some .local -> X.env.scope.names.lookup x = some .local
 ce : ∀ x, look x Θ.sc = some .cell -> X.env.scope.names.lookup x = some .cell /\ X.fn x = true
 fe : ∀ x, look x Θ.sc = some .free -> X.env.scope.names.lookup x = some .cell ∨ X.env.scope.names.lookup x = some .free
 gl : ∀ x, look x Θ.sc = some .globalImplicit -> X.env.scope.names.lookup x = some .globalImplicit
 units : X.A.units + 64 < cLine
 mg : ∀ x ∈ QkM, X.mg x = none
 cs : ∀ x i, look x Θ.cs = some i -> ∃ t, X.mg x = some (.int i t)
structure QN (X : Cx) (Θ : Th) : Prop extends CtxB X Θ where
 calm : X.calm = true
 pass : PassesOwn (model X.prog X.w) X.A X.env X.xe
 fns : ∀ x r, look x Θ.Γ = some r -> Qrm X x r
 tr : ∀ st f, Θ.tr st = some f -> S1 X st f
section
variable {X : Cx} {Θ : Th}
theorem Ql5 {x : Str} (h : odd x = false) : (x == ("__debug__" : Str)) = false /\ (x == ("__classdict__" : Str)) = false /\ x ≠ "__name__" := by
 unfold odd at h
 simp only [Bool.or_eq_false_iff, decide_eq_false_iff_not] at h
 exact ⟨by simpa using h.1.1, by simpa using h.1.2, h.2⟩
theorem Qfa (ok : CtxB X Θ) {x : Str} {i : Nat} {pos : Pos} (h : Θ.slot x = some i) : PE X (.Name x pos) (QhA i) := by
 unfold Th.slot at h
 split at h
 ·rename_i hc
  simp only [Zg, Zak] at hc
  obtain ⟨h1, h2, _⟩ := Ql5 hc.2
  refine Qnd (by rw [ok.N]; exact QeA h) ?_ h1 h2
  cases q : look x Θ.sc with
  | none => rw [q] at hc; cases hc.1
  | some k =>
   rw [q] at hc
   cases k with
   | «local» => exact .inl (ok.lc x q)
   | cell => exact .inr (.inl (ok.ce x q).1)
   | free => exact .inr (ok.fe x q)
   | _ => cases hc.1
 ·cases h
theorem Qca (ok : CtxB X Θ) {x : Str} {i : Nat} (h : Θ.Qb2 x = some i) : X.N[i]? = some x /\ Loc X.env.scope x /\ (X.fn x = true ∨ X.env.scope.names.lookup x = some .local) := by
 unfold Th.Qb2 at h
 split at h
 ·rename_i hc
  simp only [Zg, Zak] at hc
  refine ⟨by rw [ok.N]; exact QeA h, ?_⟩
  cases q : look x Θ.sc with
  | none => rw [q] at hc; cases hc.1
  | some k =>
   rw [q] at hc
   cases k with
   | «local» => exact ⟨.inl (ok.lc x q), .inr (ok.lc x q)⟩
   | cell => exact ⟨.inr (ok.ce x q).1, .inl (ok.ce x q).2⟩
   | _ => cases hc.1
 ·cases h
theorem Qbh (ok : CtxB X Θ) {x : Str} (h : Θ.gl x = true) : Gl X x /\ (x == ("__debug__" : Str)) = false /\ x ≠ "__name__" := by
 unfold Th.gl at h
 simp only [Zg, Zak] at h
 obtain ⟨h1, h2, h3⟩ := Ql5 h.2
 refine ⟨?_, h1, h3⟩
 cases q : look x Θ.sc with
 | none => rw [q] at h; cases h.1
 | some k =>
  rw [q] at h
  cases k with
  | globalImplicit => exact ok.gl x q
  | _ => cases h.1
end
noncomputable def isTup : Expr -> Bool
 | .Tuple .. => true
 | _ => false
noncomputable def Qeg : Expr -> Option Str
 | .Name x _ => some x
 | _ => none
noncomputable def Qd2 (Θ : Th) : Expr -> Option Tg
 | .Name x _ => (Θ.Qb2 x).map .nm
 | .Tuple es _ _ => ((es.mapM Qeg).bind λ xs => xs.mapM Θ.Qb2).map .tp
 | _ => none
noncomputable def QmG : CmpOp -> Option (D -> D -> Option D)
 | .Eq => some gEq | .NotEq => some gNe | .Lt => some gLt | .LtE => some gLe | .Gt => some gGt | .GtE => some gGe
 | .Is => none | .IsNot => none
 | .In => some (gIn false) | .NotIn => some (gIn true)
noncomputable def QoY (x : Str) : Option String :=
 if x = "int" then some "int" else if x = "bool" then some "bool" else if x = "list" then some "list" else if x = "tuple" then some "tuple" else if x = "str" then some "str" else none
noncomputable def inner (Θ : Th) (scope : Scope) : Th := { N := (scope.names.filter λ y => Qqg y.2).map (·.1), sc := scope.names, Γ := Θ.Γ, cs := Θ.cs }
noncomputable def QgJ (Θ : Th) (scope : Scope) : List (Option Nat) := (inner Θ scope).N.map λ x => if ((look x scope.names).map isFree).getD false then posOf x Θ.N else none
noncomputable def Qil (Θ : Th) (scope : Scope) (t : Tg) : Bool := (scope.kind == .function) && decide (inner Θ scope).N.Nodup &&
 (scope.names.all λ y => match y.2 with
  | .cell => decide (look y.1 scope.names = some .cell)
  | .local => decide (look y.1 scope.names = some .local)
  | .free => match look y.1 Θ.sc with
   | some .cell => true
   | some .free => true
   | _ => false
  | _ => true) &&
 t.slots.all λ j => match (QgJ Θ scope)[j]? with
  | some (some _) => false
  | _ => true
noncomputable def Qhq (Θ : Th) (x : Str) (a : Expr) : Option Expr := match a with
 | .Call (.Name y _) [b] [] _ => if x = "list" /\ y = "range" /\ Θ.gl y = true /\ (look y Θ.Γ).isNone = true then some b else none
 | _ => none
noncomputable def QtA : List Expr -> Bool
 | [] => true | [_] => true | _ => false
noncomputable def bf1 (x : Str) (fa : DE) : Option DE :=
 if x = "len" then some (dBf Qal (Qb fa Qf)) else
 if x = "list" then some (dList (Qb fa Qf)) else
 if x = "abs" then some (dBf QgZ (Qb fa Qf)) else
 if x = "sum" then some (dBf Qgx (Qb fa Qf)) else
 none
noncomputable def bf2 (x : Str) (fa fb : DE) : Option DE :=
 if x = "min" then some (dBf QgF (Qb fa (Qb fb Qf))) else
 none
mutual
noncomputable def Qj (n : Nat) (Θ : Th) (e : Expr) : Option DE := match n with
 | 0 => none
 | n + 1 => match e with
  | .Name x _ => match Θ.slot x with
   | some i => some (Qa i)
   | none => if Θ.gl x then (look x Θ.cs).map λ i => dC (.int i) else none
  | .Constant (.int i) _ _ => some (dC (.int i))
  | .Constant (.bool b) _ _ => some (dC (.bl b))
  | .Constant .none _ _ => some (dC .non)
  | .Constant (.str x) _ _ => some (dC (.str x))
  | .BinOp a op b _ => (Qj n Θ a).bind λ fa => (Qj n Θ b).bind λ fb => match op with
   | .Add => some (QU fa fb)
   | .Mult => some (Qaw fa fb)
   | .Sub => some (dOp Qbn fa fb)
   | .FloorDiv => some (dOp Qco fa fb)
   | .Mod => some (dOp QaW fa fb)
   | .Pow => some (dOp Qcr fa fb)
   | _ => none
  | .UnaryOp .USub a _ => (Qj n Θ a).map Qr3
  | .UnaryOp .Not a _ => (Qj n Θ a).map Ql8
  | .BoolOp .And [a] _ => Qj n Θ a
  | .BoolOp .And (a :: b :: r) p => (Qj n Θ a).bind λ fa => (Qj n Θ (.BoolOp .And (b :: r) p)).map λ fb => Qen fa fb
  | .BoolOp .Or [a] _ => Qj n Θ a
  | .BoolOp .Or (a :: b :: r) p => (Qj n Θ a).bind λ fa => (Qj n Θ (.BoolOp .Or (b :: r) p)).map λ fb => dOr fa fb
  | .Compare a [op] [b] _ => (Qj n Θ a).bind λ fa => (Qj n Θ b).bind λ fb => (QmG op).map λ g => dOp g fa fb
  | .Tuple es _ _ => (QaE n Θ es).map Qho
  | .List es _ => (QaE n Θ es).map QY
  | .Subscript a (.Slice lo hi none _) _ => (Qj n Θ a).bind λ fa => (Qgw n Θ lo).bind λ fl => (Qgw n Θ hi).map λ fh => Qbc fa fl fh
  | .Subscript a b _ => (Qj n Θ a).bind λ fa => (Qj n Θ b).map λ fb => Qo fa fb
  | .Call (.Name x _) args [] _ => if Θ.gl x then (match look x Θ.Γ with
    | some r => if r.n <= args.length + r.dfl.length /\ args.length <= r.n then (QaE n Θ args).map λ fs => Qi r.n r.den (r.dfl.drop (r.dfl.length - (r.n - args.length))) fs else none
    | none => Qh8 n Θ x args) else none
  | .ListComp elt [⟨tg, iter, ifs, 0⟩] scope _ => (Qd2 (inner Θ scope) tg).bind λ t => if Qil Θ scope t && QtA ifs then
    (QdH n Θ tg iter).bind λ fi => (Qea n (inner Θ scope) ifs).bind λ ft => (Qj n (inner Θ scope) elt).map λ fe => QW fi t (QgJ Θ scope) ft fe else none
  | _ => none
noncomputable def Qh8 (n : Nat) (Θ : Th) (x : Str) (args : List Expr) : Option DE := match n with
  | 0 => none
  | n + 1 => match args with
    | [a] => match Qhq Θ x a with
     | some b => (Qj n Θ b).map Qmo
     | none => (Qj n Θ a).bind λ fa => bf1 x fa
    | [a, b] => if x = "isinstance" then (Qj n Θ a).bind λ fa => match b with
        | .Name y _ => if Θ.gl y then (QoY y).map λ T => Qg1 T fa else none
        | _ => none
      else (Qj n Θ a).bind λ fa => (Qj n Θ b).bind λ fb => bf2 x fa fb
    | _ => none
noncomputable def Qat (n : Nat) (Θ : Th) (e : Expr) : Option DT := match n with
 | 0 => none
 | n + 1 => match e with
  | .UnaryOp .Not a _ => (Qat n Θ a).map QcZ
  | .BoolOp .And [a] _ => Qat n Θ a
  | .BoolOp .And (a :: b :: r) p => (Qat n Θ a).bind λ fa => (Qat n Θ (.BoolOp .And (b :: r) p)).map λ fb => QiA fa fb
  | .BoolOp .Or [a] _ => Qat n Θ a
  | .BoolOp .Or (a :: b :: r) p => (Qat n Θ a).bind λ fa => (Qat n Θ (.BoolOp .Or (b :: r) p)).map λ fb => bOr fa fb
  | .Compare a [op] [b] _ => (Qj n Θ a).bind λ fa => (Qj n Θ b).bind λ fb => (QmG op).map λ g => QG (dOp g fa fb)
  | .BoolOp _ _ _ => none
  | .IfExp _ _ _ _ => none
  | .Compare _ _ _ _ => none
  | e => (Qj n Θ e).map QG
noncomputable def Qea (n : Nat) (Θ : Th) (es : List Expr) : Option DT := match n with
 | 0 => none
 | n + 1 => match es with
  | [] => some Qaf
  | [c] => Qat n Θ c
  | _ => none
noncomputable def QaE (n : Nat) (Θ : Th) (es : List Expr) : Option DA := match n with
 | 0 => none
 | n + 1 => match es with
  | [] => some Qf
  | e :: es => (Qj n Θ e).bind λ fa => (QaE n Θ es).map λ fs => Qb fa fs
noncomputable def Qgw (n : Nat) (Θ : Th) (e : Option Expr) : Option DO := match n with
 | 0 => none
 | n + 1 => match e with
  | none => some Qaq
  | some e => (Qj n Θ e).map Qas
noncomputable def QdH (n : Nat) (Θ : Th) (tg e : Expr) : Option DI := match n with
 | 0 => none
 | n + 1 => match e with
  | .Call (.Name x _) args [] _ => if Θ.gl x && (look x Θ.Γ).isNone then (match args with
    | [a] => if x = "range" then (Qj n Θ a).map QaB else
     (Qj n Θ e).map QaV
    | [a, b, c] =>
     (Qj n Θ e).map QaV
    | [a, b] =>
     if x = "range" then (Qj n Θ a).bind λ fa => (Qj n Θ b).map λ fb => QdL fa fb else
     if x = "zip" then (if isTup tg then (Qj n Θ a).bind λ fa => (Qj n Θ b).map λ fb => Qcx fa fb else none) else
     (Qj n Θ e).map QaV
    | _ => (Qj n Θ e).map QaV) else (Qj n Θ e).map QaV
  | e => (Qj n Θ e).map QaV
end
end HS
namespace HS
open PySem PySem.Spec L2
theorem QK {α β γ : Type} {x : Option α} {y : α -> Option β} {k : α -> β -> γ} {r : γ} (e : (x.bind λ a => (y a).map λ b => k a b) = some r) : ∃ a b, x = some a /\ y a = some b /\ k a b = r := by
 obtain ⟨a, h1, e⟩ := bind1 e
 obtain ⟨b, h2, e⟩ := Zb.mp e
 exact ⟨a, b, h1, h2, e⟩
theorem Qax {n : Nat} {Θ : Th} {e : Expr} {f : DE} (h : Qj n Θ e = some f) (es : List Expr) (env : Env) : starEach (e :: es) env = (false, eval e env) :: starEach es env := by
 cases n with
 | zero => exact nomatch (show (none : Option DE) = some _ from h)
 | succ n => cases e <;> first | rfl | (exact nomatch (show (none : Option DE) = some _ from h))
theorem Ql7 : ∀ {n : Nat} {Θ : Th} {es : List Expr} {f : DA}, QaE n Θ es = some f -> ∀ (pos : Pos) (env : Env), (backTo pos (starEach es env)).any (·.1) = false
 | 0, _, _, _, h, _, _ => by simp [QaE] at h
 | n + 1, _, [], _, h, _, _ => rfl
 | n + 1, _, e :: es, _, h, pos, env => by
  simp only [QaE] at h
  obtain ⟨fa, fs, h1, h2, _⟩ := QK h
  rw [Qax h1]
  have := Ql7 h2 pos env
  simpa [backTo] using this
theorem Ql6 {n : Nat} {Θ : Th} {b : Expr} {f : DE} (h : Qj n Θ b = some f) : QgD b := by
 cases n with
 | zero => exact nomatch (show (none : Option DE) = some _ from h)
 | succ n => cases b <;> first | (intro o i; rfl) | (exact nomatch (show (none : Option DE) = some _ from h))
theorem Qr1 {n : Nat} {Θ : Th} {e : Expr} {f : DE} (h : Qj n Θ e = some f) (env : Env) : ∀ x, foldedSetIterable e env x = pure x := by
 cases n with
 | zero => exact nomatch (show (none : Option DE) = some _ from h)
 | succ n => cases e <;> first | (intro x; rfl) | (exact nomatch (show (none : Option DE) = some _ from h))
theorem Qnh {n : Nat} {Θ : Th} {e : Expr} {f : DE} (h : Qj n Θ e = some f) (op : CmpOp) : behindInMarks op e = false := by
 cases n with
 | zero => exact nomatch (show (none : Option DE) = some _ from h)
 | succ n => cases e <;> first | rfl | (exact nomatch (show (none : Option DE) = some _ from h))
theorem Qc8 {env : Env} : ∀ {names : List (Str × NameKind)} {x : Str}, names.lookup x = some .cell →
  (names.map λ (n, k) => if (k == NameKind.free && env.scope.kind == .function && env.kindOf n == some .cell) then (n, NameKind.cell) else (n, k)).lookup x = some .cell
 | [], _, h => by simp at h
 | (n, k) :: r, x, h => by
  have ih := @Qc8 env r x
  rw [Zv]
  cases hx : x == n with
  | true =>
   simp only [Zm, hx] at h
   cases h
   dsimp only
   split <;> simp [Zm, hx]
  | false =>
   simp only [Zm, hx] at h
   dsimp only
   split <;> (simp only [Zm, hx]; exact ih h)
theorem Qkd {X : Cx} {Θ : Th} {scope : Scope} {t : Tg} (ok : QN X Θ) (h : Qil Θ scope t = true) : Qdt X (inner Θ scope).N scope /\ QjY X (inner Θ scope).N scope (QgJ Θ scope) t.slots /\ ∀ cl C fp s3 H3, QN (cxc X (inner Θ scope).N scope cl C fp s3 H3) (inner Θ scope) := by
 unfold Qil at h
 simp only [Zg, decide_eq_true_eq] at h
 obtain ⟨⟨⟨h1, h2⟩, h3⟩, h4⟩ := h
 have hk : scope.kind = .function := by simpa using h1
 have each : ∀ y ∈ scope.names, (y.2 = .cell -> scope.names.lookup y.1 = some .cell) /\ (y.2 = .local -> scope.names.lookup y.1 = some .local) /\ (y.2 = .free -> X.env.kindOf y.1 = some .cell ∨ X.env.kindOf y.1 = some .free) := λ y hy => by
  have := ZZ.mp h3 y hy
  obtain ⟨y, k⟩ := y
  cases k with
  | cell => exact ⟨λ _ => (by rw [← QaX]; simpa using this), λ z => (by cases z), λ z => (by cases z)⟩
  | «local» => exact ⟨λ z => (by cases z), λ _ => by rw [← QaX]; simpa using this, λ z => by cases z⟩
  | free =>
   refine ⟨λ z => (by cases z), λ z => (by cases z), λ _ => ?_⟩
   dsimp only at this
   split at this
   ·rename_i q; exact .inl (ok.ce _ q).1
   ·rename_i q; exact ok.fe _ q
   ·cases this
  | _ => exact ⟨λ z => (by cases z), λ z => (by cases z), λ z => (by cases z)⟩
 have S : Qdt X (inner Θ scope).N scope := ⟨hk, λ y hy => (each y hy).1, λ y hy => (each y hy).2.1, λ y hy => (each y hy).2.2⟩
 refine ⟨S, ⟨by unfold QgJ; simp, λ j i e => ?_, λ j i e hj => ?_⟩, λ cl C fp s3 H3 => ⟨⟨rfl, h2, λ x e => ?_, λ x e => ?_, λ x e => ?_, λ x e => ?_, ok.units, ok.mg, ok.cs⟩, ok.calm, PassesOwn.never, ok.fns, λ _ _ e => nomatch e⟩⟩
 ·unfold QgJ at e
  rw [Zk] at e
  cases q : (inner Θ scope).N[j]? with
  | none => rw [q] at e; cases e
  | some x =>
   rw [q] at e
   simp only [ZN, Option.some.injEq] at e
   split at e
   ·rename_i hf
    cases hl : look x scope.names with
    | none => rw [hl] at hf; cases hf
    | some k =>
     rw [hl] at hf
     cases k with
     | free =>
      rw [QaX] at hl
      exact ⟨x, rfl, hl, by rw [ok.N]; exact QeA e, (each (x, .free) (ZP hl)).2.2 rfl⟩
     | _ => cases hf
   ·cases e
 ·have := ZZ.mp h4 j hj
  rw [e] at this
  cases this
 ·have e' : scope.names.lookup x = some .local := by rw [← QaX]; exact e
  exact lookup_relabel_local e'
 ·have e' : scope.names.lookup x = some .cell := by rw [← QaX]; exact e
  exact ⟨Qc8 e', decide_eq_true e'⟩
 ·have e' : scope.names.lookup x = some .free := by rw [← QaX]; exact e
  exact QbV e'
 ·have e' : scope.names.lookup x = some .globalImplicit := by rw [← QaX]; exact e
  show (relabel scope X.env).names.lookup x = some .globalImplicit
  unfold relabel
  have gen : ∀ {names : List (Str × NameKind)}, names.lookup x = some .globalImplicit →
    (names.map λ (n, k) => if (k == NameKind.free && X.env.scope.kind == .function && X.env.kindOf n == some .cell) then (n, NameKind.cell) else (n, k)).lookup x = some .globalImplicit := by
   intro names
   induction names with
   | nil => intro z; simp at z
   | cons y r ih =>
    intro z
    obtain ⟨n, k⟩ := y
    rw [Zv]
    cases hx : x == n with
    | true =>
     simp only [Zm, hx] at z
     cases z
     simp [Zm, hx]
    | false =>
     simp only [Zm, hx] at z
     dsimp only
     split <;> (simp only [Zm, hx]; exact ih z)
  exact gen e'
theorem QhN {X : Cx} {Θ : Th} (ok : QN X Θ) {tg : Expr} {t : Tg} (h : Qd2 Θ tg = some t) : SG X tg t := by
 have hN : X.N.Nodup := by rw [ok.N]; exact ok.nd
 cases tg with
 | Name x pos =>
  simp only [Qd2] at h
  obtain ⟨i, hi, rfl⟩ := Zb.mp h
  obtain ⟨h1, h2, h3⟩ := Qca ok.toCtxB hi
  exact Qro (QlU hN h1 h2 h3)
 | Tuple es k pos =>
  simp only [Qd2] at h
  obtain ⟨is, hi, rfl⟩ := Zb.mp h
  obtain ⟨xs, h1, h2⟩ := bind1 hi
  have key : ∀ (es : List Expr) (xs : List Str) (is : List Nat), es.mapM Qeg = some xs -> xs.mapM Θ.Qb2 = some is -> PGs X es (Qh4 is) /\ (assignEach es X.env).length = is.length /\ (assignEach es X.env).findIdx? (·.1) = none := by
   intro es
   induction es with
   | nil =>
    intro xs is h1 h2
    cases h1
    cases h2
    exact ⟨Qq9, rfl, rfl⟩
   | cons e es ih =>
    intro xs is h1 h2
    rw [ZbC] at h1
    obtain ⟨x, hx, h1⟩ := bind1 h1
    obtain ⟨ys, hy, h1⟩ := bind1 h1
    cases h1
    rw [ZbC] at h2
    obtain ⟨i, hi, h2⟩ := bind1 h2
    obtain ⟨js, hj, h2⟩ := bind1 h2
    cases h2
    obtain ⟨a1, a2, a3⟩ := ih ys js hy hj
    cases e with
    | Name y p =>
     cases hx
     obtain ⟨g1, g2, g3⟩ := Qca ok.toCtxB hi
     refine ⟨QoS (QlU hN g1 g2 g3) a1 rfl, ?_, ?_⟩
     ·show (assignEach es X.env).length + 1 = _
      rw [a2]; rfl
     ·show List.findIdx? (·.1) ((false, assign (.Name x p) X.env) :: assignEach es X.env) = none
      rw [List.findIdx?_cons]
      simp only [a3]; rfl
    | _ => cases hx
  obtain ⟨a1, a2, a3⟩ := key es xs is h1 h2
  exact QsY ok.calm a1 a2 a3
 | _ => simp only [Qd2] at h; cases h
theorem QmS {f : Int -> Int -> Bool} : ∀ a b d, gI (λ i j => some (.bl (f i j))) a b = some d -> ∃ k, d = .bl k := λ a b d h => by
 obtain ⟨i, j, _, _, e⟩ := Qm7 h
 cases e
 exact ⟨_, rfl⟩
theorem QnY {X : Cx} {Θ : Th} (ok : QN X Θ) {op : CmpOp} {g : D -> D -> Option D} (h : QmG op = some g) : ∃ r, OpR X (compareOp op) r /\ Qcq X.K g r /\ ∀ a b d, g a b = some d -> ∃ k, d = .bl k := by
 cases op <;> cases h
 ·exact ⟨_, Qoh ok.units, Qp9, λ a b d h => by unfold gEq at h; split at h <;> cases h; exact ⟨_, rfl⟩⟩
 ·exact ⟨_, QnE ok.units, QpY, λ a b d h => by unfold gNe at h; split at h <;> cases h; exact ⟨_, rfl⟩⟩
 ·exact ⟨_, Qth, QtZ, QmS⟩
 ·exact ⟨_, Qtm, QtK, QmS⟩
 ·exact ⟨_, Qts, Qti, QmS⟩
 ·exact ⟨_, QtV, Qtj, QmS⟩
 ·exact ⟨_, QrX ok.units, Qqe, λ a b d h => by unfold gIn at h; split at h <;> first | (split at h <;> cases h; exact ⟨_, rfl⟩) | cases h⟩
 ·exact ⟨_, Qnc ok.units, Qqe, λ a b d h => by unfold gIn at h; split at h <;> first | (split at h <;> cases h; exact ⟨_, rfl⟩) | cases h⟩
structure QhS (n : Nat) : Prop where
 E : ∀ X Θ e f, QN X Θ -> Qj n Θ e = some f -> SE X e f
 B : ∀ X Θ x args f p pos, QN X Θ -> Θ.gl x = true -> Qh8 n Θ x args = some f -> SE X (.Call (.Name x p) args [] pos) f
 T : ∀ X Θ e f, QN X Θ -> Qat n Θ e = some f -> ST X e f
 Ts : ∀ X Θ e f, QN X Θ -> Qea n Θ e = some f -> Qk4 X e f
 A : ∀ X Θ e f, QN X Θ -> QaE n Θ e = some f -> SA X e f
 O : ∀ X Θ e f, QN X Θ -> Qgw n Θ e = some f -> SO X e f
 I : ∀ X Θ tg e f, QN X Θ -> QdH n Θ tg e = some f -> SI X tg e f /\ ∀ x, foldedSetIterable e X.env x = pure x
theorem callArgs {X : Cx} {n : Nat} {Θ : Th} {es : List Expr} {fs : DA} (h : QaE n Θ es = some fs) {e : Expr} {es' : List Expr} (he : es = e :: es') (pos : Pos) : starEach (e :: es') X.env = (false, eval e X.env) :: starEach es' X.env /\ (backTo pos (starEach es' X.env)).any (·.1) = false := by
 subst he
 cases n with
 | zero => simp [QaE] at h
 | succ n =>
  simp only [QaE] at h
  obtain ⟨fa, fs', h1, h2, _⟩ := QK h
  exact ⟨Qax h1 es' X.env, Ql7 h2 pos X.env⟩
theorem QtC {n : Nat} (ih : QhS n) : ∀ X Θ e f, QN X Θ -> Qj (n + 1) Θ e = some f -> SE X e f := by
  intro X Θ e f ok h
  cases e with
  | Name x pos =>
    (conv at h => lhs; whnf)
    cases q : Θ.slot x with
    | some i => rw [q] at h; cases h; exact QnI (Qfa ok.toCtxB q)
    | none =>
      rw [q] at h
      dsimp only at h
      split at h
      · rename_i hg
        obtain ⟨i, hi, rfl⟩ := Zb.mp h
        obtain ⟨g1, g2, g3⟩ := Qbh ok.toCtxB hg
        obtain ⟨t, hm⟩ := ok.cs x i hi
        exact Qhd (v := .int i) (Qrs g1 hm ⟨t, rfl⟩ g2) (λ _ _ => .int_mk) rfl
      · cases h
  | Constant c k pos =>
    cases c with
    | int i => (conv at h => lhs; whnf); cases h; exact Qhd Qta (λ _ _ => .int_mk) rfl
    | bool b => (conv at h => lhs; whnf); cases h; exact Qhd QpW (λ _ _ => .QbW) rfl
    | none => (conv at h => lhs; whnf); cases h; exact Qhd QrU (λ _ _ => .Qf1) rfl
    | str x => (conv at h => lhs; whnf); cases h; exact Qhd QnK (λ _ _ => .str_mk) rfl
    | _ => exact nomatch (show (none : Option DE) = some _ from h)
  | BinOp a op b pos =>
    (conv at h => lhs; whnf)
    obtain ⟨fa, h1, h⟩ := bind1 h
    obtain ⟨fb, h2, h⟩ := bind1 h
    have ha := ih.E X Θ a fa ok h1
    have hb := ih.E X Θ b fb ok h2
    cases op with
    | Add => cases h; exact QsO ha hb
    | Mult => cases h; exact QsQ ha hb
    | Sub => cases h; exact Qj2 QsS QsF ha hb
    | FloorDiv => cases h; exact Qj2 Qrx Qsp ha hb
    | Mod => cases h; exact Qj2 Qrh QrT ha hb
    | Pow => cases h; exact Qj2 QqK QsA ha hb
    | _ => cases h
  | UnaryOp op a pos =>
    cases op with
    | USub =>
      (conv at h => lhs; whnf)
      obtain ⟨fa, h1, rfl⟩ := Zb.mp h
      exact Qsk (ih.E X Θ a fa ok h1)
    | Not =>
      (conv at h => lhs; whnf)
      obtain ⟨fa, h1, rfl⟩ := Zb.mp h
      exact Qni (ih.E X Θ a fa ok h1)
    | _ => exact nomatch (show (none : Option DE) = some _ from h)
  | BoolOp op es pos =>
    cases op with
    | And =>
      match es, h with
      | [], h => exact nomatch (show (none : Option DE) = some _ from h)
      | [a], h => (conv at h => lhs; whnf); exact Qh3 (ih.E X Θ a f ok h)
      | a :: b :: r, h =>
        (conv at h => lhs; whnf)
        obtain ⟨fa, fb, h1, h2, rfl⟩ := QK h
        exact Qoc (ih.E X Θ a fa ok h1) (ih.E X Θ _ fb ok h2)
    | Or =>
      match es, h with
      | [], h => exact nomatch (show (none : Option DE) = some _ from h)
      | [a], h => (conv at h => lhs; whnf); exact Qh3 (ih.E X Θ a f ok h)
      | a :: b :: r, h =>
        (conv at h => lhs; whnf)
        obtain ⟨fa, fb, h1, h2, rfl⟩ := QK h
        exact Qqa (ih.E X Θ a fa ok h1) (ih.E X Θ _ fb ok h2)
  | Compare a ops bs pos =>
    match ops, bs, h with
    | [op], [b], h =>
      (conv at h => lhs; whnf)
      obtain ⟨fa, h1, h⟩ := bind1 h
      obtain ⟨fb, g, h2, h3, rfl⟩ := QK h
      obtain ⟨r, o1, o2, _⟩ := QnY ok h3
      exact Qk0 o1 o2 (ih.E X Θ a fa ok h1) (ih.E X Θ b fb ok h2) (Qnh h2 op)
    | [], _, h => exact nomatch (show (none : Option DE) = some _ from h)
    | [_], [], h => exact nomatch (show (none : Option DE) = some _ from h)
    | [_], _ :: _ :: _, h => exact nomatch (show (none : Option DE) = some _ from h)
    | _ :: _ :: _, _, h => exact nomatch (show (none : Option DE) = some _ from h)
  | Tuple es k pos =>
    (conv at h => lhs; whnf)
    obtain ⟨fs, h1, rfl⟩ := Zb.mp h
    exact Qsc (ih.A X Θ es fs ok h1)
  | List es pos =>
    (conv at h => lhs; whnf)
    obtain ⟨fs, h1, rfl⟩ := Zb.mp h
    exact QnW (ih.A X Θ es fs ok h1)
  | Subscript a b pos =>
    by_cases hb : ∃ lo hi p2, b = .Slice lo hi none p2
    · obtain ⟨lo, hi, p2, rfl⟩ := hb
      (conv at h => lhs; whnf)
      obtain ⟨fa, h1, h⟩ := bind1 h
      obtain ⟨fl, fh, h2, h3, rfl⟩ := QK h
      exact Qtc (ih.E X Θ a fa ok h1) (ih.O X Θ lo fl ok h2) (ih.O X Θ hi fh ok h3)
    · have h' : ((Qj n Θ a).bind λ fa => (Qj n Θ b).map λ fb => Qo fa fb) = some f := by
        cases b <;> first
          | (exact h)
          | (rename_i lo hi st p2; cases lo <;> cases hi <;> cases st <;> first | (exact absurd ⟨_, _, _, rfl⟩ hb) | (exact h))
      obtain ⟨fa, fb, h1, h2, rfl⟩ := QK h'
      exact Qs4 (ih.E X Θ a fa ok h1) (ih.E X Θ b fb ok h2) (Ql6 h2)
  | Call fn args kws pos =>
    cases fn with
    | Name x p =>
     cases kws with
     | cons k ks => exact nomatch (show (none : Option DE) = some _ from h)
     | nil =>
      have h : (if Θ.gl x then (match look x Θ.Γ with | some r => if r.n <= args.length + r.dfl.length /\ args.length <= r.n then (QaE n Θ args).map λ fs => Qi r.n r.den (r.dfl.drop (r.dfl.length - (r.n - args.length))) fs else none | none => Qh8 n Θ x args) else none) = some f := h
      split at h
      · rename_i hg
        obtain ⟨g1, g2, g3⟩ := Qbh ok.toCtxB hg
        split at h
        · rename_i r hr
          split at h
          · rename_i hn
            obtain ⟨fs, h1, rfl⟩ := Zb.mp h
            obtain ⟨k, fa, fd, ps, F1, F2, F3, F4, F5⟩ := ok.fns x r hr
            obtain ⟨ds, dvs, b1, b2, b3⟩ := F5 (r.n - args.length) (by omega)
            cases args with
            | nil =>
              cases n with
              | zero => simp [QaE] at h1
              | succ n =>
                simp only [QaE] at h1
                cases h1
                exact QpK F1 F2 g1 F3 F4 b1 b2 b3 g2
            | cons e es =>
              obtain ⟨s1, s2⟩ := callArgs (X := X) h1 rfl pos
              exact QqD F1 F2 g1 F3 F4 b1 b2 b3 (ih.A X Θ _ fs ok h1) g2 s1 s2
          · cases h
        · exact ih.B X Θ x args f p pos ok hg h
      · cases h
    | _ => exact nomatch (show (none : Option DE) = some _ from h)
  | ListComp elt gens scope pos =>
    match gens, h with
    | [⟨tg, iter, ifs, k⟩], h =>
      by_cases hk : k = 0
      · subst hk
        (conv at h => lhs; whnf)
        obtain ⟨t, ht, h⟩ := bind1 h
        split at h
        · rename_i hc
          simp only [Zg] at hc
          obtain ⟨fi, h1, h⟩ := bind1 h
          obtain ⟨ft, fe, h2, h3, rfl⟩ := QK h
          obtain ⟨S, cap, inn⟩ := Qkd ok hc.1
          obtain ⟨i1, i2⟩ := ih.I X Θ tg iter fi ok h1
          exact Qrc ok.calm S i1 cap (λ cl C fp s3 H3 => ⟨QhN (inn cl C fp s3 H3) ht, ih.Ts _ _ ifs ft (inn cl C fp s3 H3) h2, ih.E _ _ elt fe (inn cl C fp s3 H3) h3⟩) i2
        · cases h
      · exfalso
        cases k with
        | ofNat k =>
          cases k with
          | zero => exact hk rfl
          | succ k => exact nomatch (show (none : Option DE) = some _ from h)
        | negSucc k => exact nomatch (show (none : Option DE) = some _ from h)
    | [], h => exact nomatch (show (none : Option DE) = some _ from h)
    | ⟨_, _, _, .ofNat 0⟩ :: _ :: _, h => exact nomatch (show (none : Option DE) = some _ from h)
    | ⟨_, _, _, .ofNat (k + 1)⟩ :: _ :: _, h => exact nomatch (show (none : Option DE) = some _ from h)
    | ⟨_, _, _, .negSucc k⟩ :: _ :: _, h => exact nomatch (show (none : Option DE) = some _ from h)
  | _ => exact nomatch (show (none : Option DE) = some _ from h)
theorem Qsj {X : Cx} {Θ : Th} {x : Str} {a : Expr} {fa f : DE} {p pos : Pos} (ok : QN X Θ) (g1 : Gl X x) (sa : SA X [a] (Qb fa Qf)) (st : starEach [a] X.env = (false, eval a X.env) :: starEach [] X.env) (h : bf1 x fa = some f) : SE X (.Call (.Name x p) [a] [] pos) f := by
 unfold bf1 at h
 by_cases e : x = "len"
 ·rw [if_pos e] at h; cases h; subst e; have hm := ok.mg "len" (by decide +kernel)
  exact Qj0 Qke Qse g1 hm PySem.boot_len sa (by decide) (by decide) st rfl
 rw [if_neg e] at h; clear e
 by_cases e : x = "list"
 ·rw [if_pos e] at h; cases h; subst e; have hm := ok.mg "list" (by decide +kernel)
  exact Qqq g1 hm sa st rfl
 rw [if_neg e] at h; clear e
 by_cases e : x = "abs"
 ·rw [if_pos e] at h; cases h; subst e; have hm := ok.mg "abs" (by decide +kernel)
  exact Qj0 QoK Qsf g1 hm PyProof.Rows.boot_abs sa (by decide) (by decide) st rfl
 rw [if_neg e] at h; clear e
 by_cases e : x = "sum"
 ·rw [if_pos e] at h; cases h; subst e; have hm := ok.mg "sum" (by decide +kernel)
  exact Qj0 (Qol ok.calm) QqZ g1 hm PyProof.Rows.boot_sum sa (by decide) (by decide) st rfl
 rw [if_neg e] at h; clear e
 cases h
theorem Qsb {X : Cx} {Θ : Th} {x : Str} {a b : Expr} {fa fb f : DE} {p pos : Pos} (ok : QN X Θ) (g1 : Gl X x) (sa : SA X [a, b] (Qb fa (Qb fb Qf))) (st : starEach [a, b] X.env = (false, eval a X.env) :: starEach [b] X.env) (pl : (backTo pos (starEach [b] X.env)).any (·.1) = false) (h : bf2 x fa fb = some f) : SE X (.Call (.Name x p) [a, b] [] pos) f := by
 unfold bf2 at h
 by_cases e : x = "min"
 ·rw [if_pos e] at h; cases h; subst e; have hm := ok.mg "min" (by decide +kernel)
  exact Qj0 (Qm6 ok.calm) QrH g1 hm PyProof.Rows.boot_min sa (by decide) (by decide) st pl
 rw [if_neg e] at h; clear e
 cases h
theorem Qty {n : Nat} (ih : QhS n) : ∀ X Θ x args f p pos, QN X Θ -> Θ.gl x = true -> Qh8 (n + 1) Θ x args = some f -> SE X (.Call (.Name x p) args [] pos) f := by
 intro X Θ x args f p pos ok hg h
 obtain ⟨g1, g2, g3⟩ := Qbh ok.toCtxB hg
 match args, h with
 | [], h => exact nomatch (show (none : Option DE) = some _ from h)
 | [a], h =>
  change (match Qhq Θ x a with | some b => (Qj n Θ b).map Qmo | none => (Qj n Θ a).bind λ fa => bf1 x fa) = some f at h
  split at h
  ·rename_i b hr
   obtain ⟨fb, h1, rfl⟩ := Zb.mp h
   unfold Qhq at hr
   split at hr
   ·rename_i y p' b' pos'
    split at hr
    ·rename_i hc
     cases hr
     obtain ⟨c1, c2, c3, _⟩ := hc
     subst c1
     subst c2
     obtain ⟨y1, y2, y3⟩ := Qbh ok.toCtxB c3
     exact QqP g1 (ok.mg _ (by decide +kernel)) y1 (ok.mg _ (by decide +kernel)) ok.calm (ih.E X Θ b fb ok h1) (Qax h1 [] X.env)
    ·cases hr
   ·cases hr
  obtain ⟨fa, h1, h⟩ := bind1 h
  have ha := ih.E X Θ a fa ok h1
  have st := Qax h1 [] X.env
  exact Qsj ok g1 (QdQ ha QfV st) st h
 | [a, b], h =>
  change (if x = "isinstance" then (Qj n Θ a).bind λ fa => (match b with | .Name y _ => if Θ.gl y then (QoY y).map λ T => Qg1 T fa else none | _ => none) else (Qj n Θ a).bind λ fa => (Qj n Θ b).bind λ fb => bf2 x fa fb) = some f at h
  split at h
  ·rename_i e
   obtain ⟨fa, h1, h⟩ := bind1 h
   have ha := ih.E X Θ a fa ok h1
   split at h
   ·rename_i y p2
    split at h
    ·rename_i hy
     obtain ⟨T, hT, rfl⟩ := Zb.mp h
     obtain ⟨y1, y2, y3⟩ := Qbh ok.toCtxB hy
     clear h
     subst e
     refine Qsv g1 (ok.mg _ (by decide +kernel)) ha ?_ (Qax h1 _ X.env)
     unfold QoY at hT
     split at hT
     ·rename_i e; cases hT; subst e
      exact QeY y1 (ok.mg _ (by decide +kernel)) PyProof.Rows.boot_int rfl
     ·split at hT
      ·rename_i e; cases hT; subst e
       exact QeY y1 (ok.mg _ (by decide +kernel)) PyProof.Rows.boot_bool rfl
      ·split at hT
       ·rename_i e; cases hT; subst e
        exact QeY y1 (ok.mg _ (by decide +kernel)) ZaM rfl
       ·split at hT
        ·rename_i e; cases hT; subst e
         exact QeY y1 (ok.mg _ (by decide +kernel)) PyProof.Rows.boot_tuple rfl
        ·split at hT
         ·rename_i e; cases hT; subst e
          exact QeY y1 (ok.mg _ (by decide +kernel)) PyProof.Rows.boot_str rfl
         ·cases hT
    ·cases h
   ·cases h
  ·obtain ⟨fa, h1, h⟩ := bind1 h
   obtain ⟨fb, h2, h⟩ := bind1 h
   have ha := ih.E X Θ a fa ok h1
   have hb := ih.E X Θ b fb ok h2
   have sb : SA X [b] (Qb fb Qf) := QdQ hb QfV (Qax h2 [] X.env)
   have sa : SA X [a, b] (Qb fa (Qb fb Qf)) := QdQ ha sb (Qax h1 [b] X.env)
   have pl : (backTo pos (starEach [b] X.env)).any (·.1) = false := by rw [Qax h2 [] X.env]; rfl
   exact Qsb ok g1 sa (Qax h1 [b] X.env) pl h
 | _ :: _ :: _ :: _, h => exact nomatch (show (none : Option DE) = some _ from h)
theorem QtE {n : Nat} (ih : QhS n) : ∀ X Θ e f, QN X Θ -> Qat (n + 1) Θ e = some f -> ST X e f := by
 intro X Θ e f ok h
 have dflt : (Qj n Θ e).map QG = some f -> (∀ whole, isTrue e X.env whole = (do let v ← whole; standAt e.pos; holding [v] (truthy v))) -> ST X e f := λ h he => by
  obtain ⟨fa, h1, rfl⟩ := Zb.mp h
  exact QrO (ih.E X Θ e fa ok h1) he
 cases e with
 | UnaryOp op a pos =>
  cases op with
  | Not =>
   change (Qat n Θ a).map QcZ = some f at h
   obtain ⟨fa, h1, rfl⟩ := Zb.mp h
   exact Qsa (ih.T X Θ a fa ok h1)
  | _ => exact dflt h λ _ => rfl
 | BoolOp op es pos =>
  cases op with
  | And =>
   match es, h with
   | [], h => exact nomatch (show (none : Option DT) = some _ from h)
   | [a], h => exact (Qrf (ih.T X Θ a f ok h)).st
   | a :: b :: r, h =>
    change ((Qat n Θ a).bind λ fa => (Qat n Θ (.BoolOp .And (b :: r) pos)).map λ fb => QiA fa fb) = some f at h
    obtain ⟨fa, fb, h1, h2, rfl⟩ := QK h
    have hb := ih.T X Θ _ fb ok h2
    exact (QrL (ih.T X Θ a fa ok h1) (λ H0 A0 wh pins s σ H Q I q => by have := hb H0 A0 pins s σ H Q I q; exact this)).st
  | Or =>
   match es, h with
   | [], h => exact nomatch (show (none : Option DT) = some _ from h)
   | [a], h => exact (Qr6 (ih.T X Θ a f ok h)).st
   | a :: b :: r, h =>
    change ((Qat n Θ a).bind λ fa => (Qat n Θ (.BoolOp .Or (b :: r) pos)).map λ fb => bOr fa fb) = some f at h
    obtain ⟨fa, fb, h1, h2, rfl⟩ := QK h
    have hb := ih.T X Θ _ fb ok h2
    exact (Qt1 (ih.T X Θ a fa ok h1) (λ H0 A0 wh pins s σ H Q I q => by have := hb H0 A0 pins s σ H Q I q; exact this)).st
 | Compare a ops bs pos =>
  match ops, bs, h with
  | [op], [b], h =>
   change ((Qj n Θ a).bind λ fa => (Qj n Θ b).bind λ fb => (QmG op).map λ g => QG (dOp g fa fb)) = some f at h
   obtain ⟨fa, h1, h⟩ := bind1 h
   obtain ⟨fb, g, h2, h3, rfl⟩ := QK h
   obtain ⟨r, o1, o2, o3⟩ := QnY ok h3
   exact Qtd o1 o2 o3 (ih.E X Θ a fa ok h1) (ih.E X Θ b fb ok h2) (Qnh h2 op)
  | [], _, h => exact nomatch (show (none : Option DT) = some _ from h)
  | [_], [], h => exact nomatch (show (none : Option DT) = some _ from h)
  | [_], _ :: _ :: _, h => exact nomatch (show (none : Option DT) = some _ from h)
  | _ :: _ :: _, _, h => exact nomatch (show (none : Option DT) = some _ from h)
 | IfExp c a b pos => exact nomatch (show (none : Option DT) = some _ from h)
 | _ => exact dflt h λ _ => rfl
theorem Qtp {n : Nat} (ih : QhS n) : ∀ X Θ tg e f, QN X Θ -> QdH (n + 1) Θ tg e = some f -> SI X tg e f /\ ∀ x, foldedSetIterable e X.env x = pure x := by
 intro X Θ tg e f ok h
 have dflt : (Qj n Θ e).map QaV = some f -> SI X tg e f /\ ∀ x, foldedSetIterable e X.env x = pure x := λ h => by
  obtain ⟨fa, h1, rfl⟩ := Zb.mp h
  exact ⟨Qsy (ih.E X Θ e fa ok h1), Qr1 h1 X.env⟩
 cases e with
 | Call fn args kws pos =>
  cases fn with
  | Name x p =>
   cases kws with
   | cons k ks => exact dflt h
   | nil =>
    simp only [QdH] at h
    split at h
    ·rename_i hg
     simp only [Zg] at hg
     obtain ⟨g1, g2, g3⟩ := Qbh ok.toCtxB hg.1
     match args, h with
     | [], h => exact dflt h
     | [a], h =>
      dsimp only at h
      by_cases er : x = "range"
      ·rw [if_pos er] at h
       obtain ⟨fa, h1, rfl⟩ := Zb.mp h
       subst er
       exact ⟨Qnw g1 (ok.mg _ (by decide +kernel)) (ih.E X Θ a fa ok h1) (Qax h1 [] X.env), λ _ => rfl⟩
      rw [if_neg er] at h
      exact dflt h
     | [a, b], h =>
      dsimp only at h
      by_cases er : x = "range"
      ·rw [if_pos er] at h
       obtain ⟨fa, fb, h1, h2, rfl⟩ := QK h
       subst er
       exact ⟨QnU g1 (ok.mg _ (by decide +kernel)) (ih.E X Θ a fa ok h1) (ih.E X Θ b fb ok h2) (by rw [Qax h1 [b] X.env, Qax h2 [] X.env]; rfl) (Qax h2 [] X.env), λ _ => rfl⟩
      rw [if_neg er] at h
      by_cases ez : x = "zip"
      ·rw [if_pos ez] at h
       split at h
       ·rename_i ht
        obtain ⟨fa, fb, h1, h2, rfl⟩ := QK h
        subst ez
        cases tg with
        | Tuple es k tp => exact ⟨Qsd g1 (ok.mg _ (by decide +kernel)) (ih.E X Θ a fa ok h1) (ih.E X Θ b fb ok h2) (by rw [Qax h1 [b] X.env, Qax h2 [] X.env]; rfl) (Qax h2 [] X.env), λ _ => rfl⟩
        | _ => exact nomatch (show false = true from ht)
       ·cases h
      rw [if_neg ez] at h
      exact dflt h
     | [a, b, c], h =>
      dsimp only at h
      exact dflt h
     | _ :: _ :: _ :: _ :: _, h => exact dflt h
    ·exact dflt h
  | _ => exact dflt h
 | _ => exact dflt h
theorem Qa5 : ∀ n, QhS n
 | 0 => ⟨λ _ _ _ _ _ h => (nomatch (show (none : Option DE) = some _ from h)), λ _ _ _ _ _ _ _ _ _ h => by simp [Qh8] at h, λ _ _ _ _ _ h => by simp [Qat] at h, λ _ _ _ _ _ h => by simp [Qea] at h, λ _ _ _ _ _ h => by simp [QaE] at h, λ _ _ _ _ _ h => by simp [Qgw] at h, λ _ _ _ _ _ _ h => by simp [QdH] at h⟩
 | n + 1 => by
  have ih := Qa5 n
  refine ⟨QtC ih, Qty ih, QtE ih, λ X Θ e f ok h => ?_, λ X Θ e f ok h => ?_, λ X Θ e f ok h => ?_, Qtp ih⟩
  ·match e, h with
   | [], h => simp only [Qea] at h; cases h; exact QoH
   | [c], h => simp only [Qea] at h; exact Qpr (ih.T X Θ c f ok h)
   | _ :: _ :: _, h => simp only [Qea] at h; cases h
  ·match e, h with
   | [], h => simp only [QaE] at h; cases h; exact QfV
   | e :: es, h =>
    simp only [QaE] at h
    obtain ⟨fa, fs, h1, h2, rfl⟩ := QK h
    exact QdQ (ih.E X Θ e fa ok h1) (ih.A X Θ es fs ok h2) (Qax h1 es X.env)
  ·match e, h with
   | none, h => simp only [Qgw] at h; cases h; exact QqT
   | some e, h =>
    simp only [Qgw] at h
    obtain ⟨fa, h1, rfl⟩ := Zb.mp h
    exact Qrk (ih.E X Θ e fa ok h1)
section
variable {X : Cx} {st : Stmt} {sts : List Stmt} {e : Expr} {fa : DE} {f g : DS} {gc : DT} {pos : Pos}
noncomputable def QB : DS := λ _ => none
theorem Qo0 : S1 X st QB := λ H0 A0 => QoB.mono λ E σ H ⟨ρ, hs, F, o, rel, e, q⟩ => by cases e
theorem Qfh {g : DT} {fb : DS} : ∀ {n : Nat} {ρ : En} {o : Out}, Qau g fb n ρ = some o -> Qau g fb (n + 1) ρ = some o
 | 0, _, _, h => by cases h
 | n + 1, ρ, o, h => by
  unfold Qau at h ⊢
  obtain ⟨b, hb, h⟩ := bind1 h
  rw [hb]
  cases b with
  | false => exact h
  | true =>
   rw [if_pos rfl] at h
   obtain ⟨o1, ho, h⟩ := bind1 h
   rw [Za, if_pos rfl, ho]
   cases o1 with
   | nx ρ2 => exact Qfh h
   | ct ρ2 => exact Qfh h
   | bk ρ2 => exact h
   | rt d fr => exact h
theorem QkS {g : DT} {fb : DS} {ρ : En} {o : Out} {n m : Nat} (h : Qau g fb n ρ = some o) (hm : n <= m) : Qau g fb m ρ = some o := by
 induction hm with
 | refl => exact h
 | step _ ih => exact Qfh ih
open Classical in
noncomputable def Qb9 (g : DT) (fb : DS) : DS := λ ρ => if h : ∃ n, (Qau g fb n ρ).isSome = true then Qau g fb h.choose ρ else none
theorem Qcm {g : DT} {fb : DS} {ρ : En} {o : Out} : Qb9 g fb ρ = some o ↔ ∃ n, Qau g fb n ρ = some o := by
 unfold Qb9
 constructor
 ·intro h
  split at h
  ·exact ⟨_, h⟩
  ·cases h
 ·rintro ⟨n, h⟩
  have hx : ∃ n, (Qau g fb n ρ).isSome = true := ⟨n, by rw [h]; rfl⟩
  rw [dif_pos hx]
  obtain ⟨o', ho'⟩ := Zbn.mp hx.choose_spec
  have h1 := QkS h (Nat.le_max_left n hx.choose)
  have h2 := QkS ho' (Nat.le_max_right n hx.choose)
  rw [h1] at h2
  rw [ho', ← h2]
theorem Qnn {c : Expr} {body : List Stmt} (hp : PassesOwn (model X.prog X.w) X.A X.env X.xe) (hc : ST X c gc) (hb : SS X body f) : S1 X (.While c body [] pos) (Qb9 gc f) := λ H0 A0 pins s σ H D I h => by
 obtain ⟨ρ, hs, F, o, rel, e, q⟩ := h
 obtain ⟨n, hn⟩ := Qcm.mp e
 exact QoR (n := n) hp hc hb H0 A0 pins s σ H D I ⟨ρ, hs, F, o, rel, hn, q⟩
theorem Qny (g : DT) (fb : DS) (ρ : En) : Qb9 g fb ρ = (g ρ).bind λ b => if b = true then (fb ρ).bind λ o => match o with
  | .nx ρ2 => Qb9 g fb ρ2
  | .ct ρ2 => Qb9 g fb ρ2
  | .bk ρ2 => some (.nx ρ2)
  | .rt d fr => some (.rt d fr)
  else some (.nx ρ) := by
 apply Option.ext
 intro o
 rw [Qcm]
 constructor
 ·rintro ⟨n, h⟩
  cases n with
  | zero => cases h
  | succ n =>
   unfold Qau at h
   obtain ⟨b, hb, h⟩ := bind1 h
   rw [hb]
   cases b with
   | false => exact h
   | true =>
    rw [if_pos rfl] at h
    obtain ⟨o1, ho, h⟩ := bind1 h
    rw [Za, if_pos rfl, ho]
    cases o1 with
    | nx ρ2 => exact Qcm.mpr ⟨n, h⟩
    | ct ρ2 => exact Qcm.mpr ⟨n, h⟩
    | bk ρ2 => exact h
    | rt d fr => exact h
 ·intro h
  obtain ⟨b, hb, h⟩ := bind1 h
  cases b with
  | false => exact ⟨1, by unfold Qau; rw [hb]; exact h⟩
  | true =>
   rw [if_pos rfl] at h
   obtain ⟨o1, ho, h⟩ := bind1 h
   cases o1 with
   | nx ρ2 =>
    obtain ⟨n, hn⟩ := Qcm.mp h
    exact ⟨n + 1, by unfold Qau; rw [hb]; rw [Za, if_pos rfl, ho]; exact hn⟩
   | ct ρ2 =>
    obtain ⟨n, hn⟩ := Qcm.mp h
    exact ⟨n + 1, by unfold Qau; rw [hb]; rw [Za, if_pos rfl, ho]; exact hn⟩
   | bk ρ2 => exact ⟨1, by unfold Qau; rw [hb]; rw [Za, if_pos rfl, ho]; exact h⟩
   | rt d fr => exact ⟨1, by unfold Qau; rw [hb]; rw [Za, if_pos rfl, ho]; exact h⟩
noncomputable def Qgv (t : Tg) (fa : DE) : DS := λ ρ => (fa ρ).bind λ r => (QaT t r.d (Q4 r.norm.M ρ)).map .nx
theorem Qri {tg : Expr} {t : Tg} (he : SE X e fa) (hg : SG X tg t) (hs : swapsWithSole [tg] e pos.line X.env = pure false) (hw : swappedStores [tg] e X.env = pure none) (h1 : (assignEach [tg] X.env).map (·.2) = [assign tg X.env]) :
  S1 X (.Assign [tg] e pos) (Qgv t fa) := λ H0 A0 => (Qid (he H0 A0) (hg H0 A0) hs hw h1).mono λ E σ H ⟨ρ, hs, F, o, rel, e, q⟩ => by
 obtain ⟨r, e1, e⟩ := bind1 e
 obtain ⟨ρ', e2, rfl⟩ := Zb.mp e
 refine ⟨ρ, hs, F, r, rel, e1, λ v H' G p => ?_⟩
 have p' := p.norm
 have rp := p'.rp
 rw [r.Qcu] at rp
 exact ⟨Q4 r.norm.M ρ, hs, F, r.d, G, ρ', (rel.ext p'.same).weak (Qag _ _), rp, Shr.of rel p'.src, e2, λ σ' F' rel' _ _ => q _ _ F' rel'⟩
theorem Qqn {tg iter elt : Expr} {ifs : List Expr} {scope : Scope} {N' : List Str} {fi : DI} {t : Tg} {cap : List (Option Nat)} {ft : DT} {fe : DE} {i : Nat} {x : Str} {pos' spos : Pos} (hN : X.N.Nodup) (hx1 : X.N[i]? = some x) (hx : Loc X.env.scope x) (hf : X.fn x = true ∨ X.env.scope.names.lookup x = some .local)
  (hcalm : X.calm = true) (S : Qdt X N' scope) (hi : SI X tg iter fi) (hcap : QjY X N' scope cap t.slots)
  (hin : ∀ cl C fp s3 H3, SG (cxc X N' scope cl C fp s3 H3) tg t /\ Qk4 (cxc X N' scope cl C fp s3 H3) ifs ft /\ SE (cxc X N' scope cl C fp s3 H3) elt fe) (hs : ∀ x, foldedSetIterable iter X.env x = pure x) :
  S1 X (.Assign [.Name x pos'] (.ListComp elt [⟨tg, iter, ifs, 0⟩] scope pos) spos) (Qt i (QW fi t cap ft fe)) :=
 Qh9 λ H0 A0 => (Qqz hN hx1 hx hf hcalm S (hi H0 A0) (λ cl C fp s3 H3 => ⟨(hin cl C fp s3 H3).1 _ _, (hin cl C fp s3 H3).2.1 _ _, (hin cl C fp s3 H3).2.2 _ _⟩) hs).mono λ E σ H h => Qjr hcap h
end
end HS
namespace HS
open PySem PySem.Spec L2 PyProof.Rows
section
variable {X : Cx} {a b e : Expr} {fa fb : DE} {pf : DP} {x : Nat} {pos apos : Pos}
theorem QqU {X : Cx} {H : Hp} {ds : List D} {w : V} {Gm : List Addr} (h : Rp X.K H (.lst ds) w Gm) : tyV X.K "list" w H := by
 obtain ⟨l, ws, L, rfl, hl, _⟩ := h.lst_inv
 exact .inl ⟨rfl, ws, Q5 hl⟩
theorem QR.unit {K : PySem.W.Frag} {ρ : En} {F : Nat -> List Addr} {H : Hp} : QR K ρ F H H ⟨.non, true, []⟩ .non [] := .flat (Qy.refl _) .Qf1
noncomputable def QpV (x : Nat) (pf : DP) : DS := λ ρ => match ρ[x]? with
 | some (some (d, true)) => (pf ρ).bind λ is => match QcA d is with
  | some (.lst _) => some (.nx (ρ.set x (some (Qbr is d (.lst []), true))))
  | _ => none
 | _ => none
theorem QoQ {H0 : Hp} {A0 : List Addr} {E : Ends} {σ : L2.St} {H : Hp} : tS X.K H0 A0 (QpV x pf) E σ H -> QjV (Qr8 X.K "list" Qn5 (tP X.K H0 A0 x pf)) E σ H := λ ⟨ρ, hs, F, o, rel, e, q⟩ => by
 unfold QpV at e
 split at e
 ·rename_i d hx
  obtain ⟨is, e2, e⟩ := bind1 e
  split at e
  ·rename_i ds hp
   cases e
   refine ⟨ρ, hs, F, d, true, is, .lst ds, rel, hx, e2, hp, λ v0 w H2 Gm s2 hv0 fo => ⟨QqU fo.rp, ?_⟩⟩
   obtain ⟨l, vsm, Gp, rfl, g1, g2, g3, g4, g5, g6, g7⟩ := (rel.ext s2).write .unit rfl Zau hx (by simp) hv0 fo
   refine ⟨l, vsm, rfl, rfl, g1, ?_⟩
   obtain ⟨F', rel'⟩ := g7 [] [] [] (by simp [Rps]) (ZK _) rfl (λ a => by simp)
   exact q _ _ F' rel'
  ·cases e
 ·cases e
end
noncomputable def QdR : Expr -> Bool
 | .ListComp .. => false
 | .SetComp .. => false
 | .DictComp .. => false
 | _ => true
theorem QcO {e : Expr} {t : Option Expr} {l : Nat} {env : Env} (h : QdR e = true) : swapsWith e t l env = pure false := by
 cases e <;> first | rfl | cases h
noncomputable def Qnr : Expr -> Bool
 | .Tuple .. => true
 | _ => false
noncomputable def Qcy (n : Nat) (Θ : Th) (e : Expr) : Option (Nat × DP) := match n with
 | 0 => none
 | n + 1 => match e with
  | .Name x _ => (Θ.slot x).map λ i => (i, Qc5)
  | .Subscript a b _ => (Qcy n Θ a).bind λ q => (Qj n Θ b).map λ fb => (q.1, Qim q.2 fb)
  | _ => none
theorem QhG : ∀ (n : Nat) (X : Cx) (Θ : Th) (e : Expr) (q : Nat × DP), QN X Θ -> Qcy n Θ e = some q -> SPa X e q.1 q.2 /\ attributeBase e = λ _ env w => w
 | 0, _, _, _, _, _, h => by simp [Qcy] at h
 | n + 1, X, Θ, e, q, ok, h => by
  cases e with
  | Name x pos =>
   simp only [Qcy] at h
   obtain ⟨i, hi, rfl⟩ := Zb.mp h
   exact ⟨QoX (Qfa ok.toCtxB hi), by funext a b c; rfl⟩
  | Subscript a b pos =>
   simp only [Qcy] at h
   obtain ⟨q', fb, h1, h2, rfl⟩ := QK h
   exact ⟨Qrj (QhG n X Θ a q' ok h1).1 ((Qa5 n).E X Θ b fb ok h2) (Ql6 h2), by funext a b c; rfl⟩
  | _ => simp [Qcy] at h
noncomputable def Qgy : Expr -> Bool
 | .Name .. => true
 | .Subscript _ (.Slice ..) _ => false
 | .Subscript (.Call ..) _ _ => false
 | .Subscript .. => true
 | _ => false
noncomputable def Qqs : Expr -> Bool
 | .Slice .. => true
 | _ => false
noncomputable def Qir (n : Nat) (Θ : Th) (o : Expr) (m : Str) (args : List Expr) : Option DS := match args with
  | [] => (Qcy n Θ o).bind λ q => if m = "clear" then some (QpV q.1 q.2) else
    none
  | [e] => if m = "append" then
     ((Qcy n Θ o).bind λ q => (Qj n Θ e).map λ fa => QeI q.1 q.2 fa)
    else
    none
  | _ => none
theorem QpM {n : Nat} {X : Cx} {Θ : Th} {o : Expr} {m : Str} {args : List Expr} {f : DS} {apos cpos pos : Pos} (ok : QN X Θ) (h : Qir n Θ o m args = some f) (hl : (apos.endLine == cpos.line) = true) :
  S1 X (.Expr (.Call (.Attribute o m apos) args [] cpos) pos) f := by
 have base : ∀ {q : Nat × DP}, Qcy n Θ o = some q -> SPa X o q.1 q.2 /\ attributeBase o m X.env (eval o X.env) = eval o X.env := λ {q} h1 => by
  obtain ⟨sp, ab⟩ := QhG n X Θ o _ ok h1
  exact ⟨sp, by rw [ab]⟩
 have app : ∀ {e : Expr} {f : DS}, m = "append" -> ((Qcy n Θ o).bind λ q => (Qj n Θ e).map λ fa => QeI q.1 q.2 fa) = some f -> S1 X (.Expr (.Call (.Attribute o m apos) [e] [] cpos) pos) f := λ {e f} em h => by
  obtain ⟨q, fa, h1, h2, rfl⟩ := QK h
  obtain ⟨sp, hb⟩ := base h1
  subst em
  have he := (Qa5 n).E X Θ e fa ok h2
  have st := Qax h2 [] X.env
  have sa : ∀ H0 A0, PA X [e] (Qmy (tV X.K H0 A0 fa) QmB) := λ H0 A0 => Qan (he H0 A0) Qcs st
  exact λ H0 A0 => (Qgn (QtU Zbt PySem.F.slot_list_append PySem.F.type_list_append Qjq (sp H0 A0) (sa H0 A0) hb (by rw [st]; rfl) hl st rfl) rfl).mono λ E σ H q => Qpe q
 match args, h with
 | [], h =>
  unfold Qir at h
  dsimp only at h
  obtain ⟨⟨x, pf⟩, h1, h⟩ := bind1 h
  obtain ⟨sp, hb⟩ := base h1
  by_cases e : m = "clear"
  ·rw [if_pos e] at h; cases h; subst e
   exact λ H0 A0 => (Qgn (QsM Zbt PySem.F.slot_list_clear PySem.F.type_list_clear QpA (sp H0 A0) hb hl) rfl).mono λ E σ H q => QoQ q
  rw [if_neg e] at h
  cases h
 | [e], h =>
  unfold Qir at h
  dsimp only at h
  by_cases em : m = "append"
  ·rw [if_pos em] at h
   exact app em h
  rw [if_neg em] at h
  clear em
  clear app
  cases h
 | _ :: _ :: _, h => exact nomatch (show (none : Option DS) = some _ from h)
end HS
namespace HS
open PySem PySem.Spec L2 PyProof.Rows
noncomputable def QmH (x : Nat) (fy f1 g1 f2 g2 : DE) (ρ : En) : Option Out := if x < ρ.length then (fy ρ).bind λ ry => match ry.d with
 | .lst ds => (g1 ρ).bind λ r1 => (f1 ρ).bind λ k1 => (g2 ρ).bind λ r2 => (f2 ρ).bind λ k2 => match k1.d, k2.d with
  | .int i1, .int i2 => (ixN ds.length i1).bind λ j1 => (ixN ds.length i2).bind λ j2 => some (.nx ((Q4 (ry.M ++ (r1.M ++ r2.M)) ρ).set x (some (.lst ((ds.set j1 r1.d).set j2 r2.d), false))))
  | _, _ => none
 | _ => none else none
noncomputable def Qhu (x : Nat) (fy f1 g1 f2 g2 : DE) : DS := λ ρ => QmH x fy f1 g1 f2 g2 (ρ.set x none)
section
variable {K : PySem.W.Frag} {H0 H H' : Hp} {A0 : List Addr} {hs : List (V × D × List Addr)} {ρ : En} {F : Nat -> List Addr} {σ : L2.St}
theorem Rel.QlW (rel : Rel K H0 A0 hs ρ F σ H) {a : Addr} {zs ys : List V} (ha : H a = some (.lst zs)) (h0 : H0 a = none) (hn : ∀ (i : Nat) d b, ρ[i]? = some (some (d, b)) -> a ∉ F i) (hh : ∀ t ∈ hs, a ∉ t.2.2) : Rel K H0 A0 hs ρ F σ (upd H a (.lst ys)) where
 len := rel.len
 val := λ i d b e => by
  obtain ⟨v, h1, h2⟩ := rel.val i d b e
  exact ⟨v, h1, h2.upd ha (hn i d b e)⟩
 own := rel.own
 src := rel.src
 held := λ t ht => ⟨(rel.held t ht).1.upd ha (hh t ht), (rel.held t ht).2⟩
 same := λ b o hb => by
  have : b ≠ a := λ z => by rw [z, h0] at hb; cases hb
  rw [Qx this]
  exact rel.same b o hb
theorem Rel.put (rel : Rel K H0 A0 hs ρ F σ H) {i : Nat} {v : V} (hi : ∀ d b, ρ[i]? ≠ some (some (d, b))) : Rel K H0 A0 hs ρ F (σ.set i (some v)) H :=
 ⟨by simpa using rel.len, λ j d b e => by
  obtain ⟨w, h1, h2⟩ := rel.val j d b e
  have hj : i ≠ j := λ z => hi d b (z ▸ e)
  exact ⟨w, by rw [Zf hj]; exact h1, h2⟩, rel.own, rel.src, rel.held, rel.same⟩
theorem Src.more {M M' : List Nat} {G : List Addr} (s : Src ρ F H M G) (h : ∀ i ∈ M, i ∈ M') : Src ρ F H M' G := λ a ha => by
 rcases s a ha with z | ⟨i, d, b, e, m, w⟩
 ·exact .inl z
 ·exact .inr ⟨i, d, b, e, m, λ hb => h i (w hb)⟩
end
section
variable {X : Cx} {st1 st2 st3 : Stmt} {sts : List Stmt} {x : Nat} {fy f1 g1 f2 g2 : DE} {g : DS}
theorem QsB (p1 : ∀ H0 A0, PS X st1 (Qf3 (λ σ H Q => tVA X.K H0 A0 (Qb fy Qf) σ H λ xs H1 => ∃ p ys, xs = [.ref p] /\ (SqL X.K H1 p ys ∨ SqT X.K H1 p ys) /\ ∀ l, H1 l = none -> Q (.ref l) (upd H1 l (.lst ys))) (QfC x)))
  (p2 : ∀ H0 A0, PS X st2 (Qf3 (tV X.K H0 A0 g1) (L2.Qbn (QhA x) (tV X.K H0 A0 f1) QjZ))) (p3 : ∀ H0 A0, PS X st3 (Qf3 (tV X.K H0 A0 g2) (L2.Qbn (QhA x) (tV X.K H0 A0 f2) QjZ))) (h : SS X sts g) :
  SS X (st1 :: st2 :: st3 :: sts) (Qe (Qhu x fy f1 g1 f2 g2) g) := λ H0 A0 =>
 (Qet (p1 H0 A0) (Qet (p2 H0 A0) (Qet (p3 H0 A0) (h H0 A0)))).mono λ E σ H ⟨ρ, hs, F, o, rel, e, q⟩ => by
 obtain ⟨o1, e1, e⟩ := bind1 e
 unfold Qhu QmH at e1
 split at e1
 case isFalse => cases e1
 rename_i hx
 have hr0 : ∀ d b, (ρ.set x none)[x]? ≠ some (some (d, b)) := λ d b z => by
  rw [Zj (by simpa using hx)] at z
  cases z
 have rel0 := rel.weak (Qf9 (ρ := ρ) x)
 generalize ρ.set x none = ρ0 at *
 obtain ⟨ry, ey, e1⟩ := bind1 e1
 split at e1
 case h_2 => cases e1
 rename_i ds hds
 obtain ⟨r1, eg1, e1⟩ := bind1 e1
 obtain ⟨k1, ef1, e1⟩ := bind1 e1
 obtain ⟨r2, eg2, e1⟩ := bind1 e1
 obtain ⟨k2, ef2, e1⟩ := bind1 e1
 split at e1
 case h_2 => cases e1
 rename_i i1 i2 hk1 hk2
 obtain ⟨j1, ej1, e1⟩ := bind1 e1
 obtain ⟨j2, ej2, e1⟩ := bind1 e1
 cases e1
 refine ⟨ρ0, hs, F, ⟨[ry.d], ry.fr && true, ry.M ++ []⟩, rel0, by simp [Qb, Qf, ey], λ vs H1 G q1 => ?_⟩
 have rp := q1.rp
 dsimp only at rp
 rw [hds] at rp
 obtain ⟨v, rfl, rq⟩ := rp.one
 obtain ⟨l, ws, L, rfl, hl, rl, zl, el⟩ := rq.lst_inv
 have memL : ∀ a ∈ L, a ∈ G := λ a ha => by
  rcases el with rfl | rfl
  ·exact Zd _ ha
  ·exact ha
 refine ⟨l, ws, rfl, .inl (Q5 hl), λ c hc => ?_⟩
 have relx := rel0.ext q1.same
 have nfr : ∀ (i : Nat) d b, ρ0[i]? = some (some (d, b)) -> c ∉ F i := λ i d b ei hci => by
  obtain ⟨zs, z⟩ := relx.mem ei hci
  rw [hc] at z; cases z
 have nhs : ∀ t ∈ hs, c ∉ t.2.2 := λ t ht hct => by
  obtain ⟨zs, z⟩ := (relx.held t ht).1.mem c hct
  rw [hc] at z; cases z
 have h0c : H0 c = none := relx.same.free hc
 have nL : c ∉ L := λ z => by
  obtain ⟨zs, y⟩ := rl.mem c z
  rw [hc] at y; cases y
 have sU : Qy H1 (upd H1 c (.lst ws)) := λ b o eb => by
  have : b ≠ c := λ z => by rw [z, hc] at eb; cases eb
  rw [Qx this]; exact eb
 have relA := (relx.ext sU).put (i := x) (v := .ref c) hr0
 have hσ : (σ.set x (some (.ref c)))[x]? = some (some (.ref c)) := Zj (by rw [← rel0.len]; exact hx)
 generalize hσ' : σ.set x (some (V.ref c)) = σ1 at relA hσ
 show QrR _ _ E (σ.set x (some (.ref c))) _
 rw [hσ']
 have hc2 : upd H1 c (.lst ws) c = some (.lst ws) := QX
 have rl2 := rl.same sU
 generalize upd H1 c (.lst ws) = H2 at relA hc2 rl2
 refine ⟨ρ0, hs, F, r1, relA, eg1, λ v1 H3 G1 q2 => ⟨.ref c, hσ, ρ0, hs, F, k1, relA.ext q2.same, ef1, λ u1 H4 Gi q3 => ?_⟩⟩
 have hc4 := q3.same _ _ (q2.same _ _ hc2)
 have ru := q3.rp
 rw [hk1] at ru
 refine ⟨c, ws, i1, j1, rfl, ru.int_inv, hc4, by rw [← rl.length]; exact ej1, ?_⟩
 have nG1 : c ∉ G1 := λ z => by
  rcases q2.src c z with y | ⟨i, d, b, ei, m, _⟩
  ·rw [hc2] at y; cases y
  ·exact nfr i d b ei m
 have hj1 := (QdW ej1).2.1
 obtain ⟨G', m1, m2⟩ := Qi2 hc4 ((rl2.same q2.same).same q3.same) nL nG1 (q2.rp.same q3.same) hj1
 have relB := ((relA.ext q2.same).ext q3.same).QlW (ys := ws.set j1 v1) hc4 h0c nfr nhs
 have hc5 : upd H4 c (.lst (ws.set j1 v1)) c = some (.lst (ws.set j1 v1)) := QX
 generalize upd H4 c (.lst (ws.set j1 v1)) = H5 at relB hc5 m1
 refine ⟨ρ0, hs, F, r2, relB, eg2, λ v2 H6 G2 q4 => ⟨.ref c, hσ, ρ0, hs, F, k2, relB.ext q4.same, ef2, λ u2 H7 Gj q5 => ?_⟩⟩
 have hc7 := q5.same _ _ (q4.same _ _ hc5)
 have rw2 := q5.rp
 rw [hk2] at rw2
 refine ⟨c, ws.set j1 v1, i2, j2, rfl, rw2.int_inv, hc7, by rw [Zal, ← rl.length]; exact ej2, ?_⟩
 have nG2 : c ∉ G2 := λ z => by
  rcases q4.src c z with y | ⟨i, d, b, ei, m, _⟩
  ·rw [hc5] at y; cases y
  ·exact nfr i d b ei m
 have nG' : c ∉ G' := λ z => (m2 c z).elim nL nG1
 have hj2 := (QdW ej2).2.1
 obtain ⟨G'', n1, n2⟩ := Qi2 hc7 ((m1.same q4.same).same q5.same) nG' nG2 (q4.rp.same q5.same) (by rw [Zal]; exact hj2)
 have relC := ((relB.ext q4.same).ext q5.same).QlW (ys := (ws.set j1 v1).set j2 v2) hc7 h0c nfr nhs
 have hc8 : upd H7 c (.lst ((ws.set j1 v1).set j2 v2)) c = some (.lst ((ws.set j1 v1).set j2 v2)) := QX
 generalize upd H7 c (.lst ((ws.set j1 v1).set j2 v2)) = H8 at relC hc8 n1
 have sh0 := Shr.of rel0 (q1.src.more (M' := ry.M ++ (r1.M ++ r2.M)) λ i hi => by
  have hi : i ∈ ry.M ++ [] := hi
  rw [Zac] at hi
  exact Ze _ hi)
 have sh1 := Shr.of relA (q2.src.more (M' := ry.M ++ (r1.M ++ r2.M)) λ i hi => Zc _ (Ze _ hi))
 have sh2 := Shr.of relB (q4.src.more (M' := ry.M ++ (r1.M ++ r2.M)) λ i hi => Zc _ (Zc _ hi))
 have sh : Shr H0 A0 (Q4 (ry.M ++ (r1.M ++ r2.M)) ρ0) F (c :: G'') := λ a ha => by
  rcases Zq.mp ha with rfl | ha
  ·refine ⟨.inl h0c, λ i d ei hm => ?_⟩
   obtain ⟨b', e', _⟩ := (Qag _ ρ0).2 i d true ei
   exact nfr i d b' e' hm
  ·rcases n2 a ha with z | z
   ·rcases m2 a z with y | y
    ·exact sh0 a (memL a y)
    ·exact sh1 a y
   ·exact sh2 a z
 have relD := (relC.weak (Qag (ry.M ++ (r1.M ++ r2.M)) ρ0)).Qk3 (i := x) (d := .lst ((ds.set j1 r1.d).set j2 r2.d)) (v := .ref c) (Rp.Qdw hc8 n1 (by rw [Zal, Zal]; exact zl)) sh
 have hs1 : σ1.set x (some (.ref c)) = σ1 := by rw [← hσ', List.set_set]
 rw [hs1] at relD
 exact ⟨_, hs, _, o, relD, e, q⟩
end
structure Swp where
 x : Str
 y : Expr
 i1 : Expr
 e1 : Expr
 i2 : Expr
 e2 : Expr
 r : List Stmt
noncomputable def QmJ : List Stmt -> Option Swp
 | .Assign [.Name x _] (.Call (.Name f _) [y] [] _) _ :: .Assign [.Subscript (.Name x1 _) i1 _] e1 _ :: .Assign [.Subscript (.Name x2 _) i2 _] e2 _ :: r => if f = "list" /\ x1 = x /\ x2 = x then some ⟨x, y, i1, e1, i2, e2, r⟩ else none
 | _ => none
theorem Qpv {sts : List Stmt} {q : Swp} (h : QmJ sts = some q) : ∃ p1 p2 p3 p4 a1 a2 a3 b1 b2 b3, sts = .Assign [.Name q.x p1] (.Call (.Name "list" p2) [q.y] [] p3) p4 :: .Assign [.Subscript (.Name q.x a1) q.i1 a2] q.e1 a3 :: .Assign [.Subscript (.Name q.x b1) q.i2 b2] q.e2 b3 :: q.r := by
 unfold QmJ at h
 split at h
 ·split at h
  ·rename_i hc
   obtain ⟨rfl, rfl, rfl⟩ := hc
   cases h
   exact ⟨_, _, _, _, _, _, _, _, _, _, rfl⟩
  ·cases h
 ·cases h
end HS
namespace HS
open PySem PySem.Spec L2 PyProof.Rows
mutual
noncomputable def QhI (n : Nat) (Θ : Th) (st : Stmt) : Option DS := match n with
 | 0 => none
 | n + 1 => match st with
  | .Pass _ => some Ql
  | .Break _ => some Qph
  | .Continue _ => some QoJ
  | .Raise _ _ _ => some QB
  | .Return none _ => some Qmn
  | .Return (some e) _ => (Qj n Θ e).map QL
  | .Expr (.Constant (.str _) _ _) _ => some Ql
  | .Expr (.Call (.Attribute o m apos) args [] cpos) _ => if (apos.endLine == cpos.line) = true then Qir n Θ o m args else none
  | .Expr (.Call (.Name x p) args [] cpos) _ => (Qj n Θ (.Call (.Name x p) args [] cpos)).map Qds
  | .Assign [.Name x _] e _ => (Θ.Qb2 x).bind λ i => (Qj n Θ e).map λ fa => Qt i (if Qgy e = true then Q9 fa else fa)
  | .Assign [.Tuple es k p] e _ => if QdR e = true /\ Qnr e = false then (Qd2 Θ (.Tuple es k p)).bind λ t => (Qj n Θ e).map λ fa => Qgv t fa else none
  | .Assign [.Subscript a i _] e _ => (Qcy n Θ a).bind λ q => (Qj n Θ i).bind λ fi => (Qj n Θ e).map λ fa => Qfd q.1 q.2 fi fa
  | .If c a b _ => (Qat n Θ c).bind λ g => (Qaa n Θ a).bind λ f1 => (Qaa n Θ b).map λ f2 => sIf g f1 f2
  | .For tg iter body [] _ => (Qd2 Θ tg).bind λ t => (QdH n Θ tg iter).bind λ fi => (Qaa n Θ body).map λ fb => QcV fi t fb
  | .While c body [] _ => (Qat n Θ c).bind λ g => (Qaa n Θ body).map λ fb => Qb9 g fb
  | .Try a b c d p => Θ.tr (.Try a b c d p)
  | _ => none
noncomputable def Qaa (n : Nat) (Θ : Th) (sts : List Stmt) : Option DS := match n with
 | 0 => none
 | n + 1 => match sts with
  | [] => some Ql
  | st :: r => match QmJ (st :: r) with
   | some q => if Θ.gl "list" = true then (Θ.Qb2 q.x).bind λ x => (Θ.slot q.x).bind λ x' => if x' = x then (Qj n Θ q.y).bind λ fy => (Qj n Θ q.i1).bind λ f1 => (Qj n Θ q.e1).bind λ g1 => (Qj n Θ q.i2).bind λ f2 => (Qj n Θ q.e2).bind λ g2 => (Qaa n Θ q.r).map λ g => Qe (Qhu x fy f1 g1 f2 g2) g else none else none
   | none => (QhI n Θ st).bind λ f => (Qaa n Θ r).map λ g => Qe f g
end
theorem QiL {n : Nat} {Θ : Th} {e : Expr} {f : DE} (h : Qj n Θ e = some f) : Qqs e = false := by
 cases n with
 | zero => exact nomatch (show (none : Option DE) = some _ from h)
 | succ n => cases e <;> first | rfl | (exact nomatch (show (none : Option DE) = some _ from h))
theorem Qrt {n : Nat} {Θ : Th} {elt : Expr} {gens : List Comprehension} {scope : Scope} {pos : Pos} {f : DE} (h : Qj n Θ (.ListComp elt gens scope pos) = some f) : ∃ m tg iter ifs t fi ft fe, n = m + 1 /\ gens = [⟨tg, iter, ifs, 0⟩] /\ Qd2 (inner Θ scope) tg = some t /\ Qil Θ scope t = true ∧
  QdH m Θ tg iter = some fi /\ Qea m (inner Θ scope) ifs = some ft /\ Qj m (inner Θ scope) elt = some fe /\ f = QW fi t (QgJ Θ scope) ft fe := by
 cases n with
 | zero => exact nomatch (show (none : Option DE) = some _ from h)
 | succ n =>
  match gens, h with
  | [⟨tg, iter, ifs, k⟩], h =>
   by_cases hk : k = 0
   ·subst hk
    (conv at h => lhs; whnf)
    obtain ⟨t, ht, h⟩ := bind1 h
    split at h
    ·rename_i hc
     simp only [Zg] at hc
     obtain ⟨fi, h1, h⟩ := bind1 h
     obtain ⟨ft, fe, h2, h3, rfl⟩ := QK h
     exact ⟨n, tg, iter, ifs, t, fi, ft, fe, rfl, rfl, ht, hc.1, h1, h2, h3, rfl⟩
    ·cases h
   ·exfalso
    cases k with
    | ofNat k =>
     cases k with
     | zero => exact hk rfl
     | succ k => exact nomatch (show (none : Option DE) = some _ from h)
    | negSucc k => exact nomatch (show (none : Option DE) = some _ from h)
  | [], h => exact nomatch (show (none : Option DE) = some _ from h)
  | ⟨_, _, _, .ofNat 0⟩ :: _ :: _, h => exact nomatch (show (none : Option DE) = some _ from h)
  | ⟨_, _, _, .ofNat (k + 1)⟩ :: _ :: _, h => exact nomatch (show (none : Option DE) = some _ from h)
  | ⟨_, _, _, .negSucc k⟩ :: _ :: _, h => exact nomatch (show (none : Option DE) = some _ from h)
theorem QrG {n : Nat} {X : Cx} {Θ : Th} {x : Str} {p pos : Pos} {e : Expr} {fa : DE} {i : Nat} (ok : QN X Θ) (hx : Θ.Qb2 x = some i) (h : Qj n Θ e = some fa) : S1 X (.Assign [.Name x p] e pos) (Qt i fa) := by
 have hN : X.N.Nodup := by rw [ok.N]; exact ok.nd
 obtain ⟨h1, h2, h3⟩ := Qca ok.toCtxB hx
 by_cases hc : QdR e = true
 ·have he := (Qa5 n).E X Θ e fa ok h
  exact Qh9 λ H0 A0 => Qe0 hN h1 h2 (he H0 A0) (QcO hc) h3
 ·cases e with
  | ListComp elt gens scope cpos =>
   obtain ⟨m, tg, iter, ifs, t, fi, ft, fe, rfl, rfl, ht, hco, g1, g2, g3, rfl⟩ := Qrt h
   obtain ⟨S, cap, inn⟩ := Qkd ok hco
   obtain ⟨i1, i2⟩ := (Qa5 m).I X Θ tg iter fi ok g1
   exact Qqn hN h1 h2 h3 ok.calm S i1 cap (λ cl C fp s3 H3 => ⟨QhN (inn cl C fp s3 H3) ht, (Qa5 m).Ts _ _ ifs ft (inn cl C fp s3 H3) g2, (Qa5 m).E _ _ elt fe (inn cl C fp s3 H3) g3⟩) i2
  | SetComp _ _ _ _ => cases n <;> exact nomatch (show (none : Option DE) = some _ from h)
  | DictComp _ _ _ _ _ => cases n <;> exact nomatch (show (none : Option DE) = some _ from h)
  | _ => exact absurd rfl hc
theorem QoN {X : Cx} {x : Str} {p pos : Pos} {e : Expr} {fa : DE} {i : Nat} {n : Nat} {Θ : Th} (ok : QN X Θ) (hx : Θ.Qb2 x = some i) (h : Qj n Θ e = some fa) (ha : Qgy e = true) : S1 X (.Assign [.Name x p] e pos) (Qt i (Q9 fa)) := by
 have hN : X.N.Nodup := by rw [ok.N]; exact ok.nd
 obtain ⟨h1, h2, h3⟩ := Qca ok.toCtxB hx
 have hc : QdR e = true := by cases e <;> first | rfl | cases ha
 have he := QpC ((Qa5 n).E X Θ e fa ok h)
 exact Qh9 λ H0 A0 => Qe0 hN h1 h2 (he H0 A0) (QcO hc) h3
theorem Qf4 {a i e : Expr} {p : Pos} {l : Nat} {env : Env} : swapsWithSole [.Subscript a i p] e l env = pure false := by
 cases e <;> rfl
structure Qsq (n : Nat) : Prop where
 S : ∀ X Θ st f, QN X Θ -> QhI n Θ st = some f -> S1 X st f
 Ss : ∀ X Θ sts f, QN X Θ -> Qaa n Θ sts = some f -> SS X sts f
theorem Qs7 {n : Nat} (ih : Qsq n) : ∀ X Θ st f, QN X Θ -> QhI (n + 1) Θ st = some f -> S1 X st f := by
 intro X Θ st f ok h
 have hN : X.N.Nodup := by rw [ok.N]; exact ok.nd
 have E := Qa5 n
 cases st with
 | Pass pos => change some Ql = some f at h; cases h; exact Qqr
 | Break pos => change some Qph = some f at h; cases h; exact QoO
 | Continue pos => change some QoJ = some f at h; cases h; exact Qqx
 | Raise a b pos => change some QB = some f at h; cases h; exact Qo0
 | Return e pos =>
  cases e with
  | none => change some Qmn = some f at h; cases h; exact Qq2
  | some e =>
   change (Qj n Θ e).map QL = some f at h
   obtain ⟨fa, h1, rfl⟩ := Zb.mp h
   exact Qm2 (E.E X Θ e fa ok h1)
 | Expr e pos =>
  cases e with
  | Constant c k p =>
   cases c with
   | str x =>
    change some Ql = some f at h
    cases h
    exact λ H0 A0 => QsJ.mono λ E σ H ⟨ρ, hs, F, o, rel, e, q⟩ => by cases e; exact q σ H F rel
   | _ => exact nomatch (show (none : Option DS) = some _ from h)
  | Call fn args kws cpos =>
   cases fn with
   | Attribute o m apos =>
    cases kws with
    | nil =>
     change (if (apos.endLine == cpos.line) = true then Qir n Θ o m args else none) = some f at h
     split at h
     ·rename_i hl
      exact QpM ok h hl
     ·cases h
    | cons _ _ => exact nomatch (show (none : Option DS) = some _ from h)
   | Name x p =>
    cases kws with
    | nil =>
     change (Qj n Θ (.Call (.Name x p) args [] cpos)).map Qds = some f at h
     obtain ⟨fa, h1, rfl⟩ := Zb.mp h
     exact λ H0 A0 => QqF (Qgn (E.E X Θ _ fa ok h1 H0 A0) rfl)
    | cons _ _ => exact nomatch (show (none : Option DS) = some _ from h)
   | _ => exact nomatch (show (none : Option DS) = some _ from h)
  | _ => exact nomatch (show (none : Option DS) = some _ from h)
 | Assign ts e pos =>
  match ts, h with
  | [t], h =>
   cases t with
   | Name x p =>
    change ((Θ.Qb2 x).bind λ i => (Qj n Θ e).map λ fa => Qt i (if Qgy e = true then Q9 fa else fa)) = some f at h
    obtain ⟨i, fa, h1, h2, rfl⟩ := QK h
    split
    ·rename_i ha; exact QoN ok h1 h2 ha
    ·exact QrG ok h1 h2
   | Tuple es k p =>
    change (if QdR e = true /\ Qnr e = false then (Qd2 Θ (.Tuple es k p)).bind λ t => (Qj n Θ e).map λ fa => Qgv t fa else none) = some f at h
    split at h
    ·rename_i hc
     obtain ⟨t, fa, h1, h2, rfl⟩ := QK h
     refine Qri (E.E X Θ e fa ok h2) (QhN ok h1) (by show swapsWith e (some (.Tuple es k p)) pos.line X.env = pure false; exact QcO hc.1) ?_ rfl
     cases e <;> first | rfl | (cases hc.2)
    ·cases h
   | Subscript a i p =>
    change ((Qcy n Θ a).bind λ q => (Qj n Θ i).bind λ fi => (Qj n Θ e).map λ fa => Qfd q.1 q.2 fi fa) = some f at h
    obtain ⟨q, h1, h⟩ := bind1 h
    obtain ⟨fi, fa, h2, h3, rfl⟩ := QK h
    obtain ⟨sp, _⟩ := QhG n X Θ a q ok h1
    have ns := QiL h2
    refine QrY (E.E X Θ e fa ok h3) sp (E.E X Θ i fi ok h2) λ te to ti he ho hi => Qid he (Qko ho hi set_list ?_) Qf4 ?_ rfl
    ·intro v; cases i <;> first | rfl | (cases ns)
    ·cases e <;> rfl
   | _ => exact nomatch (show (none : Option DS) = some _ from h)
  | [], h => exact nomatch (show (none : Option DS) = some _ from h)
  | t :: _ :: _, h => cases t <;> exact nomatch (show (none : Option DS) = some _ from h)
 | AugAssign t op e pos =>
  cases t with
  | _ => exact nomatch (show (none : Option DS) = some _ from h)
 | If c a b pos =>
  change ((Qat n Θ c).bind λ g => (Qaa n Θ a).bind λ f1 => (Qaa n Θ b).map λ f2 => sIf g f1 f2) = some f at h
  obtain ⟨g, h1, h⟩ := bind1 h
  obtain ⟨f1, f2, h2, h3, rfl⟩ := QK h
  exact Qtl (E.T X Θ c g ok h1) (ih.Ss X Θ a f1 ok h2) (ih.Ss X Θ b f2 ok h3)
 | For tg iter body els pos =>
  cases els with
  | nil =>
   change ((Qd2 Θ tg).bind λ t => (QdH n Θ tg iter).bind λ fi => (Qaa n Θ body).map λ fb => QcV fi t fb) = some f at h
   obtain ⟨t, h1, h⟩ := bind1 h
   obtain ⟨fi, fb, h2, h3, rfl⟩ := QK h
   obtain ⟨i1, i2⟩ := E.I X Θ tg iter fi ok h2
   exact QrS ok.pass ok.calm i1 (QhN ok h1) (ih.Ss X Θ body fb ok h3) i2
  | cons _ _ => exact nomatch (show (none : Option DS) = some _ from h)
 | While c body els pos =>
  cases els with
  | nil =>
   change ((Qat n Θ c).bind λ g => (Qaa n Θ body).map λ fb => Qb9 g fb) = some f at h
   obtain ⟨g, fb, h1, h2, rfl⟩ := QK h
   exact Qnn ok.pass (E.T X Θ c g ok h1) (ih.Ss X Θ body fb ok h2)
  | cons _ _ => exact nomatch (show (none : Option DS) = some _ from h)
 | Try a b c d pos => exact ok.tr _ _ h
 | _ => exact nomatch (show (none : Option DS) = some _ from h)
theorem QgG : ∀ n, Qsq n
 | 0 => ⟨λ _ _ _ _ _ h => (nomatch (show (none : Option DS) = some _ from h)), λ _ _ _ _ _ h => (nomatch (show (none : Option DS) = some _ from h))⟩
 | n + 1 => by
  have ih := QgG n
  refine ⟨Qs7 ih, λ X Θ sts f ok h => ?_⟩
  match sts, h with
  | [], h => change some Ql = some f at h; cases h; exact QnH
  | st :: r, h =>
   change (match QmJ (st :: r) with
    | some q => if Θ.gl "list" = true then (Θ.Qb2 q.x).bind λ x => (Θ.slot q.x).bind λ x' => if x' = x then (Qj n Θ q.y).bind λ fy => (Qj n Θ q.i1).bind λ f1 => (Qj n Θ q.e1).bind λ g1 => (Qj n Θ q.i2).bind λ f2 => (Qj n Θ q.e2).bind λ g2 => (Qaa n Θ q.r).map λ g => Qe (Qhu x fy f1 g1 f2 g2) g else none else none
    | none => (QhI n Θ st).bind λ f => (Qaa n Θ r).map λ g => Qe f g) = some f at h
   split at h
   ·rename_i q hq
    split at h
    case isFalse => cases h
    rename_i hg
    obtain ⟨x, hx, h⟩ := bind1 h
    obtain ⟨x', hx', h⟩ := bind1 h
    split at h
    case isFalse => cases h
    rename_i hxx
    subst hxx
    obtain ⟨fy, h1, h⟩ := bind1 h
    obtain ⟨f1, h2, h⟩ := bind1 h
    obtain ⟨g1, h3, h⟩ := bind1 h
    obtain ⟨f2, h4, h⟩ := bind1 h
    obtain ⟨g2, g, h5, h6, rfl⟩ := QK h
    obtain ⟨p1, p2, p3, p4, a1, a2, a3, b1, b2, b3, hs⟩ := Qpv hq
    rw [hs]
    have E := Qa5 n
    have hN : X.N.Nodup := by rw [ok.N]; exact ok.nd
    obtain ⟨g1', g2', g3'⟩ := Qbh ok.toCtxB hg
    obtain ⟨l1, l2, l3⟩ := Qca ok.toCtxB hx
    have n1 := QiL h2
    have n2 := QiL h4
    refine QsB (λ H0 A0 => Qe0 hN l1 l2 (Qjk Qgc g1' (ok.mg _ (by decide +kernel)) ZaM (QdQ (E.E X Θ q.y fy ok h1) QfV (Qax h1 _ _) H0 A0) (by decide) (by decide) (Qax h1 _ _) rfl) (QcO rfl) l3) (λ H0 A0 => Qid (E.E X Θ q.e1 g1 ok h3 H0 A0) (Qko (Qfa ok.toCtxB hx') (E.E X Θ q.i1 f1 ok h2 H0 A0) set_list ?_) Qf4 ?_ rfl) (λ H0 A0 => Qid (E.E X Θ q.e2 g2 ok h5 H0 A0) (Qko (Qfa ok.toCtxB hx') (E.E X Θ q.i2 f2 ok h4 H0 A0) set_list ?_) Qf4 ?_ rfl) (ih.Ss X Θ q.r g ok h6)
    ·intro v; cases hi : q.i1 <;> first | rfl | (rw [hi] at n1; cases n1)
    ·cases q.e1 <;> rfl
    ·intro v; cases hi : q.i2 <;> first | rfl | (rw [hi] at n2; cases n2)
    ·cases q.e2 <;> rfl
   ·obtain ⟨fs, fr, h1, h2, rfl⟩ := QK h
    exact QiI (ih.S X Θ st fs ok h1) (ih.Ss X Θ r fr ok h2)
noncomputable def QbQ (k : Nat) (ds : List D) : En := ds.map (λ d => some (d, d.flat)) ++ List.replicate (k - ds.length) none
noncomputable def outD : Out -> Option (D × Bool)
 | .rt d fr => some (d, fr)
 | .nx _ => some (.non, true)
 | _ => none
noncomputable def Qn (k : Nat) (f : DS) : Den := λ ds => (f (QbQ k ds)).bind outD
theorem Rps.parts {K : PySem.W.Frag} {H : Hp} : ∀ {ds : List D} {vs : List V} {F : List Addr}, Rps K H ds vs F →
  ∃ Fs : List (List Addr), (∀ L ∈ Fs, ∀ a ∈ L, a ∈ F) /\ ∀ (i : Nat) (d : D), ds[i]? = some d -> ∃ v, vs[i]? = some v /\ Rp K H d v (Fs.getD i [])
 | [], _, _, h => ⟨[], λ L hL => by simp at hL, λ i d e => by simp at e⟩
 | d :: ds, _, _, h => by
  simp only [Rps] at h
  obtain ⟨v, ws, F1, F2, rfl, rfl, r, q⟩ := h
  obtain ⟨Fs, h1, h2⟩ := Rps.parts q
  refine ⟨F1 :: Fs, λ L hL a ha => ?_, λ i d' e => ?_⟩
  ·rcases Zq.mp hL with rfl | hL
   ·exact Ze _ ha
   ·exact Zc _ (h1 L hL a ha)
  ·cases i with
   | zero => simp at e; subst e; exact ⟨v, by simp, by simpa using r⟩
   | succ i => obtain ⟨w, hw, hr⟩ := h2 i d' (by simpa using e); exact ⟨w, by simpa using hw, by simpa using hr⟩
theorem QgV {k : Nat} {ds : List D} {i : Nat} {d : D} {b : Bool} (h : (QbQ k ds)[i]? = some (some (d, b))) : ds[i]? = some d /\ b = d.flat := by
 unfold QbQ at h
 by_cases hi : i < ds.length
 ·rw [Zae (by simpa using hi), Zk] at h
  cases e : ds[i]? with
  | none => rw [e] at h; cases h
  | some a => rw [e] at h; cases h; exact ⟨rfl, rfl⟩
 ·rw [Zbf (by simpa using hi), Zbp] at h
  split at h <;> cases h
theorem QfM {K : PySem.W.Frag} {H : Hp} {ds : List D} {vs : List V} {F : List Addr} {N : List Str} (r : Rps K H ds vs F) : ∃ F0, Rel K H F [] (QbQ N.length ds) F0 (start N vs) H := by
 obtain ⟨Fs, h1, h2⟩ := r.parts
 have hl := r.length
 have src : ∀ i a, a ∈ Fs.getD i [] -> a ∈ F := λ i a ha => by
  by_cases hi : i < Fs.length
  ·have : Fs.getD i [] ∈ Fs := by rw [Zaa, Zah hi]; exact List.getElem_mem hi
   exact h1 _ this a ha
  ·rw [Zaa, Zp (by omega)] at ha; simp at ha
 refine ⟨λ i => Fs.getD i [], ?_, λ i d b e => ?_, λ i d e => ?_, λ i d b e a ha => .inr (src i a ha), λ t ht => absurd ht (by simp), Qy.refl _⟩
 ·unfold QbQ L2.start; simp [hl]
 ·obtain ⟨e1, _⟩ := QgV e
  obtain ⟨v, hv, hr⟩ := h2 i d e1
  refine ⟨v, ?_, hr⟩
  have hi : i < vs.length := (Zh.mp hv).1
  unfold L2.start
  rw [Zae (by simpa using hi), Zk, hv]; rfl
 ·obtain ⟨e1, e2⟩ := QgV e
  obtain ⟨v, hv, hr⟩ := h2 i d e1
  have z : Fs.getD i [] = [] := hr.QbZ e2.symm
  simp only [z]
  exact ⟨(QdS d e2.symm).symm, Zau, λ a ha => by simp at ha, λ _ _ _ _ _ a ha => by simp at ha, λ _ _ a ha => by simp at ha⟩
section
variable (P : Program) (w : World) (K : PySem.W.Frag) (mg : Str -> Option Value) (base : Heap)
def Known (k : Nat) (x : Str) (r : FnR) : Prop := ∃ f fd ps, QaS P w K mg base CX0 k f fd ps (spV K r.n r.den) /\ mg x = some (.ref f) /\ PySem.W.keepIn K (.ref f) = true ∧
 ∀ m, m <= r.dfl.length -> ∃ ds dvs, Binds K fd ps ds /\ Qr dvs ds /\ ∀ H, Rps K H (r.dfl.drop (r.dfl.length - m)) dvs []
def Qba (k : Nat) (Γ : List (Str × FnR)) : Prop := ∀ x r, look x Γ = some r -> Known P w K mg base k x r
structure QdG (cs : List (Str × Int)) : Prop where
 bn : ∀ x ∈ QkM, mg x = none
 cs : ∀ x i, look x cs = some i -> ∃ t, mg x = some (.int i t)
end
section
variable {P : Program} {w : World} {K : PySem.W.Frag} {mg : Str -> Option Value} {base : Heap}
theorem Qba.nil {k : Nat} : Qba P w K mg base k [] := λ x r h => by cases h
theorem Known.mono {j k : Nat} {x : Str} {r : FnR} (h : Known P w K mg base j x r) (hk : j <= k) : Known P w K mg base k x r := by
 obtain ⟨f, fd, ps, h1, h2⟩ := h
 exact ⟨f, fd, ps, h1.mono hk, h2⟩
theorem Qba.cons {k : Nat} {Γ : List (Str × FnR)} {x : Str} {r : FnR} (t : Qba P w K mg base k Γ) (h : Known P w K mg base (k + 1) x r) : Qba P w K mg base (k + 1) ((x, r) :: Γ) := λ y q e => by
 unfold look at e
 split at e
 ·rename_i z; cases e; subst z; exact h
 ·exact (t y q e).mono (Zz _)
noncomputable def namesOf (sc : Scope) : List Str := (sc.names.filter λ y => Qp2 y.2).map (·.1)
noncomputable def Qd3 (st : Stmt) (Γ : List (Str × FnR)) (cs : List (Str × Int)) : Th := ⟨namesOf (Qg st), (Qg st).names, Γ, cs, λ _ => none⟩
theorem Ql1 {CX : CXT} {xe : Value -> Shared -> Prop} {st : Stmt} {ps : List Str} {qual : Str} {f : Addr} {cdv : Value} {A : Around} {outer : List Env} {s : Shared} {H : Hp} {E : XK} {k : Nat} {Γ : List (Str × FnR)} {cs : List (Str × Int)} (S : Qbm (namesOf (Qg st)) ps (Qg st)) (M : QdG mg cs) (tab : Qba P w K mg base k Γ)
  (hr : Q7 k (A.deeper (envOfC qual (Qg st) s.heap.objs.size f cdv))) (hp : PassesOwn (model P w) (A.deeper (envOfC qual (Qg st) s.heap.objs.size f cdv)) (envOfC qual (Qg st) s.heap.objs.size f cdv) xe) :
  QN ((QdF CX P w K mg base (namesOf (Qg st)) qual (Qg st) f cdv A outer s H E).Qdm xe) (Qd3 st Γ cs) where
 N := rfl
 nd := S.nd
 lc := λ x h => by rw [QaX] at h; exact h
 ce := λ x h => by rw [QaX] at h; exact ⟨h, rfl⟩
 fe := λ x h => by rw [QaX] at h; exact absurd rfl (S.nofree _ (ZP h))
 gl := λ x h => by rw [QaX] at h; exact h
 calm := decide_eq_true hr.hd
 pass := hp
 tr := λ _ _ h => by cases h
 units := hr.units
 mg := M.bn
 fns := λ x r h => by
  obtain ⟨f', fd, ps', h1, h2, h3, h4⟩ := tab x r h
  exact ⟨k, f', fd, ps', h1, hr, h2, h3, h4⟩
 cs := M.cs
theorem QnV {st : Stmt} {ps : List Str} {qual : Str} {f : Addr} {cdv : Value} {A : Around} {outer : List Env} {s : Shared} {H : Hp} {E : XK} {k : Nat} {Γ : List (Str × FnR)} {cs : List (Str × Int)} (S : Qbm (namesOf (Qg st)) ps (Qg st)) (M : QdG mg cs) (tab : Qba P w K mg base k Γ)
  (hr : Q7 k (A.deeper (envOfC qual (Qg st) s.heap.objs.size f cdv))) : QN (QdF CX0 P w K mg base (namesOf (Qg st)) qual (Qg st) f cdv A outer s H E).nox (Qd3 st Γ cs) := Ql1 S M tab hr PassesOwn.never
theorem Qou {x qual : Str} {st : Stmt} {f : Addr} {fd : FuncData} {ps : List Str} {k n : Nat} {Γ : List (Str × FnR)} {cs : List (Str × Int)} {g : DS} (F : Fun K x qual st f fd) (S : Qbm (namesOf (Qg st)) ps (Qg st)) (M : QdG mg cs) (tab : Qba P w K mg base k Γ)
  (hc : Qaa n (Qd3 st Γ cs) (Qap st) = some g) : QaS P w K mg base CX0 (k + 1) f fd ps (spV K ps.length (Qn (namesOf (Qg st)).length g)) := by
 refine F.ok S (QlE rfl) λ cdv A outer s H vs Q E hr h => ?_
 obtain ⟨ds, L, d, fr, rps, hl, hd, q⟩ := h
 refine ⟨_, (QgG n).Ss _ _ _ g (QnV S M tab hr) hc H L, ?_⟩
 obtain ⟨F0, rel⟩ := QfM (N := namesOf (Qg st)) rps
 unfold Qn at hd
 obtain ⟨o, ho, hd⟩ := bind1 hd
 refine ⟨_, [], F0, o, rel, ho, ?_⟩
 cases o with
 | nx ρ =>
  cases hd
  exact λ σ H' F' rel' => q .non H' [] ⟨rel'.same, .Qf1, λ a ha => by simp at ha, λ _ => ⟨Zau, rfl, λ a ha => by simp at ha⟩⟩
 | bk ρ => cases hd
 | ct ρ => cases hd
 | rt d' fr' =>
  cases hd
  exact λ v H' G r => q v H' G r
structure Fact (K : PySem.W.Frag) (x : Str) (st : Stmt) : Prop where
 ex : ∃ f fd, Fun K x x st f fd /\ PySem.W.nsIn K mainGlobals x = some (some (.ref f))
theorem fact_mk {x : Str} {st : Stmt} {f : Addr} {oc : Value} {od an : Option Addr} {osl : Array (Option Value)} {kV doc pm cdv ct : Value} (a : PySem.W.nsIn K mainGlobals x = some (some (.ref f))) (l : K.lookup f = some ⟨oc, od, .func (PySem.W.fnOf x x (QdU st) (Qap st) (Qg st) .none kV doc pm an cdv ct), osl⟩)
  (c : PySem.W.codeIn K cdv x = true) (k : PySem.W.keepIn K (.ref f) = true) : Fact K x st := ⟨f, _, Qsm l c k, a⟩
def QD (x : Str) (st : Stmt) (ps : List Str) : Prop := ∀ (kV doc pm : Value) (an : Option Addr) (cdv ct : Value) (us : List Value), us.length = ps.length -> bindArgs (PySem.W.fnOf x x (QdU st) (Qap st) (Qg st) .none kV doc pm an cdv ct) ⟨us, []⟩ = pure (ps.zip us)
theorem QF {h : Heap} {x : Str} {st : Stmt} {ps : List Str} {k n : Nat} {Γ : List (Str × FnR)} {cs : List (Str × Int)} {g : DS} (X : K.In h) (G : h.Ns mainGlobals mg) (F : Fact K x st) (S : Qbm (namesOf (Qg st)) ps (Qg st)) (B : QD x st ps) (M : QdG mg cs) (tab : Qba P w K mg base k Γ)
  (hc : Qaa n (Qd3 st Γ cs) (Qap st) = some g) : Known P w K mg base (k + 1) x ⟨ps.length, [], Qn (namesOf (Qg st)).length g⟩ := by
 obtain ⟨f, fd, Fn, a⟩ := F.ex
 refine ⟨f, fd, ps, Qou Fn S M tab hc, ZaA X G a, Fn.kp, λ m hm => ⟨[], [], Fn.binds (B ·), .nil, λ H => by simp [Rps]⟩⟩
end
end HS
namespace HS
open PySem PySem.Spec L2 PyProof.Rows
theorem Qis : ∀ (ns : List Int) (n : Int), n ∈ ns -> Builtin.Int.intBits n <= PySem.W.WData.weightAll (ns.map PySem.W.WData.int)
 | a :: r, n, h => by
  have e : PySem.W.WData.weight (.int a) = Builtin.Int.intBits a := by simp only [PySem.W.WData.weight, Builtin.Int.intBits]
  simp only [Zv, PySem.W.WData.weightAll, e]
  rcases Zq.mp h with rfl | h
  ·omega
  ·have := Qis r n h
   omega
theorem Qoe {ns : List Int} (h : PySem.W.WData.layableAll [.list (ns.map .int)] = true) (k : Nat) : Builtin.Int.intBits (ns.getD k 0) <= 2 ^ 20 := by
 have h1 := (PySem.W.layW_cons h).1
 simp only [PySem.W.WData.layable, Zg, decide_eq_true_eq, PySem.W.WData.weight] at h1
 rw [Zaa]
 cases e : ns[k]? with
 | none => show Builtin.Int.intBits 0 <= 2 ^ 20; decide
 | some n => exact Zr (Qis ns n (Zas e)) (of_decide_eq_true h1.2)
open PySem.W Att PySem.Calls in
theorem Qkp {l : OpenLaw} {n : Nat} {q : Program} {loose : List Str} {XP : (Str -> Option Value) -> Heap -> Prop} {YP : World -> Heap -> Prop} {d : DefRec}
  (hn : l.most = some n) (hdf : d.params.defaults = [])
  (call : ∀ (w : World) (s₀ s₁ : Shared) (mg mb : Str -> Option Value) (fa : Addr) (o : Obj) (pm cd doc : Value) (a : Addr) (vs : List Value) (ns : List Int),
   Ground q loose [] XP w s₀ mg mb s₁.heap -> YP w s₁.heap →
   s₁.heap.get? fa = some o -> o.data = .func (docDef d.name d.params d.body d.scope pm cd doc) -> s₁.heap.CodeRec cd d.name -> mg d.name = some (.ref fa) →
   s₁.heap.get? a = some { cls := .type "list", data := .seq vs.toArray } -> IntsAre vs ns -> ns.length <= n -> WData.layableAll [.list (ns.map .int)] = true -> s₁.gens = #[] →
   codeAny (model l.prog w) callerA (.call (.ref fa) ⟨[.ref a], []⟩) (λ r s' => r = .ok (.ret (.bool true)) /\ OldK s₁.heap s'.heap /\ s'.os = s₁.os /\ AllBare s'.gens) s₁) :
  WalkO q loose XP YP l.row.toRowW d [] (λ f vs => PySem.call f vs) := by
 intro w s₀ s₁ mg mb G Y fa o pm cd doc dV kV ho hd hcd hD hmg hg args vals as hpre hlay hrd hwl hlo
 obtain rfl : dV = .none := Dflts.none hD hdf
 obtain rfl : kV = .none := Dflts.noKw hD
 obtain ⟨a, vs, ns, rfl, rfl, hobj, hints, hlen⟩ := Qjn hn hpre hwl
 refine enter_call (codeAny_mono (call w s₀ s₁ mg mb fa o pm cd doc a vs ns G Y ho (fd_plain hd) hcd hmg hobj hints hlen hlay hg) λ r s' hq => ?_)
 obtain ⟨rfl, h2, h3, h4⟩ := hq
 exact ⟨.inl ⟨.bool true, .bool true, [], rfl, λ _ => rfl, .bool true, Qjl l _, λ _ => ⟨List.Pairwise.nil, λ _ hm => (nomatch hm)⟩⟩, h2, h3, h4⟩
theorem Qna {l : PySem.W.OpenLaw} {k : Nat} {q : Program} {loose : List Str} {XP : (Str -> Option Value) -> Heap -> Prop} {YP : World -> Heap -> Prop} {d : DefRec} {K : Params -> PySem.W.Frag} {den : Den} {x : Str}
  (hn : l.most = some 63) (hdf : d.params.defaults = []) (hr : Q7 k callerA) (hY : ∀ (w : World) (h : Heap), YP w h -> (K w.params).In h)
  (hden : ∀ ns : List Int, ns.length <= 63 -> (∀ k : Nat, Builtin.Int.intBits (ns.getD k 0) <= 2 ^ 20) -> ∃ fr, den [.lst (ns.map .int)] = some (.bl true, fr))
  (F : ∀ (w : World) (mg : Str -> Option Value) (fa : Addr) (h : Heap), (K w.params).In h -> h.Ns mainGlobals mg -> mg d.name = some (.ref fa) →
   ∃ fd : FuncData, (∀ (s : Shared) (u : Value), BindsTo s fd ⟨[u], []⟩ [(x, u)]) ∧
    ∀ base : Heap, (K w.params).In base -> base.Ns mainGlobals mg -> QaS l.prog w (K w.params) mg base CX0 k fa fd [x] (spV (K w.params) 1 den)) :
  PySem.W.WalkO q loose XP YP l.row.toRowW d [] (λ f vs => PySem.call f vs) := by
 refine Qkp hn hdf λ w s₀ s₁ mg mb fa o pm cd doc a vs ns G Y ho hd hcd hmg hobj hints hlen hlay hg => ?_
 have KX := hY w _ Y
 obtain ⟨fd, hb, hF⟩ := F w mg fa _ KX G.T.g hmg
 have h63 : (63 : Nat) <= sizeLine := by decide
 refine Qkm KX G.T.g G.T.b G.T.builtins G.T.nolimit hg hobj hints (Zr hlen h63) hr hF hb (λ H hO hS => ?_) λ H e s' z => z
 have fx : Fix (K w.params) H a (ns.map V.int) := by
  rcases hS with (h | ⟨o, h⟩) | ⟨o, its, n, hk, hc, hdn, hda, hz, rv⟩
  ·rcases hO a with z | ⟨o, xs, z⟩ <;> rw [h] at z <;> cases z
  ·exact .inl ⟨o, h⟩
  ·have e := KX a o hk
   rw [hobj] at e
   cases e
   cases hda
   exact .inr ⟨vs, _, hk, by rw [Zw]; exact Zr hlen h63, by simpa using rv⟩
 obtain ⟨fr, hfr⟩ := hden ns hlen (Qoe hlay)
 have rp : Rp (K w.params) H (.lst (ns.map .int)) (.ref a) [] := by
  simp only [Rp]
  refine ⟨by rw [Zw]; exact Zr hlen h63, a, _, rfl, .inr ⟨fx, ?_⟩⟩
  have gen : ∀ ns : List Int, Rps (K w.params) H (ns.map .int) (ns.map .int) [] := by
   intro ns
   induction ns with
   | nil => simp [Rps]
   | cons n ns ih => simp only [Zv, Rps]; exact ⟨_, _, [], [], rfl, rfl, .int_mk, ih⟩
  exact gen ns
 refine ⟨[.lst (ns.map .int)], [], .bl true, fr, ?_, rfl, hfr, λ v H' G r => r.rp.Qf5⟩
 simp only [Rps]
 exact ⟨_, _, [], [], rfl, rfl, rp, rfl, rfl⟩
theorem QtB {P : Program} {w : World} {K : PySem.W.Frag} {mg : Str -> Option Value} {h : Heap} {x y : Str} {st : Stmt} {fa : Addr} {k n : Nat} {Γ : List (Str × FnR)} {cs : List (Str × Int)} {g : DS} (X : K.In h) (G : h.Ns mainGlobals mg) (hmg : mg x = some (.ref fa))
  (F : Fact K x st) (S : Qbm (namesOf (Qg st)) [y] (Qg st)) (B : QD x st [y]) (M : QdG mg cs) (tab : ∀ base : Heap, Qba P w K mg base k Γ) (hc : Qaa n (Qd3 st Γ cs) (Qap st) = some g) :
  ∃ fd : FuncData, (∀ (s : Shared) (u : Value), BindsTo s fd ⟨[u], []⟩ [(y, u)]) ∧
    ∀ base : Heap, K.In base -> base.Ns mainGlobals mg -> QaS P w K mg base CX0 (k + 1) fa fd [y] (spV K 1 (Qn (namesOf (Qg st)).length g)) := by
 obtain ⟨f, fd, Fn, a⟩ := F.ex
 have e := hmg.symm.trans (ZaA X G a)
 cases e
 refine ⟨fd, λ s u => ?_, λ base _ _ => Qou Fn S M (tab base) hc⟩
 obtain ⟨oc, od, kV, doc, pm, an, cdv, ct, osl, rfl, lk, hcd⟩ := Fn.ex
 exact .of_eq (B kV doc pm an cdv ct [u] rfl)
end HS
namespace HS
open PySem PySem.Spec PyProof.Rows L2
section
variable {P : Program} {w : World} {K : PySem.W.Frag} {mg : Str -> Option Value} {base : Heap}
theorem QmK {h : Heap} {x : Str} {st : Stmt} {ps : List Str} {k : Nat} (X : K.In h) (G : h.Ns mainGlobals mg) (F : Fact K x st) (B : QD x st ps) : Known P w K mg base k x ⟨ps.length, [], λ _ => none⟩ := by
 obtain ⟨f, fd, Fn, a⟩ := F.ex
 refine ⟨f, fd, ps, ⟨λ vs H Q E h => ?_, λ A outer s H args us vs Q E _ _ _ _ h => ?_⟩, ZaA X G a, Fn.kp, λ m hm => ⟨[], [], Fn.binds (B ·), .nil, λ H => by simp [Rps]⟩⟩
 ·obtain ⟨ds, L, d, fr, rps, hl, hd, q⟩ := h
  cases hd
 ·obtain ⟨ds, L, d, fr, rps, hl, hd, q⟩ := h
  cases hd
end
end HS
namespace HS
open PySem PySem.Spec L2 PyProof.Rows
theorem QpT {P : Program} {w : World} {H : Hp} {h : Heap} {a : Addr} {o : HO} (x : Qa7 P w H h a o) : ∃ u, h.get? a = some u := by
 cases o with
 | lst xs => obtain ⟨_, _, _, _, e⟩ := x; exact ⟨_, e⟩
 | tup xs => obtain ⟨_, _, _, ob, e, _⟩ := x; exact ⟨_, e⟩
 | dK kvs => obtain ⟨_, _, _, _, o, _, _, e, _⟩ := x; exact ⟨_, e⟩
 | dT kvs => obtain ⟨_, _, _, _, o, _, _, e, _⟩ := x; exact ⟨_, e⟩
 | set S n => obtain ⟨o, _, _, _, e, _⟩ := x; exact ⟨_, e⟩
 | ins C dx fs => obtain ⟨_, _, _, e, _⟩ := x; exact ⟨_, e⟩
 | own y => exact x
 | xd fs => obtain ⟨_, ⟨_, _, _, e, _⟩, _⟩ := x; exact ⟨_, e⟩
 | rng lo hi => obtain ⟨_, _, _, e⟩ := x; exact ⟨_, e⟩
 | frz ob u => obtain ⟨e, _⟩ := x; exact ⟨_, e⟩
 | tbl ps => exact ⟨_, show h.get? a = some _ from x⟩
 | met f y => exact ⟨_, show h.get? a = some _ from x⟩
 | ext φ => obtain ⟨_, e, _⟩ := x; exact e
section
variable {P : Program} {w : World} {H H' : Hp} {h0 h h' B : Heap} {fs : List Addr}
def Cov (H : Hp) (B : Heap) : Prop := ∀ b u, H b = some u -> ∃ o, B.get? b = some o
theorem QiT (hok : HOk P w H h) (hB : B.StaysIn h) (hB' : B.StaysIn h') (cov : Cov H B) : HOk P w H h' := λ a o e =>
 (hok a o e).QeM (λ c v hc q => by
  have : ∃ u, H c = some u := by
   rcases hc with rfl | hc
   ·exact ⟨_, e⟩
   ·exact ⟨_, hc⟩
  obtain ⟨u, hu⟩ := this
  obtain ⟨o', ho'⟩ := cov c u hu
  have := hB _ _ ho'
  rw [q] at this
  cases this
  exact hB' _ _ ho') (λ _ q => q) λ _ _ q => q
theorem QkW (u : Un fs [] H H' h0 h) (hB : B.StaysIn h) (hB' : B.StaysIn h') (up : h.UpToSlots h') (old : ∀ b o, h0.get? b = some o -> b ∉ fs -> ∃ o', B.get? b = some o')
  (dat : ∀ b o, h0.get? b = some o -> b ∈ fs -> ∀ vs, o.data ≠ .fields vs) (frf : ∀ b ∈ fs, H b = none) : Un fs [] H H' h0 h' where
 keep := λ b o e n hb hx => by
  obtain ⟨o', e1⟩ := old b o e hb
  have := hB _ _ e1
  rw [u.keep b o e n hb hx] at this
  cases this
  exact hB' _ _ e1
 slot := λ b o e n hb hx => by
  obtain ⟨sl, e1⟩ := u.slot b o e n hb hx
  obtain ⟨sl', e2⟩ := up b _ e1 (dat b o e hb)
  exact ⟨sl', e2⟩
 free := u.free
 there := λ b o e hx => by
  by_cases hb : b ∈ fs
  ·obtain ⟨sl, e1⟩ := u.slot b o e (frf b hb) hb hx
   obtain ⟨sl', e2⟩ := up b _ e1 (dat b o e hb)
   exact ⟨_, e2⟩
  ·obtain ⟨o', e1⟩ := old b o e hb
   exact ⟨_, hB' _ _ e1⟩
 tups := u.tups
 frzs := u.frzs
 tbls := u.tbls
end
noncomputable def CXR (P : Program) (w : World) : CXT := λ outer H s E e s' => ∃ ea C H' B a0, e = Value.ref ea /\ s'.os = s.os /\ AllBare s'.gens /\ Un (frs outer) [] H H' s.heap s'.heap /\ HOk P w H' s'.heap /\ Heap.FlyingW B outer ea C a0 s'.heap ∧
 Cov H' B /\ (∀ b o, s.heap.get? b = some o -> b ∉ frs outer -> ∃ o', B.get? b = some o') /\ E C none H'
def QeZ (X : Cx) (H0 : Hp) (A0 : List Addr) (hs : List (V × D × List Addr)) (ρ : En) (C : Value) (ea : Addr) (s' : Shared) : Prop := ∃ pins σ H F, Rel X.K H0 A0 hs ρ F σ H ∧
 ((∃ sg args, Inv X pins σ H sg /\ Heap.MadeExcOf sg.heap s'.heap ea C args /\ s'.os = sg.os /\ s'.gens = sg.gens) ∨
  ∃ B a0, Inv X pins σ H s' /\ Heap.FlyingW B X.stack ea C a0 s'.heap /\ Cov H B /\ (∀ b o, X.s₀.heap.get? b = some o -> b ∉ X.fs -> ∃ o', B.get? b = some o') /\ ∀ p ∈ X.pn ++ pins, ∃ o, B.get? p.1 = some o)
theorem QnZ {X : Cx} {pins : List (Addr × Obj)} {σ : L2.St} {H : Hp} {s : Shared} (I : Inv X pins σ H s) (hx : X.ex = []) {b : Addr} {o : Obj} (e : X.s₀.heap.get? b = some o) (hb : b ∉ X.fs) : (∃ o', s.heap.get? b = some o') /\ b ∉ frs X.stack := by
 refine ⟨I.base.there b o e (by rw [hx]; simp), λ z => ?_⟩
 rcases Zq.mp (I.Qec b z) with q | q
 ·have h1 := Zo e
  have h2 := I.ok.above
  rw [q] at h1
  exact absurd (Zl h1 h2) (ZL _)
 ·exact hb q
theorem Qip {X : Cx} (ok : X.Ok) {b : Addr} {o : Obj} (e : X.s₀.heap.get? b = some o) (hb : b ∈ X.fs) : ∀ vs, o.data ≠ .fields vs := by
 obtain ⟨_, o', e', h⟩ := ok.Qcp.mem hb
 rw [e] at e'
 cases e'
 exact h
theorem Qlf {X : Cx} {pins : List (Addr × Obj)} {σ : L2.St} {H : Hp} {s : Shared} (I : Inv X pins σ H s) (hx : X.ex = []) : ∃ B : Heap, B.StaysIn s.heap /\ s.heap.FunFrames B X.stack /\ Cov H B /\ (∀ b o, X.s₀.heap.get? b = some o -> b ∉ X.fs -> ∃ o', B.get? b = some o') /\ ∀ p ∈ X.pn ++ pins, ∃ o, B.get? p.1 = some o := by
 refine ⟨PySem.W.hideAll s.heap (frs X.stack), λ b o e => PySem.W.of_hideAll _ e, PySem.W.funFrames_hide I.stack λ env he a ha => Zaw.mpr ⟨env, he, ha⟩, λ b u e => ?_, λ b o e hb => ?_, λ p hp => ?_⟩
 ·obtain ⟨o, ho⟩ := QpT (I.hok b u e)
  exact ⟨o, ZaH _ ho λ z => by rw [I.QiX b z] at e; cases e⟩
 ·obtain ⟨⟨o', h1⟩, h2⟩ := QnZ I hx e hb
  exact ⟨o', ZaH _ h1 h2⟩
 ·obtain ⟨e, _, ne, nf, _⟩ := I.pin p hp
  exact ⟨_, ZaH _ e λ z => (Zq.mp (I.Qec _ z)).elim ne nf⟩
theorem QkH {X : Cx} {P : Program} {w : World} {E : XK} {H0 : Hp} {A0 : List Addr} {hs : List (V × D × List Addr)} {ρ : En} {C : Value} {ea : Addr} {s' : Shared} {env : Env} {outer : List Env} {Er : Value -> Shared -> Prop}
  (hp : X.prog = P) (hw : X.w = w) (hx : X.ex = []) (hst : X.stack = env :: outer) (hfs : X.outer = outer) (hen : X.env = env) (hf : env.frame = some X.env.locals) (T : QeZ X H0 A0 hs ρ C ea s')
  (hE : ∀ H, Qy H0 H -> E C none H) : wpAny (model P w) X.A (leaving env (.ref ea)) (λ _ s'' => CXR P w outer X.H₀ X.s₀ E (.ref ea) s'') Er s' := by
 subst hp hw hfs
 obtain ⟨pins, σ, H, F, rel, ⟨sg, args, I, hm, ho, hg⟩ | ⟨B, a0, I, fl, cov, old, _⟩⟩ := T
 ·obtain ⟨B, b1, b2, cov, old, _⟩ := Qlf I hx
  rw [hst] at b2
  have hfr := I.ok.frames
  rw [hst] at hfr
  refine wpAny_leaves_madeW hfr hf b1 b2 hm λ h' t fl _ _ up => ?_
  have up' : sg.heap.UpToSlots h' := (Heap.UpToSlots.of_keeps hm.keeps).trans up
  have hb := I.base
  rw [hx] at hb
  exact ⟨ea, C, H, B, _, rfl, ho.trans I.os, hg ▸ I.bare, QkW hb b1 fl.1 up' old (λ b o e hb => Qip I.ok e hb) I.ok.frf, QiT I.hok b1 fl.1 cov, fl, cov, old, hE H rel.same⟩
 ·have hfr := I.ok.frames
  rw [hst] at hfr fl
  refine wpAny_leaves_onW hfr hf fl λ h' fl' up => ?_
  have hb := I.base
  rw [hx] at hb
  exact ⟨ea, C, H, B, _, rfl, I.os, I.bare, QkW hb fl.1 fl'.1 up old (λ b o e hb => Qip I.ok e hb) I.ok.frf, QiT I.hok fl.1 fl'.1 cov, fl', cov, old, hE H rel.same⟩
end HS
namespace HS
open PySem PySem.Spec L2 PyProof.Rows
noncomputable abbrev DX := En -> Option (Str × En)
def ClsAt (K : PySem.W.Frag) (x : Str) (C : Addr) : Prop := PySem.W.nsIn K mainGlobals x = some (some (.ref C))
def cRz (X : Cx) (H0 : Hp) (A0 : List Addr) (fx : DX) (σ : L2.St) (H : Hp) : Prop := ∃ ρ hs F x ρ', Rel X.K H0 A0 hs ρ F σ H /\ fx ρ = some (x, ρ') /\ ∀ C ea s', ClsAt X.K x C -> QeZ X H0 A0 hs ρ' (.ref C) ea s' -> X.xe (.ref ea) s'
noncomputable def tRz (X : Cx) (H0 : Hp) (A0 : List Addr) (fx : DX) : TS := λ _ σ H => cRz X H0 A0 fx σ H
noncomputable def eRz (X : Cx) (H0 : Hp) (A0 : List Addr) (fx : DX) : TE := λ σ H _ => cRz X H0 A0 fx σ H
def Rz (X : Cx) (st : Stmt) (fx : DX) : Prop := ∀ H0 A0, PS X st (tRz X H0 A0 fx)
def RzS (X : Cx) (sts : List Stmt) (fx : DX) : Prop := ∀ H0 A0, PSs X sts (tRz X H0 A0 fx)
def RzE (X : Cx) (e : Expr) (fx : DX) : Prop := ∀ H0 A0, PE X e (eRz X H0 A0 fx)
noncomputable def xNo : DX := λ _ => none
noncomputable def Qeu (x : Str) (fs : DA) : DX := λ ρ => (fs ρ).bind λ r => if r.ds.length <= 1 then some (x, ρ) else none
noncomputable def Qbx (n : Nat) (xd : List D -> Option Str) (fs : DA) : DX := λ ρ => (fs ρ).bind λ r => if r.ds.length = n then (xd r.ds).map λ c => (c, ρ) else none
noncomputable def xIf (g : DT) (fa fb : DX) : DX := λ ρ => (g ρ).bind λ b => if b = true then fa ρ else fb ρ
noncomputable def Qav (f : DS) (fx fr : DX) : DX := λ ρ => match f ρ with
 | some (.nx ρ') => fr ρ'
 | some _ => none
 | none => fx ρ
noncomputable def QfA (t : Tg) (fb : DS) (fx : DX) : List D -> DX
 | [], _ => none
 | d :: ds, ρ => (QaT t d ρ).bind λ ρ1 => match fb ρ1 with
  | some (.nx ρ2) => QfA t fb fx ds ρ2
  | some (.ct ρ2) => QfA t fb fx ds ρ2
  | some _ => none
  | none => fx ρ1
noncomputable def Qmg (fi : DI) (t : Tg) (fb : DS) (fx : DX) : DX := λ ρ => (fi ρ).bind λ ir => QfA t fb fx ir.items (Q4 ir.M ρ)
noncomputable def spX (K : PySem.W.Frag) (n : Nat) (xd : List D -> Option Str) : Sp := λ vs H _ E => ∃ ds L x, Rps K H ds vs L /\ ds.length = n /\ xd ds = some x /\ ∀ C H', ClsAt K x C -> Qy H H' -> E (.ref C) none H'
theorem QqB {K : PySem.W.Frag} {n : Nat} {xd : List D -> Option Str} {ps : List Str} (hn : ps.length = n) : ∀ vs H Q E, spX K n xd vs H Q E -> vs.length = ps.length := λ vs H Q E ⟨ds, L, x, r, hl, _⟩ => by rw [hn, ← hl, r.length]
section
variable {X : Cx} {st : Stmt} {sts : List Stmt} {e : Expr} {es : List Expr} {fs : DA} {f : DS} {fx fr fy : DX} {g : DT} {pos p np cpos : Pos} {x : Str} {k n : Nat} {fa : Addr} {fd : FuncData} {ps : List Str} {xd : List D -> Option Str}
theorem Qmp : Rz X st xNo := λ H0 A0 pins s σ H Dd I ⟨ρ, hs, F, x, ρ', rel, e, q⟩ => by cases e
theorem Qqy : RzS X [] xNo := λ H0 A0 pins s σ H Dd I ⟨ρ, hs, F, x, ρ', rel, e, q⟩ => by cases e
theorem QeZ.hold {H0 : Hp} {A0 : List Addr} {hs ts : List (V × D × List Addr)} {ρ : En} {C : Value} {ea : Addr} {s' : Shared} (h : QeZ X H0 A0 (ts ++ hs) ρ C ea s') : QeZ X H0 A0 hs ρ C ea s' := by
 obtain ⟨pins, σ, H, F, rel, q⟩ := h
 exact ⟨pins, σ, H, F, rel.Qk7, q⟩
theorem QrF (Fk : QaS X.prog X.w X.K X.mg X.base (CXR X.prog X.w) k fa fd ps (spX X.K n xd)) (hr : Q7 k X.A) (hg : Gl X x) (hm : X.mg x = some (.ref fa)) (hk : PySem.W.keepIn X.K (.ref fa) = true) (hb : Binds X.K fd ps []) (hx : X.ex = []) (hn : ps.length = n)
  (ha : SA X (e :: es) fs) (hdb : (x == ("__debug__" : Str)) = false) (he : starEach (e :: es) X.env = (false, eval e X.env) :: starEach es X.env) (hpl : (backTo pos (starEach es X.env)).any (·.1) = false) :
  RzE X (.Call (.Name x p) (e :: es) [] pos) (Qbx n xd fs) := λ H0 A0 pins s σ H Q I ⟨ρ, hs, F, c, ρ', rel, ex, q⟩ => by
 obtain ⟨ra, e1, ex⟩ := bind1 ex
 split at ex
 ·rename_i hl
  obtain ⟨c', e2, e3⟩ := Zb.mp ex
  cases e3
  refine wpAny_Call_Name_kw (Qda I hg hm ?_ hdb)
  refine Zbe (h₀ := X.base) I.ok.mod.kin hk (thn (ha H0 A0 pos pins s σ H (λ vs H1 => ∃ G, Qmw X.K ρ F H H1 ra vs G) I ⟨ρ, hs, F, ra, rel, e1, λ vs H1 G p1 => ⟨G, p1⟩⟩) λ us s1 ⟨vs, H1, I1, rv, G, p1⟩ => ⟨I1.kIn, ?_⟩) he hpl
  have hlen : (us ++ []).length = ps.length := by rw [Zac, ← rv.length, ← p1.rp.length, hl, hn]
  have hbb := hb s1 us I1.kIn hlen
  rw [Zac] at hbb
  refine wpAny_call (codeAny_mono (Fk.run X.A X.stack s1 H1 ⟨us, []⟩ us vs (λ _ _ => False) (λ c' _ H' => ∃ C, c' = .ref C /\ ClsAt X.K c C /\ Qy H1 H') hr I1.Qpa hbb rv ⟨ra.ds, G, c, p1.rp, hl, e2, λ C H' hC sm => ⟨C, rfl, hC, sm⟩⟩) λ r s' hq => ?_)
  cases r with
  | error ev =>
   obtain ⟨ea, C', H', B, a0, rfl, os, bare, un, hok, fl, cov, old, C, rfl, hC, sm⟩ := hq
   exact q C ea s' hC ⟨pins, σ, H', F, (rel.ext p1.same).ext sm, .inr ⟨B, a0, I1.Qp0 os un hok bare (λ b z => absurd z (by simp)), fl, cov, λ b o eb hbf => by
    obtain ⟨⟨o', h1⟩, h2⟩ := QnZ I1 hx eb hbf
    exact old b o' h1 h2, λ p hp => by
    obtain ⟨e, _, ne, nf, _⟩ := I1.pin p hp
    exact old _ _ e λ z => (Zq.mp (I1.Qec _ z)).elim ne nf⟩⟩
  | ok fl =>
   cases fl with
   | ret u => obtain ⟨v, H', _, _, _, _, _, z⟩ := hq; exact z.elim
   | next => exact False.elim hq
   | brk => exact False.elim hq
   | cont => exact False.elim hq
 ·cases ex
theorem Qrv (h : RzE X e fx) (hs : swapsWith e none pos.line X.env = pure false) : Rz X (.Expr e pos) fx := λ H0 A0 => Qgn (h H0 A0) hs
theorem QsC (h : RzE X e fx) : Rz X (.Return (some e) pos) fx := λ H0 A0 => QnX (h H0 A0)
theorem Qr0 {i : Nat} (hN : X.N.Nodup) (h1 : X.N[i]? = some x) (h2 : Loc X.env.scope x) (h3 : X.fn x = true ∨ X.env.scope.names.lookup x = some .local) (h : RzE X e fx) (hs : swapsWith e (some (.Name x p)) pos.line X.env = pure false) : Rz X (.Assign [.Name x p] e pos) fx := λ H0 A0 => Qe0 hN h1 h2 (h H0 A0) hs h3
theorem Qt0 {c : Expr} {a b : List Stmt} (hc : ST X c g) (ha : RzS X a fx) (hb : RzS X b fy) : Rz X (.If c a b pos) (xIf g fx fy) := λ H0 A0 => (Qp3 (hc H0 A0) (ha H0 A0) (hb H0 A0)).mono λ Dd σ H ⟨ρ, hs, F, x, ρ', rel, e, q⟩ => by
 obtain ⟨c, e1, e⟩ := bind1 e
 refine ⟨ρ, hs, F, c, rel, e1, λ H1 s1 => ?_⟩
 cases c with
 | true => exact Qmm ⟨ρ, hs, F, x, ρ', rel.ext s1, e, q⟩
 | false => exact Qme ⟨ρ, hs, F, x, ρ', rel.ext s1, e, q⟩
theorem Qtv {t u : TS} (h1 : PS X st t) (h2 : PS X st u) : PS X st (λ Dd σ H => t Dd σ H ∨ u Dd σ H) := λ pins s σ H Dd I q => q.elim (h1 pins s σ H Dd I) (h2 pins s σ H Dd I)
theorem Qsx {t u : TS} (h1 : PSs X sts t) (h2 : PSs X sts u) : PSs X sts (λ Dd σ H => t Dd σ H ∨ u Dd σ H) := λ pins s σ H Dd I q => q.elim (h1 pins s σ H Dd I) (h2 pins s σ H Dd I)
theorem QoC (h1 : S1 X st f) (h2 : Rz X st fx) (h3 : RzS X sts fr) : RzS X (st :: sts) (Qav f fx fr) := λ H0 A0 => (Qet (Qtv (h1 H0 A0) (h2 H0 A0)) (h3 H0 A0)).mono λ Dd σ H ⟨ρ, hs, F, x, ρ', rel, e, q⟩ => by
 unfold Qav at e
 split at e
 ·rename_i ρ1 e1
  exact .inl ⟨ρ, hs, F, _, rel, e1, λ σ' H' F' rel' => ⟨ρ1, hs, F', x, ρ', rel', e, q⟩⟩
 ·cases e
 ·exact .inr ⟨ρ, hs, F, x, ρ', rel, e, q⟩
theorem QrV {tg iter : Expr} {body : List Stmt} {fi : DI} {t : Tg} (hp : PassesOwn (model X.prog X.w) X.A X.env X.xe) (hc : X.calm = true) (hi : SI X tg iter fi) (hg : SG X tg t) (hb : SS X body f) (hbx : RzS X body fx) (hs : ∀ x, foldedSetIterable iter X.env x = pure x) :
  Rz X (.For tg iter body [] pos) (Qmg fi t f fx) := λ H0 A0 => (Qon hp hc (hi H0 A0) (hg H0 A0) (Qsx (hb H0 A0) (hbx H0 A0)) hs).mono λ Dd σ H ⟨ρ, hs, F, c, ρ', rel, e, q⟩ => by
 obtain ⟨ir, e1, e⟩ := bind1 e
 refine ⟨ρ, hs, F, ir, rel, e1, λ J H1 ts s1 wk hts ow hz => ?_⟩
 have rel1 : Rel X.K H0 A0 (ts ++ hs) (Q4 ir.M ρ) F σ H1 := ((rel.ext s1).weak (Qag ir.M ρ)).hold λ t ht => ⟨(hts t ht).1, Shr.of rel (hts t ht).2⟩
 refine ⟨λ i m σ' H' => m = ir.items.length - i /\ i <= ir.items.length /\ ∃ ρi Fi, Rel X.K H0 A0 (ts ++ hs) ρi Fi σ' H' /\ QfA t f fx (ir.items.drop i) ρi = some (c, ρ'), ⟨_, rfl, ZK _, _, F, rel1, by simpa using e⟩, ?_⟩
 rintro i m σ' H' ⟨rfl, hi', ρi, Fi, reli, ei⟩
 have held : QiM X.K H' ts := λ t ht => (reli.held t (Ze _ ht)).1
 by_cases hlt : i < ir.items.length
 ·rw [ZU hlt] at ei
  unfold QfA at ei
  obtain ⟨ρ1, eb, ei⟩ := bind1 ei
  refine .inr ⟨wk.go i H' hlt held, λ σ2 H2 => ∃ ρ2 F2, Rel X.K H0 A0 (ts ++ hs) ρ2 F2 σ2 H2 /\ QfA t f fx (ir.items.drop (i + 1)) ρ2 = some (c, ρ'), λ σ2 H2 ⟨ρ2, F2, rel2, e2⟩ => ⟨_, by omega, rfl, hlt, ρ2, F2, rel2, e2⟩, λ x H2 hy => ?_⟩
  obtain ⟨s2, G0, rp0, hG0⟩ := wk.yld i ir.items[i] H' x H2 (by simp [hlt]) held hy
  have shr : Shr H0 A0 ρi Fi G0 := λ a ha => by
   obtain ⟨t, ht, hat⟩ := hG0 a ha
   exact ⟨(reli.held t (Ze _ ht)).2 a hat, λ j d ej hj => (reli.own j d ej).2.2.2.2 t (Ze _ ht) a hj hat⟩
  refine ⟨ρi, ts ++ hs, Fi, ir.items[i], G0, ρ1, reli.ext s2, rp0, shr, eb, λ σ3 F3 rel3 _ _ => ?_⟩
  split at ei
  ·rename_i ρ2 eo
   exact .inl ⟨ρ1, ts ++ hs, F3, _, rel3, eo, λ σ4 H4 F4 rel4 => ⟨ρ2, F4, rel4, ei⟩⟩
  ·rename_i ρ2 eo
   exact .inl ⟨ρ1, ts ++ hs, F3, _, rel3, eo, λ σ4 H4 F4 rel4 => ⟨ρ2, F4, rel4, ei⟩⟩
  ·cases ei
  ·exact .inr ⟨ρ1, ts ++ hs, F3, c, ρ', rel3, ei, λ C ea s' hC T => q C ea s' hC T.hold⟩
 ·have hn : i = ir.items.length := by omega
  subst hn
  rw [Zbs] at ei
  cases ei
end
noncomputable abbrev QuX : List Value := [.type "ValueError", .type "Exception", .type "BaseException", .type "object"]
structure QfR (K : PySem.W.Frag) (x : Str) : Prop where
 ex : ∃ C, ClsAt K x C /\ PySem.W.excIn K C QuX "ValueError.__new__" = true
theorem QpP {K : PySem.W.Frag} {C : Addr} {bmB : List Value} {newId : String} (q : PySem.W.excIn K C bmB newId = true) {h : Heap} (X : K.In h) : ∃ bm N nm qn bs hdct sn sub ab col dd k0 k1 k2 k3 k5 mN,
  h.get? C = some (excClassObj nm qn C N bs bm hdct sn sub ab col dd k0 k1 k2 k3 k5 newId) /\ h.Ns N mN /\ mN "__init__" = none /\ OwnTail h bmB bm := by
 rw [PySem.W.excIn.eq_def] at q
 split at q
 case h_2 => cases q
 rename_i dd cd sl ho
 split at q
 case h_2 => cases q
 rename_i C1 bm k0 k1 k2 k3 nid k5 em es
 simp only [Zg, beq_iff_eq, Zak] at q
 obtain ⟨⟨⟨⟨⟨z1, z2⟩, nodel⟩, tl⟩, okN⟩, noInit⟩ := q
 subst z1 z2
 have hget := X _ _ ho
 have hsl : sl = #[k0, k1, k2, k3, some (.builtin nid), k5] := Array.ext' es
 rw [hsl] at hget
 refine ⟨bm, cd.ns, cd.name, cd.qualname, cd.bases, cd.hasDict, cd.slotNames, cd.subclasses, cd.abstract, cd.collection, dd, k0, k1, k2, k3, k5, _, ?_, .of_isNs (PySem.W.isNs_of_in X okN), PySem.W.nsMap_none_of_in X okN noInit, PySem.W.tail_of_in X tl⟩
 rw [hget]
 cases cd with
 | mk c1 c2 c3 c4 c5 c6 c7 c8 c9 c10 c11 =>
  dsimp only at em nodel
  rw [em, nodel]
section
variable {X : Cx} {e : Expr} {fs : DA} {x : Str} {np cpos pos : Pos}
theorem Qo5 (hc : X.calm = true) (hg : Gl X x) (hk : QfR X.K x) (hdb : (x == ("__debug__" : Str)) = false) (ha : SA X [e] fs) (he : starEach [e] X.env = (false, eval e X.env) :: starEach [] X.env) :
  Rz X (.Raise (some (.Call (.Name x np) [e] [] cpos)) none pos) (Qeu x fs) := λ H0 A0 pins s σ H Dd I ⟨ρ, hs, F, c, ρ', rel, ex, q⟩ => by
 obtain ⟨ra, e1, e2⟩ := bind1 ex
 split at e2
 case isFalse => cases e2
 rename_i hl
 cases e2
 obtain ⟨C, hC, hq⟩ := hk.ex
 obtain ⟨bm, N, nm, qn, bs, hdct, sn, sub, ab, col, dd, k0, k1, k2, k3, k5, mN, o1, o2, o3, o4⟩ := QpP hq I.ok.mod.kin
 have hm : X.mg x = some (.ref C) := ZaA I.ok.mod.kin I.ok.mod.glob hC
 refine wpAny_Raise_call_subT (C := C) (nm := nm) (q := qn) (N := N) (bs := bs) (bm := bm) (hdct := hdct) (sn := sn) (sub := sub) (ab := ab) (col := col) (dd := dd) (k0 := k0) (k1 := k1) (k2 := k2) (k3 := k3) (k5 := k5)
  PySem.F.excBase_ValueError (mN := mN) (o4.hasType PySem.F.excBase_ValueError.hasBase) (I.ok.hd hc) (by rw [he]; rfl) o3 (Qda I hg hm ⟨rfl, ?_⟩ hdb)
 have hargs := ha H0 A0 cpos pins s σ H (λ vs H1 => ∃ G, Qmw X.K ρ F H H1 ra vs G) I ⟨ρ, hs, F, ra, rel, e1, λ vs H1 G p1 => ⟨G, p1⟩⟩
 rw [he] at hargs ⊢
 refine Calls.evalArgs_plain (thn hargs λ us s2 ⟨vs, H1, I1, rv, G, p1⟩ => ⟨rfl, ?_, I1.bk _ _ o1, o2.keeps I1.bk, o4.keeps I1.bk, λ h' ea hm => ?_⟩)
 ·show us.length <= sizeLine
  rw [← rv.length, ← p1.rp.length]
  exact Zr hl (by decide)
 ·exact q C ea _ hC ⟨pins, σ, H1, F, rel.ext p1.same, .inl ⟨s2, us, I1, hm, rfl, rfl⟩⟩
end
end HS
namespace HS
open PySem PySem.Spec L2 PyProof.Rows
structure ThX where
 Γx : List (Str × (Nat × (List D -> Option Str)))
 cls : List Str
structure XOk (X : Cx) (ΘX : ThX) : Prop where
 ex : X.ex = []
 stk : X.stack = X.env :: X.outer
 fr : X.env.frame = some X.env.locals
 fx : ∀ x r, look x ΘX.Γx = some r -> ∃ k f fd ps, QaS X.prog X.w X.K X.mg X.base (CXR X.prog X.w) k f fd ps (spX X.K r.1 r.2) /\ Q7 k X.A /\ X.mg x = some (.ref f) /\ PySem.W.keepIn X.K (.ref f) = true /\ Binds X.K fd ps [] /\ ps.length = r.1
 cl : ∀ x ∈ ΘX.cls, QfR X.K x
noncomputable def xcE (n : Nat) (Θ : Th) (ΘX : ThX) (e : Expr) : DX := match e with
 | .Call (.Name x _) (a :: as) [] _ => if Θ.gl x then (match look x ΘX.Γx with
  | some r => (match QaE n Θ (a :: as) with | some fs => Qbx r.1 r.2 fs | none => xNo)
  | none => xNo) else xNo
 | _ => xNo
mutual
noncomputable def Qii (n : Nat) (Θ : Th) (ΘX : ThX) (st : Stmt) : Option DX := match n with
 | 0 => none
 | n + 1 => match st with
  | .Raise (some (.Call (.Name x _) [a] [] _)) none _ => if Θ.gl x && ΘX.cls.contains x then (QaE n Θ [a]).map λ fs => Qeu x fs else none
  | .Expr e _ => some (xcE n Θ ΘX e)
  | .Return (some e) _ => some (xcE n Θ ΘX e)
  | .Assign [.Name x _] e _ => (Θ.Qb2 x).map λ _ => xcE n Θ ΘX e
  | .If c a b _ => (Qat n Θ c).bind λ g => (Qct n Θ ΘX a).bind λ fa => (Qct n Θ ΘX b).map λ fb => xIf g fa fb
  | .For tg iter body [] _ => (Qd2 Θ tg).bind λ t => (QdH n Θ tg iter).bind λ fi => (Qaa n Θ body).bind λ fb => (Qct n Θ ΘX body).map λ fx => Qmg fi t fb fx
  | _ => some xNo
noncomputable def Qct (n : Nat) (Θ : Th) (ΘX : ThX) (sts : List Stmt) : Option DX := match n with
 | 0 => none
 | n + 1 => match sts with
  | [] => some xNo
  | st :: r => (QhI n Θ st).bind λ f => (Qii n Θ ΘX st).bind λ fx => (Qct n Θ ΘX r).map λ fr => Qav f fx fr
end
section
variable {X : Cx} {Θ : Th} {ΘX : ThX}
theorem QhR {e : Expr} : RzE X e xNo := λ H0 A0 pins s σ H Q I ⟨ρ, hs, F, x, ρ', rel, e, q⟩ => by cases e
theorem Qk5 {n : Nat} (ok : QN X Θ) (xk : XOk X ΘX) (e : Expr) : RzE X e (xcE n Θ ΘX e) /\ (xcE n Θ ΘX e ≠ xNo -> ∃ x p a as pos, e = .Call (.Name x p) (a :: as) [] pos) := by
 unfold xcE
 split
 ·rename_i x p a as pos
  refine ⟨?_, λ _ => ⟨x, p, a, as, pos, rfl⟩⟩
  split
  ·rename_i hg
   obtain ⟨g1, g2, g3⟩ := Qbh ok.toCtxB hg
   split
   ·rename_i r hr
    split
    ·rename_i fs hfs
     obtain ⟨k, f, fd, ps, F1, F2, F3, F4, F5, F6⟩ := xk.fx x r hr
     obtain ⟨s1, s2⟩ := callArgs (X := X) hfs rfl pos
     exact QrF F1 F2 g1 F3 F4 F5 xk.ex F6 ((Qa5 n).A X Θ _ fs ok hfs) g2 s1 s2
    ·exact QhR
   ·exact QhR
  ·exact QhR
 ·exact ⟨QhR, λ h => absurd rfl h⟩
structure QsN (n : Nat) : Prop where
 X : ∀ X Θ ΘX st f, QN X Θ -> XOk X ΘX -> Qii n Θ ΘX st = some f -> Rz X st f
 Xs : ∀ X Θ ΘX sts f, QN X Θ -> XOk X ΘX -> Qct n Θ ΘX sts = some f -> RzS X sts f
theorem QrP {n : Nat} (ih : QsN n) : ∀ X Θ ΘX st f, QN X Θ -> XOk X ΘX -> Qii (n + 1) Θ ΘX st = some f -> Rz X st f := by
 intro X Θ ΘX st f ok xk h
 have hN : X.N.Nodup := by rw [ok.N]; exact ok.nd
 rw [Qii.eq_def] at h
 dsimp only at h
 split at h
 ·rename_i x np a cpos pos
  split at h
  ·rename_i hc
   simp only [Zg] at hc
   obtain ⟨fs, h1, rfl⟩ := Zb.mp h
   obtain ⟨g1, g2, g3⟩ := Qbh ok.toCtxB hc.1
   obtain ⟨s1, s2⟩ := callArgs (X := X) h1 rfl pos
   exact Qo5 ok.calm g1 (xk.cl x (by simpa using hc.2)) g2 ((Qa5 n).A X Θ _ fs ok h1) s1
  ·cases h
 ·rename_i e pos
  cases h
  obtain ⟨h1, h2⟩ := Qk5 (n := n) ok xk e
  by_cases hz : xcE n Θ ΘX e = xNo
  ·rw [hz]; exact Qmp
  ·obtain ⟨x, p, a, as, pos', rfl⟩ := h2 hz
   exact Qrv h1 rfl
 ·rename_i e pos
  cases h
  exact QsC (Qk5 (n := n) ok xk e).1
 ·rename_i x p e pos
  obtain ⟨i, hi, rfl⟩ := Zb.mp h
  obtain ⟨g1, g2, g3⟩ := Qca ok.toCtxB hi
  obtain ⟨h1, h2⟩ := Qk5 (n := n) ok xk e
  by_cases hz : xcE n Θ ΘX e = xNo
  ·rw [hz]; exact Qmp
  ·obtain ⟨x, p, a, as, pos', rfl⟩ := h2 hz
   exact Qr0 hN g1 g2 g3 h1 (QcO rfl)
 ·rename_i c a b pos
  obtain ⟨g, h1, h⟩ := bind1 h
  obtain ⟨fa, fb, h2, h3, rfl⟩ := QK h
  exact Qt0 ((Qa5 n).T X Θ c g ok h1) (ih.Xs X Θ ΘX a fa ok xk h2) (ih.Xs X Θ ΘX b fb ok xk h3)
 ·rename_i tg iter body pos
  obtain ⟨t, h1, h⟩ := bind1 h
  obtain ⟨fi, h2, h⟩ := bind1 h
  obtain ⟨fb, fx, h3, h4, rfl⟩ := QK h
  obtain ⟨i1, i2⟩ := (Qa5 n).I X Θ tg iter fi ok h2
  exact QrV ok.pass ok.calm i1 (QhN ok h1) ((QgG n).Ss X Θ body fb ok h3) (ih.Xs X Θ ΘX body fx ok xk h4) i2
 ·cases h
  exact Qmp
theorem QmA : ∀ n, QsN n
 | 0 => ⟨λ _ _ _ _ _ _ _ h => (by rw [Qii.eq_def] at h; cases h), λ _ _ _ _ _ _ _ h => (by rw [Qct.eq_def] at h; cases h)⟩
 | n + 1 => by
  have ih := QmA n
  refine ⟨QrP ih, λ X Θ ΘX sts f ok xk h => ?_⟩
  rw [Qct.eq_def] at h
  dsimp only at h
  split at h
  ·cases h; exact Qqy
  ·rename_i st r
   obtain ⟨fs, h1, h⟩ := bind1 h
   obtain ⟨fx, fr, h2, h3, rfl⟩ := QK h
   exact QoC ((QgG n).S X Θ st fs ok h1) (ih.X X Θ ΘX st fx ok xk h2) (ih.Xs X Θ ΘX r fr ok xk h3)
end
noncomputable def Qdd (k : Nat) (f : DX) : List D -> Option Str := λ ds => (f (QbQ k ds)).map (·.1)
section
variable (P : Program) (w : World) (K : PySem.W.Frag) (mg : Str -> Option Value) (base : Heap)
def Qfb (k : Nat) (x : Str) (r : Nat × (List D -> Option Str)) : Prop := ∃ f fd ps, QaS P w K mg base (CXR P w) k f fd ps (spX K r.1 r.2) /\ mg x = some (.ref f) /\ PySem.W.keepIn K (.ref f) = true /\ Binds K fd ps [] /\ ps.length = r.1
def QdC (k : Nat) (Γx : List (Str × (Nat × (List D -> Option Str)))) : Prop := ∀ x r, look x Γx = some r -> Qfb P w K mg base k x r
end
section
variable {P : Program} {w : World} {K : PySem.W.Frag} {mg : Str -> Option Value} {base : Heap}
theorem QdC.nil {k : Nat} : QdC P w K mg base k [] := λ x r h => by cases h
theorem Qfb.mono {j k : Nat} {x : Str} {r : Nat × (List D -> Option Str)} (h : Qfb P w K mg base j x r) (hk : j <= k) : Qfb P w K mg base k x r := by
 obtain ⟨f, fd, ps, h1, h2⟩ := h
 exact ⟨f, fd, ps, h1.mono hk, h2⟩
theorem QdC.mono {j k : Nat} {Γ : List (Str × (Nat × (List D -> Option Str)))} (t : QdC P w K mg base j Γ) (hk : j <= k) : QdC P w K mg base k Γ := λ x r e => (t x r e).mono hk
theorem QdC.cons {k : Nat} {Γ : List (Str × (Nat × (List D -> Option Str)))} {x : Str} {r : Nat × (List D -> Option Str)} (t : QdC P w K mg base k Γ) (h : Qfb P w K mg base (k + 1) x r) : QdC P w K mg base (k + 1) ((x, r) :: Γ) := λ y q e => by
 unfold look at e
 split at e
 ·rename_i z; cases e; subst z; exact h
 ·exact (t y q e).mono (Zz _)
theorem Qba.up {j k : Nat} {Γ : List (Str × FnR)} (t : Qba P w K mg base j Γ) (hk : j <= k) : Qba P w K mg base k Γ := λ x r e => (t x r e).mono hk
theorem QlL {h : Heap} {x : Str} {st : Stmt} {ps : List Str} {k n : Nat} {Γ : List (Str × FnR)} {Γx : List (Str × (Nat × (List D -> Option Str)))} {cls : List Str} {cs : List (Str × Int)} {g : DX} (X : K.In h) (G : h.Ns mainGlobals mg) (F : Fact K x st) (S : Qbm (namesOf (Qg st)) ps (Qg st)) (B : QD x st ps) (M : QdG mg cs) (tab : Qba P w K mg base k Γ) (tabx : QdC P w K mg base k Γx)
  (hcl : ∀ x ∈ cls, QfR K x) (hc : Qct n (Qd3 st Γ cs) ⟨Γx, cls⟩ (Qap st) = some g) : Qfb P w K mg base (k + 1) x (ps.length, Qdd (namesOf (Qg st)).length g) := by
 obtain ⟨f, fd, Fn, a⟩ := F.ex
 refine ⟨f, fd, ps, ?_, ZaA X G a, Fn.kp, Fn.binds (B ·), rfl⟩
 obtain ⟨oc, od, kV, doc, pm, an, cdv, ct, osl, rfl, lk, hcd⟩ := Fn.ex
 refine Qqd lk hcd S (QqB rfl) λ A outer s H vs Q E hr hsp => ?_
 obtain ⟨ds, L, y, rps, hl, hd, hE⟩ := hsp
 have ok : QN (QdF (CXR P w) P w K mg base (namesOf (Qg st)) x (Qg st) f cdv A outer s H E) (Qd3 st Γ cs) := Ql1 (CX := CXR P w) (E := E) S M tab hr PassesOwn.leaving
 have xk : XOk (QdF (CXR P w) P w K mg base (namesOf (Qg st)) x (Qg st) f cdv A outer s H E) ⟨Γx, cls⟩ := ⟨rfl, rfl, rfl, λ z r e => by
  obtain ⟨f', fd', ps', h1, h2, h3, h4, h5⟩ := tabx z r e
  exact ⟨k, f', fd', ps', h1, hr, h2, h3, h4, h5⟩, hcl⟩
 refine ⟨_, (QmA n).Xs _ _ _ _ g ok xk hc H L, ?_⟩
 obtain ⟨F0, rel⟩ := QfM (N := namesOf (Qg st)) rps
 obtain ⟨⟨y', ρ'⟩, e1, e2⟩ := Zb.mp hd
 cases e2
 exact ⟨_, [], F0, y', ρ', rel, e1, λ C ea s' hC T => QkH rfl rfl rfl rfl rfl rfl rfl T λ H' sm => hE C H' hC sm⟩
end
end HS
namespace HS
open PySem PySem.Spec L2 PyProof.Rows
section
variable {X : Cx} {pins : List (Addr × Obj)} {σ : L2.St} {H : Hp} {s s' : Shared} {B : Heap}
theorem QjC {h h' : Heap} {c : Addr} {v : Option Value} (up : h.UpToSlots h') (z : h.IsCell c v) : h'.IsCell c v := by
 obtain ⟨o, e, d⟩ := z
 obtain ⟨sl, e'⟩ := up c o e λ vs q => by rw [d] at q; cases q
 exact ⟨_, e', d⟩
theorem Qih (I : Inv X pins σ H s) (ho : s'.os = s.os) (hg : AllBare s'.gens) (hx : X.ex = []) (b1 : B.StaysIn s.heap) (b2 : B.StaysIn s'.heap) (up : s.heap.UpToSlots s'.heap) (cov : Cov H B)
  (old : ∀ b o, X.s₀.heap.get? b = some o -> b ∉ X.fs -> ∃ o', B.get? b = some o') (pb : ∀ p ∈ X.pn ++ pins, ∃ o, B.get? p.1 = some o) : Inv X pins σ H s' where
 ok := I.ok
 os := ho.trans I.os
 bare := hg
 base := by
  have hb := I.base
  rw [hx] at hb ⊢
  exact QkW hb b1 b2 up old (λ b o e hb => Qip I.ok e hb) I.ok.frf
 loc := by
  obtain ⟨m, hn, hl⟩ := I.loc
  refine ⟨m, up.ns hn, λ i x v e1 e2 e3 => ?_⟩
  obtain ⟨u, r, q⟩ := hl i x v e1 e2 e3
  refine ⟨u, r, ?_⟩
  rcases q with q | ⟨k, c, e, z⟩
  ·exact .inl q
  ·exact .inr ⟨k, c, e, QjC up z⟩
 cell := λ x c e => by
  obtain ⟨v, z⟩ := I.cell x c e
  exact ⟨v, QjC up z⟩
 free := I.free
 freeC := I.freeC
 pin := λ p hp => by
  obtain ⟨e, n, ne, nf, d⟩ := I.pin p hp
  obtain ⟨o, eo⟩ := pb p hp
  have := b1 _ _ eo
  rw [e] at this
  cases this
  exact ⟨b2 _ _ eo, n, ne, nf, d⟩
 hok := QiT I.hok b1 b2 cov
 len := I.len
theorem QqO {ea C : Addr} {a0 : Value} (I : Inv X pins σ H s) (hx : X.ex = []) (fl : Heap.FlyingW B X.stack ea (.ref C) a0 s.heap) (cov : Cov H B) (old : ∀ b o, X.s₀.heap.get? b = some o -> b ∉ X.fs -> ∃ o', B.get? b = some o')
  (pb : ∀ p ∈ X.pn ++ pins, ∃ o, B.get? p.1 = some o) : H ea = none /\ Inv X pins σ (upd H ea (.ext (QcM ea C))) s := by
 obtain ⟨oe, vs, he, hc, hd, _⟩ := fl.first
 have ne : ∀ {b o}, B.get? b = some o -> b ≠ ea := λ {b o} e z => by rw [z, fl.2.1] at e; cases e
 have hn : H ea = none := by
  cases q : H ea with
  | none => rfl
  | some u => obtain ⟨o, e⟩ := cov ea u q; exact absurd rfl (ne e)
 have nd : ∀ {b o}, s.heap.get? b = some o -> (∀ vs, o.data ≠ .fields vs) -> b ≠ ea := λ {b o} e h z => by
  rw [z, he] at e
  cases e
  exact h vs hd
 have tr : ∀ b u, H b = some u -> upd H ea (.ext (QcM ea C)) b = some u := λ b u e => by
  obtain ⟨o, eo⟩ := cov b u e
  rw [Qx (ne eo)]; exact e
 refine ⟨hn, I.ok, I.os, I.bare, ⟨I.base.keep, I.base.slot, λ b o e n hxx => ?_, I.base.there, λ b xs q => tr _ _ (I.base.tups b xs q), λ b o u q => tr _ _ (I.base.frzs b o u q), λ b ps q => ?_⟩, I.loc, I.cell, ?_, λ x c e => ?_, λ p hp => ?_, λ b u e => ?_, I.len⟩
 ·rw [Qx]
  ·exact I.base.free b o e n hxx
  ·by_cases hb : b ∈ X.fs
   ·obtain ⟨sl, e1⟩ := I.base.slot b o e n hb hxx
    exact nd e1 λ vs q => Qip I.ok e hb vs q
   ·obtain ⟨o', e1⟩ := old b o e hb
    exact ne e1
 ·obtain ⟨more, q⟩ := I.base.tbls b ps q
  exact ⟨more, tr _ _ q⟩
 ·rw [Qx]
  ·exact I.free
  ·obtain ⟨m, ⟨o, es, ep, e, d, _⟩, _⟩ := I.loc
   exact nd e λ vs q => by rw [d] at q; cases q
 ·rw [Qx]
  ·exact I.freeC x c e
  ·obtain ⟨v, o, eo, d⟩ := I.cell x c e
   exact nd eo λ vs q => by rw [d] at q; cases q
 ·obtain ⟨e, n, ne', nf, d⟩ := I.pin p hp
  obtain ⟨o, eo⟩ := pb p hp
  exact ⟨e, by rw [Qx (ne eo)]; exact n, ne', nf, d⟩
 ·by_cases hb : b = ea
  ·subst hb
   rw [QX] at e
   cases e
   refine ⟨⟨oe, vs, he, hc, hd⟩, ⟨oe, he⟩, λ h1 h2 ⟨o, w, e1, e2, e3⟩ k => ⟨o, w, k _ e1, e2, e3⟩⟩
  ·rw [Qx hb] at e
   exact (I.hok b u e).QeM (λ c v _ q => q) (λ c q => tr _ _ q) λ c xs q => tr _ _ q
theorem Qiv {M : Model} {A : Around} {E : Value -> Shared -> Prop} {i : Nat} {x : Str} {pos : Pos} {Q : Unit -> Shared -> Prop} (I : Inv X pins σ H s) (hN : X.N.Nodup) (hi : X.N[i]? = some x) (hx : X.env.scope.names.lookup x = some .local)
  (h : ∀ s', Inv X pins (σ.set i none) H s' -> Q () s') : wpAny M A (do bindName X.env x .none; unbindBehindTheSuite X.env x pos) Q E s := by
 refine wpAny_bind (wpAny_bindName (Qfw (v := .non) I hN hi (.inl hx) rfl (λ s1 I1 => ?_) (.inr hx)))
 have hcls : (X.env.scope.kind == .class || (X.env.scope.kind == .module && X.env.locals != X.env.globals)) = false := by rw [I.ok.kind]; rfl
 have hiσ : i < σ.length := by rw [I.len]; exact (Zh.mp hi).1
 obtain ⟨m, hn, hl⟩ := id I1.loc
 obtain ⟨u, _, q⟩ := hl i x .non hi (Zj hiσ) (.inl hx)
 have hm : m x = some u := by
  rcases q with ⟨_, e⟩ | ⟨k, _⟩
  ·exact e
  ·have hx' : X.env.kindOf x = some .local := hx
   rcases k with k | k <;> rw [hx'] at k <;> cases k
 unfold unbindBehindTheSuite
 refine wpAny_onRaise (wpAny_unbindName_local hx hn hm hcls λ h' u' hn' hs => h _ ?_)
 have cne := I1.cne
 obtain ⟨oL, _, _, hoL, _⟩ := id hn
 refine ⟨I1.ok, I1.os, I1.bare, ⟨λ b o e n hb hx => ?_, λ b o e n hb hx => ?_, I1.base.free, λ b o e hx => ?_, I1.base.tups, I1.base.frzs, I1.base.tbls⟩, ⟨_, hn', λ j y v' e1 e2 e3 => ?_⟩, λ y c e => ?_, I1.free, I1.freeC, λ p hp => ?_, λ b ob e => ?_, by simpa using I1.len⟩
 ·exact (hs.2 b (ZG (Zl (Zo e) I.ok.above))).trans (I1.base.keep b o e n hb hx)
 ·obtain ⟨sl, e1⟩ := I1.base.slot b o e n hb hx
  exact ⟨sl, (hs.2 b (ZG (Zl (Zo e) I.ok.above))).trans e1⟩
 ·obtain ⟨o', e1⟩ := I1.base.there b o e hx
  exact ⟨o', (hs.2 b (ZG (Zl (Zo e) I.ok.above))).trans e1⟩
 ·by_cases hj : j = i
  ·subst hj
   rw [Zj hiσ] at e2
   cases e2
  ·rw [Zf (Ne.symm hj)] at e2
   have e2' : (σ.set i (some V.non))[j]? = some (some v') := by rw [Zf (Ne.symm hj)]; exact e2
   obtain ⟨u1, r1, q1⟩ := hl j y v' e1 e2' e3
   refine ⟨u1, r1, ?_⟩
   rcases q1 with ⟨k, e⟩ | ⟨k, c, e, z⟩
   ·refine .inl ⟨k, ?_⟩
    have : y ≠ x := λ e => hj (Qhn hN e1 (e ▸ hi))
    simp [this, e]
   ·exact .inr ⟨k, c, e, z.sameBut hs (cne y c e)⟩
 ·obtain ⟨w', z⟩ := I1.cell y c e
  exact ⟨w', z.sameBut hs (cne y c e)⟩
 ·obtain ⟨e, n, ne, nf, d⟩ := I1.pin p hp
  exact ⟨(hs.2 p.1 ne).trans e, n, ne, nf, d⟩
 ·refine (I1.hok b ob e).QeM (λ c w' hc q => (hs.2 c ?_).trans q) (λ _ q => q) λ _ _ q => q
  rintro rfl
  have hfree := I1.free
  rcases hc with rfl | hc
  ·rw [hfree] at e; cases e
  ·rw [hfree] at hc; cases hc
end
end HS
namespace HS
open PySem PySem.Spec L2 PyProof.Rows
noncomputable abbrev inH (X : Cx) (ea : Addr) : Cx := { X with A := X.A.mark (some (.ref ea)), calm := false, xe := λ _ _ => False }
def Fly (X : Cx) (pins : List (Addr × Obj)) (H : Hp) (ea C : Addr) (s : Shared) : Prop := ∃ B a0, Heap.FlyingW B X.stack ea (.ref C) a0 s.heap /\ Cov H B /\ (∀ b o, X.s₀.heap.get? b = some o -> b ∉ X.fs -> ∃ o', B.get? b = some o') /\ ∀ p ∈ X.pn ++ pins, ∃ o, B.get? p.1 = some o
section
variable {X : Cx} {pins : List (Addr × Obj)} {σ : L2.St} {H : Hp} {s s' : Shared} {B : Heap} {ea C : Addr}
theorem _root_.L2.Inv.inH (I : Inv X pins σ H s) : Inv (HS.inH X ea) pins σ H s :=
 ⟨⟨I.ok.mod, I.ok.kind, I.ok.glob, I.ok.blt, I.ok.above, I.ok.inj, I.ok.has, I.ok.cab, λ z => (by cases z), I.ok.frames, I.ok.stk, I.ok.exf, I.ok.bs, I.ok.bsz, I.ok.noex, I.ok.exfs, I.ok.Qcp, I.ok.frf⟩, I.os, I.bare, I.base, I.loc, I.cell, I.free, I.freeC, I.pin, I.hok, I.len⟩
theorem _root_.L2.Inv.QeR (ok : X.Ok) (I : Inv (HS.inH X ea) pins σ H s) : Inv X pins σ H s := ⟨ok, I.os, I.bare, I.base, I.loc, I.cell, I.free, I.freeC, I.pin, I.hok, I.len⟩
theorem QlB {E : Value -> Shared -> Prop} {Qk : Shared -> Prop} {H0 : Hp} {A0 : List Addr} {hs : List (V × D × List Addr)} {ρ : En} (T : QeZ X H0 A0 hs ρ (.ref C) ea s') (hx : X.ex = []) (hst : X.stack = X.env :: X.outer) (hf : X.env.frame = some X.env.locals)
  (k : ∀ pins σ H F s'', Rel X.K H0 A0 hs ρ F σ H -> Inv X pins σ H s'' -> Fly X pins H ea C s'' -> Qk s'') :
  wpAny (model X.prog X.w) X.A (noteFrame (.ref ea) X.env) (λ _ s₂ => wpAny (model X.prog X.w) X.A (setFlight (.ref ea) none) (λ _ s₃ => Qk s₃) E s₂) E s' := by
 obtain ⟨pins, σ, H, F, rel, ⟨sg, args, I, hm, ho, hg⟩ | ⟨B, a0, I, fl, cov, old, pb⟩⟩ := T
 ·obtain ⟨B, b1, b2, cov, old, pb⟩ := Qlf I hx
  have hfr := I.ok.frames
  rw [hst] at hfr b2
  obtain ⟨t, he, htn, ht⟩ := hm.there
  have fresh : B.get? ea = none := by
   cases q : B.get? ea with
   | none => rfl
   | some o => have := b1 _ _ q; rw [hm.new] at this; cases this
  have note : ∀ Q : Unit -> Shared -> Prop, (∀ h', Heap.NotedW B (X.env :: X.outer) ea (.ref C) (.ref t) (rawInt X.env.locals) s'.heap h' -> Q () { s' with heap := h' }) -> wpAny (model X.prog X.w) X.A (noteFrame (.ref ea) X.env) Q E s' := λ Q hq => by
   unfold noteFrame
   simp only [hf]
   refine wpAny_bind (wpAny_field (x := .none) he rfl rfl ?_)
   rw [if_neg (by decide)]
   exact wpAny_entryW (a0 := .ref t) hfr (b2.of_keeps λ b o hb _ => ⟨o, hm.keeps b o hb, rfl⟩) hf he (λ b o hb => hm.keeps b o (b1 b o hb)) fresh rfl (by show 1 < 6; decide) rfl hq
  refine note _ λ h1 ⟨n1, n2, n3, n4⟩ => ?_
  refine wpAny_landsW (s := { s' with heap := h1 }) (L := X.env.locals) ⟨n1, fresh, n2, n3⟩ λ h2 fl up => ?_
  have up' : sg.heap.UpToSlots h2 := ((Heap.UpToSlots.of_keeps hm.keeps).trans n4).trans up
  refine k pins σ H F _ rel (Qih I ho (by show AllBare s'.gens; rw [hg]; exact I.bare) hx b1 fl.1 up' cov old pb) ⟨B, _, by rw [hst]; exact fl, cov, old, pb⟩
 ·have hfr := I.ok.frames
  rw [hst] at hfr fl
  refine wpAny_looks_onW hfr hf fl λ h1 hd up1 => ?_
  refine wpAny_landsW (s := { s' with heap := h1 }) hd λ h2 fl2 up2 => ?_
  exact k pins σ H F _ rel (Qih I rfl I.bare hx fl.1 fl2.1 (up1.trans up2) cov old pb) ⟨B, a0, by rw [hst]; exact fl2, cov, old, pb⟩
def Qmx (K : PySem.W.Frag) (sub : Str -> Str -> Option Bool) : Prop := ∀ x y b, sub x y = some b -> ∃ C c, ClsAt K x C /\ PySem.W.KtsName K y c /\ PySem.W.exmOne K (.ref C) c = some b
theorem Qnq {E : Value -> Shared -> Prop} {y : Str} {c : Value} {np : Pos} {Q : Value -> Shared -> Prop} (I : Inv X pins σ H s) (hg : Gl X y) (hdb : (y == ("__debug__" : Str)) = false) (k : PySem.W.KtsName X.K y c) (h : Q c s) : wpAny (model X.prog X.w) X.A (eval (.Name y np) X.env) Q E s := by
 rcases k with k | ⟨k1, k2, k3⟩
 ·exact Qda I hg (ZaA I.ok.mod.kin I.ok.mod.glob k) h hdb
 ·exact Qc2 I hg (PySem.W.mg_none_of I.ok.mod.kin I.ok.mod.glob k1) k2 h k3 hdb
theorem QcR {K : PySem.W.Frag} {x : Str} {C C' : Addr} (a : ClsAt K x C) (b : ClsAt K x C') : C = C' := by
 unfold ClsAt at a b
 rw [a] at b
 exact Value.ref.inj (Option.some.inj (Option.some.inj b))
theorem Rel.Qjc {K : PySem.W.Frag} {H0 : Hp} {A0 : List Addr} {hs : List (V × D × List Addr)} {ρ : En} {F : Nat -> List Addr} {i : Nat} (r : Rel K H0 A0 hs ρ F σ H) : Rel K H0 A0 hs (ρ.set i none) F (σ.set i none) H := by
 have w := r.weak (Qf9 (ρ := ρ) i)
 refine ⟨by simpa using r.len, λ j d b e => ?_, w.own, w.src, w.held, w.same⟩
 obtain ⟨v, h1, h2⟩ := w.val j d b e
 refine ⟨v, ?_, h2⟩
 by_cases hj : i = j
 ·subst hj
  exfalso
  by_cases hl : i < ρ.length
  ·rw [Zj hl] at e; cases e
  ·rw [Zp (by simp; omega)] at e; cases e
 ·rw [Zf hj]; exact h1
noncomputable def Qsh (i : Nat) : Out -> Out
 | .nx ρ => .nx (ρ.set i none)
 | .bk ρ => .bk (ρ.set i none)
 | .ct ρ => .ct (ρ.set i none)
 | .rt d fr => .rt d fr
noncomputable abbrev Hd := Str × Option Nat × DS
noncomputable def Qhz (sub : Str -> Str -> Option Bool) (x : Str) (ρ : En) : List Hd -> Option Out
 | [] => none
 | h :: r => (sub x h.1).bind λ b => if b = true then (match h.2.1 with
  | none => h.2.2 ρ
  | some i => (h.2.2 (ρ.set i (some (.exc x, true)))).map (Qsh i)) else Qhz sub x ρ r
noncomputable def QdY (f : DS) (fx : DX) (sub : Str -> Str -> Option Bool) (hl : List Hd) : DS := λ ρ => match f ρ with
 | some o => some o
 | none => (fx ρ).bind λ q => Qhz sub q.1 q.2 hl
inductive Qf0 (X : Cx) : List ExceptHandler -> List Hd -> Prop
 | nil : Qf0 X [] []
 | bare {y : Str} {np pos : Pos} {b₀ : Stmt} {suite : List Stmt} {r : List ExceptHandler} {hr : List Hd} {f : DS} (hg : Gl X y) (hdb : (y == ("__debug__" : Str)) = false) (hS : ∀ ea, SS (inH X ea) (b₀ :: suite) f) (t : Qf0 X r hr) :
   Qf0 X (.ExceptHandler (some (.Name y np)) none (b₀ :: suite) pos :: r) ((y, none, f) :: hr)
 | as {y n : Str} {np pos : Pos} {b₀ : Stmt} {suite : List Stmt} {r : List ExceptHandler} {hr : List Hd} {f : DS} {i : Nat} (hg : Gl X y) (hdb : (y == ("__debug__" : Str)) = false) (hi : X.N[i]? = some n) (hl : X.env.scope.names.lookup n = some .local) (hS : ∀ ea, SS (inH X ea) (b₀ :: suite) f) (t : Qf0 X r hr) :
   Qf0 X (.ExceptHandler (some (.Name y np)) (some n) (b₀ :: suite) pos :: r) ((y, some i, f) :: hr)
theorem _root_.L2.SP.QeR {Dd : Ends} {f : Flow} (ok : X.Ok) (h : SP (HS.inH X ea) pins Dd f s) : SP X pins Dd f s := by
 cases f with
 | next => obtain ⟨σ', H', I, q⟩ := h; exact ⟨σ', H', I.QeR ok, q⟩
 | brk => obtain ⟨σ', H', I, q⟩ := h; exact ⟨σ', H', I.QeR ok, q⟩
 | cont => obtain ⟨σ', H', I, q⟩ := h; exact ⟨σ', H', I.QeR ok, q⟩
 | ret u => obtain ⟨v, σ', H', I, r, q⟩ := h; exact ⟨v, σ', H', I.QeR ok, r, q⟩
theorem Qnu {sub : Str -> Str -> Option Bool} {x : Str} {H0 : Hp} {A0 : List Addr} {hs : List (V × D × List Addr)} {ρ : En} {Dd : Ends} {o : Out} (hN : X.N.Nodup) (hx : X.ex = []) (hsub : Qmx X.K sub) (hC : ClsAt X.K x C) :
  ∀ {hds : List ExceptHandler} {hl : List Hd}, Qf0 X hds hl -> ∀ {F : Nat -> List Addr} {σ : L2.St} {H : Hp} {s : Shared}, Inv X pins σ H s -> Rel X.K H0 A0 hs ρ F σ H -> Fly X pins H ea C s -> Qhz sub x ρ hl = some o -> Fits X.K H0 A0 hs Dd o →
   wpAny (model X.prog X.w) X.A (handleBy (.ref ea) X.env hds) (SP X pins Dd) X.xe s := by
 intro hds hl h
 have test : ∀ {y : Str} {np pos : Pos} {nm : Option Str} {b₀ : Stmt} {suite : List Stmt} {r : List ExceptHandler} {b : Bool} {σ : L2.St} {H : Hp} {s : Shared}, Gl X y -> (y == ("__debug__" : Str)) = false -> sub x y = some b -> Inv X pins σ H s -> Fly X pins H ea C s →
   (b = true -> codeAny (model X.prog X.w) (X.A.mark (some (.ref ea))) (.handlers (.ref ea) [.ExceptHandler none nm (b₀ :: suite) pos] X.env) (λ r s₂ => match r with
     | .ok f => (match nm with
      | none => SP X pins Dd f s₂
      | some n => wpAny (model X.prog X.w) X.A (do bindName X.env n .none; unbindBehindTheSuite X.env n pos) (λ _ s₃ => SP X pins Dd f s₃) X.xe s₂)
     | .error x => cameBackBy (model X.prog X.w) X.A X.env X.xe x s₂) s) →
   (b = false -> wpAny (model X.prog X.w) X.A (handleBy (.ref ea) X.env r) (SP X pins Dd) X.xe s) -> wpAny (model X.prog X.w) X.A (handleBy (.ref ea) X.env (.ExceptHandler (some (.Name y np)) nm (b₀ :: suite) pos :: r)) (SP X pins Dd) X.xe s := by
  intro y np pos nm b₀ suite r b σ H s hg hdb e1 I fly ht hf
  obtain ⟨C', c, k1, k2, k3⟩ := hsub x y b e1
  cases QcR hC k1
  obtain ⟨B, a0, fl, _⟩ := fly
  obtain ⟨ob, hob, hc⟩ := fl.there
  have LT : PySem.W.Looks (model X.prog X.w) s.heap (typeOf (.ref ea)) (.ref C) := hc ▸ (PySem.W.Looks.ld hob).andThen .now
  refine wpAny_handleBy_cons (codeAny_handlers_test (Qnq (X := HS.inH X ea) (I.inH (ea := ea)) hg hdb k2 ((PySem.W.exm_one I.kIn LT k3).here ?_))) (by intro q; cases q)
  cases b with
  | true => exact ht rfl
  | false => exact hf rfl
 induction h with
 | nil => intro F σ H s I rel fly e q; cases e
 | @bare y np pos b₀ suite r hr f hg hdb hS t ih =>
  intro F σ H s I rel fly e q
  obtain ⟨b, e1, e⟩ := bind1 e
  refine test hg hdb e1 I fly (λ hb => ?_) λ hb => ?_
  ·subst hb
   rw [if_pos rfl] at e
   obtain ⟨B, a0, fl, cov, old, pb⟩ := fly
   refine codeAny_handlers_suite (lands_againW fl λ h' fl' up => ?_)
   have I1 := Qih (s' := { s with heap := h' }) I rfl I.bare hx fl.1 fl'.1 up cov old pb
   exact wpAny_mono (hS ea H0 A0 pins _ σ H Dd (I1.inH (ea := ea)) ⟨ρ, hs, F, o, rel, e, q⟩) (λ f s2 hq => SP.QeR I.ok hq) λ _ _ z => z.elim
  ·subst hb
   rw [if_neg ZE] at e
   exact ih I rel fly e q
 | @as y n np pos b₀ suite r hr f i hg hdb hi hl hS t ih =>
  intro F σ H s I rel fly e q
  obtain ⟨b, e1, e⟩ := bind1 e
  refine test hg hdb e1 I fly (λ hb => ?_) λ hb => ?_
  ·subst hb
   rw [if_pos rfl] at e
   obtain ⟨o1, e2, e3⟩ := Zb.mp e
   subst e3
   obtain ⟨B, a0, fl, cov, old, pb⟩ := fly
   refine codeAny_handlers_suite_as (lands_againW fl λ h' fl' up => ?_)
   have I1 := Qih (s' := { s with heap := h' }) I rfl I.bare hx fl.1 fl'.1 up cov old pb
   obtain ⟨hn, I2⟩ := QqO I1 hx fl' cov old pb
   have sm : Qy H (upd H ea (.ext (QcM ea C))) := λ b u eb => by rw [Qx (λ z => by rw [z, hn] at eb; cases eb)]; exact eb
   refine Qfw (X := HS.inH X ea) (v := .ref ea) (I2.inH (ea := ea)) hN hi (.inl hl) rfl (λ s3 I3 => ?_) (.inr hl)
   obtain ⟨F', rel'⟩ := (rel.ext sm).QuB (i := i) (d := .exc x) (v := .ref ea) (by rw [Rp]; exact ⟨⟨ea, rfl, C, hC, QX⟩, rfl⟩) rfl
   refine wpAny_mono (hS ea H0 A0 pins _ _ _ ⟨λ σ' H' => Dd.nx (σ'.set i none) H', Dd.rt, λ σ' H' => Dd.bk (σ'.set i none) H', λ σ' H' => Dd.ct (σ'.set i none) H'⟩ I3 ⟨_, hs, F', o1, rel', e2, ?_⟩) (λ f s4 hq => ?_) λ _ _ z => z.elim
   ·cases o1 with
    | nx ρ1 => exact λ σ' H' F' rel' => q _ _ _ rel'.Qjc
    | bk ρ1 => exact λ σ' H' F' rel' => q _ _ _ rel'.Qjc
    | ct ρ1 => exact λ σ' H' F' rel' => q _ _ _ rel'.Qjc
    | rt d fr => exact q
   ·cases f with
    | next => obtain ⟨σ', H', I4, q4⟩ := hq; exact Qiv (I4.QeR I.ok) hN hi hl λ s5 I5 => ⟨_, H', I5, q4⟩
    | brk => obtain ⟨σ', H', I4, q4⟩ := hq; exact Qiv (I4.QeR I.ok) hN hi hl λ s5 I5 => ⟨_, H', I5, q4⟩
    | cont => obtain ⟨σ', H', I4, q4⟩ := hq; exact Qiv (I4.QeR I.ok) hN hi hl λ s5 I5 => ⟨_, H', I5, q4⟩
    | ret u => obtain ⟨v, σ', H', I4, r4, q4⟩ := hq; exact Qiv (I4.QeR I.ok) hN hi hl λ s5 I5 => ⟨v, _, H', I5, r4, q4⟩
  ·subst hb
   rw [if_neg ZE] at e
   exact ih I rel fly e q
noncomputable abbrev Cx.chg (X : Cx) (xe : Value -> Shared -> Prop) (pn : List (Addr × Obj)) : Cx := { X with xe := xe, pn := pn }
theorem _root_.L2.Inv.chg {xe : Value -> Shared -> Prop} (I : Inv X pins σ H s) : Inv (Cx.chg X xe (X.pn ++ pins)) [] σ H s :=
 ⟨⟨I.ok.mod, I.ok.kind, I.ok.glob, I.ok.blt, I.ok.above, I.ok.inj, I.ok.has, I.ok.cab, I.ok.hd, I.ok.frames, I.ok.stk, I.ok.exf, I.ok.bs, I.ok.bsz, I.ok.noex, I.ok.exfs, I.ok.Qcp, I.ok.frf⟩, I.os, I.bare, I.base, I.loc, I.cell, I.free, I.freeC, λ p hp => I.pin p (by simpa using hp), I.hok, I.len⟩
theorem _root_.L2.Inv.QhZ {xe : Value -> Shared -> Prop} {pins' : List (Addr × Obj)} (ok : X.Ok) (I : Inv (Cx.chg X xe (X.pn ++ pins)) pins' σ H s) : Inv X pins σ H s :=
 ⟨ok, I.os, I.bare, I.base, I.loc, I.cell, I.free, I.freeC, λ p hp => I.pin p (Ze _ hp), I.hok, I.len⟩
theorem Qst {sub : Str -> Str -> Option Bool} {body : List Stmt} {h₀ : ExceptHandler} {hds : List ExceptHandler} {hl : List Hd} {f : DS} {fx : DX} {pos : Pos} (hN : X.N.Nodup) (hx : X.ex = []) (hst : X.stack = X.env :: X.outer) (hf : X.env.frame = some X.env.locals) (hsub : Qmx X.K sub)
  (hb : ∀ xe pn, PassesOwn (model X.prog X.w) X.A X.env xe -> SS (Cx.chg X xe pn) body f /\ RzS (Cx.chg X xe pn) body fx) (hh : Qf0 X (h₀ :: hds) hl) : S1 X (.Try body (h₀ :: hds) [] [] pos) (QdY f fx sub hl) := λ H0 A0 pins s σ H Dd I ⟨ρ, hs, F, o, rel, e, q⟩ => by
 refine wpAny_Try_except ?_
 have pass : PassesOwn (model X.prog X.w) X.A X.env (λ e s₁ => wpAny (model X.prog X.w) X.A (noteFrame e X.env) (λ _ s₂ => wpAny (model X.prog X.w) X.A (setFlight e none) (λ _ s₃ => wpAny (model X.prog X.w) X.A (handleBy e X.env (h₀ :: hds)) (SP X pins Dd) X.xe s₃) X.xe s₂) X.xe s₁) := PassesOwn.looking
 obtain ⟨b1, b2⟩ := hb _ (X.pn ++ pins) pass
 unfold QdY at e
 split at e
 ·rename_i o' eo
  cases e
  refine thn (b1 H0 A0 [] s σ H Dd I.chg ⟨ρ, hs, F, o, rel, eo, q⟩) λ fl s1 hq => ?_
  cases fl with
  | next => obtain ⟨σ', H', I1, q1⟩ := hq; exact wpAny_execs_nil ⟨σ', H', I1.QhZ I.ok, q1⟩
  | brk => obtain ⟨σ', H', I1, q1⟩ := hq; exact ⟨σ', H', I1.QhZ I.ok, q1⟩
  | cont => obtain ⟨σ', H', I1, q1⟩ := hq; exact ⟨σ', H', I1.QhZ I.ok, q1⟩
  | ret u => obtain ⟨v, σ', H', I1, r1, q1⟩ := hq; exact ⟨v, σ', H', I1.QhZ I.ok, r1, q1⟩
 ·obtain ⟨⟨x, ρ'⟩, e1, e⟩ := bind1 e
  refine thn (b2 H0 A0 [] s σ H ⟨λ _ _ => False, λ _ _ => False, λ _ _ => False, λ _ _ => False⟩ I.chg ⟨ρ, hs, F, x, ρ', rel, e1, λ C ea s' hC T => ?_⟩) λ fl s1 hq => ?_
  ·refine QlB (X := Cx.chg X _ (X.pn ++ pins)) (E := X.xe) (Qk := λ s₃ => wpAny (model X.prog X.w) X.A (handleBy (.ref ea) X.env (h₀ :: hds)) (SP X pins Dd) X.xe s₃) T hx hst hf λ pins' σ' H' F' s'' rel' I' fly => ?_
   obtain ⟨B, a0, fl, cov, old, pb⟩ := fly
   exact Qnu hN hx hsub hC hh (I'.QhZ I.ok) rel' ⟨B, a0, fl, cov, old, λ p hp => pb p (Ze _ hp)⟩ e q
  ·cases fl with
   | next => obtain ⟨σ', H', I1, q1⟩ := hq; exact q1.elim
   | brk => obtain ⟨σ', H', I1, q1⟩ := hq; exact q1.elim
   | cont => obtain ⟨σ', H', I1, q1⟩ := hq; exact q1.elim
   | ret u => obtain ⟨v, σ', H', I1, r1, q1⟩ := hq; exact q1.elim
end
end HS
namespace HS
open PySem PySem.Spec L2 PyProof.Rows PySem.W
structure QeQ (K : Frag) (C : Addr) : Prop where
 cl : (clsIn K C).isSome = true
 ga : findIn K (.ref C) "__getattribute__" = some (some (.builtin "BaseException.__getattribute__"))
 hk : findIn K (.ref C) "__getattr__" = some none
 ca : findIn K (.ref C) "__class__" = some (some (.builtin "object.__class__"))
 mo : mroIn K C (.type "object") = some true
 be : subIn K (.ref C) (.type "BaseException") = some true
section
variable {prog : Program} {w : World} {A : Around} {E : Value -> Shared -> Prop} {s : Shared} {K : Frag} {a C : Addr}
theorem Qgd {M : Model} {h : Heap} (x : QcM a C h) : Looks M h (typeOf (.ref a)) (.ref C) := by
 obtain ⟨o, vs, e, c, _⟩ := x
 exact c ▸ (Looks.ld e).andThen .now
theorem Qrg {R : Result -> Shared -> Prop} {tp : Value} (z : QeQ K C) (X : K.In s.heap) (x : QcM a C s.heap) (h : R (.ok (.ret (.ref C))) s) :
  codeAny (model prog w) A (.call (.builtin "getset_descriptor.__get__") ⟨[.builtin "object.__class__", .ref a, tp], []⟩) R s := by
 obtain ⟨hh, g, dr, t, os⟩ := s
 have T0 := Qgd (M := model prog w) x
 have T1 := looks_mroIn (M := model prog w) X z.mo
 refine codeAny_call_builtin KF.slot_gs.plain KF.entry_gs
  (KF.slot_gs.check _ _ _ _ _ _ _ _ KF.type_class (KF.args_gs _ _ _) ?_)
 unfold Builtin.«getset_descriptor.__get__» Builtin.Getset_descriptor.descrGet
 rw [dga_obj]; refine wpAny_bind (wpAny_pure ?_)
 unfold Builtin.Getset_descriptor.descrGetter Builtin.Getset_descriptor.descrCheckInstance
  Builtin.Getset_descriptor.descrNameAndClass isInstance
 simp only [KF.owner_class]
 repeat lk
 refine ⟨Code.quiet_builtin _ (by decide +kernel),
  codeAny_builtin KF.entry_class ?_⟩
 unfold Builtin.«object.__class__» shownTypeOf; repeat lk
 exact h
theorem Qn6 {tk : Tok} {Q : Fin -> Shared -> Prop} (z : QeQ K C) (X : K.In s.heap) (x : QcM a C s.heap) (h : Q (.done (.ret (.ref C))) s) :
  wpAny (model prog w) A (Builtin.«object.__getattribute__» ⟨[.ref a, .str "__class__" tk], []⟩) Q E s := by
 obtain ⟨hh, g, dr, t, os⟩ := s
 have T0 := Qgd (M := model prog w) x
 have T1 := looks_findIn (M := model prog w) X z.ca
 have f5 := F.typeOf_object_class
 have f6 := F.slot_gs_get.lookup
 have f7 := F.slot_gs_set.lookup
 obtain ⟨o, vs, hx, hc, hd⟩ := id x
 have hT5 : (⟨hh, g, dr, t, os⟩ : Shared).TypeIs (.builtin "object.__class__") "getset_descriptor" := f5
 repeat (any_goals (first | assumption | (with_reducible refine wpAny_loadPart_at hx ?_; rw [hc]) | with_reducible refine T1.at ?_ | wp_step))
 refine Qrg z X x ?_
 repeat (any_goals (first | assumption | wp_step))
theorem QnO {M : Model} {nameV : Value} {Q : Unit -> Shared -> Prop} (z : QeQ K C) (X : K.In s.heap) (x : QcM a C s.heap) (h : Q () s) : wpAny M A (checkBuiltinCall "BaseException.__getattribute__" ⟨[.ref a, nameV], []⟩) Q E s := by
 obtain ⟨hh, g, dr, t, os⟩ := s
 have k1 : builtinKind "BaseException.__getattribute__" = some .slot := by decide +kernel
 have k2 : splitId "BaseException.__getattribute__" = some ("BaseException", "__getattribute__") := by decide +kernel
 have T0 := Qgd (M := M) x
 have T1 := looks_subIn (M := M) X z.be
 have T2 : Looks M hh (isInstance (.ref a) (.type "BaseException")) true := T0.andThen T1
 have k3 := F.args_bexc_ga (.ref a) nameV
 simp only [checkBuiltinCall, k1, k2]
 refine wpAny_bind (T2.at ?_)
 rw [if_neg (by decide)]
 have k4 : Q () ⟨hh, g, dr, t, os⟩ := h
 repeat (any_goals (first | assumption | wp_step))
theorem QsE {tk : Tok} {Q : Value -> Shared -> Prop} (z : QeQ K C) (X : K.In s.heap) (x : QcM a C s.heap) (h : Q (.ref C) s) : wpAny (model prog w) A (getAttrBy (.ref a) (.str "__class__" tk) false) Q E s := by
 obtain ⟨hh, g, dr, t, os⟩ := s
 have T0 := Qgd (M := model prog w) x
 have T1 := looks_findIn (M := model prog w) X z.ga
 have T2 := looks_findIn (M := model prog w) X z.hk
 have f3 := PySem.F.attr_ValueError.ga.bind (.ref a)
 have n2 : (Value.builtin "BaseException.__getattribute__" == Value.builtin "object.__getattribute__") = false := by decide +kernel
 have n1 : (onTheHeap (Value.ref C) && Value.builtin "BaseException.__getattribute__" == Value.builtin "object.__getattribute__") = false := by rw [n2]; rfl
 obtain ⟨o, vs, hx, hc, hd⟩ := id x
 repeat (any_goals (first | assumption | (with_reducible refine wpAny_loadPart_at hx ?_; rw [hc]) | with_reducible refine T1.at ?_ | with_reducible refine T2.at ?_ | wp_step))
 refine codeAny_call_builtin PySem.F.attr_ValueError.ga.plain F.entry_bexc_ga (QnO z X x (Qn6 z X x ?_))
 have k4 : Q (.ref C) ⟨hh, g, dr, t, os⟩ := h
 repeat (any_goals (first | assumption | wp_step))
theorem Qpo {Q : Option Value -> Shared -> Prop} (z : QeQ K C) (X : K.In s.heap) (x : QcM a C s.heap) (h : Q (some (.ref C)) { s with toks := s.toks + 1 }) : wpAny (model prog w) A (getAttr? (.ref a) "__class__") Q E s := by
 obtain ⟨hh, g, dr, t, os⟩ := s
 have k4 : Q (some (.ref C)) ⟨hh, g, dr, t + 1, os⟩ := h
 have X' : K.In (⟨hh, g, dr, t + 1, os⟩ : Shared).heap := X
 have x' : QcM a C (⟨hh, g, dr, t + 1, os⟩ : Shared).heap := x
 unfold getAttr? getAttrBy?
 repeat (any_goals (first | assumption | with_reducible apply QsE z X' x' | wp_step))
theorem Qkh (z : QeQ K C) : KitX K (.ref a) (.ref C) (QcM a C) where
 ty := λ _ _ _ x => Qgd x
 it := λ _ _ X _ => by
  have h0 := z.cl
  unfold clsIn at h0
  split at h0
  ·rename_i ho
   intro A' Q' E' s' k q
   unfold isType loadHead
   refine wpAny_bind ?_
   exact wpAny_loadPart (k _ _ (X _ _ ho)) (wpAny_pure q)
  ·cases h0
 ne := λ h tp dd its n sl X htp => by
  have h0 := z.cl
  refine Bool.eq_false_iff.mpr λ q => ?_
  obtain rfl : C = tp := Value.ref.inj (beq_iff_eq.mp q)
  unfold clsIn at h0
  split at h0
  ·rename_i ho
   have e := X _ _ ho
   rw [htp] at e
   cases e
  ·cases h0
 ca := λ X x k => Qpo z X x k
end
end HS
namespace HS
open PySem PySem.Spec L2 PyProof.Rows
def QqS (K : PySem.W.Frag) (x y : Str) (b : Bool) : Prop := ∃ C c, ClsAt K x C /\ PySem.W.KtsName K y c /\ PySem.W.exmOne K (.ref C) c = some b /\ PySem.W.kitOne K (.ref C) c = some b /\ QeQ K C
def Qbi (K : PySem.W.Frag) (sub : Str -> Str -> Option Bool) : Prop := ∀ x y b, sub x y = some b -> QqS K x y b
theorem Qbi.ok {K : PySem.W.Frag} {sub : Str -> Str -> Option Bool} (h : Qbi K sub) : Qmx K sub := λ x y b e => by
 obtain ⟨C, c, h1, h2, h3, _⟩ := h x y b e
 exact ⟨C, c, h1, h2, h3⟩
noncomputable def vC : Value -> V
 | .ref a => .ref a
 | .type n => .ty n
 | _ => .non
theorem QkU {K : PySem.W.Frag} {C : Addr} {c : Value} {b : Bool} (h : PySem.W.kitOne K (.ref C) c = some b) : RelV (vC c) c := by
 cases c with
 | ref a => exact rfl
 | type n => exact rfl
 | _ =>
  unfold PySem.W.kitOne at h
  split at h
  ·rename_i q; have := beq_iff_eq.mp q; cases this
  ·cases h
noncomputable def anyS (sub : Str -> Str -> Option Bool) (x : Str) : List Str -> Option Bool
 | [] => some false
 | y :: r => (sub x y).bind λ b => (anyS sub x r).map λ d => b || d
noncomputable def Qfy (sub : Str -> Str -> Option Bool) (ys : List Str) (fa : DE) : DE := λ ρ => (fa ρ).bind λ r => match r.d with
 | .exc x => (anyS sub x ys).map λ b => ⟨.bl b, true, []⟩
 | _ => none
section
variable {X : Cx} {a : Expr} {fa : DE} {p p2 pos : Pos} {sub : Str -> Str -> Option Bool}
noncomputable def Quy (K : PySem.W.Frag) : List V -> Hp -> VK -> Prop := λ xs H Q => ∃ C a y, xs = [.ref a, y] /\ H a = some (.ext (QcM a C)) /\ QeQ K C ∧
 ((∃ c b, y = vC c /\ PySem.W.kitOne K (.ref C) c = some b /\ Q (.bl b) H) ∨ ∃ tp cs b, y = .ref tp /\ H tp = some (.tup (cs.map vC)) /\ (∀ c ∈ cs, RelV (vC c) c) /\ PySem.W.kitAny K (.ref C) cs = some b /\ Q (.bl b) H)
theorem Qk2 {v : V} {c c' : Value} (hv : v = vC c) (h : RelV (vC c) c) (h' : RelV v c') : c' = c := by
 subst hv
 cases c with
 | ref a => exact h'
 | type n => exact h'
 | none => cases h'; rfl
 | _ => cases h
theorem Qkz : ∀ {cs : List Value} {us : List Value}, (∀ c ∈ cs, RelV (vC c) c) -> Qr (cs.map vC) us -> us = cs
 | [], _, _, .nil => rfl
 | c :: cs, _, h, .cons r t => by
  rw [Qk2 rfl (h c Zi) r, Qkz (λ c hc => h c (Zd _ hc)) t]
theorem QkK : QbY X (.builtin "isinstance") (Quy X.K) := by
 intro pins s σ H xs us Q I r h
 obtain ⟨C, a, y, rfl, hH, z, h⟩ := h
 obtain ⟨u, w, rfl, ru, rw'⟩ := vals2 r
 cases (show u = Value.ref a from ru)
 have xo : QcM a C s.heap := (show Qa7 X.prog X.w H s.heap a (.ext (QcM a C)) from I.hok a _ hH).1
 rcases h with ⟨c, b, rfl, k, q⟩ | ⟨tp, cs, b, rfl, ht, hr, k, q⟩
 ·cases Qk2 rfl (QkU k) rw'
  exact Zar (Qkh z) I.kIn xo k (λ z => nomatch z) λ tk => ⟨.bl b, H, I.tok _, rfl, q⟩
 ·cases (show w = Value.ref tp from rw')
  obtain ⟨_, its, rv, o, e1, e2, n, e3⟩ := (show Qa7 X.prog X.w H s.heap tp (.tup (cs.map vC)) from I.hok tp _ ht)
  have hits := Qkz hr rv
  subst hits
  obtain ⟨oc, od, odat, osl⟩ := o
  dsimp only at e2 e3
  subst e2 e3
  exact PySem.W.kia_tup (Qkh z) I.kIn xo e1 k (λ z => nomatch z) λ tk => ⟨.bl b, H, I.tok _, rfl, q⟩
theorem QnS {y : Str} {c : Value} {np : Pos} (hg : Gl X y) (hdb : (y == ("__debug__" : Str)) = false) (k : PySem.W.KtsName X.K y c) (hr : RelV (vC c) c) : PE X (.Name y np) (tC (vC c)) := λ pins s σ H Q I h => Qnq I hg hdb k ⟨vC c, H, I, hr, h⟩
theorem QrE {y : Str} (hsub : Qbi X.K sub) (hg : Gl X "isinstance") (hm : X.mg "isinstance" = none) (hy : Gl X y) (hdb : (y == ("__debug__" : Str)) = false) (ha : SE X a fa) (he : starEach [a, .Name y p2] X.env = (false, eval a X.env) :: starEach [.Name y p2] X.env) :
  SE X (.Call (.Name "isinstance" p) [a, .Name y p2] [] pos) (Qfy sub [y] fa) := λ H0 A0 pins s σ H Q I ⟨ρ, hs, F, r', rel, e, q⟩ => by
 obtain ⟨r, e1, e⟩ := bind1 e
 split at e
 ·rename_i x hd
  obtain ⟨b, eb, rfl⟩ := Zb.mp e
  have eb' : sub x y = some b := by
   unfold anyS at eb
   obtain ⟨b', h1, h2⟩ := bind1 eb
   cases b' with
   | true => cases h2; exact h1
   | false => cases h2; exact h1
  obtain ⟨C, c, k1, k2, k3, k4, k5⟩ := hsub x y b eb'
  refine Qfi QkK hg hm Zaz (Qan (ha H0 A0) (Qan (QnS hy hdb k2 (QkU k4)) Qcs) he) (by decide) (by decide) he (by rfl) pins s σ H Q I ?_
  refine ⟨ρ, hs, F, r, rel, e1, λ v H1 G p => ?_⟩
  have rp := p.rp
  rw [hd, Rp] at rp
  obtain ⟨⟨ea, rfl, C', hC', hH⟩, rfl⟩ := rp
  cases QcR k1 hC'
  exact ⟨C, ea, _, rfl, hH, k5, .inl ⟨c, b, rfl, k4, q _ H1 [] (.flat p.same .QbW)⟩⟩
 ·cases e
theorem Qoi {K : PySem.W.Frag} (hK : X.K = K) : ∀ {ys : List Str} {es : List Expr} {cs : List Value}, es.map Qeg = ys.map some -> (∀ y ∈ ys, Gl X y /\ (y == ("__debug__" : Str)) = false) -> Paired (λ y c => PySem.W.KtsName K y c /\ RelV (vC c) c) ys cs →
  PA X es (λ σ H Q => Q (cs.map vC) H)
 | [], es, _, he, _, .nil => by
  have : es = [] := by simpa using he
  subst this
  exact Qcs
 | y :: ys, [], _, he, _, _ => by simp at he
 | y :: ys, e :: es, _, he, hg, .cons r t => by
  simp only [Zv, List.cons.injEq] at he
  cases e with
  | Name z p =>
   cases he.1
   obtain ⟨g1, g2⟩ := hg y Zi
   subst hK
   exact (Qan (QnS g1 g2 r.1 r.2) (Qoi rfl he.2 (λ y hy => hg y (Zd _ hy)) t) rfl)
  | _ => cases he.1
theorem Qnk {K : PySem.W.Frag} {x : Str} {C : Addr} (hsub : Qbi K sub) (hC : ClsAt K x C) : ∀ (ys : List Str) (b : Bool), anyS sub x ys = some b -> ∃ cs, Paired (λ y c => PySem.W.KtsName K y c /\ RelV (vC c) c) ys cs /\ PySem.W.kitAny K (.ref C) cs = some b
 | [], b, e => by cases e; exact ⟨[], .nil, rfl⟩
 | y :: ys, b, e => by
  unfold anyS at e
  obtain ⟨b1, h1, e⟩ := bind1 e
  obtain ⟨b2, h2, rfl⟩ := Zb.mp e
  obtain ⟨C', c, k1, k2, k3, k4, k5⟩ := hsub x y b1 h1
  cases QcR hC k1
  obtain ⟨cs, t, k6⟩ := Qnk hsub hC ys b2 h2
  refine ⟨c :: cs, .cons ⟨k2, QkU k4⟩ t, ?_⟩
  unfold PySem.W.kitAny
  rw [k4]
  cases b1 with
  | true => rfl
  | false => exact k6
theorem Qgj {α β : Type} {F : α -> β -> Prop} : ∀ {l : List α} {m : List β}, Paired F l m -> ∀ c ∈ m, ∃ y, F y c
 | _, _, .nil, c, h => by simp at h
 | _, _, .cons r t, c, h => by
  rcases Zq.mp h with rfl | h
  ·exact ⟨_, r⟩
  ·exact Qgj t c h
theorem Qru {ys : List Str} {es : List Expr} {kk : Nat} {tp : Pos} (hsub : Qbi X.K sub) (hg : Gl X "isinstance") (hm : X.mg "isinstance" = none) (hl : ys.length <= 60) (h0 : ys ≠ []) (hes : es.map Qeg = ys.map some) (hy : ∀ y ∈ ys, Gl X y /\ (y == ("__debug__" : Str)) = false) (ha : SE X a fa)
  (he : starEach [a, .Tuple es kk tp] X.env = (false, eval a X.env) :: starEach [.Tuple es kk tp] X.env) : SE X (.Call (.Name "isinstance" p) [a, .Tuple es kk tp] [] pos) (Qfy sub ys fa) := λ H0 A0 pins s σ H Q I ⟨ρ, hs, F, r', rel, e, q⟩ => by
 obtain ⟨r, e1, e⟩ := bind1 e
 split at e
 ·rename_i x hd
  obtain ⟨b, eb, rfl⟩ := Zb.mp e
  by_cases hx : ∃ C, ClsAt X.K x C
  ·obtain ⟨C, hC⟩ := hx
   by_cases hk : QeQ X.K C
   ·obtain ⟨cs, t, k⟩ := Qnk hsub hC ys b eb
    refine Qfi QkK hg hm Zaz (Qan (ha H0 A0) (Qan (Qnt (Qoi rfl hes hy t)) Qcs) he) (by decide) (by decide) he (by rfl) pins s σ H Q I ?_
    refine ⟨ρ, hs, F, r, rel, e1, λ v H1 G p => ?_⟩
    have hlen : (cs.map vC).length <= sizeLine := by
     rw [Zw, ← Paired.length t]
     exact Zr hl (by decide)
    refine ⟨hlen, λ pp hp => ?_⟩
    have rp := p.rp
    rw [hd, Rp] at rp
    obtain ⟨⟨ea, rfl, C', hC', hH⟩, rfl⟩ := rp
    cases QcR hC hC'
    have sm : Qy H1 (upd H1 pp (.tup (cs.map vC))) := λ b u eb => by rw [Qx (λ z => by rw [z, hp] at eb; cases eb)]; exact eb
    exact ⟨C, ea, _, rfl, sm _ _ hH, hk, .inr ⟨pp, cs, b, rfl, QX, λ c hc => (Qgj t c hc).choose_spec.2, k, q _ _ [] (.flat (p.same.trans sm) .QbW)⟩⟩
   ·exfalso
    cases ys with
    | nil => exact h0 rfl
    | cons y ys =>
     unfold anyS at eb
     obtain ⟨b1, h1, _⟩ := bind1 eb
     obtain ⟨C', c, k1, k2, k3, k4, k5⟩ := hsub x y b1 h1
     cases QcR hC k1
     exact hk k5
  ·exfalso
   cases ys with
   | nil => exact h0 rfl
   | cons y ys =>
    unfold anyS at eb
    obtain ⟨b1, h1, _⟩ := bind1 eb
    obtain ⟨C', c, k1, _⟩ := hsub x y b1 h1
    exact hx ⟨C', k1⟩
 ·cases e
end
end HS
namespace HS
open PySem PySem.Spec L2 PyProof.Rows
structure QbE (k : Nat) (A : Around) : Prop where
 dp : A.depth + 3 * k + 5 < recursionLimit
 un : A.units + 16 * k + 200 < cLine
theorem QtN {k : Nat} {A : Around} (r : Q7 k A) : QbE k A := ⟨r.dp, r.un⟩
theorem QbE.mono {j k : Nat} {A : Around} (r : QbE k A) (h : j <= k) : QbE j A := ⟨by have := r.dp; omega, by have := r.un; omega⟩
theorem QbE.deeper {k : Nat} {A : Around} (r : QbE (k + 1) A) (env : Env) : QbE k (A.deeper env) :=
 ⟨by have := r.dp; show A.depth + 1 + 3 * k + 5 < _; omega, by have := r.un; show A.units + 3 + 16 * k + 200 < _; omega⟩
theorem QbE.units {k : Nat} {A : Around} (r : QbE k A) : A.units + 64 < cLine := by have := r.un; omega
theorem QbE.mark {k : Nat} {A : Around} {v : Option Value} (r : QbE k A) : QbE k (A.mark v) := ⟨r.dp, r.un⟩
structure FnH (P : Program) (w : World) (K : PySem.W.Frag) (mg : Str -> Option Value) (base : Heap) (k : Nat) (f : Addr) (fd : FuncData) (ps : List Str) (sp : Sp) : Prop where
 len : ∀ vs H Q E, sp vs H Q E -> vs.length = ps.length
 run : ∀ (A : Around) (outer : List Env) (s : Shared) (H : Hp) (args : Args) (us : List Value) (vs : List V) (Q : VK) (E : XK), QbE k A -> Qd8 P w K mg base A outer s H -> BindsTo s fd args (ps.zip us) -> Qr vs us -> sp vs H Q E →
  codeAny (model P w) A (.call (.ref f) args) (CR CX0 outer P w H s Q E) s
section
variable {P : Program} {w : World} {K : PySem.W.Frag} {mg : Str -> Option Value} {base : Heap}
theorem FnH.mono {j k : Nat} {f : Addr} {fd : FuncData} {ps : List Str} {sp : Sp} (F : FnH P w K mg base j f fd ps sp) (h : j <= k) : FnH P w K mg base k f fd ps sp := ⟨F.len, λ A outer s H args us vs Q E hr => F.run A outer s H args us vs Q E (hr.mono h)⟩
end
section
variable {X : Cx} {e : Expr} {es : List Expr} {fs : DA} {pos p : Pos} {x : Str} {n k : Nat} {f : Addr} {fd : FuncData} {ps : List Str} {den : Den}
theorem Qpg (Fk : FnH X.prog X.w X.K X.mg X.base k f fd ps (spV X.K n den)) (hr : QbE k X.A) (hg : Gl X x) (hm : X.mg x = some (.ref f)) (hk : PySem.W.keepIn X.K (.ref f) = true) (hb : Binds X.K fd ps [])
  (ha : SA X (e :: es) fs) (hdb : (x == ("__debug__" : Str)) = false) (he : starEach (e :: es) X.env = (false, eval e X.env) :: starEach es X.env) (hpl : (backTo pos (starEach es X.env)).any (·.1) = false) :
  SE X (.Call (.Name x p) (e :: es) [] pos) (Qi n den [] fs) := λ H0 A0 => by
 intro pins s σ H Q I h
 have h := Qgk (X := X) (dvs := []) (λ H => by simp [Rps]) h
 refine wpAny_Call_Name_kw (Qda I hg hm ?_ hdb)
 refine Zbe (h₀ := X.base) I.ok.mod.kin hk (thn (ha H0 A0 pos pins s σ H _ I h) λ us s1 ⟨vs, H1, I1, r, q⟩ => ⟨I1.kIn, ?_⟩) he hpl
 have r2 : Qr (vs ++ []) (us ++ []) := by rw [Zac, Zac]; exact r
 have hl : (us ++ []).length = ps.length := by rw [← r2.length]; exact Fk.len _ _ _ _ q
 refine wpAny_call (codeAny_mono (Fk.run X.A X.stack s1 H1 ⟨us, []⟩ (us ++ []) (vs ++ []) Q E0 hr I1.Qpa (hb s1 us I1.kIn hl) r2 q) λ r s' hq => ?_)
 cases r with
 | error ev => exact QmU pins σ H1 s1 ev s' I1 hq
 | ok fl =>
  cases fl with
  | ret u => exact I1.after hq
  | next => exact False.elim hq
  | brk => exact False.elim hq
  | cont => exact False.elim hq
end
def Qgg (X : Cx) (hΓ : List (Str × FnR)) : Prop := ∀ x r, look x hΓ = some r -> ∃ k f fd ps, FnH X.prog X.w X.K X.mg X.base k f fd ps (spV X.K r.n r.den) /\ QbE k X.A /\ X.mg x = some (.ref f) /\ PySem.W.keepIn X.K (.ref f) = true /\ Binds X.K fd ps []
theorem Qgg.inH {X : Cx} {hΓ : List (Str × FnR)} {ea : Addr} (h : Qgg X hΓ) : Qgg (HS.inH X ea) hΓ := λ x r e => by
 obtain ⟨k, f, fd, ps, h1, h2, h3⟩ := h x r e
 exact ⟨k, f, fd, ps, h1, h2.mark, h3⟩
section
variable (P : Program) (w : World) (K : PySem.W.Frag) (mg : Str -> Option Value) (base : Heap)
def QfO (k : Nat) (x : Str) (r : FnR) : Prop := ∃ f fd ps, FnH P w K mg base k f fd ps (spV K r.n r.den) /\ mg x = some (.ref f) /\ PySem.W.keepIn K (.ref f) = true /\ Binds K fd ps []
def Qeo (k : Nat) (Γ : List (Str × FnR)) : Prop := ∀ x r, look x Γ = some r -> QfO P w K mg base k x r
end
section
variable {P : Program} {w : World} {K : PySem.W.Frag} {mg : Str -> Option Value} {base : Heap}
theorem Qeo.nil {k : Nat} : Qeo P w K mg base k [] := λ x r h => by cases h
theorem QfO.mono {j k : Nat} {x : Str} {r : FnR} (h : QfO P w K mg base j x r) (hk : j <= k) : QfO P w K mg base k x r := by
 obtain ⟨f, fd, ps, h1, h2⟩ := h
 exact ⟨f, fd, ps, h1.mono hk, h2⟩
theorem Qeo.mono {j k : Nat} {Γ : List (Str × FnR)} (t : Qeo P w K mg base j Γ) (hk : j <= k) : Qeo P w K mg base k Γ := λ x r e => (t x r e).mono hk
theorem Qeo.cons {k : Nat} {Γ : List (Str × FnR)} {x : Str} {r : FnR} (t : Qeo P w K mg base k Γ) (h : QfO P w K mg base (k + 1) x r) : Qeo P w K mg base (k + 1) ((x, r) :: Γ) := λ y q e => by
 unfold look at e
 split at e
 ·rename_i z; cases e; subst z; exact h
 ·exact (t y q e).mono (Zz _)
end
end HS
namespace HS
open PySem PySem.Spec L2 PyProof.Rows
mutual
noncomputable def Qac (n : Nat) (Θ : Th) (sub : Str -> Str -> Option Bool) (hΓ : List (Str × FnR)) (e : Expr) : Option DE := match n with
 | 0 => none
 | n + 1 => match e with
  | .Name x _ => (Θ.slot x).map Qa
  | .Constant (.bool b) _ _ => some (dC (.bl b))
  | .Constant (.str x) _ _ => some (dC (.str x))
  | .UnaryOp .Not a _ => (Qac n Θ sub hΓ a).map Ql8
  | .BoolOp .And [a] _ => Qac n Θ sub hΓ a
  | .BoolOp .And (a :: b :: r) p => (Qac n Θ sub hΓ a).bind λ fa => (Qac n Θ sub hΓ (.BoolOp .And (b :: r) p)).map λ fb => Qen fa fb
  | .BoolOp .Or [a] _ => Qac n Θ sub hΓ a
  | .BoolOp .Or (a :: b :: r) p => (Qac n Θ sub hΓ a).bind λ fa => (Qac n Θ sub hΓ (.BoolOp .Or (b :: r) p)).map λ fb => dOr fa fb
  | .Compare a [.Eq] [b] _ => (Qac n Θ sub hΓ a).bind λ fa => (Qac n Θ sub hΓ b).map λ fb => dOp gEq fa fb
  | .Compare a [.NotEq] [b] _ => (Qac n Θ sub hΓ a).bind λ fa => (Qac n Θ sub hΓ b).map λ fb => dOp gNe fa fb
  | .Call (.Name f _) [a, .Name y _] [] _ => if f = "isinstance" /\ Θ.gl "isinstance" = true /\ Θ.gl y = true then (Qac n Θ sub hΓ a).map λ fa => Qfy sub [y] fa else none
  | .Call (.Name f _) [a, .Tuple es _ _] [] _ => if f = "isinstance" /\ Θ.gl "isinstance" = true then (es.mapM Qeg).bind λ ys => if ys.all Θ.gl = true /\ ys ≠ [] /\ ys.length <= 60 then (Qac n Θ sub hΓ a).map λ fa => Qfy sub ys fa else none else none
  | .Call (.Name x _) (a :: as) [] _ => if Θ.gl x = true then (look x hΓ).bind λ r => (QbM n Θ sub hΓ (a :: as)).map λ fs => Qi r.n r.den [] fs else none
  | .List es _ => (QbM n Θ sub hΓ es).map QY
  | _ => none
noncomputable def QbM (n : Nat) (Θ : Th) (sub : Str -> Str -> Option Bool) (hΓ : List (Str × FnR)) (es : List Expr) : Option DA := match n with
 | 0 => none
 | n + 1 => match es with
  | [] => some Qf
  | e :: es => (Qac n Θ sub hΓ e).bind λ fa => (QbM n Θ sub hΓ es).map λ fs => Qb fa fs
end
theorem Qie {n : Nat} {Θ : Th} {sub : Str -> Str -> Option Bool} {hΓ : List (Str × FnR)} {e : Expr} {f : DE} (h : Qac n Θ sub hΓ e = some f) (es : List Expr) (env : Env) : starEach (e :: es) env = (false, eval e env) :: starEach es env := by
 cases n with
 | zero => rw [Qac.eq_def] at h; cases h
 | succ n => cases e <;> first | rfl | (rw [Qac.eq_def] at h; cases h)
theorem Qk1 : ∀ {n : Nat} {Θ : Th} {sub : Str -> Str -> Option Bool} {hΓ : List (Str × FnR)} {es : List Expr} {fs : DA}, QbM n Θ sub hΓ es = some fs -> ∀ (pos : Pos) (env : Env), (backTo pos (starEach es env)).any (·.1) = false
 | 0, _, _, _, _, _, h, _, _ => by rw [QbM.eq_def] at h; cases h
 | n + 1, _, _, _, [], _, h, _, _ => rfl
 | n + 1, _, _, _, e :: es, _, h, pos, env => by
  rw [QbM.eq_def] at h
  dsimp only at h
  obtain ⟨fa, fs', h1, h2, _⟩ := QK h
  rw [Qie h1]
  have := Qk1 h2 pos env
  simpa [backTo] using this
theorem Qtw {X : Cx} {n : Nat} {Θ : Th} {sub : Str -> Str -> Option Bool} {hΓ : List (Str × FnR)} {a : Expr} {as : List Expr} {fs : DA} (h : QbM n Θ sub hΓ (a :: as) = some fs) (pos : Pos) :
  starEach (a :: as) X.env = (false, eval a X.env) :: starEach as X.env /\ (backTo pos (starEach as X.env)).any (·.1) = false := by
 cases n with
 | zero => rw [QbM.eq_def] at h; cases h
 | succ n =>
  rw [QbM.eq_def] at h
  dsimp only at h
  obtain ⟨fa, fs', h1, h2, _⟩ := QK h
  exact ⟨Qie h1 _ _, Qk1 h2 pos X.env⟩
theorem Qqj {n : Nat} {Θ : Th} {sub : Str -> Str -> Option Bool} {hΓ : List (Str × FnR)} {e : Expr} {f : DE} (h : Qac n Θ sub hΓ e = some f) (op : CmpOp) : behindInMarks op e = false := by
 cases n with
 | zero => rw [Qac.eq_def] at h; cases h
 | succ n => cases e <;> first | (cases op <;> rfl) | (rw [Qac.eq_def] at h; cases h)
theorem Qlg : ∀ {es : List Expr} {ys : List Str}, es.mapM Qeg = some ys -> es.map Qeg = ys.map some
 | [], ys, h => by cases h; rfl
 | e :: es, ys, h => by
  rw [ZbC] at h
  obtain ⟨y, h1, h⟩ := bind1 h
  obtain ⟨zs, h2, h⟩ := bind1 h
  cases h
  rw [Zv, Zv, h1, Qlg h2]
structure Que (n : Nat) : Prop where
 E : ∀ X Θ sub hΓ e f, CtxB X Θ -> Qbi X.K sub -> Qgg X hΓ -> Qac n Θ sub hΓ e = some f -> SE X e f
 A : ∀ X Θ sub hΓ es f, CtxB X Θ -> Qbi X.K sub -> Qgg X hΓ -> QbM n Θ sub hΓ es = some f -> SA X es f
theorem QmV : ∀ n, Que n
 | 0 => ⟨λ _ _ _ _ _ _ _ _ _ h => (by rw [Qac.eq_def] at h; cases h), λ _ _ _ _ _ _ _ _ _ h => (by rw [QbM.eq_def] at h; cases h)⟩
 | n + 1 => by
  have ih := QmV n
  refine ⟨λ X Θ sub hΓ e f ok hs hu h => ?_, λ X Θ sub hΓ es f ok hs hu h => ?_⟩
  ·rw [Qac.eq_def] at h
   dsimp only at h
   split at h
   ·obtain ⟨i, h1, rfl⟩ := Zb.mp h
    exact QnI (Qfa ok h1)
   ·cases h; exact Qhd QpW (λ _ _ => .QbW) rfl
   ·cases h; exact Qhd QnK (λ _ _ => .str_mk) rfl
   ·obtain ⟨fa, h1, rfl⟩ := Zb.mp h
    exact Qni (ih.E X Θ sub hΓ _ fa ok hs hu h1)
   ·exact Qh3 (ih.E X Θ sub hΓ _ f ok hs hu h)
   ·obtain ⟨fa, fb, h1, h2, rfl⟩ := QK h
    exact Qoc (ih.E X Θ sub hΓ _ fa ok hs hu h1) (ih.E X Θ sub hΓ _ fb ok hs hu h2)
   ·exact Qh3 (ih.E X Θ sub hΓ _ f ok hs hu h)
   ·obtain ⟨fa, fb, h1, h2, rfl⟩ := QK h
    exact Qqa (ih.E X Θ sub hΓ _ fa ok hs hu h1) (ih.E X Θ sub hΓ _ fb ok hs hu h2)
   ·obtain ⟨fa, fb, h1, h2, rfl⟩ := QK h
    exact Qk0 (Qoh ok.units) Qp9 (ih.E X Θ sub hΓ _ fa ok hs hu h1) (ih.E X Θ sub hΓ _ fb ok hs hu h2) (Qqj h2 _)
   ·obtain ⟨fa, fb, h1, h2, rfl⟩ := QK h
    exact Qk0 (QnE ok.units) QpY (ih.E X Θ sub hΓ _ fa ok hs hu h1) (ih.E X Θ sub hΓ _ fb ok hs hu h2) (Qqj h2 _)
   ·split at h
    ·rename_i hc
     obtain ⟨rfl, g1, g2⟩ := hc
     obtain ⟨fa, h1, rfl⟩ := Zb.mp h
     obtain ⟨a1, a2, a3⟩ := Qbh ok g1
     obtain ⟨b1, b2, b3⟩ := Qbh ok g2
     exact QrE hs a1 (ok.mg _ (by decide +kernel)) b1 b2 (ih.E X Θ sub hΓ _ fa ok hs hu h1) (Qie h1 _ _)
    ·cases h
   ·split at h
    ·rename_i hc
     obtain ⟨rfl, g1⟩ := hc
     obtain ⟨ys, hy, h⟩ := bind1 h
     split at h
     ·rename_i hd
      obtain ⟨d1, d2, d3⟩ := hd
      obtain ⟨fa, h1, rfl⟩ := Zb.mp h
      obtain ⟨a1, a2, a3⟩ := Qbh ok g1
      exact Qru hs a1 (ok.mg _ (by decide +kernel)) d3 d2 (Qlg hy) (λ y hy => by
       obtain ⟨b1, b2, b3⟩ := Qbh ok (ZZ.mp d1 y hy)
       exact ⟨b1, b2⟩) (ih.E X Θ sub hΓ _ fa ok hs hu h1) (Qie h1 _ _)
     ·cases h
    ·cases h
   ·split at h
    ·rename_i hg
     obtain ⟨r, hr, h⟩ := bind1 h
     obtain ⟨fs, h1, rfl⟩ := Zb.mp h
     obtain ⟨a1, a2, a3⟩ := Qbh ok hg
     obtain ⟨k, f, fd, ps, F1, F2, F3, F4, F5⟩ := hu _ r hr
     obtain ⟨s1, s2⟩ := Qtw (X := X) h1 _
     exact Qpg F1 F2 a1 F3 F4 F5 (ih.A X Θ sub hΓ _ fs ok hs hu h1) a2 s1 s2
    ·cases h
   ·obtain ⟨fs, h1, rfl⟩ := Zb.mp h
    exact QnW (ih.A X Θ sub hΓ _ fs ok hs hu h1)
   ·cases h
  ·rw [QbM.eq_def] at h
   dsimp only at h
   split at h
   ·cases h; exact QfV
   ·obtain ⟨fa, fs, h1, h2, rfl⟩ := QK h
    exact QdQ (ih.E X Θ sub hΓ _ fa ok hs hu h1) (ih.A X Θ sub hΓ _ fs ok hs hu h2) (Qie h1 _ _)
noncomputable def Qei (Θ : Th) (sub : Str -> Str -> Option Bool) (hΓ : List (Str × FnR)) : List Stmt -> Option DS
 | [] => some Ql
 | .Assign [.Name x _] e _ :: r => (Θ.Qb2 x).bind λ i => if Qgy e = false /\ QdR e = true then (Qac 20 Θ sub hΓ e).bind λ fa => (Qei Θ sub hΓ r).map λ g => Qe (Qt i fa) g else none
 | .Return (some e) _ :: r => (Qac 20 Θ sub hΓ e).bind λ fa => (Qei Θ sub hΓ r).map λ g => Qe (QL fa) g
 | _ => none
theorem Qex {X : Cx} {Θ : Th} {sub : Str -> Str -> Option Bool} {hΓ : List (Str × FnR)} (ok : CtxB X Θ) (hs : Qbi X.K sub) (hu : Qgg X hΓ) : ∀ (sts : List Stmt) (f : DS), Qei Θ sub hΓ sts = some f -> SS X sts f
 | [], f, h => by rw [Qei] at h; cases h; exact QnH
 | st :: r, f, h => by
  have hN : X.N.Nodup := by rw [ok.N]; exact ok.nd
  rw [Qei.eq_def] at h
  split at h
  ·rename_i q; cases q
  ·rename_i x p e pos r' q
   cases q
   obtain ⟨i, hi, h⟩ := bind1 h
   split at h
   ·rename_i hc
    obtain ⟨fa, g, h1, h2, rfl⟩ := QK h
    obtain ⟨a1, a2, a3⟩ := Qca ok hi
    have he := (QmV 20).E X Θ sub hΓ _ fa ok hs hu h1
    exact QiI (Qh9 λ H0 A0 => Qe0 hN a1 a2 (he H0 A0) (QcO hc.2) a3) (Qex ok hs hu r g h2)
   ·cases h
  ·rename_i e pos r' q
   cases q
   obtain ⟨fa, g, h1, h2, rfl⟩ := QK h
   exact QiI (Qm2 ((QmV 20).E X Θ sub hΓ _ fa ok hs hu h1)) (Qex ok hs hu r g h2)
  ·cases h
noncomputable def Qfc (Θ : Th) (sub : Str -> Str -> Option Bool) (hΓ : List (Str × FnR)) : List ExceptHandler -> Option (List Hd)
 | [] => some []
 | .ExceptHandler (some (.Name y _)) none (b :: bs) _ :: r => if Θ.gl y = true then (Qei Θ sub hΓ (b :: bs)).bind λ f => (Qfc Θ sub hΓ r).map λ l => (y, none, f) :: l else none
 | .ExceptHandler (some (.Name y _)) (some nm) (b :: bs) _ :: r => if Θ.gl y = true /\ look nm Θ.sc = some .local then (Θ.Qb2 nm).bind λ i => (Qei Θ sub hΓ (b :: bs)).bind λ f => (Qfc Θ sub hΓ r).map λ l => (y, some i, f) :: l else none
 | _ => none
theorem Qkw {X : Cx} {Θ : Th} {ea : Addr} (ok : CtxB X Θ) : CtxB (inH X ea) Θ := ⟨ok.N, ok.nd, ok.lc, ok.ce, ok.fe, ok.gl, ok.units, ok.mg, ok.cs⟩
theorem QfU {X : Cx} {Θ : Th} {sub : Str -> Str -> Option Bool} {hΓ : List (Str × FnR)} (ok : CtxB X Θ) (hs : Qbi X.K sub) (hu : Qgg X hΓ) : ∀ (hds : List ExceptHandler) (hl : List Hd), Qfc Θ sub hΓ hds = some hl -> Qf0 X hds hl
 | [], f, h => by rw [Qfc] at h; cases h; exact .nil
 | hd :: r, f, h => by
  rw [Qfc.eq_def] at h
  split at h
  ·rename_i q; cases q
  ·rename_i y np b bs pos r' q
   cases q
   split at h
   ·rename_i hc
    obtain ⟨g1, g2, _⟩ := Qbh ok hc
    obtain ⟨f, l, h1, h2, rfl⟩ := QK h
    exact .bare g1 g2 (λ ea => Qex (Qkw ok) hs hu.inH _ f h1) (QfU ok hs hu r l h2)
   ·cases h
  ·rename_i y np nm b bs pos r' q
   cases q
   split at h
   ·rename_i hc
    obtain ⟨g1, g2, _⟩ := Qbh ok hc.1
    obtain ⟨i, hi, h⟩ := bind1 h
    obtain ⟨f, l, h1, h2, rfl⟩ := QK h
    obtain ⟨a1, a2, a3⟩ := Qca ok hi
    exact .as g1 g2 a1 (ok.lc nm hc.2) (λ ea => Qex (Qkw ok) hs hu.inH _ f h1) (QfU ok hs hu r l h2)
   ·cases h
  ·cases h
noncomputable def QpN (n : Nat) (Θ : Th) (ΘX : ThX) (sub : Str -> Str -> Option Bool) (hΓ : List (Str × FnR)) (st : Stmt) : Option DS := match st with
 | .Try body (h :: hs) [] [] _ => (Qaa n Θ body).bind λ f => (Qct n Θ ΘX body).bind λ fx => (Qfc Θ sub hΓ (h :: hs)).map λ hl => QdY f fx sub hl
 | _ => none
theorem QqJ {X : Cx} {Θ : Th} {xe : Value -> Shared -> Prop} {pn : List (Addr × Obj)} (ok : QN X Θ) (ht : ∀ st, Θ.tr st = none) (hp : PassesOwn (model X.prog X.w) X.A X.env xe) : QN (Cx.chg X xe pn) Θ :=
 ⟨⟨ok.N, ok.nd, ok.lc, ok.ce, ok.fe, ok.gl, ok.units, ok.mg, ok.cs⟩, ok.calm, hp, ok.fns, λ st f h => by rw [ht st] at h; cases h⟩
theorem Qq5 {X : Cx} {Θ : Th} {ΘX : ThX} {sub : Str -> Str -> Option Bool} {hΓ : List (Str × FnR)} {n : Nat} {st : Stmt} {f : DS} (ok : QN X Θ) (ht : ∀ st, Θ.tr st = none) (xk : XOk X ΘX) (hs : Qbi X.K sub) (hu : Qgg X hΓ) (h : QpN n Θ ΘX sub hΓ st = some f) : S1 X st f := by
 unfold QpN at h
 split at h
 ·rename_i body h0 hds pos
  obtain ⟨fb, h1, h⟩ := bind1 h
  obtain ⟨fx, hl, h2, h3, rfl⟩ := QK h
  have hN : X.N.Nodup := by rw [ok.N]; exact ok.nd
  refine Qst hN xk.ex xk.stk xk.fr hs.ok (λ xe pn hp => ?_) (QfU ok.toCtxB hs hu _ hl h3)
  have ok' := QqJ (pn := pn) ok ht hp
  have xk' : XOk (Cx.chg X xe pn) ΘX := ⟨xk.ex, xk.stk, xk.fr, xk.fx, xk.cl⟩
  exact ⟨(QgG n).Ss _ _ _ fb ok' h1, (QmA n).Xs _ _ _ _ fx ok' xk' h2⟩
 ·cases h
noncomputable def thT (n : Nat) (st : Stmt) (Γ : List (Str × FnR)) (cs : List (Str × Int)) (ΘX : ThX) (sub : Str -> Str -> Option Bool) (hΓ : List (Str × FnR)) : Th := { Qd3 st Γ cs with tr := QpN n (Qd3 st Γ cs) ΘX sub hΓ }
section
variable {P : Program} {w : World} {K : PySem.W.Frag} {mg : Str -> Option Value} {base : Heap}
theorem Ql3 {h : Heap} {x : Str} {st : Stmt} {ps : List Str} {k n m : Nat} {Γ : List (Str × FnR)} {Γx : List (Str × (Nat × (List D -> Option Str)))} {cls : List Str} {cs : List (Str × Int)} {sub : Str -> Str -> Option Bool} {hΓ : List (Str × FnR)} {g : DS} (X : K.In h) (G : h.Ns mainGlobals mg) (F : Fact K x st) (S : Qbm (namesOf (Qg st)) ps (Qg st)) (B : QD x st ps) (M : QdG mg cs) (tab : Qba P w K mg base k Γ) (tabx : QdC P w K mg base k Γx)
  (hcl : ∀ x ∈ cls, QfR K x) (hs : Qbi K sub) (tabh : Qeo P w K mg base k hΓ) (hc : Qaa n (thT m st Γ cs ⟨Γx, cls⟩ sub hΓ) (Qap st) = some g) : Known P w K mg base (k + 1) x ⟨ps.length, [], Qn (namesOf (Qg st)).length g⟩ := by
 obtain ⟨f, fd, Fn, a⟩ := F.ex
 refine ⟨f, fd, ps, ?_, ZaA X G a, Fn.kp, λ m hm => ⟨[], [], Fn.binds (B ·), .nil, λ H => by simp [Rps]⟩⟩
 refine Fn.ok S (QlE rfl) λ cdv A outer s H vs Q E hr h => ?_
 obtain ⟨ds, L, d, fr, rps, hl, hd, q⟩ := h
 have ok := QnV (P := P) (w := w) (K := K) (base := base) (qual := x) (f := f) (outer := outer) (H := H) (E := E) S M tab hr
 have xk : XOk (QdF CX0 P w K mg base (namesOf (Qg st)) x (Qg st) f cdv A outer s H E).nox ⟨Γx, cls⟩ := ⟨rfl, rfl, rfl, λ z r e => by
  obtain ⟨f', fd', ps', h1, h2, h3, h4, h5⟩ := tabx z r e
  exact ⟨k, f', fd', ps', h1, hr, h2, h3, h4, h5⟩, hcl⟩
 have ok2 : QN (QdF CX0 P w K mg base (namesOf (Qg st)) x (Qg st) f cdv A outer s H E).nox (thT m st Γ cs ⟨Γx, cls⟩ sub hΓ) :=
  ⟨⟨ok.N, ok.nd, ok.lc, ok.ce, ok.fe, ok.gl, ok.units, ok.mg, ok.cs⟩, ok.calm, ok.pass, ok.fns, λ st' f' h' => Qq5 ok (λ _ => rfl) xk hs (λ z r e => by
   obtain ⟨f', fd', ps', h1, h2⟩ := tabh z r e
   exact ⟨k, f', fd', ps', h1, QtN hr, h2⟩) h'⟩
 refine ⟨_, (QgG n).Ss _ _ _ g ok2 hc H L, ?_⟩
 obtain ⟨F0, rel⟩ := QfM (N := namesOf (Qg st)) rps
 unfold Qn at hd
 obtain ⟨o, ho, hd⟩ := bind1 hd
 refine ⟨_, [], F0, o, rel, ho, ?_⟩
 cases o with
 | nx ρ =>
  cases hd
  exact λ σ H' F' rel' => q .non H' [] ⟨rel'.same, .Qf1, λ a ha => by simp at ha, λ _ => ⟨Zau, rfl, λ a ha => by simp at ha⟩⟩
 | bk ρ => cases hd
 | ct ρ => cases hd
 | rt d' fr' =>
  cases hd
  exact λ v H' G r => q v H' G r
end
end HS
namespace HS
open PySem PySem.Spec L2 PyProof.Rows
section
variable {K : PySem.W.Frag} {x y : Str} {C C' : Addr} {v : Bool}
theorem QqW (a : PySem.W.nsIn K mainGlobals x = some (some (.ref C))) (b : PySem.W.excIn K C [.type "ValueError", .type "Exception", .type "BaseException", .type "object"] "ValueError.__new__" = true) : QfR K x := ⟨⟨C, a, b⟩⟩
def XK1 (K : PySem.W.Frag) (x : Str) : Prop := ∃ C, ClsAt K x C /\ QeQ K C
theorem Qqb (a : PySem.W.nsIn K mainGlobals x = some (some (.ref C))) (h1 : PySem.W.isClsIn K C = true) (h2 : PySem.W.findIn K (.ref C) "__getattribute__" = some (some (.builtin "BaseException.__getattribute__"))) (h3 : PySem.W.findIn K (.ref C) "__getattr__" = some none)
  (h4 : PySem.W.findIn K (.ref C) "__class__" = some (some (.builtin "object.__class__"))) (h5 : PySem.W.mroIn K C (.type "object") = some true) (h6 : PySem.W.subIn K (.ref C) (.type "BaseException") = some true) : XK1 K x := ⟨C, a, h1, h2, h3, h4, h5, h6⟩
def Qj4 (K : PySem.W.Frag) (x y : Str) (b : Bool) : Prop := ∃ C c, ClsAt K x C /\ PySem.W.KtsName K y c /\ PySem.W.exmOne K (.ref C) c = some b /\ PySem.W.kitOne K (.ref C) c = some b
theorem Qdn (a : PySem.W.nsIn K mainGlobals x = some (some (.ref C))) (b : PySem.W.nsIn K mainGlobals y = some (some (.ref C'))) (c : PySem.W.exmOne K (.ref C) (.ref C') = some v) (d : PySem.W.kitOne K (.ref C) (.ref C') = some v) : Qj4 K x y v := ⟨C, _, a, .inl b, c, d⟩
theorem QlH (a : PySem.W.nsIn K mainGlobals x = some (some (.ref C))) (b : PySem.W.nsIn K mainGlobals "ValueError" = some none) (c : PySem.W.exmOne K (.ref C) (.type "ValueError") = some v) (d : PySem.W.kitOne K (.ref C) (.type "ValueError") = some v) : Qj4 K x "ValueError" v :=
 ⟨C, _, a, .inr ⟨b, PyProof.Rows.Boot.«ValueError», by decide⟩, c, d⟩
noncomputable def QiU (K : PySem.W.Frag) (x : Str) : List (Str × Bool) -> Prop
 | [] => True
 | q :: r => Qj4 K x q.1 q.2 /\ QiU K x r
noncomputable def SubL (K : PySem.W.Frag) : List (Str × List (Str × Bool)) -> Prop
 | [] => True
 | q :: r => (XK1 K q.1 /\ QiU K q.1 q.2) /\ SubL K r
noncomputable def QpZ (tab : List (Str × List (Str × Bool))) : Str -> Str -> Option Bool := λ x y => (look x tab).bind λ r => look y r
theorem Qg0 {α : Type} : ∀ {x : Str} {l : List (Str × α)} {a : α}, look x l = some a -> (x, a) ∈ l
 | x, [], a, h => by cases h
 | x, (y, b) :: r, a, h => by
  unfold look at h
  split at h
  ·rename_i e; cases h; subst e; exact Zi
  ·exact Zd _ (Qg0 h)
theorem QiU.mem : ∀ {r : List (Str × Bool)}, QiU K x r -> ∀ q ∈ r, Qj4 K x q.1 q.2
 | [], _, q, h => by simp at h
 | p :: r, h, q, hq => by
  rcases Zq.mp hq with rfl | hq
  ·exact h.1
  ·exact QiU.mem h.2 q hq
theorem SubL.mem : ∀ {t : List (Str × List (Str × Bool))}, SubL K t -> ∀ q ∈ t, XK1 K q.1 /\ QiU K q.1 q.2
 | [], _, q, h => by simp at h
 | p :: r, h, q, hq => by
  rcases Zq.mp hq with rfl | hq
  ·exact h.1
  ·exact SubL.mem h.2 q hq
theorem QrI {tab : List (Str × List (Str × Bool))} (h : SubL K tab) : Qbi K (QpZ tab) := λ x y b e => by
 obtain ⟨r, h1, h2⟩ := bind1 e
 obtain ⟨⟨C, k1, k2⟩, k3⟩ := h.mem _ (Qg0 h1)
 obtain ⟨C', c, m1, m2, m3, m4⟩ := k3.mem _ (Qg0 h2)
 cases QcR k1 m1
 exact ⟨C, c, k1, m2, m3, m4, k2⟩
noncomputable def QrW (K : PySem.W.Frag) : List Str -> Prop
 | [] => True
 | x :: r => QfR K x /\ QrW K r
theorem QlS : ∀ {l : List Str}, QrW K l -> ∀ x ∈ l, QfR K x
 | [], _, x, h => by simp at h
 | y :: l, h, x, hx => by
  rcases Zq.mp hx with rfl | hx
  ·exact h.1
  ·exact QlS h.2 x hx
end
end HS
namespace HS
open PySem L2
noncomputable def pairD (p : Int × Int) : D := .tup [.int p.1, .int p.2]
noncomputable def QoG (p : Int × Int × Bool) : D := .tup [.int p.1, .int p.2.1, .bl p.2.2]
noncomputable def Qc6 (ns : List Int) : D := .lst (ns.map .int)
noncomputable def QsR (ps : List (Int × Int)) : D := .lst (ps.map pairD)
theorem Qa6 {α : Type} {f : α -> D} (h : ∀ a, (f a).flat = true) : ∀ l : List α, QP (l.map f) = true
 | [] => rfl
 | a :: l => by simp [QP, h a, Qa6 h l]
@[simp] theorem QuE (i : Int) : (D.int i).flat = true := rfl
@[simp] theorem QuY (i : Bool) : (D.bl i).flat = true := rfl
@[simp] theorem QuR : D.non.flat = true := rfl
@[simp] theorem QuA (x : Str) : (D.str x).flat = true := rfl
@[simp] theorem QuK (xs : List D) : (D.lst xs).flat = false := rfl
@[simp] theorem QuH (xs : List D) : (D.tup xs).flat = QP xs := rfl
@[simp] theorem Qt8 : QP [] = true := rfl
@[simp] theorem Qtx (d : D) (ds : List D) : QP (d :: ds) = (d.flat && QP ds) := rfl
@[simp] theorem Qt5 (p : Int × Int) : (pairD p).flat = true := rfl
@[simp] theorem Quv (p : Int × Int × Bool) : (QoG p).flat = true := rfl
@[simp] theorem Qt6 (ns : List Int) : (Qc6 ns).flat = false := rfl
@[simp] theorem Qtq (ns : List (Int × Int)) : (QsR ns).flat = false := rfl
@[simp] theorem Qtg (ps : List (Int × Int)) : QP (ps.map pairD) = true := Qa6 (λ _ => rfl) _
@[simp] theorem QtH (ps : List (Int × Int × Bool)) : QP (ps.map QoG) = true := Qa6 (λ _ => rfl) _
@[simp] theorem QmQ (ns : List Int) : QP (ns.map .int) = true := Qa6 (λ _ => rfl) _
@[simp] theorem Qt4 (xs ys : List D) : QP (xs ++ ys) = (QP xs && QP ys) := Qb5 xs ys
def Run (f : DS) (ρ : En) (Q : Out -> Prop) : Prop := ∃ o, f ρ = some o /\ Q o
noncomputable def Nx (Q : En -> Prop) : Out -> Prop
 | .nx ρ => Q ρ
 | _ => False
noncomputable def Rt (Q : D -> Bool -> Prop) : Out -> Prop
 | .rt d fr => Q d fr
 | _ => False
theorem Run.mono {f : DS} {ρ : En} {Q Q' : Out -> Prop} (h : Run f ρ Q) (m : ∀ o, Q o -> Q' o) : Run f ρ Q' := let ⟨o, h1, h2⟩ := h; ⟨o, h1, m o h2⟩
theorem Qs {ρ : En} {Q : Out -> Prop} (h : Q (.nx ρ)) : Run Ql ρ Q := ⟨_, rfl, h⟩
theorem run_seq {f g : DS} {ρ : En} {Q : Out -> Prop} (h : Run f ρ (Nx λ ρ' => Run g ρ' Q)) : Run (Qe f g) ρ Q := by
 obtain ⟨o, h1, h2⟩ := h
 cases o with
 | nx ρ' =>
  obtain ⟨o', h3, h4⟩ := h2
  exact ⟨o', by simp [Qe, h1, h3], h4⟩
 | _ => exact False.elim h2
theorem Qz {f g : DS} {ρ : En} {Q : Out -> Prop} (h : Run f ρ λ o => match o with | .nx ρ' => Run g ρ' Q | o => Q o) : Run (Qe f g) ρ Q := by
 obtain ⟨o, h1, h2⟩ := h
 cases o with
 | nx ρ' =>
  obtain ⟨o', h3, h4⟩ := h2
  exact ⟨o', by simp [Qe, h1, h3], h4⟩
 | bk ρ' => exact ⟨_, by simp [Qe, h1], h2⟩
 | ct ρ' => exact ⟨_, by simp [Qe, h1], h2⟩
 | rt d fr => exact ⟨_, by simp [Qe, h1], h2⟩
theorem Qh {i : Nat} {fa : DE} {r : R} {ρ : En} {Q : Out -> Prop} (h : fa ρ = some r) (q : Q (.nx (asg i r ρ))) : Run (Qt i fa) ρ Q := ⟨_, by simp [Qt, h], q⟩
theorem Qbj {fa : DE} {r : R} {ρ : En} {Q : Out -> Prop} (h : fa ρ = some r) (q : Q (.rt r.d (r.norm.fr && decide r.norm.M.Nodup))) : Run (QL fa) ρ Q := ⟨_, by simp [QL, h], q⟩
theorem QT {g : DT} {f1 f2 : DS} {b : Bool} {ρ : En} {Q : Out -> Prop} (h : g ρ = some b) (q1 : b = true -> Run f1 ρ Q) (q2 : b = false -> Run f2 ρ Q) : Run (sIf g f1 f2) ρ Q := by
 cases b with
 | true => obtain ⟨o, h1, h2⟩ := q1 rfl; exact ⟨o, by simp [sIf, h, h1], h2⟩
 | false => obtain ⟨o, h1, h2⟩ := q2 rfl; exact ⟨o, by simp [sIf, h, h1], h2⟩
theorem Qae {k : Nat} {f : DS} {ds : List D} {d : D} {fr : Bool} (h : Run f (QbQ k ds) (Rt λ d' fr' => d' = d /\ fr' = fr)) : Qn k f ds = some (d, fr) := by
 obtain ⟨o, h1, h2⟩ := h
 unfold Qn
 cases o with
 | rt d' fr' => obtain ⟨rfl, rfl⟩ := h2; rw [h1]; rfl
 | _ => exact False.elim h2
theorem QkX {α : Type} {t : Tg} {fb : DS} {toD : α -> D} {Q : Out -> Prop} (I : Nat -> En -> Prop) : ∀ (xs ys : List α) (ρ : En), I ys.length ρ →
  (∀ i x ρ, (ys ++ xs)[i]? = some x -> ys.length <= i -> I i ρ -> ∃ ρ1, QaT t (toD x) ρ = some ρ1 /\ Run fb ρ1 λ o => match o with | .nx ρ2 => I (i + 1) ρ2 | .ct ρ2 => I (i + 1) ρ2 | .bk ρ2 => Q (.nx ρ2) | .rt d fr => Q (.rt d fr)) →
  (∀ ρ, I (ys ++ xs).length ρ -> Q (.nx ρ)) -> Run (Qcj t fb (xs.map toD)) ρ Q
 | [], ys, ρ, h0, _, fin => ⟨_, rfl, fin ρ (by simpa using h0)⟩
 | x :: xs, ys, ρ, h0, turn, fin => by
  obtain ⟨ρ1, h1, o, h2, h3⟩ := turn ys.length x ρ (by simp) (Zn _) h0
  have next : ∀ ρ2, I (ys.length + 1) ρ2 -> Run (Qcj t fb (xs.map toD)) ρ2 Q := λ ρ2 hi =>
   QkX I xs (ys ++ [x]) ρ2 (by simpa using hi) (λ i y ρ' e hl => turn i y ρ' (by simpa using e) (by simp at hl; omega)) (λ ρ' h => fin ρ' (by simpa using h))
  cases o with
  | nx ρ2 => obtain ⟨o', e1, e2⟩ := next ρ2 h3; exact ⟨o', by simp [Qcj, h1, h2, e1], e2⟩
  | ct ρ2 => obtain ⟨o', e1, e2⟩ := next ρ2 h3; exact ⟨o', by simp [Qcj, h1, h2, e1], e2⟩
  | bk ρ2 => exact ⟨_, by simp [Qcj, h1, h2], h3⟩
  | rt d fr => exact ⟨_, by simp [Qcj, h1, h2], h3⟩
theorem Qde {α : Type} {fi : DI} {t : Tg} {fb : DS} {toD : α -> D} {ρ : En} {ir : IR} {Q : Out -> Prop} (xs : List α) (I : Nat -> En -> Prop) (h : fi ρ = some ir) (hx : ir.items = xs.map toD) (h0 : I 0 (Q4 ir.M ρ))
  (turn : ∀ i x ρ, xs[i]? = some x -> I i ρ -> ∃ ρ1, QaT t (toD x) ρ = some ρ1 /\ Run fb ρ1 λ o => match o with | .nx ρ2 => I (i + 1) ρ2 | .ct ρ2 => I (i + 1) ρ2 | .bk ρ2 => Q (.nx ρ2) | .rt d fr => Q (.rt d fr))
  (fin : ∀ ρ, I xs.length ρ -> Q (.nx ρ)) : Run (QcV fi t fb) ρ Q := by
 obtain ⟨o, h1, h2⟩ := QkX (t := t) (fb := fb) (toD := toD) (Q := Q) I xs [] (Q4 ir.M ρ) h0 (λ i x ρ e _ => turn i x ρ (by simpa using e)) (λ ρ h => fin ρ (by simpa using h))
 exact ⟨o, by simp [QcV, h, hx, h1], h2⟩
theorem Qjw {α : Type} {t : Tg} {ft : DT} {fe : DE} {ρc : En} {toD : α -> D} {keep : α -> Bool} {out : α -> D} : ∀ (xs : List α) (acc : List D),
  (∀ x ∈ xs, ∃ ρ1, QaT t (toD x) ρc = some ρ1 /\ ft ρ1 = some (keep x) /\ (keep x = true -> ∃ r, fe ρ1 = some r /\ r.d = out x /\ r.norm.fr = true)) →
  (xs.map toD).foldlM (Qez t ft fe ρc) (acc, true) = some (acc ++ (xs.filter keep).map out, true)
 | [], acc, _ => by simp
 | x :: xs, acc, h => by
  obtain ⟨ρ1, h1, h2, h3⟩ := h x Zi
  have ih := λ acc => Qjw xs acc (λ y hy => h y (Zd _ hy))
  cases hk : keep x with
  | false =>
   have e : Qez t ft fe ρc (acc, true) (toD x) = some (acc, true) := by simp [Qez, h1, h2, hk]
   simp [Zbr, e, ih, hk]
  | true =>
   obtain ⟨r, h4, h5, h6⟩ := h3 hk
   have e : Qez t ft fe ρc (acc, true) (toD x) = some (acc ++ [out x], true) := by simp [Qez, h1, h2, hk, h4, h5, h6]
   simp [Zbr, e, ih, hk]
theorem Qi8 {α : Type} {fi : DI} {t : Tg} {cap : List (Option Nat)} {ft : DT} {fe : DE} {ρ : En} {ir : IR} {toD : α -> D} {keep : α -> Bool} {out : α -> D} (xs : List α) (h : fi ρ = some ir) (hx : ir.items = xs.map toD)
  (turn : ∀ x ∈ xs, ∃ ρ1, QaT t (toD x) (QdI cap ρ) = some ρ1 /\ ft ρ1 = some (keep x) /\ (keep x = true -> ∃ r, fe ρ1 = some r /\ r.d = out x /\ r.norm.fr = true)) :
  QW fi t cap ft fe ρ = some ⟨.lst ((xs.filter keep).map out), true, []⟩ := by
 unfold QW
 rw [h, Za, hx, Qjw xs [] turn]
 simp
theorem Q6 {α : Type} {fi : DI} {t : Tg} {cap : List (Option Nat)} {fe : DE} {ρ : En} {ir : IR} {toD : α -> D} {out : α -> D} (xs : List α) (h : fi ρ = some ir) (hx : ir.items = xs.map toD)
  (turn : ∀ x ∈ xs, ∃ ρ1, QaT t (toD x) (QdI cap ρ) = some ρ1 /\ ∃ r, fe ρ1 = some r /\ r.d = out x /\ r.norm.fr = true) :
  QW fi t cap Qaf fe ρ = some ⟨.lst (xs.map out), true, []⟩ := by
 have := Qi8 (keep := λ _ => true) (ft := Qaf) xs h hx (cap := cap) (t := t) (fe := fe) (out := out) λ x hx => by
  obtain ⟨ρ1, h1, h2⟩ := turn x hx
  exact ⟨ρ1, h1, rfl, λ _ => h2⟩
 rw [this, List.filter_eq_self.mpr λ _ _ => rfl]
@[simp] theorem Qub (d : D) : R.norm ⟨d, true, []⟩ = ⟨d, true, []⟩ := by unfold R.norm; split <;> rfl
@[simp] theorem Qq (i : Nat) (d : D) (ρ : En) : asg i ⟨d, true, []⟩ ρ = ρ.set i (some (d, true)) := by unfold asg; simp [kill]
theorem Qbz {i : Nat} {d : D} {fr : Bool} {M : List Nat} {ρ : En} (h : d.flat = true) : asg i ⟨d, fr, M⟩ ρ = ρ.set i (some (d, true)) := by
 unfold asg R.norm; simp [h, kill]
theorem QcS {i : Nat} {ρ : En} {d : D} {b : Bool} (h : ρ[i]? = some (some (d, b))) : Qa i ρ = some (if d.flat then ⟨d, true, []⟩ else if b then ⟨d, true, [i]⟩ else ⟨d, false, []⟩) := by
 unfold Qa
 rw [h]
 dsimp only
 split
 ·simp_all
 ·split <;> simp_all
@[simp] theorem Qb3 (d : D) (ρ : En) : dC d ρ = some ⟨d, true, []⟩ := rfl
theorem QaF {g : D -> D -> Option D} {fa fb : DE} {ρ : En} {ra rb : R} {d : D} (ha : fa ρ = some ra) (hb : fb ρ = some rb) (h : g ra.d rb.d = some d) : dOp g fa fb ρ = some ⟨d, true, []⟩ := by simp [dOp, ha, hb, h]
theorem Qp {fa : DE} {fs : DA} {ρ : En} {r : R} {rs : RA} (ha : fa ρ = some r) (hs : fs ρ = some rs) : Qb fa fs ρ = some ⟨r.d :: rs.ds, r.fr && rs.fr, r.M ++ rs.M⟩ := by simp [Qb, ha, hs]
@[simp] theorem QO (ρ : En) : Qf ρ = some ⟨[], true, []⟩ := rfl
noncomputable def vf (d : D) (b : Bool) (i : Nat) : R := if d.flat then ⟨d, true, []⟩ else if b then ⟨d, true, [i]⟩ else ⟨d, false, []⟩
@[simp] theorem Qu3 (d : D) (b : Bool) (i : Nat) : (vf d b i).d = d := by unfold vf; split; rfl; split <;> rfl
@[simp] theorem QoE (i j : Int) (h : 0 <= j) : Qce i j = i % j := by unfold Qce; rw [if_pos h]
@[simp] theorem QpQ (i j : Int) (h : 0 <= j) : QdD i j = i / j := by unfold QdD; rw [if_pos h]
theorem Qdf {i j : Int} (h : i.natAbs < 2 ^ 64) : QcU i j = true := by unfold QcU; simp [h]
theorem Qjf {i j : Int} (h : j.natAbs < 2 ^ 64) : QcU i j = true := by unfold QcU; simp [h]
theorem QdT {i j : Int} (h1 : Builtin.Int.intBits i <= 2 ^ 20) (h2 : Builtin.Int.intBits j <= 2 ^ 20) : QcU i j = true := by
 unfold QcU
 rw [decide_eq_true h1, decide_eq_true h2, Bool.and_self, Bool.or_true]
theorem QhP : (sizeLine : Nat) = 16777216 := sizeLine_eq
noncomputable def Qc (m : Nat) (f : Nat -> Int) : D := .lst ((List.range m).map λ i => .int (f i))
noncomputable def Qd (m n : Nat) (f : Nat -> Nat -> Int) : D := .lst ((List.range m).map λ i => Qc n (f i))
@[simp] theorem Qur (m : Nat) (f : Nat -> Int) : (Qc m f).flat = false := rfl
@[simp] theorem QuL (m n : Nat) (f : Nat -> Nat -> Int) : (Qd m n f).flat = false := rfl
@[simp] theorem Qn8 (m : Nat) (f : Nat -> Int) : QP ((List.range m).map λ i => D.int (f i)) = true := Qa6 (f := λ i => D.int (f i)) (λ _ => rfl) _
noncomputable def up (f : Nat -> Int) (i : Nat) (v : Int) : Nat -> Int := λ j => if j = i then v else f j
noncomputable def up2 (f : Nat -> Nat -> Int) (i j : Nat) (v : Int) : Nat -> Nat -> Int := λ k => if k = i then up (f k) j v else f k
theorem Qe5 {n : Nat} {i : Int} (h0 : 0 <= i) (h : i < n) : ixN n i = some i.toNat := by
 unfold ixN; rw [if_pos (by omega), if_pos (by omega)]
theorem QgL {α : Type} {xs : List α} {i : Int} (h0 : 0 <= i) (h : i < xs.length) : atI xs i = xs[i.toNat]? := by
 unfold atI; rw [Qe5 h0 h]; rfl
theorem Qql {m : Nat} {f : Nat -> Int} {i : Int} (h0 : 0 <= i) (h : i < m) : atI ((List.range m).map λ j => D.int (f j)) i = some (.int (f i.toNat)) := by
 rw [QgL h0 (by simpa using h), Zk, Zx (by omega)]; rfl
theorem QrB {m n : Nat} {f : Nat -> Nat -> Int} {i : Int} (h0 : 0 <= i) (h : i < m) : atI ((List.range m).map λ j => Qc n (f j)) i = some (Qc n (f i.toNat)) := by
 rw [QgL h0 (by simpa using h), Zk, Zx (by omega)]; rfl
theorem QbL {fa : DE} {ρ : En} {r : R} {n : Nat} (h : fa ρ = some r) (e : r.d = .int n) (hn : n <= 16777216) : QaB fa ρ = some ⟨(List.range n).map λ (k : Nat) => .int (k : Int), []⟩ := by
 unfold QaB
 rw [h, Za, e]
 dsimp only
 rw [if_pos ⟨by omega, by omega⟩]
 simp [QfY]
theorem QlP {α : Type} (x : α) : ∀ n : Nat, (List.replicate n [x]).flatten = (List.range n).map λ _ => x
 | 0 => rfl
 | n + 1 => by
  rw [ZQ, ZV, QlP x n, Zbx, Zv, Zay]; rfl
theorem Qof {fb : DE} {ρ : En} {r : R} {n : Nat} {z : Int} (h : fb ρ = some r) (e : r.d = .int n) (hn : n <= 16777216) : Qaw (QY (Qb (dC (.int z)) Qf)) fb ρ = some ⟨Qc n (λ _ => z), true, []⟩ := by
 have h1 : QY (Qb (dC (.int z)) Qf) ρ = some ⟨.lst [.int z], true, []⟩ := rfl
 unfold Qaw
 rw [h1, Za, h, Za, e]
 dsimp only
 rw [if_pos ⟨by simp [QhP]; omega, by omega, by omega, rfl⟩]
 simp only [ZO, QlP]
 rfl
theorem QM {fa : DE} {r : R} {g : DS} {ρ : En} {Q : D -> Bool -> Prop} (h : fa ρ = some r) (q : Q r.d (r.norm.fr && decide r.norm.M.Nodup)) : Run (Qe (QL fa) g) ρ (Rt Q) := Qz (Qbj h q)
theorem Qw {n : Nat} {den : Den} {dfl : List D} {fs : DA} {ρ : En} {r : RA} {d : D} (h : fs ρ = some r) (hd : den (r.ds ++ dfl) = some (d, true)) (hl : r.ds.length + dfl.length = n) : Qi n den dfl fs ρ = some ⟨d, true, []⟩ := by
 unfold Qi
 rw [h, Za, if_pos hl, hd]
 simp
theorem QbS {fa : DE} {ρ : En} {r : R} {xs : List D} (h : fa ρ = some r) (e : r.d = .lst xs) : QaV fa ρ = some ⟨xs, r.M⟩ := by
 unfold QaV
 rw [h, Za, e]
noncomputable def stepT (m : Nat) (f : Nat -> Nat -> Int) (s : Int × Int) : Nat -> Nat -> Int :=
 let f1 := if s.1 < m then up2 f s.1.toNat s.1.toNat (f s.1.toNat s.1.toNat - 1) else f
 if s.1 < m /\ s.2 < m then up2 f1 s.1.toNat s.2.toNat (f1 s.1.toNat s.2.toNat + 1) else f1
noncomputable def QcY (m : Nat) (S : List (Int × Int)) : Nat -> Nat -> Int := S.foldl (stepT m) λ _ _ => 0
noncomputable def hit (i j : Nat) (s : Int × Int) : Int := (if s.1 = i /\ s.2 = j then 1 else 0) - (if s.1 = i /\ i = j then 1 else 0)
theorem QlJ {f : Nat -> Nat -> Int} {a b : Nat} {v : Int} {i j : Nat} : up2 f a b v i j = if i = a /\ j = b then v else f i j := by
 unfold up2 up
 by_cases h1 : i = a
 ·by_cases h2 : j = b
  ·simp [h1, h2]
  ·simp [h1, h2]
 ·simp [h1]
theorem Qn2 {m : Nat} {f : Nat -> Nat -> Int} {s : Int × Int} {i j : Nat} (hi : i < m) (hj : j < m) (h1 : 0 <= s.1) (h2 : 0 <= s.2) : stepT m f s i j = f i j + hit i j s := by
 unfold stepT hit
 have e1 : (s.1 = (i : Int)) ↔ (i = s.1.toNat) := by omega
 have e2 : (s.2 = (j : Int)) ↔ (j = s.2.toNat) := by omega
 simp only [e1, e2]
 by_cases c1 : s.1 < (m : Int)
 ·by_cases c2 : s.2 < (m : Int)
  ·simp only [c1, c2, and_self, if_true, QlJ]
   generalize s.1.toNat = a
   generalize s.2.toNat = b
   by_cases d1 : i = a
   ·subst d1
    by_cases d2 : j = b
    ·subst d2
     by_cases d3 : i = j
     ·subst d3; simp
     ·have d4 : ¬ j = i := λ z => d3 z.symm
      simp [d3, d4]
    ·by_cases d3 : i = j
     ·subst d3; simp [d2]; omega
     ·have d4 : ¬ j = i := λ z => d3 z.symm
      simp [d2, d3, d4]
   ·simp [d1]
  ·have d2 : ¬ (j = s.2.toNat) := by omega
   simp only [c1, c2, and_false, if_false, if_true, QlJ, d2]
   generalize s.1.toNat = a
   by_cases d1 : i = a
   ·subst d1
    by_cases d3 : i = j
    ·subst d3; simp; omega
    ·have d4 : ¬ j = i := λ z => d3 z.symm
     simp [d3, d4]
   ·simp [d1]
 ·have d1 : ¬ (i = s.1.toNat) := by omega
  simp [c1, d1]
theorem Qjy {m : Nat} {i j : Nat} (hi : i < m) (hj : j < m) : ∀ (S : List (Int × Int)) (f : Nat -> Nat -> Int), (∀ s ∈ S, 0 <= s.1 /\ 0 <= s.2) -> S.foldl (stepT m) f i j = f i j + (S.map (hit i j)).sum
 | [], f, _ => by simp
 | s :: S, f, h => by
  obtain ⟨h1, h2⟩ := h s Zi
  rw [List.foldl_cons, Qjy hi hj S _ (λ t ht => h t (Zd _ ht)), Qn2 hi hj h1 h2, Zv, Zai]
  omega
theorem Qft {m : Nat} {S : List (Int × Int)} {i j : Nat} (hi : i < m) (hj : j < m) (h : ∀ s ∈ S, 0 <= s.1 /\ 0 <= s.2) : QcY m S i j = (S.map (hit i j)).sum := by
 unfold QcY
 rw [Qjy hi hj S _ h]; simp
noncomputable def isI (i : Nat) (a : Int) : Int := if a = i then 1 else 0
noncomputable def Ql9 (R L : List (Int × Int)) (i : Nat) : Int := (R.map λ r => isI i r.1 + isI i r.2).sum + (L.map λ l => isI i l.1).sum
theorem sum_neg (S : List (Int × Int)) (i : Nat) (h : ∀ s ∈ S, s.1 ≠ s.2) : (S.map (hit i i)).sum = - (S.map λ s => isI i s.1).sum := by
 induction S with
 | nil => rfl
 | cons s S ih =>
  rw [Zv, Zai, ih λ t ht => h t (Zd _ ht), Zv, Zai]
  have hn := h s Zi
  unfold hit isI
  by_cases e : s.1 = (i : Int)
  ·have : ¬ (s.2 = (i : Int)) := λ z => hn (e.trans z.symm)
   simp [e, this]; omega
  ·simp [e]
noncomputable def Qc3 (R L : List (Int × Int)) : List (Int × Int) := R ++ R.map Prod.swap ++ L
theorem QnJ (R L : List (Int × Int)) (i : Nat) : ((Qc3 R L).map λ s => isI i s.1).sum = Ql9 R L i := by
 unfold Qc3 Ql9
 rw [Zam, Zam, Zbc, Zbc]
 have : (R.map λ r => isI i r.1 + isI i r.2).sum = (R.map λ s => isI i s.1).sum + ((R.map Prod.swap).map λ s => isI i s.1).sum := by
  induction R with
  | nil => rfl
  | cons r R ih => simp only [Zv, Zai, ih, Prod.fst_swap]; omega
 omega
def Good (m : Nat) (s : Int × Int) : Prop := 0 <= s.1 /\ 0 <= s.2 /\ s.1 <= m /\ s.2 <= m /\ s.1 ≠ s.2
theorem Qix {m : Nat} {R L : List (Int × Int)} (hR : ∀ s ∈ R, Good m s) (hL : ∀ s ∈ L, Good m s) : ∀ s ∈ Qc3 R L, Good m s := λ s hs => by
 unfold Qc3 at hs
 rcases ZD.mp hs with hs | hs
 ·rcases ZD.mp hs with hs | hs
  ·exact hR s hs
  ·obtain ⟨t, ht, rfl⟩ := ZX.mp hs
   obtain ⟨h1, h2, h3, h4, h5⟩ := hR t ht
   exact ⟨h2, h1, h4, h3, λ z => h5 z.symm⟩
 ·exact hL s hs
theorem QlD (a b : Int) : deq (.int a) (.int b) = decide (a = b) := by
 show PyData.eqv (.int a) (.int b) = _
 unfold PyData.eqv
 exact Bool.beq_eq_decide_eq a b
theorem Qbs {fa fb : DE} {ρ : En} {ra rb : R} {a b : Int} (ha : fa ρ = some ra) (ea : ra.d = .int a) (hb : fb ρ = some rb) (eb : rb.d = .int b) : dOp gEq fa fb ρ = some ⟨.bl (decide (a = b)), true, []⟩ := by
 refine QaF ha hb ?_
 rw [ea, eb]
 show some (D.bl (deq (.int a) (.int b))) = _
 rw [QlD]
theorem Qdu {fa fb : DE} {ρ : En} {ra rb : R} {a b : Int} (ha : fa ρ = some ra) (ea : ra.d = .int a) (hb : fb ρ = some rb) (eb : rb.d = .int b) : dOp gNe fa fb ρ = some ⟨.bl (!decide (a = b)), true, []⟩ := by
 refine QaF ha hb ?_
 rw [ea, eb]
 show some (D.bl (!deq (.int a) (.int b))) = _
 rw [QlD]
theorem QsP {fa fb : DE} {ρ : En} {a b : Bool} (ha : fa ρ = some ⟨.bl a, true, []⟩) (hb : fb ρ = some ⟨.bl b, true, []⟩) : Qen fa fb ρ = some ⟨.bl (a && b), true, []⟩ := by
 unfold Qen
 rw [ha]
 cases a <;> simp [D.tru, hb]
theorem QE {fa : DE} {ρ : En} {r : R} {b : Bool} (ha : fa ρ = some r) (e : r.d = .bl b) : QG fa ρ = some b := by
 unfold QG
 rw [ha, Za, e]; rfl
theorem Qb4 {g : DT} {ρ : En} {b : Bool} (h : g ρ = some b) : QcZ g ρ = some (!b) := by unfold QcZ; rw [h]; rfl
theorem Qcw {g1 g2 : DT} {ρ : En} {a b : Bool} (ha : g1 ρ = some a) (hb : g2 ρ = some b) : bOr g1 g2 ρ = some (a || b) := by
 unfold bOr; rw [ha]; cases a <;> simp [hb]
theorem Qq3 {g1 g2 : DT} {ρ : En} {a b : Bool} (ha : g1 ρ = some a) (hb : g2 ρ = some b) : QiA g1 g2 ρ = some (a && b) := by
 unfold QiA; rw [ha]; cases a <;> simp [hb]
theorem QaD {fa fb : DE} {ρ : En} {ra rb : R} {a b : Int} (ha : fa ρ = some ra) (ea : ra.d = .int a) (hb : fb ρ = some rb) (eb : rb.d = .int b) (h : QcU a b = true) : Qaw fa fb ρ = some ⟨.int (a * b), true, []⟩ := by
 unfold Qaw
 rw [ha, Za, hb, Za, ea, eb]
 simp [h]
theorem Qcc {fa fb : DE} {ρ : En} {ra rb : R} {a b : Int} (ha : fa ρ = some ra) (ea : ra.d = .int a) (hb : fb ρ = some rb) (eb : rb.d = .int b) : QU fa fb ρ = some ⟨.int (a + b), true, []⟩ := by
 unfold QU
 rw [ha, Za, hb, Za, ea, eb]
theorem QaR {fa fb : DE} {ρ : En} {ra rb : R} {a b : Int} (ha : fa ρ = some ra) (ea : ra.d = .int a) (hb : fb ρ = some rb) (eb : rb.d = .int b) (h : 0 < b) : dOp QaW fa fb ρ = some ⟨.int (a % b), true, []⟩ := by
 refine QaF ha hb ?_
 rw [ea, eb]
 show (if b ≠ 0 then some (D.int (Qce a b)) else none) = _
 rw [if_pos (by omega), QoE _ _ (by omega)]
theorem Qe1 {fa fb : DE} {ρ : En} {ra rb : R} {a b : Int} (ha : fa ρ = some ra) (ea : ra.d = .int a) (hb : fb ρ = some rb) (eb : rb.d = .int b) (h : 0 < b) (h2 : b < 2 ^ 64) : dOp Qco fa fb ρ = some ⟨.int (a / b), true, []⟩ := by
 refine QaF ha hb ?_
 rw [ea, eb]
 have : Qdr b = true := by
  unfold Qdr
  have h3 : b.natAbs < 2 ^ 8000 := Zl (by omega : b.natAbs < 2 ^ 64) (ZaF (by decide) (by decide))
  simp only [Zg, decide_eq_true_eq]
  exact ⟨by omega, h3⟩
 show (if Qdr b = true then some (D.int (QdD a b)) else none) = _
 rw [if_pos this, QpQ _ _ (by omega)]
theorem Qfz {fa : DE} {ρ : En} {r : R} (h : fa ρ = some r) : Q9 fa ρ = some ⟨r.d, false, r.M⟩ := by unfold Q9; rw [h]; rfl
theorem QqV {fa fb : DE} {ρ : En} {ra rb : R} {m : Nat} {f : Nat -> Int} {i : Int} (ha : fa ρ = some ra) (ea : ra.d = Qc m f) (hb : fb ρ = some rb) (eb : rb.d = .int i) (h0 : 0 <= i) (h : i < m) : Qo fa fb ρ = some ⟨.int (f i.toNat), true, []⟩ := by
 unfold Qo
 rw [ha, Za, hb, Za, ea, eb]
 simp only [Qc, D.items, Za, Qql h0 h, ZN]
 rfl
theorem Qgo {fa fb : DE} {ρ : En} {ra rb : R} {ns : List Int} {i : Int} {v : Int} (ha : fa ρ = some ra) (ea : ra.d = .lst (ns.map .int)) (hb : fb ρ = some rb) (eb : rb.d = .int i) (h0 : 0 <= i) (h : ns[i.toNat]? = some v) : Qo fa fb ρ = some ⟨.int v, true, []⟩ := by
 have hl : i < ns.length := by have := (Zh.mp h).1; omega
 unfold Qo
 rw [ha, Za, hb, Za, ea, eb]
 simp only [D.items, Za]
 rw [QgL h0 (by simpa using hl), Zk, h]
 rfl
theorem Qns {m n : Nat} {f : Nat -> Int} (h : n <= m) : cutD ((List.range m).map λ i => D.int (f i)) none (some (n : Int)) = (List.range n).map λ i => D.int (f i) := by
 unfold cutD
 simp only [Zw, Zy, HT.Qfl, HT.QgH, List.drop_zero, Nat.sub_zero, ZaI h]
 rw [← List.map_take, List.take_range, ZaI h]
theorem Qrz {fa fb : DE} {ρ : En} {ra rb : R} {m n : Nat} {f : Nat -> Int} (ha : fa ρ = some ra) (ea : ra.d = Qc m f) (hb : fb ρ = some rb) (eb : rb.d = .int n) (h : n <= m) : Qbc fa Qaq (Qas fb) ρ = some ⟨Qc n f, true, []⟩ := by
 unfold Qbc Qaq Qas
 rw [ha, Za, hb, ea]
 simp only [Za, eb, Qc, Qns h, QaN, Qn8, if_true]
noncomputable def Qge : DS := (Qe (QL (Qen (Qg1 "int" (Qa 0)) (Ql8 (Qg1 "bool" (Qa 0))))) Ql)
def Qgt (d : Den) : Prop := ∀ i : Int, d [.int i] = some (.bl true, true)
theorem Qpu : Qgt (Qn 1 Qge) := λ i => rfl
noncomputable def Qo1 (t k : Int) : Int := (t + 17) * (k * k + 7 * k + 11) * 69621 % 2147483647
noncomputable def QuO (m t k : Int) : Int := if Qo1 t k % (k + 1) < k then (Qo1 t k % (k + 1) + t) % m else m
noncomputable def Quo (m t kind : Int) (k : Int) : Int × Int × Bool := ((k + t) % m, QuO m t k, decide (kind = 2) || (decide (kind = 3) && decide (Qo1 t k / 64 % 2 = 1)))
noncomputable def Qtu (m : Nat) (t kind : Int) : List (Int × Int × Bool) := (List.range m).map λ (k : Nat) => Quo m t kind k
def GoodW (m : Nat) (w : Int × Int × Bool) : Prop := Good m (w.1, w.2.1) /\ (w.2.2 = true -> w.1 < m)
noncomputable def QtF (W : List (Int × Int × Bool)) : D := .lst (W.map QoG)
@[simp] theorem QtG (W : List (Int × Int × Bool)) : (QtF W).flat = false := rfl
theorem Run.nx {f : DS} {ρ : En} {Q Q' : En -> Prop} (h : Run f ρ (Nx Q)) (m : ∀ ρ, Q ρ -> Q' ρ) : Run f ρ (Nx Q') := h.mono λ o ho => by
 cases o with
 | nx ρ => exact m ρ ho
 | _ => exact ho.elim
theorem QaP {f g : DS} {ρ : En} {P : En -> Prop} {Q : Out -> Prop} (h : Run f ρ (Nx P)) (k : ∀ ρ', P ρ' -> Run g ρ' Q) : Run (Qe f g) ρ Q := run_seq (h.nx k)
noncomputable def Qeh (w : Int × Int × Bool) : Int × Int := (if w.2.1 < w.1 then w.2.1 else w.1, if w.2.1 > w.1 then w.2.1 else w.1)
noncomputable def Qte (w : Int × Int × Bool) : Int × Int := (w.1, w.2.1)
noncomputable def Qdh (W : List (Int × Int × Bool)) : List (Int × Int) := (W.filter λ w => !w.2.2).map Qeh
noncomputable def QdO (W : List (Int × Int × Bool)) : List (Int × Int) := (W.filter λ w => w.2.2).map Qte
theorem Qfx {m : Nat} {W : List (Int × Int × Bool)} (h : ∀ w ∈ W, GoodW m w) : ∀ s ∈ Qdh W, Good m s /\ s.1 < s.2 := λ s hs => by
 obtain ⟨w, hw, rfl⟩ := ZX.mp hs
 obtain ⟨⟨h1, h2, h3, h4, h5⟩, _⟩ := h w (Zao.mp hw).1
 simp only at h1 h2 h3 h4 h5
 unfold Qeh Good
 simp only
 split <;> split <;> omega
theorem Qfs {m : Nat} {W : List (Int × Int × Bool)} (h : ∀ w ∈ W, GoodW m w) : ∀ s ∈ QdO W, Good m s /\ s.1 < m := λ s hs => by
 obtain ⟨w, hw, rfl⟩ := ZX.mp hs
 obtain ⟨h1, h2⟩ := h w (Zao.mp hw).1
 exact ⟨h1, h2 (by simpa using (Zao.mp hw).2)⟩
theorem Qjm (W : List (Int × Int × Bool)) : (Qdh W).length <= W.length := by unfold Qdh; rw [Zw]; exact List.length_filter_le _ _
theorem Qjp (W : List (Int × Int × Bool)) : (QdO W).length <= W.length := by unfold QdO; rw [Zw]; exact List.length_filter_le _ _
structure QrM (m : Nat) (t kind : Int) (R L : List (Int × Int)) : Prop where
 ex : ∃ W, (∀ w ∈ Qtu m t kind, w ∈ W) /\ (∀ w ∈ W, GoodW m w) /\ W.length <= 100 /\ R = Qdh W /\ L = QdO W
theorem QrM.good {m : Nat} {t kind : Int} {R L : List (Int × Int)} (h : QrM m t kind R L) : (∀ s ∈ R, Good m s) /\ (∀ s ∈ L, Good m s) /\ R.length <= 100 /\ L.length <= 100 := by
 obtain ⟨W, _, h2, h3, rfl, rfl⟩ := h.ex
 exact ⟨λ s hs => (Qfx h2 s hs).1, λ s hs => (Qfs h2 s hs).1, Zr (Qjm W) h3, Zr (Qjp W) h3⟩
theorem Qc7 {f : Nat -> Int} {i k : Nat} {v : Int} : up f i v k = if k = i then v else f k := rfl
theorem Qeb {fa : DE} {ρ : En} {r : R} {xs : List D} (h : fa ρ = some r) (e : r.d = .lst xs) : dBf Qal (Qb fa Qf) ρ = some ⟨.int xs.length, true, []⟩ := by
 unfold dBf
 rw [Qp h (QO _), Za]
 simp [e, Qal]
theorem Qnp {fa fb : DE} {ρ : En} {ra rb : R} {d : D} (ha : fa ρ = some ra) (ea : ra.d = d) (hb : fb ρ = some rb) (eb : rb.d = d) (hs : d.sim 8 = true) : dOp gNe fa fb ρ = some ⟨.bl false, true, []⟩ := by
 refine QaF ha hb ?_
 rw [ea, eb]
 unfold gNe
 rw [hs, Qld hs]; rfl
def Esc (m : Nat) (W : List (Int × Int × Bool)) : Prop := ∀ A : Nat -> Prop, (∃ p, p < m /\ A p) -> ∃ w ∈ W, w.1 < m /\ A w.1.toNat /\ (w.2.1 = m ∨ ¬ A w.2.1.toNat)
theorem Esc.mono {m : Nat} {W W' : List (Int × Int × Bool)} (h : Esc m W) (s : ∀ w ∈ W, w ∈ W') : Esc m W' := λ A hA => let ⟨w, hw, r⟩ := h A hA; ⟨w, s w hw, r⟩
def Qpb (m : Nat) (O : List Int) (w : Int × Int × Bool) (j : Nat) : Prop := O[j]? = some w.1 /\ (w.2.1 = m ∨ ∃ i, i < j /\ O[i]? = some w.2.1)
theorem Qpb.app {m : Nat} {O O' : List Int} {w : Int × Int × Bool} {j : Nat} (h : Qpb m O w j) : Qpb m (O ++ O') w j := by
 obtain ⟨h1, h2⟩ := h
 have hj : j < O.length := (Zh.mp h1).1
 refine ⟨by rw [Zae hj]; exact h1, ?_⟩
 rcases h2 with h2 | ⟨i, hi, h2⟩
 ·exact .inl h2
 ·exact .inr ⟨i, hi, by rw [Zae (by omega)]; exact h2⟩
noncomputable def Q1 (m : Nat) (g : Nat -> Int) : Int := ((List.range m).map g).sum
theorem Qbw (m : Nat) (g : Nat -> Int) : Q1 (m + 1) g = Q1 m g + g m := by
 unfold Q1; rw [ZaZ, Zam, Zbc]; simp
theorem Qa8 {m : Nat} {f g : Nat -> Int} (h : ∀ i, i < m -> f i = g i) : Q1 m f = Q1 m g := by
 unfold Q1; rw [ZA λ i hi => h i (ZC.mp hi)]
theorem Qdg (m : Nat) (f g : Nat -> Int) : Q1 m (λ i => f i + g i) = Q1 m f + Q1 m g := by
 induction m with
 | zero => rfl
 | succ m ih => rw [Qbw, Qbw, Qbw, ih]; omega
theorem Qcd (m : Nat) : Q1 m (λ _ => 0) = 0 := by
 induction m with
 | zero => rfl
 | succ m ih => rw [Qbw, ih]; rfl
theorem QeJ {m : Nat} {p : Nat} (hp : p < m) (v : Int) (f : Nat -> Int) : Q1 m (λ i => (if i = p then v else 0) * f i) = v * f p := by
 induction m with
 | zero => omega
 | succ m ih =>
  rw [Qbw]
  by_cases h : p = m
  ·subst h
   rw [if_pos rfl, Qa8 (g := λ _ => 0) λ i hi => by rw [if_neg (by omega)]; simp, Qcd]; simp
  ·rw [ih (by omega), if_neg (λ z => h z.symm)]; simp
noncomputable def Qu (m : Nat) (T : Nat -> Nat -> Int) (f c : Nat -> Int) : Nat -> Int := λ j => f j + Q1 m λ i => c i * T i j
theorem QlG {m : Nat} {f g : Nat -> Int} (h : ∀ i, i < m -> f i = g i) : Qc m f = Qc m g := by
 unfold Qc
 congr 1
 refine ZA λ i hi => ?_
 rw [h i (ZC.mp hi)]
theorem QmP {m : Nat} (f g : Nat -> D) : Qgf ((List.range m).map f) ((List.range m).map g) = (List.range m).map λ i => .tup [f i, g i] := by
 generalize List.range m = l
 induction l with
 | nil => rfl
 | cons n ns ih => unfold Qgf at ih ⊢; simp only [Zv, List.zip_cons_cons, ih]
theorem Qka {ρ : En} {m : Nat} {f : Nat -> Int} {fs : DA} {rs : RA} (h : fs ρ = some rs) (e : rs.ds = [Qc m f]) : dList fs ρ = some ⟨Qc m f, true, []⟩ := by
 unfold dList
 rw [h, Za, e]
 simp [Qc, QaN]
theorem Qe2 {fa fb : DE} {ρ : En} {ra rb : R} {m : Nat} {f g : Nat -> D} (ha : fa ρ = some ra) (ea : ra.d = .lst ((List.range m).map f)) (hb : fb ρ = some rb) (eb : rb.d = .lst ((List.range m).map g)) : Qcx fa fb ρ = some ⟨(List.range m).map λ i => .tup [f i, g i], ra.M ++ rb.M⟩ := by
 unfold Qcx
 rw [ha, Za, hb, Za, ea, eb]
 simp only [QmP]
theorem Qq6 (i j : Nat) (s : Int × Int) : (hit i j s).natAbs <= 1 := by unfold hit; split <;> split <;> decide
theorem QgM (i j : Nat) : ∀ S : List (Int × Int), ((S.map (hit i j)).sum).natAbs <= S.length
 | [] => by simp
 | s :: S => by
  have := QgM i j S
  have := Qq6 i j s
  rw [Zv, Zai, ZJ]
  omega
structure Qjg (m : Nat) (R L : List (Int × Int)) : Prop where
 ex : ∃ W, Esc m W /\ (∀ w ∈ W, GoodW m w) /\ W.length <= 200 /\ R = Qdh W /\ L = QdO W
theorem Qjg.good {m : Nat} {R L : List (Int × Int)} (h : Qjg m R L) : (∀ s ∈ R, Good m s) /\ (∀ s ∈ L, Good m s) /\ R.length <= 200 /\ L.length <= 200 /\ (∀ s ∈ R, s.1 < s.2) /\ ∀ s ∈ L, s.1 < m := by
 obtain ⟨W, _, h2, h3, rfl, rfl⟩ := h.ex
 exact ⟨λ s hs => (Qfx h2 s hs).1, λ s hs => (Qfs h2 s hs).1, Zr (Qjm W) h3, Zr (Qjp W) h3, λ s hs => (Qfx h2 s hs).2, λ s hs => (Qfs h2 s hs).2⟩
theorem Qjx {α : Type} (m : Nat) (g : Nat -> α -> Int) : ∀ S : List α, Q1 m (λ j => (S.map (g j)).sum) = (S.map λ s => Q1 m λ j => g j s).sum
 | [] => by simp [Qcd]
 | s :: S => by
  simp only [Zv, Zai]
  rw [Qdg, Qjx m g S]
theorem QlK {α : Type} (c : Int) (f : α -> Int) : ∀ S : List α, c * (S.map f).sum = (S.map λ s => c * f s).sum
 | [] => by simp
 | s :: S => by simp only [Zv, Zai, Zbl, QlK c f S]
theorem Qqw {fa : DE} {ρ : En} {r : R} {m : Nat} {f : Nat -> Int} (h : fa ρ = some r) (e : r.d = Qc m f) : dBf Qgx (Qb fa Qf) ρ = some ⟨.int (Q1 m f), true, []⟩ := by
 unfold dBf
 rw [Qp h (QO _), Za]
 have : Qc m f = .lst (((List.range m).map f).map .int) := by unfold Qc; rw [Zay]; rfl
 simp only [e, this, Qgx, Qlh, ZN]
 rfl
structure TP (m : Nat) (T : Nat -> Nat -> Int) : Prop where
 neg : ∀ p, p < m -> T p p < 0
 pos : ∀ i j, i < m -> j < m -> i ≠ j -> 0 <= T i j
 bnd : ∀ i j, i < m -> j < m -> (T i j).natAbs < 2 ^ 64
 wt : ∃ w : Nat -> Int, (∀ j, 0 <= w j) /\ ∀ i, i < m -> Q1 m (λ j => T i j * w j) <= -1
inductive Leg (m : Nat) (T : Nat -> Nat -> Int) (f : Nat -> Int) : (Nat -> Int) -> Prop where
 | nil : Leg m T f λ _ => 0
 | step {c : Nat -> Int} {p : Nat} {t : Int} : Leg m T f c -> p < m -> 0 <= t -> t * (0 - T p p) <= Qu m T f c p -> Leg m T f (up c p (c p + t))
def Stb (m : Nat) (T : Nat -> Nat -> Int) (g : Nat -> Int) : Prop := ∀ p, p < m -> g p < 0 - T p p
theorem Leg.nonneg {m : Nat} {T : Nat -> Nat -> Int} {f c : Nat -> Int} (h : Leg m T f c) : ∀ i, 0 <= c i := by
 induction h with
 | nil => intro i; exact ZbD _
 | step _ _ ht _ ih =>
  intro i
  unfold up
  split
  ·have := ih ‹Nat›; rename_i p _ _ _ _ _; have := ih p; omega
  ·exact ih i
theorem Qiy {m : Nat} {f g : Nat -> Int} (h : ∀ i, i < m -> f i <= g i) : Q1 m f <= Q1 m g := by
 induction m with
 | zero => exact ZbD _
 | succ m ih =>
  rw [Qbw, Qbw]
  have := ih λ i hi => h i (by omega)
  have := h m (by omega)
  omega
theorem Leg.least {m : Nat} {T : Nat -> Nat -> Int} (tp : TP m T) {f c : Nat -> Int} (h : Leg m T f c) {c' : Nat -> Int} (h0 : ∀ i, i < m -> 0 <= c' i) (hs : Stb m T (Qu m T f c')) : ∀ i, i < m -> c i <= c' i := by
 induction h with
 | nil => exact h0
 | @step c p t _ hp ht hle ih =>
  intro i hi
  unfold up
  split
  ·rename_i e
   subst e
   have key : Qu m T f c i + (c' i - c i) * T i i <= Qu m T f c' i := by
    unfold Qu
    have e1 : Q1 m (λ k => c k * T k i) + (c' i - c i) * T i i = Q1 m (λ k => c k * T k i + (if k = i then c' i - c i else 0) * T k i) := by rw [Qdg, QeJ hi]
    have e2 : Q1 m (λ k => c k * T k i + (if k = i then c' i - c i else 0) * T k i) <= Q1 m (λ k => c' k * T k i) := by
     refine Qiy λ k hk => ?_
     by_cases hki : k = i
     ·subst hki; rw [if_pos rfl, ← Zad]; rw [show c k + (c' k - c k) = c' k by omega]; exact ZbD _
     ·rw [if_neg hki, ZT, Zbd]
      exact ZaW (ih k hk) (tp.pos k i hk hi hki)
    omega
   have h1 := hs i hi
   have h2 := tp.neg i hi
   by_cases hlt : c i + t <= c' i
   ·exact hlt
   ·exfalso
    have h3 : (c' i - c i + 1) <= t := by omega
    have h4 : (c' i - c i + 1) * (0 - T i i) <= t * (0 - T i i) := ZaW h3 (by omega)
    have h5 : (c' i - c i + 1) * (0 - T i i) = (0 - T i i) - (c' i - c i) * T i i := by rw [Zad, Zav, Int.mul_sub, Zab]; omega
    omega
  ·exact ih i hi
theorem Leg.unique {m : Nat} {T : Nat -> Nat -> Int} (tp : TP m T) {f c d : Nat -> Int} (hc : Leg m T f c) (hd : Leg m T f d) (sc : Stb m T (Qu m T f c)) (sd : Stb m T (Qu m T f d)) : ∀ i, i < m -> c i = d i := λ i hi => by
 have h1 := hc.least tp (λ i _ => hd.nonneg i) sd i hi
 have h2 := hd.least tp (λ i _ => hc.nonneg i) sc i hi
 omega
theorem QcQ {m : Nat} {T : Nat -> Nat -> Int} {f g c d : Nat -> Int} (j : Nat) (h1 : f j = g j) (h2 : ∀ i, i < m -> c i = d i) : Qu m T f c j = Qu m T g d j := by
 unfold Qu
 rw [h1, Qa8 λ i hi => by rw [h2 i hi]]
theorem Leg.cast {m : Nat} {T : Nat -> Nat -> Int} {f c d : Nat -> Int} (h : Leg m T f c) (e : ∀ i, c i = d i) : Leg m T f d := by
 have : c = d := funext e
 rw [← this]; exact h
theorem Leg.Qp4 {m : Nat} {T : Nat -> Nat -> Int} {f g c : Nat -> Int} (h : Leg m T f c) (e : ∀ i, i < m -> f i = g i) : Leg m T g c := by
 induction h with
 | nil => exact .nil
 | @step c p t _ hp ht hle ih => exact .step ih hp ht (by rw [← QcQ (f := f) (g := g) p (e p hp) (λ _ _ => rfl)]; exact hle)
theorem Qju {g : DT} {fb : DS} {Q : Out -> Prop} (I : Nat -> En -> Prop) (step : ∀ n ρ, I n ρ -> ∃ b, g ρ = some b /\ (b = false -> Q (.nx ρ)) /\ (b = true -> Run fb ρ λ o => match o with | .nx ρ2 => ∃ n', n' < n /\ I n' ρ2 | .ct ρ2 => ∃ n', n' < n /\ I n' ρ2 | .bk ρ2 => Q (.nx ρ2) | .rt d fr => Q (.rt d fr))) :
  ∀ (n : Nat) (ρ : En), I n ρ -> Run (Qb9 g fb) ρ Q := by
 intro n
 induction n using Nat.strongRecOn with
 | _ n ih =>
  intro ρ h
  obtain ⟨b, hb, hf, ht⟩ := step n ρ h
  unfold Run
  rw [Qny, hb, Za]
  cases b with
  | false => exact ⟨_, by simp, hf rfl⟩
  | true =>
   obtain ⟨o, ho, hq⟩ := ht rfl
   rw [if_pos rfl, ho, Za]
   cases o with
   | nx ρ2 => obtain ⟨n', hn, hI⟩ := hq; exact ih n' hn ρ2 hI
   | ct ρ2 => obtain ⟨n', hn, hI⟩ := hq; exact ih n' hn ρ2 hI
   | bk ρ2 => exact ⟨_, rfl, hq⟩
   | rt d fr => exact ⟨_, rfl, hq⟩
theorem Qbf {fa fb : DE} {ρ : En} {ra rb : R} {m : Nat} {f : Nat -> Int} {i : Nat} (ha : fa ρ = some ra) (ea : ra.d = Qc m f) (hb : fb ρ = some rb) (eb : rb.d = .int i) (h : i < m) : Qo fa fb ρ = some ⟨.int (f i), true, []⟩ := by
 have := QqV ha ea hb eb (by omega) (by omega)
 rw [ZO] at this
 exact this
def QmM (m : Nat) (S : List (Int × Int)) : Prop := ∀ A : Nat -> Prop, (∃ p, p < m /\ A p) -> ∃ s ∈ S, s.1 < m /\ A s.1.toNat /\ (s.2 = m ∨ ¬ A s.2.toNat)
theorem Qm8 {m : Nat} {W : List (Int × Int × Bool)} (h : Esc m W) : QmM m (Qc3 (Qdh W) (QdO W)) := λ A hA => by
 obtain ⟨w, hw, h1, h2, h3⟩ := h A hA
 refine ⟨(w.1, w.2.1), ?_, h1, h2, h3⟩
 unfold Qc3
 cases e : w.2.2 with
 | true => exact Zc _ (ZX.mpr ⟨w, Zao.mpr ⟨hw, e⟩, rfl⟩)
 | false =>
  have hr : Qeh w ∈ Qdh W := ZX.mpr ⟨w, Zao.mpr ⟨hw, by simp [e]⟩, rfl⟩
  by_cases hlt : w.2.1 < w.1
  ·refine Ze _ (Zc _ (ZX.mpr ⟨Qeh w, hr, ?_⟩))
   unfold Qeh
   rw [if_pos hlt, if_neg (by omega)]; rfl
  ·refine Ze _ (Ze _ ?_)
   have : Qeh w = (w.1, w.2.1) := by
    unfold Qeh
    rw [if_neg hlt]
    by_cases hgt : w.2.1 > w.1
    ·rw [if_pos hgt]
    ·rw [if_neg hgt]; rw [show w.2.1 = w.1 by omega]
   rw [← this]; exact hr
inductive Rk (m : Nat) (S : List (Int × Int)) : Nat -> Nat -> Prop where
 | pit {s : Int × Int} {n : Nat} : s ∈ S -> s.2 = m -> Rk m S (n + 1) s.1.toNat
 | step {s : Int × Int} {k n : Nat} : s ∈ S -> s.2 ≠ m -> Rk m S k s.2.toNat -> k < n -> Rk m S n s.1.toNat
theorem Qpl {P : Nat -> Prop} (h : ∃ n, P n) : ∃ n, P n /\ ∀ k, k < n -> ¬ P k := by
 obtain ⟨n, hn⟩ := h
 induction n using Nat.strongRecOn with
 | _ n ih =>
  by_cases h : ∃ k, k < n /\ P k
  ·obtain ⟨k, hk, h⟩ := h; exact ih k hk h
  ·exact ⟨n, hn, λ k hk hx => h ⟨k, hk, hx⟩⟩
theorem QtM {m : Nat} {S : List (Int × Int)} (he : QmM m S) : ∀ p, p < m -> ∃ n, Rk m S n p := λ p hp => by
 by_cases h : ∃ n, Rk m S n p
 ·exact h
 ·exfalso
  obtain ⟨s, hs, h1, h2, h3⟩ := he (λ p => ¬ ∃ n, Rk m S n p) ⟨p, hp, h⟩
  by_cases e : s.2 = m
  ·exact h2 ⟨1, .pit hs e⟩
  ·rcases h3 with h3 | h3
   ·exact e h3
   ·have : ∃ n, Rk m S n s.2.toNat := Zaf λ z => h3 z
    obtain ⟨k, hk⟩ := this
    exact h2 ⟨k + 1, .step hs e hk (by omega)⟩
theorem Qra {m : Nat} {S : List (Int × Int)} (hg : ∀ s ∈ S, Good m s) (he : QmM m S) : ∃ r : Nat -> Nat, r m = 0 /\ ∀ p, p < m -> ∃ s ∈ S, s.1 = p /\ r s.2.toNat < r p := by
 have h : ∀ p, ∃ n, (p < m -> Rk m S n p /\ ∀ k, k < n -> ¬ Rk m S k p) /\ (p = m -> n = 0) := λ p => by
  by_cases hp : p < m
  ·obtain ⟨n, hn⟩ := Qpl (QtM he p hp)
   exact ⟨n, λ _ => hn, λ z => by omega⟩
  ·exact ⟨0, λ z => absurd z hp, λ _ => rfl⟩
 obtain ⟨r, hr⟩ := Classical.axiomOfChoice h
 refine ⟨r, (hr m).2 rfl, λ p hp => ?_⟩
 have h1 := ((hr p).1 hp).1
 generalize r p = n at h1
 cases h1 with
 | @pit s n hs e =>
  obtain ⟨g1, g2, g3, g4, g5⟩ := hg s hs
  exact ⟨s, hs, by omega, by rw [e, ZO, (hr m).2 rfl]; omega⟩
 | @step s k n hs e hk hkn =>
  obtain ⟨g1, g2, g3, g4, g5⟩ := hg s hs
  refine ⟨s, hs, by omega, ?_⟩
  have hl : s.2.toNat < m := by omega
  have := ((hr s.2.toNat).1 hl).2 k
  have : ¬ k < r s.2.toNat := λ z => this z hk
  omega
theorem Qky (r : Nat -> Nat) : ∀ m : Nat, ∃ N, ∀ p, p <= m -> r p <= N
 | 0 => ⟨r 0, λ p hp => by rw [show p = 0 by omega]; exact Zn _⟩
 | m + 1 => by
  obtain ⟨N, hN⟩ := Qky r m
  refine ⟨N + r (m + 1), λ p hp => ?_⟩
  by_cases e : p = m + 1
  ·subst e; omega
  ·have := hN p (by omega); omega
theorem Qm1 {m : Nat} {i : Nat} {s : Int × Int} (hi : i < m) (g : Good m s) (w : Nat -> Int) (hw : w m = 0) : Q1 m (λ j => hit i j s * w j) = if s.1 = i then w s.2.toNat - w i else 0 := by
 obtain ⟨g1, g2, g3, g4, g5⟩ := g
 by_cases h : s.1 = i
 ·rw [if_pos h]
  have e : Q1 m (λ j => hit i j s * w j) = Q1 m (λ j => (if j = s.2.toNat then 1 else 0) * w j + (if j = i then -1 else 0) * w j) := Qa8 λ j _ => by
   have : hit i j s = (if j = s.2.toNat then 1 else 0) + (if j = i then -1 else 0) := by
    unfold hit
    by_cases a : s.2 = j
    ·by_cases b : i = j
     ·rw [if_pos ⟨h, a⟩, if_pos ⟨h, b⟩, if_pos (by omega), if_pos b.symm]; omega
     ·rw [if_pos ⟨h, a⟩, if_neg (λ z => b z.2), if_pos (by omega), if_neg (λ z => b z.symm)]; omega
    ·by_cases b : i = j
     ·rw [if_neg (λ z => a z.2), if_pos ⟨h, b⟩, if_neg (by omega), if_pos b.symm]; omega
     ·rw [if_neg (λ z => a z.2), if_neg (λ z => b z.2), if_neg (by omega), if_neg (λ z => b z.symm)]; omega
   rw [this, Zad]
  rw [e, Qdg, QeJ hi]
  by_cases hm : s.2.toNat < m
  ·rw [QeJ hm]; omega
  ·have e2 : Q1 m (λ j => (if j = s.2.toNat then 1 else 0) * w j) = 0 := by
    rw [Qa8 (g := λ _ => 0) λ j hj => by rw [if_neg (by omega), ZT], Qcd]
   rw [e2, show s.2.toNat = m by omega, hw]; omega
 ·rw [if_neg h]
  rw [Qa8 (g := λ _ => 0) λ j hj => by
   unfold hit
   rw [if_neg (λ z => h z.1), if_neg (λ z => h z.1)]; rw [Int.sub_self, ZT], Qcd]
theorem QhM {α : Type} {g : α -> Int} {X : Int} : ∀ S : List α, (∀ s ∈ S, g s <= X) -> (S.map g).sum <= S.length * X
 | [], _ => by simp
 | a :: S, h => by
  have h1 := h a (by simp)
  have h2 := QhM S λ s hs => h s (by simp [hs])
  simp only [Zv, Zai, ZJ, Zba, Zad]
  rw [show ((1 : Nat) : Int) * X = X by simp]
  omega
theorem Qh1 {α : Type} {g : α -> Int} {X Y : Int} : ∀ (S : List α), (∀ s ∈ S, g s <= X) -> (∃ s ∈ S, g s <= Y) -> (S.map g).sum <= S.length * X - X + Y
 | [], _, h => by obtain ⟨s, hs, _⟩ := h; exact absurd hs (by simp)
 | a :: S, h, h2 => by
  obtain ⟨s, hs, hy⟩ := h2
  have hb : ∀ s ∈ S, g s <= X := λ s hs => h s (by simp [hs])
  simp only [Zv, Zai, ZJ, Zba, Zad]
  rw [show ((1 : Nat) : Int) * X = X by simp]
  rcases Zq.mp hs with e | hs
  ·subst e
   have := QhM S hb
   omega
  ·have := Qh1 S hb ⟨s, hs, hy⟩
   have := h a (by simp)
   omega
theorem Qh7 {α : Type} {g : α -> Int} : ∀ S : List α, (∀ s ∈ S, 0 <= g s) -> 0 <= (S.map g).sum
 | [], _ => by simp
 | a :: S, h => by
  have h1 := h a (by simp)
  have h2 := Qh7 S λ s hs => h s (by simp [hs])
  simp only [Zv, Zai]
  omega
theorem Qo2 {m : Nat} {S : List (Int × Int)} (hg : ∀ s ∈ S, Good m s) (he : QmM m S) (hl : S.length < 2 ^ 60) : TP m (QcY m S) := by
 have hn : ∀ s ∈ S, 0 <= s.1 /\ 0 <= s.2 := λ s hs => ⟨(hg s hs).1, (hg s hs).2.1⟩
 have pos : ∀ i j, i < m -> j < m -> i ≠ j -> 0 <= QcY m S i j := λ i j hi hj hij => by
  rw [Qft hi hj hn]
  refine Qh7 S λ s _ => ?_
  unfold hit
  rw [if_neg (λ z => hij z.2) (c := s.1 = i /\ i = j)]
  split <;> omega
 obtain ⟨r, r0, hr⟩ := Qra hg he
 obtain ⟨N, hN⟩ := Qky r m
 have M1 : 1 <= S.length + 1 := by omega
 have wt : ∃ w : Nat -> Int, (∀ j, 0 <= w j) /\ ∀ i, i < m -> Q1 m (λ j => QcY m S i j * w j) <= -1 := by
  refine ⟨λ v => (((S.length + 1) ^ N : Nat) : Int) - (((S.length + 1) ^ (N - r v) : Nat) : Int), λ j => ?_, λ i hi => ?_⟩
  ·have := ZaF M1 (Nat.sub_le N (r j))
   show (0 : Int) <= (((S.length + 1) ^ N : Nat) : Int) - (((S.length + 1) ^ (N - r j) : Nat) : Int)
   omega
  ·generalize hw : (λ v => (((S.length + 1) ^ N : Nat) : Int) - (((S.length + 1) ^ (N - r v) : Nat) : Int)) = w
   have hw' : ∀ v, w v = (((S.length + 1) ^ N : Nat) : Int) - (((S.length + 1) ^ (N - r v) : Nat) : Int) := λ v => by rw [← hw]
   have wm : w m = 0 := by rw [hw', r0, Nat.sub_zero]; omega
   have e : Q1 m (λ j => QcY m S i j * w j) = (S.map λ s => if s.1 = (i : Int) then w s.2.toNat - w i else 0).sum := by
    rw [Qa8 (g := λ j => (S.map λ s => hit i j s * w j).sum) λ j hj => by
     rw [Qft hi hj hn, Zat, QlK]
     congr 1
     exact ZA λ s _ => Zat _ _]
    rw [Qjx m (λ j s => hit i j s * w j) S]
    congr 1
    exact ZA λ s hs => Qm1 hi (hg s hs) w wm
   rw [e]
   obtain ⟨s0, hs0, e0, hlt⟩ := hr i hi
   generalize hX : (((S.length + 1) ^ (N - r i) : Nat) : Int) = X
   have X1 : 1 <= X := by
    have : 0 < (S.length + 1) ^ (N - r i) := Nat.pow_pos (by omega)
    omega
   have key := Qh1 (g := λ s : Int × Int => if s.1 = i then w s.2.toNat - w i else 0) (X := X) (Y := X - (S.length + 1) * X) S (λ s _ => by
    show (if s.1 = i then w s.2.toNat - w i else 0) <= X
    split
    ·rw [hw', hw' i, hX]
     have : 0 <= (((S.length + 1) ^ (N - r s.2.toNat) : Nat) : Int) := Int.natCast_nonneg _
     omega
    ·omega) ⟨s0, hs0, by
    show (if s0.1 = i then w s0.2.toNat - w i else 0) <= _
    rw [if_pos e0, hw', hw' i, hX]
    have hb := hN i (by omega)
    have h1 : (S.length + 1) ^ (N - r i + 1) <= (S.length + 1) ^ (N - r s0.2.toNat) := ZaF M1 (by omega)
    rw [Nat.pow_succ] at h1
    have h2 : ((((S.length + 1) ^ (N - r i) * (S.length + 1) : Nat)) : Int) <= (((S.length + 1) ^ (N - r s0.2.toNat) : Nat) : Int) := by exact_mod_cast h1
    rw [Int.natCast_mul, hX, Zat] at h2
    rw [show ((S.length + 1 : Nat) : Int) = (S.length : Int) + 1 by omega] at h2
    omega⟩
   have : ((S.length : Int) + 1) * X = S.length * X + X := by rw [Zad, Zav]
   omega
 refine ⟨λ p hp => ?_, pos, λ i j hi hj => ?_, wt⟩
 ·obtain ⟨w, w0, hw⟩ := wt
  have h1 := hw p hp
  by_cases hneg : QcY m S p p < 0
  ·exact hneg
  ·exfalso
   have : 0 <= Q1 m (λ j => QcY m S p j * w j) := by
    have := Qiy (m := m) (f := λ _ => 0) (g := λ j => QcY m S p j * w j) λ j hj => by
     by_cases e : p = j
     ·subst e; exact Zbg (by omega) (w0 _)
     ·exact Zbg (pos p j hp hj e) (w0 _)
    rw [Qcd] at this
    exact this
   omega
 ·rw [Qft hi hj hn]
  have := QgM i j S
  omega
theorem Qjg.tp {m : Nat} {R L : List (Int × Int)} (h : Qjg m R L) : TP m (QcY m (Qc3 R L)) := by
 have hg := h.good
 refine Qo2 (Qix hg.1 hg.2.1) ?_ ?_
 ·obtain ⟨W, h1, _, _, rfl, rfl⟩ := h.ex
  exact Qm8 h1
 ·unfold Qc3
  simp only [Zu, Zw]
  omega
theorem Qjg.neg {m : Nat} {R L : List (Int × Int)} (h : Qjg m R L) {i : Nat} (hi : i < m) : 0 - QcY m (Qc3 R L) i i = Ql9 R L i := by
 have hg := h.good
 have hs := Qix hg.1 hg.2.1
 rw [Qft hi hi (λ s z => ⟨(hs s z).1, (hs s z).2.1⟩), sum_neg _ _ (λ s z => (hs s z).2.2.2.2), QnJ]
 omega
structure Told (m : Nat) (T : Nat -> Nat -> Int) (f c : Nat -> Int) : Prop where
 leg : Leg m T f c
 pos : ∀ j, j < m -> 0 <= Qu m T f c j
 stb : Stb m T (Qu m T f c)
theorem QdN {a : Int} {k : Nat} {ρ : En} (h1 : a.natAbs < 2 ^ 200) (h2 : k <= 1000) : dOp Qcr (dC (.int a)) (dC (.int k)) ρ = some ⟨.int (a ^ k), true, []⟩ := by
 refine QaF (ra := ⟨.int a, true, []⟩) (rb := ⟨.int k, true, []⟩) rfl rfl ?_
 show (if 0 <= (k : Int) /\ (k : Int) <= 1000 /\ a.natAbs < 2 ^ 200 then some (D.int (a ^ (k : Int).toNat)) else none) = _
 rw [if_pos ⟨by omega, by omega, h1⟩, ZO]
theorem Qq7 {fa : DE} {ρ : En} {r : R} {m : Nat} {f : Nat -> Int} (h : fa ρ = some r) (e : r.d = Qc m f) : dBf Qal (Qb fa Qf) ρ = some ⟨.int m, true, []⟩ := by
 rw [Qeb h e]; simp
theorem QeU {fs : DA} {ρ : En} {rs : RA} (h : fs ρ = some rs) (hl : rs.ds.length <= 64) : QY fs ρ = some ⟨.lst rs.ds, rs.fr, rs.M⟩ := by
 unfold QY
 rw [h, Za, if_pos hl]
theorem QlX (n m : Nat) (f : Nat -> Int) : (Qc m f).sim (n + 1) = true := by
 unfold Qc
 simp only [D.sim, List.all_map, ZZ]
 intro p _
 cases n <;> rfl
theorem QcP {fa fb : DE} {ρ : En} {ra rb : R} {m n : Nat} {f : Nat -> Nat -> Int} {i : Int} (ha : fa ρ = some ra) (ea : ra.d = Qd m n f) (hb : fb ρ = some rb) (eb : rb.d = .int i) (h0 : 0 <= i) (h : i < m) : Qo fa fb ρ = some ⟨Qc n (f i.toNat), ra.fr, ra.M⟩ := by
 unfold Qo
 rw [ha, Za, hb, Za, ea, eb]
 simp only [Qd, D.items, Za, QrB h0 h, ZN]
 rfl
theorem QrD {fa fb : DE} {ρ : En} {ra rb : R} {a b : Int} (ha : fa ρ = some ra) (ea : ra.d = .int a) (hb : fb ρ = some rb) (eb : rb.d = .int b) : dBf QgF (Qb fa (Qb fb Qf)) ρ = some ⟨.int (if b < a then b else a), true, []⟩ := by
 unfold dBf
 rw [Qp ha (Qp hb (QO _)), Za]
 simp only [ea, eb, QgF, ZN]
noncomputable def Qmz : Option Int -> D
 | none => .non
 | some i => .int i
@[simp] theorem Qpj (o : Option Int) : (Qmz o).flat = true := by cases o <;> rfl
noncomputable def Quf (m : Nat) (F : Nat -> Option Int) : D := .lst ((List.range m).map λ i => Qmz (F i))
@[simp] theorem QuC (m : Nat) (F : Nat -> Option Int) : (Quf m F).flat = false := rfl
@[simp] theorem Qt7 (m : Nat) (F : Nat -> Option Int) : QP ((List.range m).map λ i => Qmz (F i)) = true := Qa6 (f := λ i => Qmz (F i)) (λ _ => Qpj _) _
theorem Qn1 {fa fb : DE} {ρ : En} {ra rb : R} {i j : Int} {n : Nat} (ha : fa ρ = some ra) (ea : ra.d = .int i) (hb : fb ρ = some rb) (eb : rb.d = .int j) (hn : (n : Int) = j - i) (hl : n <= 16777216) (h1 : -(2 ^ 62) <= i) (h2 : i < 2 ^ 61) : QdL fa fb ρ = some ⟨(List.range n).map λ (k : Nat) => .int (i + k), []⟩ := by
 unfold QdL
 rw [ha, Za, hb, Za, ea, eb]
 show (if j - i <= 16777216 /\ _ then _ else _) = _
 rw [if_pos ⟨by omega, by omega, by omega, by omega, by omega⟩]
 rw [show (j - i).toNat = n by omega]
 rfl
theorem Leg.mono {m : Nat} {T : Nat -> Nat -> Int} {f g c : Nat -> Int} (h : Leg m T f c) (e : ∀ i, i < m -> f i <= g i) : Leg m T g c := by
 induction h with
 | nil => exact .nil
 | @step c p t _ hp ht hle ih =>
  refine .step ih hp ht ?_
  have := e p hp
  unfold Qu at hle ⊢
  omega
theorem Qhv {m : Nat} {T : Nat -> Nat -> Int} {f c d : Nat -> Int} (j : Nat) : Qu m T (Qu m T f c) d j = Qu m T f (λ i => c i + d i) j := by
 unfold Qu
 have e : (λ i => (c i + d i) * T i j) = λ i => c i * T i j + d i * T i j := by funext i; rw [Zad]
 rw [e, Qdg]
 show f j + Q1 m (λ i => c i * T i j) + _ = _
 omega
theorem Qqt {m : Nat} {T : Nat -> Nat -> Int} {f g c d : Nat -> Int} (j : Nat) : Qu m T (λ i => f i + g i) (λ i => c i + d i) j = Qu m T f c j + Qu m T g d j := by
 unfold Qu
 have e : (λ i => (c i + d i) * T i j) = λ i => c i * T i j + d i * T i j := by funext i; rw [Zad]
 rw [e, Qdg]
 show f j + g j + _ = _
 omega
theorem Leg.trans {m : Nat} {T : Nat -> Nat -> Int} {f c d : Nat -> Int} (h : Leg m T f c) (h2 : Leg m T (Qu m T f c) d) : Leg m T f (λ i => c i + d i) := by
 induction h2 with
 | nil => exact h.cast λ i => by simp
 | @step d p t _ hp ht hle ih =>
  rw [Qhv] at hle
  refine (Leg.step ih hp ht hle).cast λ i => ?_
  unfold up
  split
  ·rename_i e; subst e; show c i + d i + t = c i + (d i + t); omega
  ·rfl
theorem Told.lay {m : Nat} {T : Nat -> Nat -> Int} {F C F' h c : Nat -> Int} (hC : Told m T F C) (hF : ∀ j, j < m -> F j <= F' j) (hh : ∀ j, j < m -> h j = Qu m T F C j + (F' j - F j)) (hc : Told m T h c) : Told m T F' (λ i => C i + c i) /\ ∀ j, j < m -> Qu m T h c j = Qu m T F' (λ i => C i + c i) j := by
 have e1 : ∀ j, j < m -> h j = Qu m T F' C j := λ j hj => by
  rw [hh j hj]
  unfold Qu
  omega
 have e2 : ∀ j, j < m -> Qu m T h c j = Qu m T F' (λ i => C i + c i) j := λ j hj => by
  rw [← Qhv]
  exact QcQ j (e1 j hj) λ _ _ => rfl
 exact ⟨⟨(hC.leg.mono hF).trans (hc.leg.Qp4 e1), λ j hj => by rw [← e2 j hj]; exact hc.pos j hj, λ j hj => by rw [← e2 j hj]; exact hc.stb j hj⟩, e2⟩
theorem Told.both {m : Nat} {T : Nat -> Nat -> Int} {f g c d e : Nat -> Int} (hf : Told m T f c) (hg : Told m T g d) (g0 : ∀ j, j < m -> 0 <= g j) (he : Told m T (λ j => Qu m T f c j + Qu m T g d j) e) : Told m T (λ j => f j + g j) (λ i => c i + d i + e i) /\ ∀ j, j < m -> Qu m T (λ j => Qu m T f c j + Qu m T g d j) e j = Qu m T (λ j => f j + g j) (λ i => c i + d i + e i) j := by
 have l1 : Leg m T (λ j => f j + g j) c := hf.leg.mono λ j hj => by have := g0 j hj; show f j <= f j + g j; omega
 have a1 : ∀ j, Qu m T (λ j => f j + g j) c j = Qu m T f c j + g j := λ j => by unfold Qu; show f j + g j + _ = _; omega
 have l2 : Leg m T (Qu m T (λ j => f j + g j) c) d := hg.leg.mono λ j hj => by rw [a1]; have := hf.pos j hj; omega
 have l3 : Leg m T (λ j => f j + g j) (λ i => c i + d i) := l1.trans l2
 have a3 : ∀ j, j < m -> Qu m T f c j + Qu m T g d j = Qu m T (λ j => f j + g j) (λ i => c i + d i) j := λ j _ => (Qqt j).symm
 have e2 : ∀ j, j < m -> Qu m T (λ j => Qu m T f c j + Qu m T g d j) e j = Qu m T (λ j => f j + g j) (λ i => c i + d i + e i) j := λ j hj => by
  rw [← Qhv (c := λ i => c i + d i) (d := e)]
  exact QcQ j (a3 j hj) λ _ _ => rfl
 exact ⟨⟨l3.trans (he.leg.Qp4 a3), λ j hj => by rw [← e2 j hj]; exact he.pos j hj, λ j hj => by rw [← e2 j hj]; exact he.stb j hj⟩, e2⟩
theorem Told.one {m : Nat} {T : Nat -> Nat -> Int} (tp : TP m T) {f c d : Nat -> Int} (h : Told m T f c) (g : Told m T f d) : ∀ i, i < m -> c i = d i := h.leg.unique tp g.leg h.stb g.stb
abbrev QbF (i : Int) : Prop := Builtin.Int.intBits i <= 2 ^ 20
theorem Qmu {i : Int} (h : i.natAbs < 2 ^ 300) : QbF i := Zr (Zbu h) (by decide)
noncomputable def Qj8 : DS := (Qe (QL (QW (QaV (Qa 0)) (.nm 1) [none, none, some 1] Qaf (Qo (Qa 1) (Qa 2)))) Ql)
def Qff (d : Den) : Prop := ∀ (n m : Nat) (f : Nat -> Nat -> Int) (j : Nat), j < m -> d [Qd n m f, .int j] = some (Qc n (λ i => f i j), true)
theorem Qn9 : Qff (Qn 2 Qj8) := λ n m f j hj =>
 Qae (QM (Q6 (toD := λ (i : Nat) => Qc m (f i)) (out := λ (i : Nat) => .int (f i j)) (List.range n) (QbS (r := ⟨Qd n m f, false, []⟩) rfl rfl) rfl λ i _ => ⟨_, rfl, ⟨.int (f i j), true, []⟩, Qbf (m := m) (f := f i) (i := j) (ra := ⟨Qc m (f i), false, []⟩) (rb := ⟨.int j, true, []⟩) rfl rfl rfl rfl hj, rfl, rfl⟩) ⟨rfl, rfl⟩)
noncomputable def QkZ (QaC : Den) : DS := (Qe (QL (QW (QaB (dBf Qal (Qb (Qa 0) Qf))) (.nm 1) [none, none, some 0] Qaf (Qi 2 QaC [] (Qb (Qa 2) (Qb (Qa 1) Qf))))) Ql)
theorem Qch {fa : DE} {ρ : En} {r : R} {n m : Nat} {f : Nat -> Nat -> Int} (h : fa ρ = some r) (e : r.d = Qd n m f) : dBf Qal (Qb fa Qf) ρ = some ⟨.int n, true, []⟩ := by
 rw [Qeb h e]; simp
def Qfq (d : Den) : Prop := ∀ (n : Nat) (f : Nat -> Nat -> Int), n <= 1000 -> d [Qd n n f] = some (Qd n n (λ j i => f i j), true)
theorem Qos {dc : Den} (hc : Qff dc) : Qfq (Qn 1 (QkZ dc)) := λ n f hn =>
 Qae (QM (Q6 (toD := λ (k : Nat) => .int (k : Int)) (out := λ (j : Nat) => Qc n (λ i => f i j)) (List.range n) (QbL (n := n) (Qch (n := n) (m := n) (f := f) (r := ⟨Qd n n f, false, []⟩) rfl rfl) rfl (by omega)) rfl λ j hj => ⟨[none, some (.int j, true), some (Qd n n f, false)], rfl, ⟨Qc n (λ i => f i j), true, []⟩, Qw (r := ⟨[Qd n n f, .int j], false, []⟩) rfl (hc n n f j (ZC.mp hj)) rfl, rfl, rfl⟩) ⟨rfl, rfl⟩)
theorem QoV {x : Nat} {fa : DE} {ρ : En} {d : D} {xs : List D} {Q : Out -> Prop} (hx : ρ[x]? = some (some (.lst xs, true))) (ha : fa ρ = some ⟨d, true, []⟩) (hl : xs.length < 16777216) (q : Q (.nx (ρ.set x (some (.lst (xs ++ [d]), true))))) : Run (QeI x Qc5 fa) ρ Q := by
 refine ⟨_, ?_, q⟩
 have hn : (HS.R.mk d true []).norm = ⟨d, true, []⟩ := by unfold R.norm; split <;> rfl
 unfold QeI
 rw [hx]
 simp only [Qc5, Za, ha, QcA, QhW, hn, QhP]
 simp [hl, kill, Qbr]
theorem QpB {i n : Nat} {f : Nat -> Nat -> Int} : ((List.range i).map λ k => Qc n (f k)) ++ [Qc n (f i)] = (List.range (i + 1)).map λ k => Qc n (f k) := by
 rw [ZaZ, Zam]; rfl
noncomputable def QgQ : DS := (Qe (QL (QW (QaV (Qa 0)) (.nm 1) [none, none] Qaf (dList (Qb (Qa 1) Qf)))) Ql)
def Qkk (d : Den) : Prop := ∀ (n m : Nat) (f : Nat -> Nat -> Int), d [Qd n m f] = some (Qd n m f, true)
theorem QqC : Qkk (Qn 1 QgQ) := λ n m f =>
 Qae (QM (r := ⟨Qd n m f, true, []⟩) (Q6 (toD := λ (i : Nat) => Qc m (f i)) (out := λ (i : Nat) => Qc m (f i)) (List.range n) (QbS (r := ⟨Qd n m f, false, []⟩) rfl rfl) rfl λ i _ => ⟨_, rfl, ⟨Qc m (f i), true, []⟩, Qka (m := m) (f := f i) (rs := ⟨[Qc m (f i)], false, []⟩) rfl rfl, rfl, rfl⟩) ⟨rfl, rfl⟩)
noncomputable def Qd5 (Qah : Den) : DS := (Qe (sIf (bOr (QcZ (QG (Qg1 "list" (Qa 0)))) (QG (dOp gNe (dBf Qal (Qb (Qa 0) Qf)) (Qa 1)))) (Qe (QL (dC (.bl false))) Ql) Ql) (Qe (QL (dOp gEq (dBf Qal (Qb (QW (QaV (Qa 0)) (.nm 1) [none, none] (QG (Qi 1 Qah [] (Qb (Qa 1) Qf))) (Qa 1)) Qf)) (Qa 1))) Ql))
def QkL (d : Den) : Prop := ∀ (n : Nat) (a : Nat -> Int), d [Qc n a, .int n] = some (.bl true, true)
theorem Qrw {dw : Den} (hw : Qgt dw) : QkL (Qn 2 (Qd5 dw)) := λ n a => by
 refine Qae ?_
 refine Qz (QT (b := false) (Qcw (a := false) (b := false) (Qb4 (b := true) (QE (b := true) rfl rfl)) (QE (b := false) (r := ⟨.bl false, true, []⟩) ((Qdu (a := n) (b := n) (Qq7 (m := n) (f := a) (r := ⟨Qc n a, false, []⟩) rfl rfl) rfl (rb := ⟨.int n, true, []⟩) rfl rfl).trans (by simp)) rfl)) (λ h => by cases h) (λ _ => Qs ?_))
 have ec := Qi8 (fi := QaV (Qa 0)) (t := .nm 1) (cap := [none, none]) (ft := QG (Qi 1 dw [] (Qb (Qa 1) Qf))) (fe := Qa 1) (ρ := [some (Qc n a, false), some (.int n, true)]) (toD := λ (i : Nat) => .int (a i)) (keep := λ _ => true) (out := λ (i : Nat) => .int (a i)) (List.range n) (QbS (r := ⟨Qc n a, false, []⟩) rfl rfl) rfl λ i _ => ⟨[none, some (.int (a i), true)], rfl, QE (b := true) (Qw (r := ⟨[.int (a i)], true, []⟩) rfl (hw (a i)) rfl) rfl, λ _ => ⟨⟨.int (a i), true, []⟩, rfl, rfl, rfl⟩⟩
 have el := Qeb ec rfl
 rw [Zw, List.filter_eq_self.mpr λ _ _ => rfl, Zy] at el
 exact QM (r := ⟨.bl true, true, []⟩) ((Qbs (a := n) (b := n) el rfl (rb := ⟨.int n, true, []⟩) rfl rfl).trans (by simp)) ⟨rfl, rfl⟩
noncomputable def Qdq : DS := (Qe (sIf (QG (dOp gLt (Qa 1) (dBf Qal (Qb (Qa 0) Qf)))) (Qe (QL (Qo (Qa 0) (Qa 1))) Ql) Ql) (Qe (Qt 2 (QU (Qaw (dC (.int 7919)) (Qa 1)) (dC (.int 5)))) (Qe (sIf (QG (dOp gGt (dBf Qal (Qb (Qa 0) Qf)) (dC (.int 0)))) (Qe (Qt 2 (dOp QaW (QU (Qaw (Qo (Qa 0) (dOp QaW (Qa 1) (dBf Qal (Qb (Qa 0) Qf)))) (dC (.int 48271))) (Qaw (Qa 1) (dC (.int 7919)))) (dC (.int 2147483647)))) Ql) Ql) (Qe (QL (dOp QaW (Qaw (Qa 2) (Qa 2)) (dC (.int 2147483629)))) Ql))))
def QdV (d : Den) : Prop := ∀ ns : List Int, ns.length <= 63 -> (∀ k, QbF (ns.getD k 0)) -> ∃ F : Nat -> Int, ∀ k : Nat, k <= 1000 -> d [.lst (ns.map .int), .int k] = some (.int (F k), true) /\ QbF (F k)
set_option exponentiation.threshold 400 in
theorem Qo6 : QdV (Qn 3 Qdq) := λ ns hl hb => by
 have key : ∀ k : Nat, k <= 1000 -> ∃ v, Qn 3 Qdq [.lst (ns.map .int), .int k] = some (.int v, true) /\ QbF v := λ k hk => by
  have elen : ∀ (ρ : En), ρ[0]? = some (some (.lst (ns.map .int), false)) -> dBf Qal (Qb (Qa 0) Qf) ρ = some ⟨.int ns.length, true, []⟩ := λ ρ h => by
   rw [Qeb (xs := ns.map D.int) (QcS h) rfl, Zw]
  have run : Run Qdq (QbQ 3 [.lst (ns.map .int), .int k]) (Rt λ d fr => ∃ v, d = .int v /\ fr = true /\ QbF v) := by
   refine Qz (QT (b := decide ((k : Int) < ns.length)) (QE (QaF (d := .bl (decide ((k : Int) < ns.length))) (ra := ⟨.int k, true, []⟩) rfl (elen _ rfl) rfl) rfl) (λ h => ?_) (λ h => Qs ?_))
   ·have h := of_decide_eq_true h
    obtain ⟨c, hc⟩ : ∃ c, ns[k]? = some c := ⟨_, Zah (by omega)⟩
    refine Qz (Qbj (r := ⟨.int c, true, []⟩) (Qgo (ns := ns) (i := k) (v := c) (ra := ⟨.lst (ns.map .int), false, []⟩) (rb := ⟨.int k, true, []⟩) rfl rfl rfl rfl (by omega) (by simpa using hc)) ⟨c, rfl, rfl, ?_⟩)
    have := hb k
    rw [Zaa, hc] at this
    exact this
   have h := of_decide_eq_false h
   refine run_seq (Qh (Qcc (a := 7919 * k) (b := 5) (QaD (a := 7919) (b := k) rfl rfl rfl rfl (Qdf (by decide))) rfl rfl rfl) ?_)
   rw [Qq]
   refine QaP (P := λ ρ => ∃ v : Int, 0 <= v /\ v < 2147483647 /\ ρ = [some (.lst (ns.map .int), false), some (.int k, true), some (.int v, true)]) ?_ ?_
   ·refine QT (b := decide ((0 : Int) < ns.length)) (QE (QaF (d := .bl (decide ((0 : Int) < ns.length))) (rb := ⟨.int 0, true, []⟩) (elen _ rfl) rfl rfl) rfl) (λ h2 => ?_) (λ h2 => Qs ⟨7919 * k + 5, by omega, by omega, rfl⟩)
    have h2 := of_decide_eq_true h2
    have x0 := ZS (k : Int) (by omega : (ns.length : Int) ≠ 0)
    have x1 := ZM (k : Int) h2
    obtain ⟨c, hc⟩ : ∃ c, ns[((k : Int) % (ns.length : Int)).toNat]? = some c := ⟨_, Zah (by omega)⟩
    refine run_seq (Qh (QaR (a := c * 48271 + k * 7919) (b := 2147483647) (Qcc (a := c * 48271) (b := k * 7919) (QaD (a := c) (b := 48271) (Qgo (ns := ns) (i := (k : Int) % (ns.length : Int)) (v := c) (ra := ⟨.lst (ns.map .int), false, []⟩) rfl rfl (QaR (a := k) (b := ns.length) rfl rfl (elen _ rfl) rfl (by omega)) rfl x0 hc) rfl rfl rfl (Qjf (by decide))) rfl (QaD (a := k) (b := 7919) rfl rfl rfl rfl (Qjf (by decide))) rfl) rfl rfl rfl (by decide)) (Qs ?_))
    rw [Qq]
    exact ⟨_, ZS _ (by decide), ZM _ (by decide), rfl⟩
   rintro ρ ⟨v, v0, v1, rfl⟩
   have y0 := ZS (v * v) (by decide : (2147483629 : Int) ≠ 0)
   have y1 := ZM (v * v) (by decide : (0 : Int) < 2147483629)
   refine QM (QaR (a := v * v) (b := 2147483629) (QaD (a := v) (b := v) rfl rfl rfl rfl (Qdf (by omega))) rfl rfl rfl (by decide)) ⟨v * v % 2147483629, rfl, rfl, Qmu (by
    have : (v * v % 2147483629).natAbs < 2147483629 := by omega
    exact Nat.lt_trans this (by decide))⟩
  obtain ⟨o, h1, h2⟩ := run
  cases o with
  | rt d fr =>
   obtain ⟨v, rfl, rfl, h3⟩ := h2
   exact ⟨v, by unfold Qn; rw [h1]; rfl, h3⟩
  | _ => exact h2.elim
 refine ⟨λ k => if h : k <= 1000 then (key k h).choose else 0, λ k hk => ?_⟩
 dsimp only
 rw [dif_pos hk]
 exact (key k hk).choose_spec
noncomputable def QfF : DS := (Qe (QL (dOp Qbn (dOp QaW (Qaw (Qa 0) (dOp Qcr (dC (.int 618970019642690137449562111)) (dC (.int 3)))) (QU (Qaw (dC (.int 2)) (Qa 1)) (dC (.int 1)))) (Qa 1))) Ql)
theorem QqL : QbF (618970019642690137449562111 ^ 3) := by decide +kernel
def Qer (d : Den) : Prop := ∀ c far : Int, QbF c -> 0 <= far -> ∃ v, d [.int c, .int far] = some (.int v, true) /\ -far <= v /\ v <= far
theorem Qnb : Qer (Qn 2 QfF) := λ c far hc h0 => by
 have ep : ∀ ρ : En, dOp Qcr (dC (.int 618970019642690137449562111)) (dC (.int 3)) ρ = some ⟨.int (618970019642690137449562111 ^ 3), true, []⟩ := λ ρ => QdN (a := 618970019642690137449562111) (k := 3) (by decide) (by decide)
 have hb := QqL
 generalize (618970019642690137449562111 : Int) ^ 3 = big at ep hb
 have x0 := ZS (c * big) (by omega : 2 * far + 1 ≠ 0)
 have x1 := ZM (c * big) (by omega : 0 < 2 * far + 1)
 refine ⟨c * big % (2 * far + 1) - far, Qae (QM (QaF (d := .int (c * big % (2 * far + 1) - far)) (rb := ⟨.int far, true, []⟩) (QaR (a := c * big) (b := 2 * far + 1) (QaD (a := c) (b := big) rfl rfl (ep _) rfl (QdT hc hb)) rfl (Qcc (a := 2 * far) (b := 1) (QaD (a := 2) (b := far) rfl rfl rfl rfl (Qdf (by decide))) rfl rfl rfl) rfl (by omega)) rfl rfl) ⟨rfl, rfl⟩), by omega, by omega⟩
noncomputable def Qef (QA : Den) (Qab : Den) : DS := (Qe (Qt 4 (QY Qf)) (Qe (QcV (QaB (Qa 2)) (.nm 5) (Qe (QeI 4 Qc5 (QW (QaB (Qa 2)) (.nm 1) [none, none, some 3, some 5, some 0, some 2, some 1] Qaf (Qi 2 Qab [] (Qb (Qi 2 QA [] (Qb (Qa 4) (Qb (QU (QU (Qa 6) (Qaw (Qa 3) (Qa 5))) (Qa 1)) Qf))) (Qb (Qa 2) Qf))))) Ql)) (Qe (QL (Qa 4)) Ql)))
def InT (n : Nat) (far : Int) (f : Nat -> Nat -> Int) : Prop := ∀ i j, i < n -> j < n -> -far <= f i j /\ f i j <= far
theorem QoM {dc dn : Den} (ns : List Int) (F : Nat -> Int) (hc : ∀ k : Nat, k <= 1000 -> dc [.lst (ns.map .int), .int k] = some (.int (F k), true) /\ QbF (F k)) (hn : Qer dn) (a n : Nat) (far : Int) (ha : a <= 100) (hn8 : n <= 8) (h0 : 0 <= far) : ∃ f, Qn 6 (Qef dc dn) [.lst (ns.map .int), .int a, .int n, .int far] = some (Qd n n f, true) /\ InT n far f := by
 have num : ∀ k : Nat, ∃ v, k <= 1000 -> dn [.int (F k), .int far] = some (.int v, true) /\ -far <= v /\ v <= far := λ k => by
  by_cases hk : k <= 1000
  ·obtain ⟨v, h⟩ := hn (F k) far (hc k hk).2 h0
   exact ⟨v, λ _ => h⟩
  ·exact ⟨0, λ h => absurd h hk⟩
 refine ⟨λ i j => (num (a + i * n + j)).choose, Qae ?_, λ i j hi hj => ?_⟩
 ·refine run_seq (Qh (r := ⟨Qd 0 n λ i j => (num (a + i * n + j)).choose, true, []⟩) rfl ?_)
  rw [Qq]
  refine QaP (P := λ ρ => ∃ j5, ρ = [some (.lst (ns.map .int), false), some (.int a, true), some (.int n, true), some (.int far, true), some (Qd n n λ i j => (num (a + i * n + j)).choose, true), j5]) ?_ ?_
  ·refine Qde (toD := λ (k : Nat) => .int (k : Int)) (List.range n) (λ i ρ => ∃ j5, ρ = [some (.lst (ns.map .int), false), some (.int a, true), some (.int n, true), some (.int far, true), some (Qd i n λ i j => (num (a + i * n + j)).choose, true), j5]) (QbL (n := n) (r := ⟨.int n, true, []⟩) rfl rfl (by omega)) rfl ⟨none, rfl⟩ ?_ ?_
   ·rintro i i' ρ hi ⟨j5, rfl⟩
    have hi' : i < n /\ i = i' := by
     obtain ⟨h1, h2⟩ := Zh.mp hi
     simp at h1 h2; exact ⟨h1, h2⟩
    obtain ⟨him, rfl⟩ := hi'
    refine ⟨[some (.lst (ns.map .int), false), some (.int a, true), some (.int n, true), some (.int far, true), some (Qd i n λ i j => (num (a + i * n + j)).choose, true), some (.int i, true)], rfl, ?_⟩
    refine run_seq (QoV (xs := (List.range i).map λ k => Qc n (λ j => (num (a + k * n + j)).choose)) (d := Qc n (λ j => (num (a + i * n + j)).choose)) rfl ?_ (by simp; omega) (Qs ⟨some (.int i, true), ?_⟩))
    ·refine Q6 (toD := λ (k : Nat) => .int (k : Int)) (out := λ (j : Nat) => .int (num (a + i * n + j)).choose) (List.range n) (QbL (n := n) (r := ⟨.int n, true, []⟩) rfl rfl (by omega)) rfl λ j hj => ⟨[none, some (.int j, true), some (.int far, true), some (.int i, true), some (.lst (ns.map .int), false), some (.int n, true), some (.int a, true)], rfl, ⟨.int (num (a + i * n + j)).choose, true, []⟩, ?_, rfl, rfl⟩
     have hj := ZC.mp hj
     have hin : i * n <= 7 * 8 := ZaO (by omega) hn8
     have hk : a + i * n + j <= 1000 := by omega
     have ei : QU (QU (Qa 6) (Qaw (Qa 3) (Qa 5))) (Qa 1) [none, some (.int j, true), some (.int far, true), some (.int i, true), some (.lst (ns.map .int), false), some (.int n, true), some (.int a, true)] = some ⟨.int ((a + i * n + j : Nat) : Int), true, []⟩ := by
      refine (Qcc (a := a + i * n) (b := j) (Qcc (a := a) (b := i * n) rfl rfl (QaD (a := i) (b := n) rfl rfl rfl rfl (Qdf (by omega))) rfl) rfl rfl rfl).trans ?_
      rw [show ((a + i * n + j : Nat) : Int) = (a : Int) + i * n + j by simp]
     exact Qw (Qp (Qw (Qp (r := ⟨.lst (ns.map .int), false, []⟩) rfl (Qp ei (QO _))) (hc _ hk).1 rfl) (Qp (r := ⟨.int far, true, []⟩) rfl (QO _))) ((num (a + i * n + j)).choose_spec hk).1 rfl
    ·rw [QpB (f := λ i j => (num (a + i * n + j)).choose)]; rfl
   ·rintro ρ ⟨j5, rfl⟩
    rw [Zy]
    exact ⟨_, rfl⟩
  rintro ρ ⟨j5, rfl⟩
  exact QM (r := ⟨Qd n n λ i j => (num (a + i * n + j)).choose, true, [4]⟩) rfl ⟨rfl, rfl⟩
 ·have hin : i * n <= 7 * 8 := ZaO (by omega) hn8
  exact ((num (a + i * n + j)).choose_spec (by omega)).2
theorem Qkt {fa fb : DE} {ρ : En} {ra rb : R} {m k : Nat} {f g : Nat -> Int} (ha : fa ρ = some ra) (ea : ra.d = Qc m f) (hb : fb ρ = some rb) (eb : rb.d = Qc k g) (hl : m + k <= 1000) : QU fa fb ρ = some ⟨Qc (m + k) (λ i => if i < m then f i else g (i - m)), true, []⟩ := by
 have e : Qc (m + k) (λ i => if i < m then f i else g (i - m)) = .lst (((List.range m).map λ i => D.int (f i)) ++ ((List.range k).map λ i => D.int (g i))) := by
  unfold Qc
  rw [List.range_add, Zam, Zay]
  congr 2
  ·refine ZA λ i hi => ?_
   show D.int (if i < m then f i else g (i - m)) = _
   rw [if_pos (ZC.mp hi)]
  ·refine ZA λ i hi => ?_
   show D.int (if m + i < m then f (m + i) else g (m + i - m)) = _
   rw [if_neg (by omega), Nat.add_sub_cancel_left]
 rw [e]
 unfold QU
 rw [ha, Za, hb, Za, ea, eb]
 simp only [Qc, Zw, Zy, QhP]
 rw [if_pos (by omega)]
 unfold QaN
 rw [if_pos]
 rw [Qb5, Zg]
 exact ⟨Qa6 (λ _ => rfl) _, Qa6 (λ _ => rfl) _⟩
def QeE (d : Den) : Prop := ∀ ns : List Int, ns.length <= 63 -> (∀ k, QbF (ns.getD k 0)) -> ∀ (a n : Nat) (far : Int), a <= 100 -> n <= 8 -> 0 <= far -> ∃ f, d [.lst (ns.map .int), .int a, .int n, .int far] = some (Qd n n f, true) /\ InT n far f
theorem QmD {dc dn : Den} (hc : QdV dc) (hn : Qer dn) : QeE (Qn 6 (Qef dc dn)) := λ ns hl hb a n far ha h8 h0 => by
 obtain ⟨F, hF⟩ := hc ns hl hb
 exact QoM ns F hF hn a n far ha h8 h0
theorem Qq8 (k n m : Nat) (f : Nat -> Nat -> Int) : (Qd n m f).sim (k + 2) = true := by
 unfold Qd
 simp only [D.sim, List.all_map, ZZ]
 intro i _
 exact QlX k m (f i)
noncomputable def sm : Nat -> (Nat -> Int) -> Int
 | 0, _ => 0
 | n + 1, f => sm n f + f n
theorem Qcb {f g : Nat -> Int} : ∀ {n : Nat}, (∀ i, i < n -> f i = g i) -> sm n f = sm n g
 | 0, _ => rfl
 | n + 1, h => by unfold sm; rw [Qcb λ i hi => h i (by omega), h n (by omega)]
theorem Qkx (x y : Int) (f g : Nat -> Int) : ∀ n, sm n (λ i => x * f i + y * g i) = x * sm n f + y * sm n g
 | 0 => by simp [sm]
 | n + 1 => by
  unfold sm
  rw [Qkx x y f g n, Zbl, Zbl]
  show _ + (x * f n + y * g n) = _
  omega
theorem Qgp {f : Nat -> Int} : ∀ {n : Nat}, (∀ i, i < n -> f i = 0) -> sm n f = 0
 | 0, _ => rfl
 | n + 1, h => by unfold sm; rw [Qgp λ i hi => h i (by omega), h n (by omega)]; rfl
theorem QeT {f : Nat -> Int} {c : Nat} : ∀ {n : Nat}, c < n -> (∀ i, i < n -> i ≠ c -> f i = 0) -> sm n f = f c
 | 0, hc, _ => by omega
 | n + 1, hc, h => by
  unfold sm
  by_cases e : c = n
  ·rw [Qgp λ i hi => h i (by omega) (by omega), e]; omega
  ·rw [QeT (c := c) (by omega) λ i hi => h i (by omega), h n (by omega) (Ne.symm e)]; omega
theorem QhU {f : Nat -> Int} {c d : Nat} : ∀ {n : Nat}, c < d -> d < n -> (∀ i, i < n -> i ≠ c -> i ≠ d -> f i = 0) -> sm n f = f c + f d
 | 0, _, hc, _ => by omega
 | n + 1, hcd, hd, h => by
  unfold sm
  by_cases e : d = n
  ·rw [QeT (c := c) (by omega) λ i hi ne => h i (by omega) ne (by omega), e]
  ·rw [QhU (c := c) (d := d) hcd (by omega) λ i hi => h i (by omega), h n (by omega) (by omega) (by omega)]; omega
theorem QlR (x : Int) (f : Nat -> Int) : ∀ n, sm n (λ i => f i * x) = sm n f * x
 | 0 => by simp [sm]
 | n + 1 => by unfold sm; rw [QlR x f n, Zad]
noncomputable def skp (j c : Nat) : Nat := if c < j then c else c + 1
noncomputable def sgn (j : Nat) : Int := if j % 2 = 0 then 1 else -1
theorem Qg3 (j : Nat) : sgn (j + 1) = - sgn j := by
 unfold sgn
 by_cases h : j % 2 = 0
 ·rw [if_pos h, if_neg (by omega)]
 ·rw [if_neg h, if_pos (by omega)]; rfl
noncomputable def det : Nat -> (Nat -> Nat -> Int) -> Int
 | 0, _ => 1
 | n + 1, m => sm (n + 1) λ j => sgn j * m j 0 * det n λ c r => m (skp j c) (r + 1)
noncomputable def cup (m : Nat -> Nat -> Int) (c : Nat) (a : Nat -> Int) : Nat -> Nat -> Int := λ j => if j = c then a else m j
theorem QC (m : Nat -> Nat -> Int) (c : Nat) (a : Nat -> Int) : cup m c a c = a := by unfold cup; rw [if_pos rfl]
theorem Qv (m : Nat -> Nat -> Int) {c j : Nat} (a : Nat -> Int) (h : j ≠ c) : cup m c a j = m j := by unfold cup; rw [if_neg h]
theorem QQ (m : Nat -> Nat -> Int) (c : Nat) : cup m c (m c) = m := by
 funext j
 by_cases h : j = c
 ·rw [h, QC]
 ·rw [Qv _ _ h]
theorem QeS (m : Nat -> Nat -> Int) (c : Nat) (a b : Nat -> Int) : cup (cup m c a) c b = cup m c b := by
 funext j
 by_cases h : j = c
 ·rw [h, QC, QC]
 ·rw [Qv _ _ h, Qv _ _ h, Qv _ _ h]
theorem QI (m : Nat -> Nat -> Int) {c d : Nat} (a b : Nat -> Int) (h : c ≠ d) : cup (cup m c a) d b = cup (cup m d b) c a := by
 funext j
 by_cases h1 : j = c
 ·subst h1; rw [Qv _ _ h, QC, QC]
 ·by_cases h2 : j = d
  ·subst h2; rw [QC, Qv _ _ h1, QC]
  ·rw [Qv _ _ h2, Qv _ _ h1, Qv _ _ h1, Qv _ _ h2]
theorem Qb7 : ∀ {n : Nat} {m k : Nat -> Nat -> Int}, (∀ j, j < n -> ∀ r, r < n -> m j r = k j r) -> det n m = det n k
 | 0, _, _, _ => rfl
 | n + 1, m, k, h => by
  unfold det
  refine Qcb λ j hj => ?_
  rw [h j hj 0 (by omega), Qb7 (n := n) (m := λ c r => m (skp j c) (r + 1)) (k := λ c r => k (skp j c) (r + 1)) λ c hc r hr => h _ (by unfold skp; split <;> omega) _ (by omega)]
theorem QfZ (m : Nat -> Nat -> Int) (c : Nat) (v : Nat -> Int) : (λ c' r => cup m c v (skp c c') (r + 1)) = λ c' r => m (skp c c') (r + 1) := by
 funext c' r
 rw [Qv _ _ (by unfold skp; split <;> omega)]
theorem QfD (m : Nat -> Nat -> Int) {c j : Nat} (v : Nat -> Int) (h : c ≠ j) : (λ c' r => cup m c v (skp j c') (r + 1)) = cup (λ c' r => m (skp j c') (r + 1)) (if c < j then c else c - 1) (λ r => v (r + 1)) := by
 funext c' r
 by_cases e : c' = if c < j then c else c - 1
 ·rw [e, QC]
  have : skp j (if c < j then c else c - 1) = c := by
   unfold skp
   by_cases q : c < j
   ·rw [if_pos q, if_pos q]
   ·rw [if_neg q, if_neg (by omega)]; omega
  rw [this, QC]
 ·rw [Qv _ _ e, Qv]
  intro z
  refine e ?_
  unfold skp at z
  by_cases q : c' < j
  ·rw [if_pos q] at z; rw [if_pos (by omega)]; omega
  ·rw [if_neg q] at z; rw [if_neg (by omega)]; omega
theorem QiC (x y : Int) (a b : Nat -> Int) : ∀ (n : Nat) (m : Nat -> Nat -> Int) (c : Nat), c < n -> ∀ (a b : Nat -> Int), det n (cup m c λ r => x * a r + y * b r) = x * det n (cup m c a) + y * det n (cup m c b)
 | 0, _, _, h, _, _ => by omega
 | n + 1, m, c, h, a, b => by
  unfold det
  rw [← Qkx]
  refine Qcb λ j hj => ?_
  by_cases e : j = c
  ·subst e
   rw [QfZ, QfZ, QfZ, QC, QC, QC]
   generalize det n _ = q
   generalize sgn j = s
   simp only [Zbl, Zad, ZaB, Zbm]
  ·rw [QfD m _ (Ne.symm e), QfD m _ (Ne.symm e), QfD m _ (Ne.symm e), Qv _ _ e, Qv _ _ e, Qv _ _ e]
   rw [QiC x y a b n _ _ (by split <;> omega)]
   generalize det n _ = q
   generalize det n _ = q'
   generalize sgn j * m j 0 = s
   simp only [Zbl, Zbm]
theorem QgK {n : Nat} {m : Nat -> Nat -> Int} {c : Nat} (h : c < n) (a b : Nat -> Int) : det n (cup m c λ r => a r + b r) = det n (cup m c a) + det n (cup m c b) := by
 have := QiC 1 1 a b n m c h a b
 simpa only [Zav] using this
theorem QdM {n : Nat} {m : Nat -> Nat -> Int} {c : Nat} (h : c < n) (x : Int) (a : Nat -> Int) : det n (cup m c λ r => x * a r) = x * det n (cup m c a) := by
 have := QiC x 0 a a n m c h a a
 simpa only [ZT, Zbd] using this
theorem Qgu : ∀ (n : Nat) (m : Nat -> Nat -> Int) (c : Nat), c + 1 < n -> m c = m (c + 1) -> det n m = 0
 | 0, _, _, h, _ => by omega
 | n + 1, m, c, h, e => by
  unfold det
  rw [QhU (c := c) (d := c + 1) (by omega) h]
  ·have : (λ c' r => m (skp c c') (r + 1)) = λ c' r => m (skp (c + 1) c') (r + 1) := by
    funext c' r
    unfold skp
    by_cases q : c' < c
    ·rw [if_pos q, if_pos (by omega)]
    ·rw [if_neg q]
     by_cases q2 : c' = c
     ·rw [if_pos (by omega), q2, e]
     ·rw [if_neg (by omega)]
   rw [this, Qg3, e]
   generalize det n _ = q
   rw [ZaJ, ZaJ]; omega
  ·intro j hj h1 h2
   have : det n (λ c' r => m (skp j c') (r + 1)) = 0 := by
    by_cases q : c < j
    ·refine Qgu n _ c (by omega) ?_
     funext r
     show m (skp j c) (r + 1) = m (skp j (c + 1)) (r + 1)
     unfold skp
     rw [if_pos q, if_pos (by omega), e]
    ·refine Qgu n _ (c - 1) (by omega) ?_
     funext r
     show m (skp j (c - 1)) (r + 1) = m (skp j (c - 1 + 1)) (r + 1)
     unfold skp
     rw [if_neg (by omega), if_neg (by omega), show c - 1 + 1 = c by omega, e]
   rw [this, Zab]
theorem QgP {n : Nat} {m : Nat -> Nat -> Int} {c d : Nat} (hc : c < n) (hd : d < n) (hcd : c ≠ d) (hz : ∀ k : Nat -> Nat -> Int, k c = k d -> det n k = 0) (a b : Nat -> Int) : det n (cup (cup m c a) d b) = - det n (cup (cup m c b) d a) := by
 have z := hz (cup (cup m c λ r => a r + b r) d λ r => a r + b r) (by rw [QC, Qv _ _ hcd, QC])
 have za := hz (cup (cup m c a) d a) (by rw [QC, Qv _ _ hcd, QC])
 have zb := hz (cup (cup m c b) d b) (by rw [QC, Qv _ _ hcd, QC])
 rw [QgK hd, QI _ _ _ hcd, QgK hc, QI _ _ _ hcd, QgK hc, QI _ _ _ (Ne.symm hcd), QI _ _ _ (Ne.symm hcd), QI _ _ _ (Ne.symm hcd), QI _ _ _ (Ne.symm hcd), za, zb] at z
 omega
theorem Qiz : ∀ (g n : Nat) (m : Nat -> Nat -> Int) (i : Nat), i + g + 1 < n -> m i = m (i + g + 1) -> det n m = 0
 | 0, n, m, i, h, e => Qgu n m i h e
 | g + 1, n, m, i, h, e => by
  have := QgP (m := m) (c := i + g + 1) (d := i + g + 1 + 1) (by omega) (by omega) (by omega) (λ k hk => Qgu n k _ (by omega) hk) (m (i + g + 1)) (m (i + g + 1 + 1))
  rw [QQ, QQ] at this
  rw [this, Qiz g n _ i (by omega)]
  ·rfl
  ·rw [Qv _ _ (by omega), Qv _ _ (by omega), Qv _ _ (by omega), QC]
   exact e
theorem QhT {n : Nat} {m : Nat -> Nat -> Int} {i j : Nat} (hi : i < n) (hj : j < n) (hij : i ≠ j) (e : m i = m j) : det n m = 0 := by
 rcases Nat.lt_or_gt_of_ne hij with h | h
 ·exact Qiz (j - i - 1) n m i (by omega) (by rw [show i + (j - i - 1) + 1 = j by omega]; exact e)
 ·exact Qiz (i - j - 1) n m j (by omega) (by rw [show j + (i - j - 1) + 1 = i by omega]; exact e.symm)
theorem Qbe {n : Nat} {m : Nat -> Nat -> Int} {c d : Nat} (hc : c < n) (hd : d < n) (hcd : c ≠ d) (a b : Nat -> Int) : det n (cup (cup m c a) d b) = - det n (cup (cup m c b) d a) := QgP hc hd hcd (λ k hk => QhT hc hd hcd hk) a b
theorem QgA {n : Nat} {m : Nat -> Nat -> Int} {c : Nat} (h : c < n) (x : Nat -> Int) (E : Nat -> Nat -> Int) : ∀ k, det n (cup m c λ r => sm k λ s => x s * E s r) = sm k λ s => x s * det n (cup m c (E s))
 | 0 => by
  have := QdM (m := m) h 0 λ _ => 0
  rw [ZT] at this
  unfold sm
  simpa using this
 | k + 1 => by
  unfold sm
  rw [QgK h, QgA h x E k, QdM h]
theorem Qnx : ∀ {n : Nat} (σ : Nat -> Nat), (∀ j, j < n + 1 -> σ j < n) -> ∃ i j, i < n + 1 /\ j < n + 1 /\ i ≠ j /\ σ i = σ j
 | 0, σ, h => absurd (h 0 (by omega)) (by omega)
 | n + 1, σ, h => by
  by_cases q : ∃ i, i < n + 1 /\ σ i = σ (n + 1)
  ·obtain ⟨i, hi, e⟩ := q
   exact ⟨i, n + 1, by omega, by omega, by omega, e⟩
  ·have ne : ∀ i, i < n + 1 -> σ i ≠ σ (n + 1) := λ i hi e => q ⟨i, hi, e⟩
   have hv := h (n + 1) (by omega)
   obtain ⟨i, j, hi, hj, hij, e⟩ := Qnx (n := n) (λ j => if σ (n + 1) < σ j then σ j - 1 else σ j) λ j hj => by
    have := h j (by omega)
    have := ne j hj
    show (if σ (n + 1) < σ j then σ j - 1 else σ j) < n
    by_cases c : σ (n + 1) < σ j
    ·rw [if_pos c]; omega
    ·rw [if_neg c]; omega
   refine ⟨i, j, by omega, by omega, hij, ?_⟩
   have a := ne i hi
   have b := ne j hj
   have e : (if σ (n + 1) < σ i then σ i - 1 else σ i) = (if σ (n + 1) < σ j then σ j - 1 else σ j) := e
   by_cases c : σ (n + 1) < σ i
   ·rw [if_pos c] at e
    by_cases d : σ (n + 1) < σ j
    ·rw [if_pos d] at e; omega
    ·rw [if_neg d] at e; omega
   ·rw [if_neg c] at e
    by_cases d : σ (n + 1) < σ j
    ·rw [if_pos d] at e; omega
    ·rw [if_neg d] at e; omega
theorem Qk6 {n : Nat} {E : Nat -> Nat -> Int} {x : Nat -> Nat -> Int} : ∀ (k : Nat) (W : Nat -> Nat -> Int) (σ : Nat -> Nat), k <= n + 1 -> (∀ j, j < n + 1 -> σ j < n) -> (∀ j, j < k -> W j = λ r => sm n λ s => x j s * E s r) -> (∀ j, k <= j -> j < n + 1 -> W j = E (σ j)) -> det (n + 1) W = 0
 | 0, W, σ, hk, hσ, _, h2 => by
  obtain ⟨i, j, hi, hj, hij, e⟩ := Qnx σ hσ
  exact QhT hi hj hij (by rw [h2 i (by omega) hi, h2 j (by omega) hj, e])
 | k + 1, W, σ, hk, hσ, h1, h2 => by
  have := QgA (n := n + 1) (m := W) (c := k) (by omega) (x k) E n
  rw [← h1 k (by omega), QQ] at this
  rw [this]
  refine Qgp λ s hs => ?_
  rw [Qk6 k (cup W k (E s)) (λ j => if j = k then s else σ j) (by omega) (λ j hj => by show (if j = k then s else σ j) < n; by_cases e : j = k; (rw [if_pos e]; exact hs); (rw [if_neg e]; exact hσ j hj)) (λ j hj => by rw [Qv _ _ (by omega)]; exact h1 j (by omega)) λ j h3 h4 => ?_, Zab]
  show cup W k (E s) j = E (if j = k then s else σ j)
  by_cases e : j = k
  ·rw [e, QC, if_pos rfl]
  ·rw [Qv _ _ e, if_neg e]; exact h2 j (by omega) h4
noncomputable def cyc (m : Nat -> Nat -> Int) (a : Nat -> Int) (l k : Nat) : Nat -> Nat -> Int := λ c => if c < k then m c else if c = k then a else if c <= l then m (c - 1) else m c
theorem Qpd {n : Nat} (m : Nat -> Nat -> Int) (a : Nat -> Int) {l k : Nat} (hk : k < l) (hl : l < n) : det n (cyc m a l k) = - det n (cyc m a l (k + 1)) := by
 have h := Qbe (n := n) (m := cyc m a l k) (c := k) (d := k + 1) (by omega) (by omega) (by omega) a (m k)
 have e1 : cup (cup (cyc m a l k) k a) (k + 1) (m k) = cyc m a l k := by
  have q1 : cyc m a l k k = a := by unfold cyc; rw [if_neg (by omega), if_pos rfl]
  have q2 : cyc m a l k (k + 1) = m k := by unfold cyc; rw [if_neg (by omega), if_neg (by omega), if_pos (by omega), Zbh]
  have := QQ (cyc m a l k) k
  rw [q1] at this
  rw [this, ← q2, QQ]
 have e2 : cup (cup (cyc m a l k) k (m k)) (k + 1) a = cyc m a l (k + 1) := by
  funext c
  by_cases h1 : c = k + 1
  ·subst h1; rw [QC]; unfold cyc; rw [if_neg (by omega), if_pos rfl]
  ·rw [Qv _ _ h1]
   by_cases h2 : c = k
   ·subst h2; rw [QC]; unfold cyc; rw [if_pos (by omega)]
   ·rw [Qv _ _ h2]
    unfold cyc
    by_cases h3 : c < k
    ·rw [if_pos h3, if_pos (by omega)]
    ·rw [if_neg h3, if_neg h2, if_neg (show ¬ c < k + 1 by omega), if_neg h1]
 rw [e1, e2] at h
 exact h
theorem QlQ {n : Nat} (m : Nat -> Nat -> Int) (a : Nat -> Int) {l : Nat} (hl : l < n) : ∀ g k, k + g = l -> det n (cyc m a l k) = sgn g * det n (cup m l a)
 | 0, k, h => by
  have : cyc m a l k = cup m l a := by
   funext c
   unfold cyc cup
   by_cases h1 : c = l
   ·rw [if_neg (by omega), if_pos (by omega), if_pos h1]
   ·rw [if_neg h1]
    by_cases h2 : c < k
    ·rw [if_pos h2]
    ·rw [if_neg h2, if_neg (by omega), if_neg (by omega)]
  rw [this]; unfold sgn; simp
 | g + 1, k, h => by
  rw [Qpd m a (by omega) hl, QlQ m a hl g (k + 1) (by omega), Qg3, ZaJ]
theorem QrQ (j : Nat) : sgn j * sgn j = 1 := by unfold sgn; split <;> rfl
noncomputable def bE (r s q : Nat) : Int := if q = 0 then (if s = r then 1 else 0) else if s = q - 1 then 1 else 0
theorem Qkr {n : Nat} (m : Nat -> Nat -> Int) (a : Nat -> Int) {r : Nat} (hr : r < n) : det n m * a r = sm n λ l => det n (cup m l a) * m l r := by
 have v0 : ∃ v : Nat -> Nat -> Int, v = λ j => if j = 0 then a else m (j - 1) := ⟨_, rfl⟩
 obtain ⟨v, hv⟩ := v0
 have hv0 : v 0 = a := by rw [hv]; rfl
 have hvs : ∀ j, v (j + 1) = m j := λ j => by rw [hv]; show (if j + 1 = 0 then a else m (j + 1 - 1)) = _; rw [if_neg (by omega), Zbh]
 have z : det (n + 1) (λ j s => if s = 0 then v j r else v j (s - 1)) = 0 := by
  have key : det (n + 1) (λ j q => sm n λ s => v j s * bE r s q) = 0 :=
   Qk6 (E := bE r) (x := v) (n + 1) _ (λ _ => r) (by omega) (λ _ _ => hr) (λ j _ => rfl) (λ j h1 h2 => by omega)
  rw [← key]
  refine Qb7 λ j hj s hs => ?_
  by_cases e : s = 0
  ·subst e
   rw [if_pos rfl, QeT (c := r) hr]
   ·unfold bE; rw [if_pos rfl, if_pos rfl, ZbB]
   ·intro i _ ne; unfold bE; rw [if_pos rfl, if_neg ne, Zab]
  ·rw [if_neg e, QeT (c := s - 1) (by omega)]
   ·unfold bE; rw [if_neg e, if_pos rfl, ZbB]
   ·intro i _ ne; unfold bE; rw [if_neg e, if_neg ne, Zab]
 unfold det at z
 have term : ∀ j, (sgn j * (if (0 : Nat) = 0 then v j r else v j (0 - 1)) * det n λ c q => if q + 1 = 0 then v (skp j c) r else v (skp j c) (q + 1 - 1)) = sgn j * v j r * det n λ c => v (skp j c) := λ j => by
  rw [if_pos rfl]
  congr 1
 have first : ∀ (k : Nat) (f : Nat -> Int), sm (k + 1) f = f 0 + sm k λ i => f (i + 1) := λ k f => by
  induction k with
  | zero => show 0 + f 0 = f 0 + 0; omega
  | succ k ih => show sm (k + 1) f + f (k + 1) = _; rw [ih]; show _ = f 0 + (sm k (λ i => f (i + 1)) + f (k + 1)); omega
 rw [Qcb λ j _ => term j, first] at z
 have t0 : (λ c => v (skp 0 c)) = m := by funext c; unfold skp; rw [if_neg (by omega), hvs]
 have tl : ∀ l, l < n -> sgn (l + 1) * v (l + 1) r * det n (λ c => v (skp (l + 1) c)) = - (det n (cup m l a) * m l r) := λ l hl => by
  have : (λ c => v (skp (l + 1) c)) = cyc m a l 0 := by
   funext c
   unfold skp cyc
   by_cases h0 : c = 0
   ·subst h0; rw [if_pos (show 0 < l + 1 by omega), if_neg (show ¬ 0 < 0 by omega), if_pos rfl, hv0]
   ·obtain ⟨c', rfl⟩ : ∃ c', c = c' + 1 := ⟨c - 1, by omega⟩
    rw [if_neg (show ¬ c' + 1 < 0 by omega), if_neg h0]
    by_cases h1 : c' + 1 <= l
    ·rw [if_pos (show c' + 1 < l + 1 by omega), if_pos h1, hvs, Zbh]
    ·rw [if_neg (show ¬ c' + 1 < l + 1 by omega), if_neg h1, hvs]
  rw [this, QlQ m a hl l 0 (by omega), hvs, Qg3]
  have q := QrQ l
  generalize det n (cup m l a) = d at *
  generalize m l r = x at *
  have : - sgn l * x * (sgn l * d) = - (sgn l * sgn l * (d * x)) := by
   rw [ZaJ, ZaJ, ZaB, Zbm x, ← ZaB, Zat x d]
  rw [this, q, Zav]
 rw [t0, hv0] at z
 have neg := Qkx (-1) 0 (λ l => det n (cup m l a) * m l r) (λ _ => 0) n
 rw [Qcb (g := λ l => -1 * (det n (cup m l a) * m l r) + 0 * 0) λ l hl => by rw [tl l hl]; omega] at z
 have s0 : sgn 0 = 1 := rfl
 rw [neg, s0, Zav] at z
 rw [Zat]
 omega
theorem Qo9 {n : Nat} (m : Nat -> Nat -> Int) (u a : Nat -> Int) {k i : Nat} (hk : k < n) (hi : i < n) (hki : k ≠ i) : det n m * det n (cup (cup m k u) i a) = det n (cup m k u) * det n (cup m i a) - det n (cup m i u) * det n (cup m k a) := by
 have h1 : det n m * det n (cup (cup m k u) i a) = det n (cup (cup m i a) k λ r => det n m * u r) := by
  rw [QdM hk, QI _ _ _ hki]
 have h2 : det n (cup (cup m i a) k λ r => det n m * u r) = det n (cup (cup m i a) k λ r => sm n λ l => det n (cup m l u) * m l r) := by
  refine Qb7 λ j hj r hr => ?_
  by_cases e : j = k
  ·subst e; rw [QC, QC]; exact Qkr m u hr
  ·rw [Qv _ _ e, Qv _ _ e]
 rw [h1, h2, QgA hk (λ l => det n (cup m l u)) m n]
 have tk : det n (cup (cup m i a) k (m k)) = det n (cup m i a) := by rw [QI _ _ _ (Ne.symm hki), QQ]
 have ti : det n (cup (cup m i a) k (m i)) = - det n (cup m k a) := by
  rw [Qbe hi hk (Ne.symm hki), QQ]
 have tn : ∀ l, l < n -> l ≠ k -> l ≠ i -> det n (cup (cup m i a) k (m l)) = 0 := λ l hl h1 h2 => QhT hk hl (Ne.symm h1) (by rw [QC, Qv _ _ h1, Qv _ _ h2])
 rcases Nat.lt_or_gt_of_ne hki with h | h
 ·rw [QhU (c := k) (d := i) h hi λ l hl a b => by rw [tn l hl a b, Zab], tk, ti, Int.mul_neg]; omega
 ·rw [QhU (c := i) (d := k) h hk λ l hl a b => by rw [tn l hl b a, Zab], tk, ti, Int.mul_neg]; omega
noncomputable def QaU (j r : Nat) : Int := if j = r then 1 else 0
theorem QgX : ∀ n, det n QaU = 1
 | 0 => rfl
 | n + 1 => by
  unfold det
  rw [QeT (c := 0) (by omega) λ i _ ne => by unfold QaU; rw [if_neg ne, Zab, ZT]]
  have : (λ c r => QaU (skp 0 c) (r + 1)) = QaU := by
   funext c r
   have e : skp 0 c = c + 1 := by unfold skp; rw [if_neg (by omega)]
   rw [e]
   unfold QaU
   by_cases h : c = r
   ·rw [if_pos h, if_pos (by omega)]
   ·rw [if_neg h, if_neg (by omega)]
  rw [this, QgX n]
  unfold QaU sgn
  simp
theorem Qk8 {n : Nat} (a : Nat -> Int) {i : Nat} (hi : i < n) : det n (cup QaU i a) = a i := by
 have := Qkr QaU a hi
 rw [QgX, Zav, QeT (c := i) hi λ l _ ne => by rw [show QaU l i = 0 by unfold QaU; rw [if_neg ne], Zab]] at this
 rw [this, show QaU i i = 1 by unfold QaU; rw [if_pos rfl], ZbB]
structure Clr (n N k : Nat) (A m R : Nat -> Nat -> Int) (d : Int) : Prop where
 le : k <= n
 det : HS.det n m = d
 nz : d ≠ 0
 ent : ∀ i j, i < n -> j < N -> R i j = HS.det n (cup m i (A j))
 own : ∀ j, j < k -> m j = A j
theorem Clr.start (n N : Nat) (A : Nat -> Nat -> Int) : Clr n N 0 A QaU (λ i j => A j i) 1 := ⟨by omega, QgX n, by decide, λ i j hi _ => (Qk8 (A j) hi).symm, λ j hj => by omega⟩
theorem Clr.exact {n N k : Nat} {A m R : Nat -> Nat -> Int} {d : Int} (h : Clr n N k A m R d) (hk : k < n) (kN : k < N) {i j : Nat} (hi : i < n) (hj : j < N) (ne : i ≠ k) : R k k * R i j - R i k * R k j = d * HS.det n (cup (cup m k (A k)) i (A j)) := by
 rw [h.ent k k hk kN, h.ent i j hi hj, h.ent i k hi kN, h.ent k j hk hj, ← Qo9 m (A k) (A j) hk hi (Ne.symm ne), h.det]
theorem Clr.step {n N k : Nat} {A m R R' : Nat -> Nat -> Int} {d : Int} (h : Clr n N k A m R d) (hk : k < n) (kN : k < N) (hp : R k k ≠ 0) (h1 : ∀ j, j < N -> R' k j = R k j) (h2 : ∀ i j, i < n -> i ≠ k -> j < N -> ∀ q, R k k * R i j - R i k * R k j = d * q -> R' i j = q) : Clr n N (k + 1) A (cup m k (A k)) R' (R k k) := by
 refine ⟨hk, (h.ent k k hk kN).symm, hp, λ i j hi hj => ?_, λ j hj => ?_⟩
 ·by_cases e : i = k
  ·subst e
   rw [h1 j hj, h.ent i j hi hj, QeS]
  ·exact h2 i j hi e hj _ (h.exact hk kN hi hj e)
 ·by_cases e : j = k
  ·subst e; rw [QC]
  ·rw [Qv _ _ e]; exact h.own j (by omega)
theorem Clr.swap {n N k : Nat} {A m R R' : Nat -> Nat -> Int} {d : Int} (h : Clr n N k A m R d) {i : Nat} (hk : k < n) (hi : i < n) (hki : k < i) (h1 : ∀ j, j < N -> R' k j = R i j) (h2 : ∀ j, j < N -> R' i j = - R k j) (h3 : ∀ l j, l < n -> l ≠ k -> l ≠ i -> j < N -> R' l j = R l j) : ∃ m', Clr n N k A m' R' d := by
 have ne : k ≠ i := by omega
 have neg : ∀ (c : Nat), c < n -> ∀ (M : Nat -> Nat -> Int) (a : Nat -> Int), HS.det n (cup M c λ r => - a r) = - HS.det n (cup M c a) := λ c hc M a => by
  have := QdM (m := M) hc (-1) a
  simpa only [ZaJ, Zav] using this
 refine ⟨cup (cup m k (m i)) i λ r => - m k r, h.le, ?_, h.nz, λ l j hl hj => ?_, λ j hj => ?_⟩
 ·rw [neg i hi, Qbe hk hi ne, ZaY, QQ, QQ]; exact h.det
 ·by_cases e1 : l = k
  ·subst e1
   rw [h1 j hj, h.ent i j hi hj, QI _ _ _ (Ne.symm ne), QeS, neg i hi, Qbe hl hi ne, ZaY, QQ]
  ·by_cases e2 : l = i
   ·subst e2
    rw [h2 j hj, h.ent k j hk hj, QeS, Qbe hk hl ne, QI _ _ _ ne]
    have := QQ m l
    rw [this]
   ·rw [h3 l j hl e1 e2 hj, h.ent l j hl hj, QI _ _ _ (Ne.symm e2), neg i hi, QI _ _ _ (Ne.symm e1), Qbe hk hi ne, ZaY]
    rw [QI _ _ _ e1, QQ, QI _ _ _ e2, QQ]
 ·rw [Qv _ _ (by omega), Qv _ _ (by omega)]; exact h.own j hj
theorem Clr.tell {n N k : Nat} {A m R : Nat -> Nat -> Int} {d : Int} (h : Clr n N k A m R d) {j r : Nat} (hj : j < N) (hr : r < n) : d * A j r = sm n λ l => R l j * m l r := by
 have := Qkr m (A j) hr
 rw [h.det] at this
 rw [this]
 exact Qcb λ l hl => by rw [h.ent l j hl hj]
noncomputable def bnd (B : Nat) : Nat -> Nat
 | 0 => 1
 | n + 1 => (n + 1) * (B * bnd B n)
theorem Qnv {f : Nat -> Int} {C : Nat} : ∀ {n : Nat}, (∀ i, i < n -> (f i).natAbs <= C) -> (sm n f).natAbs <= n * C
 | 0, _ => by simp [sm]
 | n + 1, h => by
  unfold sm
  have h1 := Qnv (n := n) λ i hi => h i (by omega)
  have h2 := h n (by omega)
  have := Int.natAbs_add_le (sm n f) (f n)
  rw [Nat.succ_mul]
  omega
theorem QqQ (j : Nat) : (sgn j).natAbs = 1 := by unfold sgn; split <;> rfl
theorem QdP {B : Nat} : ∀ {n : Nat} {m : Nat -> Nat -> Int}, (∀ j, j < n -> ∀ r, r < n -> (m j r).natAbs <= B) -> (det n m).natAbs <= bnd B n
 | 0, _, _ => by show (1 : Int).natAbs <= 1; decide
 | n + 1, m, h => by
  unfold det bnd
  refine Qnv λ j hj => ?_
  rw [ZaG, ZaG, QqQ, Nat.one_mul]
  refine ZaO (h j hj 0 (by omega)) (QdP λ c hc r hr => h _ ?_ _ (by omega))
  unfold skp
  split <;> omega
theorem Qor {n : Nat} (hn : n <= 8) : bnd (2 ^ 200) n < 2 ^ 2000 := by
 have h : ∀ k, k < 9 -> bnd (2 ^ 200) k < 2 ^ 2000 := by decide +kernel
 exact h n (by omega)
def QmO (n : Nat) (m : Nat -> Nat -> Int) : Prop := ∀ j, j < n -> ∀ r, r < n -> (m j r).natAbs <= 2 ^ 200
structure Qhr (n N k : Nat) (A m R : Nat -> Nat -> Int) (d : Int) : Prop where
 clr : Clr n N k A m R d
 unit : ∀ l, k <= l -> l < n -> m l = QaU l
 col : QmO n m
theorem QmO.put {n : Nat} {m : Nat -> Nat -> Int} (h : QmO n m) {i : Nat} {a : Nat -> Int} (ha : ∀ r, r < n -> (a r).natAbs <= 2 ^ 200) : QmO n (cup m i a) := λ j hj r hr => by
 by_cases e : j = i
 ·subst e; rw [QC]; exact ha r hr
 ·rw [Qv _ _ e]; exact h j hj r hr
theorem Qhr.start (n N : Nat) (A : Nat -> Nat -> Int) : Qhr n N 0 A QaU (λ i j => A j i) 1 := ⟨Clr.start n N A, λ _ _ _ => rfl, λ j _ r _ => by unfold QaU; split <;> decide⟩
theorem Qhr.small {n N k : Nat} {A m R : Nat -> Nat -> Int} {d : Int} (h : Qhr n N k A m R d) (hn : n <= 8) (hA : ∀ j, j < N -> ∀ r, r < n -> (A j r).natAbs <= 2 ^ 200) : d.natAbs < 2 ^ 2000 /\ ∀ i j, i < n -> j < N -> (R i j).natAbs < 2 ^ 2000 := by
 have b := Qor hn
 refine ⟨?_, λ i j hi hj => ?_⟩
 ·rw [← h.clr.det]; exact ZY (QdP h.col) b
 ·rw [h.clr.ent i j hi hj]; exact ZY (QdP (h.col.put (hA j hj))) b
theorem Qj6 {f : Nat -> Int} {k : Nat} : ∀ {n : Nat}, k <= n -> (∀ i, k <= i -> i < n -> f i = 0) -> sm n f = sm k f
 | 0, h, _ => by rw [Nat.le_zero.mp h]
 | n + 1, h, z => by
  by_cases e : k = n + 1
  ·rw [e]
  ·show sm n f + f n = sm k f
   rw [Qj6 (n := n) (by omega) λ i h1 h2 => z i h1 (by omega), z n (by omega) (by omega), Zbd]
theorem Qhr.step {n N k : Nat} {A m R R' : Nat -> Nat -> Int} {d : Int} (h : Qhr n N k A m R d) (hk : k < n) (kN : k < N) (hA : ∀ j, j < N -> ∀ r, r < n -> (A j r).natAbs <= 2 ^ 200) (hp : R k k ≠ 0) (h1 : ∀ j, j < N -> R' k j = R k j) (h2 : ∀ i j, i < n -> i ≠ k -> j < N -> ∀ q, R k k * R i j - R i k * R k j = d * q -> R' i j = q) : Qhr n N (k + 1) A (cup m k (A k)) R' (R k k) :=
 ⟨h.clr.step hk kN hp h1 h2, λ l h3 h4 => by rw [Qv _ _ (by omega)]; exact h.unit l (by omega) h4, h.col.put (hA k kN)⟩
theorem QbH {i : Int} (h : i.natAbs < 2 ^ 2000) : QbF i := Zr (Zbu h) (by decide)
theorem QmN {a d q : Int} (hd : d ≠ 0) (h : a = d * q) : QdD a d = q := by
 rw [Qja, h, Int.mul_fdiv_cancel_left q hd]
theorem QfS {fa fb : DE} {ρ : En} {ra rb : R} {a b : Int} (ha : fa ρ = some ra) (ea : ra.d = .int a) (hb : fb ρ = some rb) (eb : rb.d = .int b) : dOp Qbn fa fb ρ = some ⟨.int (a - b), true, []⟩ := by
 refine QaF ha hb ?_
 rw [ea, eb]; rfl
theorem Qi7 {fa fb : DE} {ρ : En} {ra rb : R} {a b q : Int} (ha : fa ρ = some ra) (ea : ra.d = .int a) (hb : fb ρ = some rb) (eb : rb.d = .int b) (hz : b ≠ 0) (h2 : b.natAbs < 2 ^ 2000) (h : a = b * q) : dOp Qco fa fb ρ = some ⟨.int q, true, []⟩ := by
 refine QaF ha hb ?_
 rw [ea, eb]
 show (if Qdr b = true then some (D.int (QdD a b)) else none) = _
 have : Qdr b = true := by
  unfold Qdr
  simp only [Zg, decide_eq_true_eq]
  exact ⟨hz, Zl h2 (ZaF (by decide) (by decide))⟩
 rw [if_pos this, QmN hz h]
noncomputable def QgS : DS := (Qe (QL (QW (Qcx (Qa 0) (Qa 1)) (.tp [1, 2]) [none, none, none, some 2, some 3, some 0, some 1] Qaf (dOp Qco (dOp Qbn (Qaw (Qo (Qa 6) (Qa 3)) (Qa 1)) (Qaw (Qo (Qa 5) (Qa 3)) (Qa 2))) (Qa 4)))) Ql)
def QiH (d : Den) : Prop := ∀ (N k : Nat) (a p q : Nat -> Int) (b : Int), k < N -> b ≠ 0 -> b.natAbs < 2 ^ 2000 -> (∀ j, j < N -> (a j).natAbs < 2 ^ 2000 /\ (p j).natAbs < 2 ^ 2000) -> (∀ j, j < N -> p k * a j - a k * p j = b * q j) -> d [Qc N a, Qc N p, .int k, .int b] = some (Qc N q, true)
theorem QpH : QiH (Qn 4 QgS) := λ N k a p q b hk hb hb2 hs hq =>
 Qae (QM (r := ⟨Qc N q, true, []⟩) (Q6 (toD := λ (i : Nat) => .tup [.int (a i), .int (p i)]) (out := λ (i : Nat) => .int (q i)) (List.range N) (Qe2 (f := λ i => .int (a i)) (g := λ i => .int (p i)) (ra := ⟨Qc N a, false, []⟩) (rb := ⟨Qc N p, false, []⟩) rfl rfl rfl rfl) rfl λ i hi => ⟨[none, some (.int (a i), true), some (.int (p i), true), some (.int k, true), some (.int b, true), some (Qc N a, false), some (Qc N p, false)], rfl, ⟨.int (q i), true, []⟩, by
  have hi' := ZC.mp hi
  refine Qi7 (QfS (a := p k * a i) (b := a k * p i) (QaD (a := p k) (b := a i) (Qbf (m := N) (f := p) (ra := ⟨Qc N p, false, []⟩) (rb := ⟨.int k, true, []⟩) rfl rfl rfl rfl hk) rfl (rb := ⟨.int (a i), true, []⟩) rfl rfl (QdT (QbH (hs k hk).2) (QbH (hs i hi').1))) rfl (QaD (a := a k) (b := p i) (Qbf (m := N) (f := a) (ra := ⟨Qc N a, false, []⟩) (rb := ⟨.int k, true, []⟩) rfl rfl rfl rfl hk) rfl (rb := ⟨.int (p i), true, []⟩) rfl rfl (QdT (QbH (hs k hk).1) (QbH (hs i hi').2))) rfl) rfl (rb := ⟨.int b, true, []⟩) rfl rfl hb hb2 (hq i hi'), rfl, rfl⟩) ⟨rfl, rfl⟩)
noncomputable def Qew (Qbl : Den) (QbT : Den) : DS := (Qe (Qt 1 (Q9 (Qa 0))) (Qe (Qt 2 (dC (.int 1))) (Qe (QcV (QaB (dBf Qal (Qb (Qa 0) Qf))) (.nm 3) (Qe (Qt 1 (Qi 2 Qbl [] (Qb (Qa 1) (Qb (Qa 3) Qf)))) (Qe (Qt 4 (Q9 (Qo (Qa 1) (Qa 3)))) (Qe (sIf (QG (dOp gEq (Qo (Qa 4) (Qa 3)) (dC (.int 0)))) (Qe (QL (Qho (Qb (Qa 1) (Qb (dC (.int 0)) Qf)))) Ql) Ql) (Qe (Qt 1 (QW (QaV (Qa 1)) (.nm 1) [none, none, some 3, some 2, some 4] Qaf (Qi 4 QbT [] (Qb (Qa 1) (Qb (Qa 4) (Qb (Qa 2) (Qb (Qa 3) Qf))))))) (Qe (Qfd 1 Qc5 (Qa 3) (Qa 4)) (Qe (Qt 2 (Q9 (Qo (Qa 4) (Qa 3)))) Ql))))))) (Qe (QL (Qho (Qb (Qa 1) (Qb (Qa 2) Qf)))) Ql))))
theorem Qfe {n : Nat} {den : Den} {dfl : List D} {fs : DA} {ρ : En} {r : RA} {d : D} (h : fs ρ = some r) (e : den (r.ds ++ dfl) = some (d, false)) (hn : r.ds.length + dfl.length = n) : Qi n den dfl fs ρ = some (R.norm ⟨d, false, r.M⟩) := by
 unfold Qi
 rw [h, Za, if_pos hn, e]
 rfl
theorem Qm3 {x n N k : Nat} {g : Nat -> Nat -> Int} {p : Nat -> Int} {fi fa : DE} {ρ : En} {Q : Out -> Prop} (hx : ρ[x]? = some (some (Qd n N g, true))) (hi : fi ρ = some ⟨.int k, true, []⟩) (ha : fa ρ = some ⟨Qc N p, false, []⟩) (hk : k < n)
  (q : Q (.nx (ρ.set x (some (Qd n N (λ i j => if i = k then p j else g i j), false))))) : Run (Qfd x Qc5 fi fa) ρ Q := by
 refine ⟨_, ?_, q⟩
 unfold Qfd
 rw [ha, Za, hx]
 have hn : (HS.R.mk (Qc N p) false []).norm = ⟨Qc N p, false, []⟩ := by unfold R.norm Qc; rfl
 simp only [Qc5, Za, hi, Qd, QcA, Zw, Zy, hn]
 rw [Qe5 (show (0 : Int) <= k by omega) (by omega)]
 simp only [Za, ZO]
 have e : ((List.range n).map λ i => Qc N (g i)).set k (Qc N p) = (List.range n).map λ i => Qc N (λ j => if i = k then p j else g i j) := by
  refine ZaD λ i => ?_
  rw [List.getElem?_set]
  by_cases h : k = i
  ·subst h
   rw [if_pos rfl, if_pos (by simpa using hk), Zk, Zx hk]
   simp
  ·rw [if_neg h, Zk, Zk]
   by_cases h2 : i < n
   ·rw [Zx h2]
    simp only [ZN, if_neg (Ne.symm h)]
   ·rw [Zp (by simpa using h2)]; rfl
 rw [e]
 rfl
theorem QlT (f : Nat -> Int) : ∀ n, sm n f = Q1 n f
 | 0 => rfl
 | n + 1 => by rw [Qbw, ← QlT f n]; rfl
theorem Qqp {m : Nat} {f : Nat -> Int} (h : ∀ i, i < m -> 0 <= f i) : 0 <= Q1 m f := by
 have := Qiy (m := m) (f := λ _ => 0) (g := f) h
 rw [Qcd] at this
 exact this
noncomputable def Qiq : DS := (Qe (QL (QW (QaV (Qa 0)) (.nm 1) [none, none] Qaf (dOp Qbn (dC (.int 0)) (Qa 1)))) Ql)
def QmL (d : Den) : Prop := ∀ (n : Nat) (a : Nat -> Int), d [Qc n a] = some (Qc n λ i => 0 - a i, true)
theorem Qs8 : QmL (Qn 1 Qiq) := λ n a => Qae (QM (r := ⟨Qc n λ i => 0 - a i, true, []⟩) (Q6 (toD := λ (i : Nat) => .int (a i)) (out := λ (i : Nat) => .int (0 - a i)) (List.range n) (QbS (r := ⟨Qc n a, false, []⟩) rfl rfl) rfl λ i _ => ⟨[none, some (.int (a i), true)], rfl, ⟨.int (0 - a i), true, []⟩, rfl, rfl, rfl⟩) ⟨rfl, rfl⟩)
noncomputable def Qfk : DS := (Qe (Qt 1 (dC (.int 0))) (Qe (QcV (QaV (Qa 0)) (.nm 2) (Qe (Qt 3 (Q9 (Qa 2))) (Qe (Qb9 (QG (dOp gNe (Qa 3) (dC (.int 0)))) (Qe (Qt 4 (dOp QaW (Qa 1) (Qa 3))) (Qe (Qt 1 (Q9 (Qa 3))) (Qe (Qt 3 (Q9 (Qa 4))) Ql)))) Ql))) (Qe (QL (dBf QgZ (Qb (Qa 1) Qf))) Ql)))
theorem Qpp {a b t : Int} : (t ∣ b /\ t ∣ Qce a b) ↔ (t ∣ a /\ t ∣ b) := by
 have e : Qce a b = a - b * QdD a b := by
  rw [Qja, show Qce a b = a.fmod b from QiD a b, Int.fmod_def]
 rw [e]
 constructor
 ·rintro ⟨h1, h2⟩
  refine ⟨?_, h1⟩
  have := Int.dvd_add h2 (Zbv (c := QdD a b) h1)
  rwa [Int.sub_add_cancel] at this
 ·rintro ⟨h1, h2⟩
  exact ⟨h2, Int.dvd_sub h1 (Zbv h2)⟩
theorem Qrp {a b : Int} (h : b ≠ 0) : (Qce a b).natAbs < b.natAbs := by
 rw [show Qce a b = a.fmod b from QiD a b]
 by_cases hb : 0 < b
 ·have h1 := Zby a hb
  have h2 := Int.fmod_lt_of_pos a hb
  omega
 ·have hb' : 0 < -b := by omega
  have h1 := Zby (-a) hb'
  have h2 := Int.fmod_lt_of_pos (-a) hb'
  have h3 := Int.neg_fmod_neg a b
  omega
def QhB (d : Den) : Prop := ∀ (xs : List Int), ∃ g : Int, d [Qc6 xs] = some (.int g, true) /\ 0 <= g /\ ∀ t, t ∣ g ↔ ∀ x ∈ xs, t ∣ x
theorem Qom : QhB (Qn 5 Qfk) := λ xs => by
 have key : Run Qfk [some (Qc6 xs, false), none, none, none, none] λ o => match o with | .rt d fr => fr = true /\ ∃ g, d = .int g /\ 0 <= g /\ ∀ t, t ∣ g ↔ ∀ x ∈ xs, t ∣ x | _ => False := by
  refine run_seq (Qh (r := ⟨.int 0, true, []⟩) rfl ?_)
  rw [Qq]
  refine Qz (Qde (toD := D.int) xs (λ k ρ => ∃ g j2 j3 j4, (∀ t, t ∣ g ↔ ∀ x ∈ xs.take k, t ∣ x) /\ ρ = [some (Qc6 xs, false), some (.int g, true), j2, j3, j4]) (QbS (r := ⟨Qc6 xs, false, []⟩) rfl rfl) rfl ⟨0, none, none, none, λ t => by simp, rfl⟩ ?_ ?_)
  ·rintro k x ρ hk ⟨g, j2, j3, j4, hg, rfl⟩
   refine ⟨[some (Qc6 xs, false), some (.int g, true), some (.int x, true), j3, j4], rfl, ?_⟩
   refine run_seq (Qh (r := ⟨.int x, false, []⟩) rfl ?_)
   rw [Qbz rfl]
   refine QaP (P := λ ρ => ∃ g' j4, (∀ t, t ∣ g' ↔ (t ∣ g /\ t ∣ x)) /\ ρ = [some (Qc6 xs, false), some (.int g', true), some (.int x, true), some (.int 0, true), j4]) ?_ ?_
   ·refine Qju (λ n ρ => ∃ g' r j4, n = r.natAbs /\ (∀ t, (t ∣ g' /\ t ∣ r) ↔ (t ∣ g /\ t ∣ x)) /\ ρ = [some (Qc6 xs, false), some (.int g', true), some (.int x, true), some (.int r, true), j4]) ?_ x.natAbs _ ⟨g, x, j4, rfl, λ _ => Iff.rfl, rfl⟩
    rintro n ρ ⟨g', r, j4, rfl, hd, rfl⟩
    refine ⟨!decide (r = 0), QE (Qdu (a := r) (b := 0) (ra := ⟨.int r, true, []⟩) rfl rfl rfl rfl) rfl, λ h => ?_, λ h => ?_⟩
    ·have hr : r = 0 := by simpa using h
     subst hr
     exact ⟨g', j4, λ t => by rw [← hd t]; simp, rfl⟩
    ·have hr : r ≠ 0 := by simpa using h
     refine run_seq (Qh (r := ⟨.int (Qce g' r), true, []⟩) (QaF (ra := ⟨.int g', true, []⟩) (rb := ⟨.int r, true, []⟩) rfl rfl (by show (if r ≠ 0 then some (D.int (Qce g' r)) else none) = _; rw [if_pos hr])) ?_)
     rw [Qq]
     refine run_seq (Qh (r := ⟨.int r, false, []⟩) rfl ?_)
     rw [Qbz rfl]
     refine run_seq (Qh (r := ⟨.int (Qce g' r), false, []⟩) rfl (Qs ?_))
     rw [Qbz rfl]
     exact ⟨_, Qrp hr, r, Qce g' r, _, rfl, λ t => Qpp.trans (hd t), rfl⟩
   ·rintro ρ ⟨g', j4, hd, rfl⟩
    refine Qs ⟨g', _, _, _, λ t => ?_, rfl⟩
    rw [hd t, hg t, List.take_succ, hk]
    simp only [ZD, Option.toList_some, ZI]
    exact ⟨λ ⟨a, b⟩ y hy => hy.elim (a y) λ e => e ▸ b, λ a => ⟨λ y hy => a y (.inl hy), a x (.inr rfl)⟩⟩
  ·rintro ρ ⟨g, j2, j3, j4, hg, rfl⟩
   rw [List.take_length] at hg
   refine QM (r := ⟨.int (if g < 0 then -g else g), true, []⟩) rfl ⟨rfl, _, rfl, by split <;> omega, λ t => ?_⟩
   rw [← hg t]
   split
   ·exact Int.dvd_neg
   ·exact Iff.rfl
 obtain ⟨o, h1, h2⟩ := key
 cases o with
 | rt d fr =>
  obtain ⟨rfl, g, rfl, g0, hg⟩ := h2
  exact ⟨g, by show Option.bind (Qfk [some (Qc6 xs, false), none, none, none, none]) outD = _; rw [h1]; rfl, g0, hg⟩
 | _ => exact h2.elim
noncomputable def Qb0 (Qa3 : Den) : DS := (Qe (Qt 1 (Qi 1 Qa3 [] (Qb (Qa 0) Qf))) (Qe (sIf (QG (dOp gEq (Qo (Qa 1) (dC (.int 1))) (dC (.int 0)))) (Qe QB Ql) Ql) (Qe (QL (Qa 1)) Ql)))
noncomputable def Qc4 (Qbd : Den) (QS : Den) (QaC : Den) (QbA : Den) : DS := (Qe (Qt 2 (dBf Qal (Qb (Qa 0) Qf))) (Qe (sIf (QG (dOp gNe (dBf Qal (Qb (Qa 1) Qf)) (Qa 2))) (Qe QB Ql) Ql) (Qe (Qt 3 (Qi 1 QS [] (Qb (QW (Qcx (Qi 1 Qbd [] (Qb (Qa 0) Qf)) (Qa 1)) (.tp [1, 2]) [none, none, none] Qaf (QU (Qa 1) (QY (Qb (Qa 2) Qf)))) Qf))) (Qe (Qt 4 (Qi 2 QaC [] (Qb (Qo (Qa 3) (dC (.int 0))) (Qb (Qa 2) Qf)))) (Qe (Qt 5 (Qi 1 QbA [] (Qb (QU (Qa 4) (QY (Qb (Qo (Qa 3) (dC (.int 1))) Qf))) Qf))) (Qe (sIf (QG (dOp gLt (Qo (Qa 3) (dC (.int 1))) (dC (.int 0)))) (Qe (Qt 5 (dOp Qbn (dC (.int 0)) (Qa 5))) Ql) Ql) (Qe (QL (Qho (Qb (QW (QaV (Qa 4)) (.nm 1) [none, none, some 5] Qaf (dOp Qco (Qa 1) (Qa 2))) (Qb (dOp Qco (Qo (Qa 3) (dC (.int 1))) (Qa 5)) Qf)))) Ql)))))))
theorem Qfu {fa fb : DE} {ρ : En} {ra : R} {m : Nat} {f : Nat -> Int} {x : Int} (ha : fa ρ = some ra) (ea : ra.d = Qc m f) (hb : fb ρ = some ⟨.int x, true, []⟩) (hm : m <= 1000) : QU fa (QY (Qb fb Qf)) ρ = some ⟨Qc (m + 1) (up f m x), true, []⟩ := by
 have hb : QY (Qb fb Qf) ρ = some ⟨.lst [.int x], true, []⟩ := (QeU (rs := ⟨[.int x], true, []⟩) (Qp hb (QO _)) (by simp)).trans rfl
 unfold QU
 rw [ha, Za, hb, Za, ea]
 simp only [Qc, Zw, Zy, QhP]
 rw [if_pos (by simp; omega)]
 unfold QaN
 rw [if_pos (by rw [Qb5, Zg]; exact ⟨Qa6 (λ _ => rfl) _, rfl⟩)]
 congr 3
 rw [ZaZ, Zam]
 congr 1
 ·refine ZA λ i hi => ?_
  rw [Qc7, if_neg (by have := ZC.mp hi; omega)]
 ·show _ = [D.int (up f m x m)]
  rw [Qc7, if_pos rfl]
theorem Qoy (n : Nat) (f : Nat -> Int) : Qc n f = Qc6 ((List.range n).map f) := by unfold Qc Qc6; rw [Zay]; rfl
noncomputable def QH (m : Nat) (T : Nat -> Nat -> Int) (v : Nat -> Int) : Nat -> Int := λ j => 2 * (0 - T j j) - Qu m T (λ j => 2 * (0 - T j j)) v j
theorem Qjz {m : Nat} {T : Nat -> Nat -> Int} {v : Nat -> Int} (j : Nat) : QH m T v j = - Q1 m λ i => v i * T i j := by
 unfold QH Qu; show 2 * (0 - T j j) - (2 * (0 - T j j) + _) = _; omega
def Rec (m : Nat) (T : Nat -> Nat -> Int) (v x : Nat -> Int) : Prop := ∃ (y u : Nat -> Int), (∀ j, j < m -> 0 <= y j) /\ Told m T (λ j => y j + QH m T v j) u /\ ∀ j, j < m -> x j = Qu m T (λ j => y j + QH m T v j) u j
structure Dbl (m : Nat) (T : Nat -> Nat -> Int) (v : Nat -> Int) : Prop where
 told : Told m T (λ j => 2 * (0 - T j j)) v
theorem Dbl.big {m : Nat} {T : Nat -> Nat -> Int} {v : Nat -> Int} (h : Dbl m T v) {j : Nat} (hj : j < m) : (0 - T j j) + 1 <= QH m T v j /\ QH m T v j <= 2 * (0 - T j j) := by
 have h1 := h.told.stb j hj
 have h2 := h.told.pos j hj
 unfold QH
 omega
theorem Dbl.round {m : Nat} {T : Nat -> Nat -> Int} {v : Nat -> Int} (h : Dbl m T v) (tp : TP m T) {y u : Nat -> Int} (y0 : ∀ j, j < m -> 0 <= y j) (hu : Told m T (λ j => y j + QH m T v j) u) : Told m T (λ j => y j + QH m T v j + QH m T v j) (λ i => v i + u i) /\ ∀ j, j < m -> Qu m T (λ j => y j + QH m T v j) u j = Qu m T (λ j => y j + QH m T v j + QH m T v j) (λ i => v i + u i) j := by
 refine h.told.lay (λ j hj => ?_) (λ j hj => ?_) hu
 ·have b := h.big hj
  have := h.told.stb j hj
  have e : QH m T v j = 2 * (0 - T j j) - Qu m T (λ j => 2 * (0 - T j j)) v j := rfl
  have := y0 j hj
  omega
 ·have e : QH m T v j = 2 * (0 - T j j) - Qu m T (λ j => 2 * (0 - T j j)) v j := rfl
  omega
theorem Rec.comes {m : Nat} {T : Nat -> Nat -> Int} {v x w : Nat -> Int} (tp : TP m T) (h : Dbl m T v) (hr : Rec m T v x) (hw : Told m T (λ j => x j + QH m T v j) w) : ∀ j, j < m -> Qu m T (λ j => x j + QH m T v j) w j = x j := λ j hj => by
 obtain ⟨y, u, y0, hu, ex⟩ := hr
 obtain ⟨t2, e2⟩ := h.round tp y0 hu
 obtain ⟨t1, e1⟩ := hu.lay (F' := λ j => y j + QH m T v j + QH m T v j) (h := λ j => x j + QH m T v j) (c := w) (λ j hj => by have := h.big hj; have := tp.neg j hj; show _ <= y j + QH m T v j + QH m T v j; omega) (λ j hj => by show x j + _ = _; rw [ex j hj]; omega) hw
 have one := t1.one tp t2
 rw [e1 j hj, ex j hj, e2 j hj]
 exact QcQ j rfl one
theorem Dbl.pos {m : Nat} {T : Nat -> Nat -> Int} {v : Nat -> Int} (tp : TP m T) (h : Dbl m T v) {j : Nat} (hj : j < m) : 1 <= v j := by
 refine Zaf λ z => ?_
 have v0 : v j = 0 := by have := h.told.leg.nonneg j; omega
 have s := h.told.stb j hj
 have : 0 <= Q1 m λ i => v i * T i j := Qqp λ i hi => by
  by_cases e : i = j
  ·rw [e, v0, ZT]; exact ZbD _
  ·exact Zbg (h.told.leg.nonneg i) (tp.pos i j hi hj e)
 have e : Qu m T (λ j => 2 * (0 - T j j)) v j = 2 * (0 - T j j) + Q1 m λ i => v i * T i j := rfl
 have := tp.neg j hj
 omega
theorem Rec.Qp1 {m : Nat} {T : Nat -> Nat -> Int} {v y u : Nat -> Int} (tp : TP m T) (h : Dbl m T v) (y0 : ∀ j, j < m -> 0 <= y j) (hu : Told m T (λ j => y j + QH m T v j) u) : ∀ N : Nat, Told m T (λ j => (y j + N * QH m T v j) + QH m T v j) (λ i => u i + N * v i) /\ ∀ j, j < m -> Qu m T (λ j => (y j + N * QH m T v j) + QH m T v j) (λ i => u i + N * v i) j = Qu m T (λ j => y j + QH m T v j) u j
 | 0 => by
  have e1 : (λ j => (y j + ((0 : Nat) : Int) * QH m T v j) + QH m T v j) = λ j => y j + QH m T v j := by funext j; simp
  have e2 : (λ i => u i + ((0 : Nat) : Int) * v i) = u := by funext i; simp
  rw [e1, e2]
  exact ⟨hu, λ _ _ => rfl⟩
 | N + 1 => by
  obtain ⟨t, e⟩ := Rec.Qp1 tp h y0 hu N
  obtain ⟨t2, e2⟩ := h.round tp (y := λ j => y j + N * QH m T v j) (λ j hj => by
   have := h.big hj
   have := tp.neg j hj
   have := Zbg (show (0 : Int) <= N by omega) (show 0 <= QH m T v j by omega)
   have := y0 j hj
   show 0 <= y j + N * QH m T v j
   omega) t
  have e3 : (λ j => (y j + ((N + 1 : Nat) : Int) * QH m T v j) + QH m T v j) = λ j => y j + N * QH m T v j + QH m T v j + QH m T v j := by
   funext j; rw [Zba, Zad]; simp; omega
  have e4 : (λ i => u i + ((N + 1 : Nat) : Int) * v i) = λ i => v i + (u i + N * v i) := by
   funext i; rw [Zba, Zad]; simp; omega
  rw [e3, e4]
  exact ⟨t2, λ j hj => by rw [← e2 j hj, e j hj]⟩
theorem QlO {m : Nat} {T : Nat -> Nat -> Int} {f c d : Nat -> Int} (j : Nat) : Qu m T (Qu m T f c) d j = Qu m T f (λ i => c i + d i) j := by
 unfold Qu
 have : (λ i => (c i + d i) * T i j) = λ i => c i * T i j + d i * T i j := by funext i; rw [Zad]
 rw [this, Qdg]
 omega
theorem Qoz {m : Nat} (d : Nat -> Int) : ∃ N : Nat, ∀ i, i < m -> -(N : Int) <= d i := by
 induction m with
 | zero => exact ⟨0, λ i hi => by omega⟩
 | succ m ih =>
  obtain ⟨N, h⟩ := ih
  refine ⟨N + (d m).natAbs, λ i hi => ?_⟩
  by_cases e : i = m
  ·subst e; omega
  ·have := h i (by omega); omega
theorem Rec.least {m : Nat} {T : Nat -> Nat -> Int} {v x d : Nat -> Int} (tp : TP m T) (h : Dbl m T v) (hr : Rec m T v x) (hs : Stb m T (Qu m T x d)) : ∀ i, i < m -> 0 <= d i := by
 obtain ⟨y, u, y0, hu, ex⟩ := hr
 obtain ⟨N, hN⟩ := Qoz (m := m) d
 obtain ⟨t, e⟩ := Rec.Qp1 tp h y0 hu N
 have := t.leg.least tp (c' := λ i => (u i + N * v i) + d i) (λ i hi => by
  have h1 := h.pos tp hi
  have h2 := hu.leg.nonneg i
  have h3 := hN i hi
  have h4 := Int.mul_le_mul_of_nonneg_left h1 (show (0 : Int) <= N by omega)
  show 0 <= u i + N * v i + d i
  omega) (λ p hp => by
  have := hs p hp
  rw [← QlO]
  have e2 : Qu m T (Qu m T (λ j => (y j + N * QH m T v j) + QH m T v j) λ i => u i + N * v i) d p = Qu m T x d p := QcQ p (by rw [e p hp, ex p hp]) λ _ _ => rfl
  rw [e2]; exact this)
 intro i hi
 have := this i hi
 omega
theorem Rec.one {m : Nat} {T : Nat -> Nat -> Int} {v v' x x' d : Nat -> Int} (tp : TP m T) (h : Dbl m T v) (h' : Dbl m T v') (hr : Rec m T v x) (hr' : Rec m T v' x') (sx : Stb m T x) (sx' : Stb m T x') (e : ∀ j, j < m -> x' j = Qu m T x d j) : ∀ i, i < m -> d i = 0 := λ i hi => by
 have a := hr.least tp h (d := d) (λ p hp => by rw [← e p hp]; exact sx' p hp) i hi
 have b := hr'.least tp h' (d := λ i => - d i) (λ p hp => by
  have : Qu m T x' (λ i => - d i) p = x p := by
   have q : Qu m T x' (λ i => - d i) p = Qu m T (Qu m T x d) (λ i => - d i) p := QcQ p (e p hp) λ _ _ => rfl
   rw [q, QlO]
   unfold Qu
   rw [Qa8 (g := λ _ => 0) λ i _ => by show (d i + - d i) * T i p = 0; rw [Int.add_right_neg, ZT], Qcd]
   omega
  rw [this]; exact sx p hp) i hi
 omega
theorem Rec.of {m : Nat} {T : Nat -> Nat -> Int} {v v' x : Nat -> Int} (tp : TP m T) (h : Dbl m T v) (h' : Dbl m T v') : ∀ j, QH m T v' j = QH m T v j := λ j => by
 have e := h.told.one tp h'.told
 rw [Qjz, Qjz]
 exact congrArg (λ z => - z) (Qa8 λ i hi => by rw [e i hi])
structure Qu2 (m : Nat) (T : Nat -> Nat -> Int) (f k : Nat -> Int) : Prop where
 ex : ∃ v, Dbl m T v /\ Rec m T v (Qu m T f k)
 stb : Stb m T (Qu m T f k)
 nn : ∀ j, j < m -> 0 <= Qu m T f k j
theorem Qfv {fa fb : DE} {ρ : En} {ra rb : R} {m n : Nat} {f : Nat -> Int} (ha : fa ρ = some ra) (ea : ra.d = Qc m f) (hb : fb ρ = some rb) (eb : rb.d = .int n) (h : n <= m) : Qbc fa (Qas fb) Qaq ρ = some ⟨Qc (m - n) λ i => f (n + i), true, []⟩ := by
 have cut : cutD ((List.range m).map λ i => D.int (f i)) (some (n : Int)) none = (List.range (m - n)).map λ i => D.int (f (n + i)) := by
  unfold cutD
  simp only [Zw, Zy, HT.Qfl, HT.QgH]
  rw [ZaI h, ← List.map_drop, ← List.map_take]
  have e : ((List.range m).drop n).take (m - n) = (List.range (m - n)).map λ i => n + i := by
   rw [Zax (by simp)]
   refine ZaD λ i => ?_
   rw [Zbi, Zk]
   by_cases hi : i < m - n
   ·rw [Zx (by omega), Zx hi]; rfl
   ·rw [Zp (by simp; omega), Zp (by simp; omega)]; rfl
  rw [e, Zay]
  rfl
 unfold Qbc Qaq Qas
 simp only [ha, hb, Za, ea, eb, Qc, cut, QaN]
 have : QP ((List.range (m - n)).map λ i => D.int (f (n + i))) = true := by
  have := QmQ ((List.range (m - n)).map λ i => f (n + i))
  rw [Zay] at this
  exact this
 rw [if_pos this]
theorem Qkb (ds : List D) (M : List Nat) : (QaN ds M).d = .lst ds := by unfold QaN; split <;> rfl
theorem QkA {fa fb : DE} {ρ : En} {ra rb : R} {xs : List D} {n : Nat} (ha : fa ρ = some ra) (ea : ra.d = .lst xs) (hb : fb ρ = some rb) (eb : rb.d = .int n) (h : n <= xs.length) : ∃ r : HS.R, Qbc fa Qaq (Qas fb) ρ = some r /\ r.d = .lst (xs.take n) := by
 unfold Qbc Qaq Qas
 simp only [ha, hb, Za, ea, eb]
 refine ⟨_, rfl, ?_⟩
 rw [Qkb]
 unfold cutD
 simp only [HT.Qfl, HT.QgH, List.drop_zero, Nat.sub_zero]
 rw [ZaI h]
theorem Qkf {fa fb : DE} {ρ : En} {ra rb : R} {xs : List D} {n : Nat} (ha : fa ρ = some ra) (ea : ra.d = .lst xs) (hb : fb ρ = some rb) (eb : rb.d = .int n) (h : n <= xs.length) : ∃ r : HS.R, Qbc fa (Qas fb) Qaq ρ = some r /\ r.d = .lst (xs.drop n) := by
 unfold Qbc Qaq Qas
 simp only [ha, hb, Za, ea, eb]
 refine ⟨_, rfl, ?_⟩
 rw [Qkb]
 unfold cutD
 simp only [HT.Qfl, HT.QgH]
 rw [ZaI h, Zax (by simp)]
theorem Qj9 {fa fb : DE} {ρ : En} {ra rb : R} {xs ys : List D} (ha : fa ρ = some ra) (ea : ra.d = .lst xs) (hb : fb ρ = some rb) (eb : rb.d = .lst ys) (h : xs.length + ys.length <= 1000) : ∃ r : HS.R, QU fa fb ρ = some r /\ r.d = .lst (xs ++ ys) := by
 unfold QU
 rw [ha, Za, hb, Za, ea, eb]
 refine ⟨_, if_pos (Zr h (by decide)), Qkb _ _⟩
theorem Qpk {n k : Nat} (hk : k < n + 1) (g : Nat -> D) : ((List.range (n + 1)).map g).take k ++ ((List.range (n + 1)).map g).drop (k + 1) = (List.range n).map λ c => g (skp k c) := by
 refine ZaD λ i => ?_
 by_cases hi : i < n
 ·rw [Zk (l := List.range n), Zx hi, List.getElem?_append]
  have l1 : (((List.range (n + 1)).map g).take k).length = k := by rw [ZaT, Zw, Zy]; omega
  rw [l1]
  unfold skp
  by_cases q : i < k
  ·rw [if_pos q, List.getElem?_take, if_pos q, Zk, Zx (by omega)]
   simp [q]
  ·rw [if_neg q, Zbi, Zk, show k + 1 + (i - k) = i + 1 by omega, Zx (by omega)]
   simp [q]
 ·rw [Zp (by simp; omega), Zp (by simp; omega)]
noncomputable def Q2 (Qbq : Den) : DS := (Qe (sIf (QG (dOp gEq (dBf Qal (Qb (Qa 0) Qf)) (dC (.int 1)))) (Qe (QL (Qo (Qo (Qa 0) (dC (.int 0))) (dC (.int 0)))) Ql) Ql) (Qe (Qt 1 (dC (.int 0))) (Qe (QcV (QaB (dBf Qal (Qb (Qa 0) Qf))) (.nm 2) (Qe (sIf (QG (dOp gNe (Qo (Qo (Qa 0) (Qa 2)) (dC (.int 0))) (dC (.int 0)))) (Qe (Qt 3 (Qi 1 Qbq [] (Qb (QW (QaV (QU (Qbc (Qa 0) Qaq (Qas (Qa 2))) (Qbc (Qa 0) (Qas (QU (Qa 2) (dC (.int 1)))) Qaq))) (.nm 1) [none, none] Qaf (Qbc (Qa 1) (Qas (dC (.int 1))) Qaq)) Qf))) (Qe (Qt 1 (QU (Qa 1) (Qaw (Qaw (dOp Qbn (dC (.int 1)) (Qaw (dC (.int 2)) (dOp QaW (Qa 2) (dC (.int 2))))) (Qo (Qo (Qa 0) (Qa 2)) (dC (.int 0)))) (Qa 3)))) Ql)) Ql) Ql)) (Qe (QL (Qa 1)) Ql))))
theorem Qs3 (k : Nat) : 1 - 2 * ((k : Int) % 2) = sgn k := by
 unfold sgn
 split <;> omega
structure Alt (n : Nat) (φ : (Nat -> Nat -> Int) -> Int) : Prop where
 congr : ∀ {m k : Nat -> Nat -> Int}, (∀ j, j < n -> ∀ r, r < n -> m j r = k j r) -> φ m = φ k
 lin : ∀ (m : Nat -> Nat -> Int) (c : Nat), c < n -> ∀ (x y : Int) (a b : Nat -> Int), φ (cup m c λ r => x * a r + y * b r) = x * φ (cup m c a) + y * φ (cup m c b)
 alt : ∀ {m : Nat -> Nat -> Int} {i j : Nat}, i < n -> j < n -> i ≠ j -> m i = m j -> φ m = 0
section
variable {n : Nat} {φ : (Nat -> Nat -> Int) -> Int} {m : Nat -> Nat -> Int}
theorem Alt.add (h : Alt n φ) {c : Nat} (hc : c < n) (a b : Nat -> Int) : φ (cup m c λ r => a r + b r) = φ (cup m c a) + φ (cup m c b) := by
 have := h.lin m c hc 1 1 a b
 simpa only [Zav] using this
theorem Alt.mul (h : Alt n φ) {c : Nat} (hc : c < n) (x : Int) (a : Nat -> Int) : φ (cup m c λ r => x * a r) = x * φ (cup m c a) := by
 have := h.lin m c hc x 0 a a
 simpa only [ZT, Zbd] using this
theorem Alt.swap (h : Alt n φ) {c d : Nat} (hc : c < n) (hd : d < n) (hcd : c ≠ d) (a b : Nat -> Int) : φ (cup (cup m c a) d b) = - φ (cup (cup m c b) d a) := by
 have z := h.alt (m := cup (cup m c λ r => a r + b r) d λ r => a r + b r) hc hd hcd (by rw [QC, Qv _ _ hcd, QC])
 have za := h.alt (m := cup (cup m c a) d a) hc hd hcd (by rw [QC, Qv _ _ hcd, QC])
 have zb := h.alt (m := cup (cup m c b) d b) hc hd hcd (by rw [QC, Qv _ _ hcd, QC])
 rw [h.add hd, QI _ _ _ hcd, h.add hc, QI _ _ _ hcd, h.add hc, QI _ _ _ (Ne.symm hcd), QI _ _ _ (Ne.symm hcd), QI _ _ _ (Ne.symm hcd), QI _ _ _ (Ne.symm hcd), za, zb] at z
 omega
theorem Alt.sum (h : Alt n φ) {c : Nat} (hc : c < n) (x : Nat -> Int) (E : Nat -> Nat -> Int) : ∀ k, φ (cup m c λ r => sm k λ s => x s * E s r) = sm k λ s => x s * φ (cup m c (E s))
 | 0 => by
  have := h.mul (m := m) hc 0 λ _ => 0
  rw [ZT] at this
  unfold sm
  simpa using this
 | k + 1 => by
  unfold sm
  rw [h.add hc, h.sum hc x E k, h.mul hc]
end
end HS
namespace HS
open PySem L2
theorem QtP {g1 g2 : DT} {ρ : En} (h : g1 ρ = some true) : bOr g1 g2 ρ = some true := by unfold bOr; rw [h]; rfl
theorem QsK {fa : DE} {ρ : En} {a b : D} {fr : Bool} {M : List Nat} (h : fa ρ = some ⟨.tup [a, b], fr, M⟩) : Qo fa (dC (.int 1)) ρ = some (HS.R.norm ⟨b, fr, M⟩) := by
 unfold Qo
 rw [h]; rfl
theorem Qm4 {fa : DE} {ρ : En} {a b : D} {fr : Bool} {M : List Nat} (h : fa ρ = some ⟨.tup [a, b], fr, M⟩) : Qo fa (dC (.int 0)) ρ = some (HS.R.norm ⟨a, fr, M⟩) := by
 unfold Qo
 rw [h]; rfl
noncomputable def Qgq (f : Nat -> Nat -> Int) (k : Nat) (p : Nat -> Int) (i : Nat) (q : Nat -> Int) : Nat -> Nat -> Int := λ l j => if l = i then q j else if l = k then p j else f l j
theorem Qi3 {n N k : Nat} {g : Nat -> Nat -> Int} {p : Nat -> Int} (hk : k < n) : ((List.range n).map λ i => Qc N (g i)).set k (Qc N p) = (List.range n).map λ i => Qc N (λ j => if i = k then p j else g i j) := by
 refine ZaD λ i => ?_
 rw [List.getElem?_set]
 by_cases h : k = i
 ·subst h
  rw [if_pos rfl, if_pos (by simpa using hk), Zk, Zx hk]
  simp
 ·rw [if_neg h, Zk, Zk]
  by_cases h2 : i < n
  ·rw [Zx h2]
   simp only [ZN, if_neg (Ne.symm h)]
  ·rw [Zp (by simpa using h2)]; rfl
theorem Qrl {x n N k i : Nat} {f : Nat -> Nat -> Int} {p q : Nat -> Int} {fy f1 g1 f2 g2 : DE} {ρ : En} {by' b1 b2 : Bool} {Q : Out -> Prop} (hx : x < ρ.length) (ey : fy (ρ.set x none) = some ⟨Qd n N f, by', []⟩) (e1 : f1 (ρ.set x none) = some ⟨.int k, true, []⟩) (e2 : g1 (ρ.set x none) = some ⟨Qc N p, b1, []⟩) (e3 : f2 (ρ.set x none) = some ⟨.int i, true, []⟩) (e4 : g2 (ρ.set x none) = some ⟨Qc N q, b2, []⟩) (hk : k < n) (hi : i < n)
  (h : Q (.nx ((ρ.set x none).set x (some (Qd n N (Qgq f k p i q), false))))) : Run (Qhu x fy f1 g1 f2 g2) ρ Q := by
 refine ⟨_, ?_, h⟩
 unfold Qhu QmH
 rw [if_pos (by simpa using hx), ey, Za]
 simp only [Qd, e1, e2, e3, e4, Za, Zw, Zy]
 rw [Qe5 (show (0 : Int) <= k by omega) (by omega), Qe5 (show (0 : Int) <= i by omega) (by omega)]
 simp only [Za, ZO, Qi3 hk]
 rw [Qi3 (g := λ l j => if l = k then p j else f l j) hi]
 rfl
noncomputable def Qe8 (Qck : Den) : DS := (Qe (Qt 2 (QW (QdL (Qa 1) (dBf Qal (Qb (Qa 0) Qf))) (.nm 1) [none, none, some 1, some 0] (QG (dOp gNe (Qo (Qo (Qa 3) (Qa 1)) (Qa 2)) (dC (.int 0)))) (Qa 1))) (Qe (sIf (bOr (QcZ (QG (Qa 2))) (QG (dOp gEq (Qo (Qa 2) (dC (.int 0))) (Qa 1)))) (Qe (QL (Qa 0)) Ql) Ql) (Qe (Qhu 3 (Qa 0) (Qa 1) (Qo (Qa 0) (Qo (Qa 2) (dC (.int 0)))) (Qo (Qa 2) (dC (.int 0))) (Qi 1 Qck [] (Qb (Qo (Qa 0) (Qa 1)) Qf))) (Qe (QL (Qa 3)) Ql))))
def QhF (d : Den) : Prop := ∀ (n N k : Nat) (f : Nat -> Nat -> Int), k < n -> n <= 1000 -> k < N -> ∃ g, d [Qd n N f, .int k] = some (Qd n N g, false) ∧
 ((g = f /\ (f k k = 0 -> ∀ i, k <= i -> i < n -> f i k = 0)) ∨ ∃ i, k < i /\ i < n /\ f i k ≠ 0 /\ g = Qgq f k (f i) i λ j => 0 - f k j)
theorem QnN {dop : Den} (ho : QmL dop) : QhF (Qn 4 (Qe8 dop)) := λ n N k f hk hn kN => by
 have eI := Qi8 (fi := QdL (Qa 1) (dBf Qal (Qb (Qa 0) Qf))) (t := .nm 1) (cap := [none, none, some 1, some 0]) (ft := QG (dOp gNe (Qo (Qo (Qa 3) (Qa 1)) (Qa 2)) (dC (.int 0)))) (fe := Qa 1) (ρ := [some (Qd n N f, false), some (.int k, true), none, none])
  (toD := λ (i : Nat) => .int ((k : Int) + i)) (keep := λ i => !decide (f (k + i) k = 0)) (out := λ (i : Nat) => .int ((k : Int) + i)) (List.range (n - k)) (Qn1 (i := k) (j := n) (n := n - k) (ra := ⟨.int k, true, []⟩) rfl rfl (Qch (n := n) (m := N) (f := f) (r := ⟨Qd n N f, false, []⟩) rfl rfl) rfl (by omega) (by omega) (by omega) (by omega)) rfl λ i hi => ⟨[none, some (.int ((k : Int) + i), true), some (.int k, true), some (Qd n N f, false)], rfl, by
   have hi' := ZC.mp hi
   refine QE (Qdu (a := f (k + i) k) (b := 0) (Qbf (m := N) (f := f (k + i)) (i := k) ((QcP (m := n) (n := N) (f := f) (i := (k : Int) + i) (ra := ⟨Qd n N f, false, []⟩) (rb := ⟨.int ((k : Int) + i), true, []⟩) rfl rfl rfl rfl (by omega) (by omega)).trans (by rw [show ((k : Int) + i).toNat = k + i by omega])) rfl (rb := ⟨.int k, true, []⟩) rfl rfl kN) rfl rfl rfl) rfl, λ _ => ⟨⟨.int ((k : Int) + i), true, []⟩, rfl, rfl, rfl⟩⟩
 have hmem : ∀ i, i ∈ (List.range (n - k)).filter (λ i => !decide (f (k + i) k = 0)) ↔ i < n - k /\ f (k + i) k ≠ 0 := λ i => by simp
 have hfst : ∀ i, f (k + i) k ≠ 0 -> i < n - k -> ∀ a l, (List.range (n - k)).filter (λ i => !decide (f (k + i) k = 0)) = a :: l -> f k k ≠ 0 -> a = 0 := λ i _ hi a l e h0 => by
  have hr : List.range (n - k) = 0 :: (List.range (n - k - 1)).map (· + 1) := by
   rw [show n - k = (n - k - 1) + 1 by omega, Zbx]; rfl
  rw [hr, List.filter_cons, if_pos (by show (!decide (f (k + 0) k = 0)) = true; rw [Nat.add_zero, decide_eq_false h0]; rfl)] at e
  exact (List.cons.inj e).1.symm
 generalize (List.range (n - k)).filter (λ i => !decide (f (k + i) k = 0)) = xs at eI hmem hfst
 cases xs with
 | nil =>
  refine ⟨f, ?_, .inl ⟨rfl, λ _ i h1 h2 => ?_⟩⟩
  ·refine Qae ?_
   refine run_seq (Qh eI ?_)
   rw [Qq]
   refine Qz (QT (b := true) ((QtP (Qb4 (b := false) (show QG (Qa 2) _ = some false from rfl)))) (λ _ => ?_) (λ h => by cases h))
   exact Qz (Qbj (r := ⟨Qd n N f, false, []⟩) rfl ⟨rfl, rfl⟩)
  ·by_cases z : f i k = 0
   ·exact z
   ·have := (hmem (i - k)).mpr ⟨by omega, by rw [show k + (i - k) = i by omega]; exact z⟩
    simp at this
 | cons a l =>
  obtain ⟨ha, hz⟩ := (hmem a).mp Zi
  have eidx : ∀ ρ : En, ρ[2]? = some (some (.lst ((a :: l).map λ (i : Nat) => D.int ((k : Int) + i)), true)) -> Qo (Qa 2) (dC (.int 0)) ρ = some ⟨.int ((k : Int) + a), true, []⟩ := λ ρ hρ => by
   unfold Qo
   rw [show Qa 2 ρ = some ⟨.lst ((a :: l).map λ (i : Nat) => D.int ((k : Int) + i)), true, [2]⟩ by unfold Qa; rw [hρ]; rfl, Za, show dC (.int 0) ρ = some ⟨.int 0, true, []⟩ from rfl, Za]
   dsimp only
   simp only [D.items, Zv, Za]
   rw [QgL (show (0 : Int) <= 0 by decide) (by simp)]
   rfl
  by_cases h0 : a = 0
  ·subst h0
   refine ⟨f, ?_, .inl ⟨rfl, λ z => absurd z (by simpa using hz)⟩⟩
   refine Qae ?_
   refine run_seq (Qh eI ?_)
   rw [Qq]
   refine Qz (QT (b := true) ((Qcw (a := false) (b := true) (Qb4 (b := true) (show QG (Qa 2) _ = some true from rfl)) (QE (b := true) (Qbs (a := k) (b := k) (ra := ⟨.int k, true, []⟩) ?_ rfl (rb := ⟨.int k, true, []⟩) rfl rfl) (by simp))).trans rfl) (λ _ => ?_) (λ h => by cases h))
   ·rw [eidx _ rfl]
    show some (HS.R.mk (.int ((k : Int) + (0 : Nat))) true []) = _
    rw [show (k : Int) + (0 : Nat) = k by omega]
   ·exact Qz (Qbj (r := ⟨Qd n N f, false, []⟩) rfl ⟨rfl, rfl⟩)
  ·have hkk : f k k = 0 := by
    by_cases z : f k k = 0
    ·exact z
    ·exact absurd (hfst a hz ha a l rfl z) h0
   refine ⟨_, ?_, .inr ⟨k + a, by omega, by omega, hz, rfl⟩⟩
   refine Qae ?_
   refine run_seq (Qh eI ?_)
   rw [Qq]
   refine Qz (QT (b := false) ((Qcw (a := false) (b := false) (Qb4 (b := true) (show QG (Qa 2) _ = some true from rfl)) (QE (b := false) (Qbs (a := (k : Int) + a) (b := k) (eidx _ rfl) rfl (rb := ⟨.int k, true, []⟩) rfl rfl) ?_)).trans rfl) (λ h => by cases h) (λ _ => Qs ?_))
   ·show D.bl _ = _
    rw [decide_eq_false (by omega)]
   refine run_seq (Qrl (n := n) (N := N) (k := k) (i := k + a) (f := f) (p := f (k + a)) (q := λ j => 0 - f k j) (by'  := false) (b1 := false) (b2 := true) (show 3 < 4 by decide) rfl rfl ?_ ?_ ?_ hk (by omega) ?_)
   ·exact (QcP (m := n) (n := N) (f := f) (i := (k : Int) + a) (ra := ⟨Qd n N f, false, []⟩) rfl rfl (eidx _ rfl) rfl (by omega) (by omega)).trans (by rw [show ((k : Int) + a).toNat = k + a by omega])
   ·exact (eidx _ rfl).trans (by rw [show ((k + a : Nat) : Int) = (k : Int) + a by simp])
   ·exact Qw (r := ⟨[Qc N (f k)], false, []⟩) (Qp ((QcP (m := n) (n := N) (f := f) (i := k) (ra := ⟨Qd n N f, false, []⟩) (rb := ⟨.int k, true, []⟩) rfl rfl rfl rfl (by omega) (by omega)).trans (by rw [ZO])) (QO _)) (ho N (f k)) rfl
   ·exact Qz (Qbj (r := ⟨Qd n N (Qgq f k (f (k + a)) (k + a) λ j => 0 - f k j), false, []⟩) rfl ⟨rfl, rfl⟩)
def QmR (n : Nat) (m : Nat -> Nat -> Int) : Prop := ∀ j, j < n -> ∀ r, r < n -> (m j r).natAbs <= 2 ^ 240
theorem Qia {n : Nat} (hn : n <= 8) : bnd (2 ^ 240) n < 2 ^ 2000 := by
 have h : ∀ k, k < 9 -> bnd (2 ^ 240) k < 2 ^ 2000 := by decide +kernel
 exact h n (by omega)
theorem QmR.put {n : Nat} {m : Nat -> Nat -> Int} (h : QmR n m) {i : Nat} {a : Nat -> Int} (ha : ∀ r, r < n -> (a r).natAbs <= 2 ^ 240) : QmR n (cup m i a) := λ j hj r hr => by
 by_cases e : j = i
 ·subst e; rw [QC]; exact ha r hr
 ·rw [Qv _ _ e]; exact h j hj r hr
structure Qcn (n N k : Nat) (A m R : Nat -> Nat -> Int) (d : Int) : Prop where
 clr : Clr n N k A m R d
 col : QmR n m
theorem Qcn.start (n N : Nat) (A : Nat -> Nat -> Int) : Qcn n N 0 A QaU (λ i j => A j i) 1 := ⟨Clr.start n N A, λ j _ r _ => by unfold QaU; split <;> decide⟩
theorem Qcn.small {n N k : Nat} {A m R : Nat -> Nat -> Int} {d : Int} (h : Qcn n N k A m R d) (hn : n <= 8) (hA : ∀ j, j < N -> ∀ r, r < n -> (A j r).natAbs <= 2 ^ 240) : d.natAbs < 2 ^ 2000 /\ ∀ i j, i < n -> j < N -> (R i j).natAbs < 2 ^ 2000 := by
 have b := Qia hn
 refine ⟨?_, λ i j hi hj => ?_⟩
 ·rw [← h.clr.det]; exact ZY (QdP h.col) b
 ·rw [h.clr.ent i j hi hj]; exact ZY (QdP (h.col.put (hA j hj))) b
theorem Qcn.step {n N k : Nat} {A m R R' : Nat -> Nat -> Int} {d : Int} (h : Qcn n N k A m R d) (hk : k < n) (kN : k < N) (hA : ∀ j, j < N -> ∀ r, r < n -> (A j r).natAbs <= 2 ^ 240) (hp : R k k ≠ 0) (h1 : ∀ j, j < N -> R' k j = R k j) (h2 : ∀ i j, i < n -> i ≠ k -> j < N -> ∀ q, R k k * R i j - R i k * R k j = d * q -> R' i j = q) : Qcn n N (k + 1) A (cup m k (A k)) R' (R k k) :=
 ⟨h.clr.step hk kN hp h1 h2, h.col.put (hA k kN)⟩
theorem Qcn.swap {n N k : Nat} {A m R : Nat -> Nat -> Int} {d : Int} (h : Qcn n N k A m R d) {i : Nat} (hk : k < n) (hi : i < n) (hki : k < i) : ∃ m', Qcn n N k A m' (Qgq R k (R i) i λ j => 0 - R k j) d := by
 have ne : k ≠ i := by omega
 have neg : ∀ (c : Nat), c < n -> ∀ (M : Nat -> Nat -> Int) (a : Nat -> Int), HS.det n (cup M c λ r => - a r) = - HS.det n (cup M c a) := λ c hc M a => by
  have := QdM (m := M) hc (-1) a
  simpa only [ZaJ, Zav] using this
 obtain ⟨c1, c2⟩ := h
 refine ⟨cup (cup m k (m i)) i λ r => - m k r, ⟨c1.le, ?_, c1.nz, λ l j hl hj => ?_, λ j hj => ?_⟩, λ j hj r hr => ?_⟩
 ·rw [neg i hi, Qbe hk hi ne, ZaY, QQ, QQ]; exact c1.det
 ·unfold Qgq
  by_cases e2 : l = i
  ·subst e2
   rw [if_pos rfl]
   show 0 - R k j = _
   rw [c1.ent k j hk hj, QeS, Qbe hk hl ne, QI _ _ _ ne]
   have := QQ m l
   rw [this]; omega
  ·rw [if_neg e2]
   by_cases e1 : l = k
   ·subst e1
    rw [if_pos rfl, c1.ent i j hi hj, QI _ _ _ (Ne.symm ne), QeS, neg i hi, Qbe hl hi ne, ZaY, QQ]
   ·rw [if_neg e1, c1.ent l j hl hj, QI _ _ _ (Ne.symm e2), neg i hi, QI _ _ _ (Ne.symm e1), Qbe hk hi ne, ZaY]
    rw [QI _ _ _ e1, QQ, QI _ _ _ e2, QQ]
 ·rw [Qv _ _ (by omega), Qv _ _ (by omega)]; exact c1.own j hj
 ·by_cases e1 : j = i
  ·subst e1; rw [QC, Int.natAbs_neg]; exact c2 k hk r hr
  ·rw [Qv _ _ e1]
   by_cases e2 : j = k
   ·subst e2; rw [QC]; exact c2 i hi r hr
   ·rw [Qv _ _ e2]; exact c2 j hj r hr
theorem Clr.stuck {n N k : Nat} {A m R : Nat -> Nat -> Int} {d : Int} (h : Clr n N k A m R d) (hk : k < n) (kN : k < N) (hz : ∀ i, k <= i -> i < n -> R i k = 0) : HS.det n A = 0 := by
 have t : ∀ r, r < n -> d * A k r = sm k λ l => R l k * A l r := λ r hr => by
  rw [h.tell kN hr, Qj6 (k := k) (by omega) λ l h1 h2 => by rw [hz l h1 h2, ZT]]
  exact Qcb λ l hl => by rw [h.own l hl]
 have e : d * HS.det n A = 0 := by
  have e1 : HS.det n (cup A k λ r => d * A k r) = d * HS.det n A := by rw [QdM hk, QQ]
  rw [← e1]
  have e2 : HS.det n (cup A k λ r => d * A k r) = HS.det n (cup A k λ r => sm k λ l => R l k * A l r) := Qb7 λ j hj r hr => by
   by_cases q : j = k
   ·subst q; rw [QC, QC]; exact t r hr
   ·rw [Qv _ _ q, Qv _ _ q]
  rw [e2, QgA hk (λ l => R l k) A k]
  exact Qgp λ i hi => by rw [QhT (show i < n by omega) hk (by omega) (by rw [QC, Qv _ _ (by omega)]), Zab]
 rcases Int.mul_eq_zero.mp e with z | z
 ·exact absurd z h.nz
 ·exact z
theorem Clr.all {n N : Nat} {A m R : Nat -> Nat -> Int} {d : Int} (h : Clr n N n A m R d) : d = HS.det n A := by
 rw [← h.det]
 exact Qb7 λ j hj r _ => by rw [h.own j hj]
def QdJ (d : Den) : Prop := ∀ (n N : Nat) (A : Nat -> Nat -> Int), n <= 8 -> n <= N -> (∀ j, j < N -> ∀ r, r < n -> (A j r).natAbs <= 2 ^ 240) -> ∃ R, d [Qd n N (λ i j => A j i)] = some (.tup [Qd n N R, .int (det n A)], false) /\ (det n A ≠ 0 -> ∃ m, Qcn n N n A m R (det n A))
theorem Qlz {dp dt : Den} (hp : QhF dp) (ht : QiH dt) : QdJ (Qn 5 (Qew dp dt)) := λ n N A n8 hN hA => by
 have key : Run (Qew dp dt) [some (Qd n N (λ i j => A j i), false), none, none, none, none] λ o => match o with | .rt d fr => fr = false /\ ∃ R, d = .tup [Qd n N R, .int (det n A)] /\ (det n A ≠ 0 -> ∃ m, Qcn n N n A m R (det n A)) | _ => False := by
  refine run_seq (Qh (Qfz (r := ⟨Qd n N (λ i j => A j i), false, []⟩) rfl) ?_)
  refine run_seq (Qh (r := ⟨.int 1, true, []⟩) rfl ?_)
  rw [Qq]
  refine Qz (Qde (toD := λ (k : Nat) => .int (k : Int)) (List.range n) (λ k ρ => ∃ m R b j3 j4, Qcn n N k A m R b /\ ρ = [some (Qd n N (λ i j => A j i), false), some (Qd n N R, false), some (.int b, true), j3, j4]) (QbL (n := n) (Qch (n := n) (m := N) (f := λ i j => A j i) (r := ⟨Qd n N (λ i j => A j i), false, []⟩) rfl rfl) rfl (by omega)) rfl ⟨_, _, _, none, none, Qcn.start n N A, rfl⟩ ?_ ?_)
  ·rintro k k' ρ hk ⟨m0, R0, b, j3, j4, C0, rfl⟩
   have hk' : k < n /\ k = k' := by
    obtain ⟨h1, h2⟩ := Zh.mp hk
    simp at h1 h2; exact ⟨h1, h2⟩
   obtain ⟨hkn, rfl⟩ := hk'
   have kN : k < N := by omega
   obtain ⟨R, ep, hR⟩ := hp n N k R0 hkn (by omega) kN
   have hC : ∃ m, Qcn n N k A m R b /\ (R k k = 0 -> det n A = 0) := by
    rcases hR with ⟨rfl, hz⟩ | ⟨i, h1, h2, h3, rfl⟩
    ·exact ⟨m0, C0, λ z => C0.clr.stuck hkn kN (hz z)⟩
    ·obtain ⟨m', C'⟩ := C0.swap hkn h2 h1
     refine ⟨m', C', λ z => absurd z ?_⟩
     unfold Qgq
     rw [if_neg (by omega), if_pos rfl]
     exact h3
   obtain ⟨m, C, hzero⟩ := hC
   obtain ⟨sb, sR⟩ := C.small n8 hA
   refine ⟨[some (Qd n N (λ i j => A j i), false), some (Qd n N R0, false), some (.int b, true), some (.int k, true), j4], rfl, ?_⟩
   refine run_seq (Qh (r := ⟨Qd n N R, false, []⟩) ((Qfe (r := ⟨[Qd n N R0, .int k], false, []⟩) rfl ep rfl).trans rfl) ?_)
   refine run_seq (Qh (r := ⟨Qc N (R k), false, []⟩) ((Qfz (QcP (m := n) (n := N) (f := R) (i := k) (ra := ⟨Qd n N R, false, []⟩) (rb := ⟨.int k, true, []⟩) rfl rfl rfl rfl (by omega) (by omega))).trans rfl) ?_)
   refine Qz (QT (b := decide (R k k = 0)) (QE (Qbs (a := R k k) (b := 0) (Qbf (m := N) (f := R k) (i := k) (ra := ⟨Qc N (R k), false, []⟩) (rb := ⟨.int k, true, []⟩) rfl rfl rfl rfl kN) rfl rfl rfl) rfl) (λ h => ?_) (λ h => Qs ?_))
   ·have dz := hzero (of_decide_eq_true h)
    refine Qz (Qbj (r := ⟨.tup [Qd n N R, .int 0], false, []⟩) rfl ?_)
    exact ⟨rfl, R, by rw [dz], λ z => absurd dz z⟩
   have pv : R k k ≠ 0 := of_decide_eq_false h
   have ex : ∀ i j, ∃ q, i < n -> i ≠ k -> j < N -> R k k * R i j - R i k * R k j = b * q := λ i j => by
    by_cases h : i < n /\ i ≠ k /\ j < N
    ·exact ⟨_, λ h1 h2 h3 => C.clr.exact hkn kN h1 h3 h2⟩
    ·exact ⟨0, λ h1 h2 h3 => absurd ⟨h1, h2, h3⟩ h⟩
   have zz : ∀ j, R k k * R k j - R k k * R k j = b * 0 := λ j => by rw [Int.sub_self, Zab]
   have eT : ∀ i, i < n -> dt [Qc N (R i), Qc N (R k), .int k, .int b] = some (Qc N (λ j => if i = k then 0 else (ex i j).choose), true) := λ i hi =>
    ht N k (R i) (R k) _ b kN C.clr.nz sb (λ j hj => ⟨sR i j hi hj, sR k j hkn hj⟩) λ j hj => by
     by_cases e : i = k
     ·rw [if_pos e, e]; exact zz j
     ·rw [if_neg e]; exact (ex i j).choose_spec hi e hj
   refine run_seq (Qh (r := ⟨Qd n N (λ i j => if i = k then 0 else (ex i j).choose), true, []⟩) (Q6 (toD := λ (i : Nat) => Qc N (R i)) (out := λ (i : Nat) => Qc N (λ j => if i = k then 0 else (ex i j).choose)) (List.range n) (QbS (r := ⟨Qd n N R, false, []⟩) rfl rfl) rfl λ i hi => ⟨[none, some (Qc N (R i), false), some (.int k, true), some (.int b, true), some (Qc N (R k), false)], rfl, ⟨Qc N (λ j => if i = k then 0 else (ex i j).choose), true, []⟩, Qw (r := ⟨[Qc N (R i), Qc N (R k), .int k, .int b], false, []⟩) rfl (eT i (ZC.mp hi)) rfl, rfl, rfl⟩) ?_)
   rw [Qq]
   refine run_seq (Qm3 (n := n) (N := N) (k := k) (p := R k) (g := λ i j => if i = k then 0 else (ex i j).choose) rfl rfl rfl hkn ?_)
   refine run_seq (Qh (r := ⟨.int (R k k), false, []⟩) ((Qfz (Qbf (m := N) (f := R k) (i := k) (ra := ⟨Qc N (R k), false, []⟩) (rb := ⟨.int k, true, []⟩) rfl rfl rfl rfl kN)).trans rfl) (Qs ?_))
   rw [Qbz rfl]
   refine ⟨_, _, _, _, _, C.step (R' := λ i j => if i = k then R k j else (λ i j => if i = k then 0 else (ex i j).choose) i j) hkn kN hA pv (λ j _ => by show (if k = k then R k j else _) = _; rw [if_pos rfl]) (λ i j hi ne hj q hq => ?_), rfl⟩
   show (if i = k then R k j else if i = k then 0 else (ex i j).choose) = q
   rw [if_neg ne, if_neg ne]
   exact Zbk C.clr.nz (((ex i j).choose_spec hi ne hj).symm.trans hq)
  ·rintro ρ ⟨m, R, b, j3, j4, C, rfl⟩
   rw [Zy] at C
   have hb := C.clr.all
   subst hb
   exact QM (r := ⟨.tup [Qd n N R, .int (det n A)], false, []⟩) rfl ⟨rfl, R, rfl, λ _ => ⟨m, C⟩⟩
 obtain ⟨o, h1, h2⟩ := key
 cases o with
 | rt d fr =>
  obtain ⟨rfl, R, rfl, C⟩ := h2
  exact ⟨R, by show Option.bind (Qew dp dt [some (Qd n N (λ i j => A j i), false), none, none, none, none]) outD = _; rw [h1]; rfl, C⟩
 | _ => exact h2.elim
def Qa2 (N : Nat) (d : Den) : Prop := ∀ (n : Nat) (A : Nat -> Nat -> Int), 1 <= n -> n <= N -> n <= 8 -> (∀ j, j < n -> ∀ r, r < n -> (A j r).natAbs <= 2 ^ 240) -> d [Qd n n A] = some (.int (det n A), true)
theorem Qre : Qa2 0 (λ _ => none) := λ n A h1 h2 => by omega
set_option maxHeartbeats 0 in
theorem Qbb {N : Nat} {d : Den} (ih : Qa2 N d) : Qa2 (N + 1) (Qn 4 (Q2 d)) := λ n A h1 hN h8 hA => by
 have len : ∀ {ρ : En}, ρ[0]? = some (some (Qd n n A, false)) -> dBf Qal (Qb (Qa 0) Qf) ρ = some ⟨.int n, true, []⟩ := λ {ρ} h => Qch (n := n) (m := n) (f := A) (QcS h) rfl
 have entry : ∀ {ρ : En} {fk : DE} {k : Nat}, ρ[0]? = some (some (Qd n n A, false)) -> fk ρ = some ⟨.int k, true, []⟩ -> k < n -> Qo (Qo (Qa 0) fk) (dC (.int 0)) ρ = some ⟨.int (A k 0), true, []⟩ := λ {ρ fk k} h hk hkn => Qbf (m := n) (f := A k) (i := 0) (QcP (m := n) (n := n) (f := A) (i := k) (QcS h) rfl hk rfl (by omega) (by omega)) rfl (Qb3 _ _) rfl (by omega)
 refine Qae ?_
 refine Qz (QT (QE (Qbs (a := n) (b := 1) (len rfl) rfl (Qb3 _ _) rfl) rfl) (λ h => ?_) (λ h => Qs ?_))
 ·have e : n = 1 := by have := of_decide_eq_true h; omega
  subst e
  refine Qz (Qbj (entry (k := 0) rfl (Qb3 _ _) (by decide)) ⟨?_, rfl⟩)
  show D.int (A 0 0) = .int (sm 1 λ j => sgn j * A j 0 * 1)
  congr 1
  show A 0 0 = 0 + 1 * A 0 0 * 1
  omega
 have n2 : 2 <= n := by have := of_decide_eq_false h; omega
 obtain ⟨p, rfl⟩ : ∃ p, n = p + 1 := ⟨n - 1, by omega⟩
 refine run_seq (Qh (r := ⟨.int 0, true, []⟩) rfl ?_)
 rw [Qq]
 refine QaP (P := λ ρ => ∃ j2 j3, ρ = [some (Qd (p + 1) (p + 1) A, false), some (.int (det (p + 1) A), true), j2, j3]) ?_ ?_
 ·refine Qde (toD := λ (k : Nat) => .int (k : Int)) (List.range (p + 1)) (λ i ρ => ∃ j2 j3, ρ = [some (Qd (p + 1) (p + 1) A, false), some (.int (sm i λ j => sgn j * A j 0 * det p λ c r => A (skp j c) (r + 1)), true), j2, j3]) (QbL (n := p + 1) (len rfl) rfl (by omega)) rfl ⟨none, none, rfl⟩ ?_ ?_
  ·rintro k k' ρ hk ⟨j2, j3, rfl⟩
   have hk' : k < p + 1 /\ k = k' := by
    obtain ⟨h1, h2⟩ := Zh.mp hk
    simp at h1 h2; exact ⟨h1, h2⟩
   obtain ⟨hkp, rfl⟩ := hk'
   have bm : (det p λ c r => A (skp k c) (r + 1)).natAbs < 2 ^ 2000 := ZY (QdP λ c hc r hr => hA (skp k c) (by unfold skp; split <;> omega) (r + 1) (by omega)) (Qia (by omega))
   refine ⟨_, rfl, ?_⟩
   refine run_seq (QT (QE (Qdu (a := A k 0) (b := 0) (entry (k := k) rfl rfl hkp) rfl (Qb3 _ _) rfl) rfl) (λ h => ?_) (λ h => ?_))
   ·obtain ⟨r1, q1, d1⟩ := QkA (fa := Qa 0) (fb := Qa 2) (ρ := [some (Qd (p + 1) (p + 1) A, false), some (.int (sm k λ j => sgn j * A j 0 * det p λ c r => A (skp j c) (r + 1)), true), some (.int k, true), j3]) (ra := ⟨Qd (p + 1) (p + 1) A, false, []⟩) (xs := (List.range (p + 1)).map λ i => Qc (p + 1) (A i)) (n := k) rfl rfl (rb := ⟨.int k, true, []⟩) rfl rfl (by simp; omega)
    obtain ⟨r2, q2, d2⟩ := Qkf (fa := Qa 0) (fb := QU (Qa 2) (dC (.int 1))) (ρ := [some (Qd (p + 1) (p + 1) A, false), some (.int (sm k λ j => sgn j * A j 0 * det p λ c r => A (skp j c) (r + 1)), true), some (.int k, true), j3]) (ra := ⟨Qd (p + 1) (p + 1) A, false, []⟩) (xs := (List.range (p + 1)).map λ i => Qc (p + 1) (A i)) (n := k + 1) rfl rfl (Qcc (a := (k : Int)) (b := 1) (ra := ⟨.int k, true, []⟩) rfl rfl (Qb3 _ _) rfl) rfl (by simp; omega)
    obtain ⟨r3, q3, d3⟩ := Qj9 q1 d1 q2 d2 (by simp; omega)
    rw [Qpk hkp] at d3
    refine run_seq (Qh (Qw (Qp (Q6 (toD := λ (c : Nat) => Qc (p + 1) (A (skp k c))) (out := λ (c : Nat) => Qc p λ r => A (skp k c) (1 + r)) (List.range p) (QbS q3 d3) rfl λ c _ => ⟨[none, some (Qc (p + 1) (A (skp k c)), false)], rfl, ⟨Qc p λ r => A (skp k c) (1 + r), true, []⟩, Qfv (m := p + 1) (n := 1) (f := A (skp k c)) (ra := ⟨Qc (p + 1) (A (skp k c)), false, []⟩) rfl rfl (Qb3 _ _) rfl (by omega), rfl, rfl⟩) (QO _)) (d := .int (det p λ c r => A (skp k c) (r + 1))) ?_ rfl) ?_)
    ·have := ih p (λ c r => A (skp k c) (r + 1)) (by omega) (by omega) (by omega) λ c hc r hr => hA (skp k c) (by unfold skp; split <;> omega) (r + 1) (by omega)
     have e : (List.range p).map (λ c => Qc p λ r => A (skp k c) (1 + r)) = (List.range p).map λ c => Qc p λ r => A (skp k c) (r + 1) := ZA λ c _ => QlG λ r _ => by rw [Nat.add_comm]
     show d [.lst ((List.range p).map λ c => Qc p λ r => A (skp k c) (1 + r))] = _
     rw [e]
     exact this
    rw [Qq]
    refine run_seq (Qh (Qcc (a := sm k λ j => sgn j * A j 0 * det p λ c r => A (skp j c) (r + 1)) (b := sgn k * A k 0 * det p λ c r => A (skp k c) (r + 1)) rfl rfl (QaD (a := sgn k * A k 0) (b := det p λ c r => A (skp k c) (r + 1)) (QaD (a := sgn k) (b := A k 0) ((QfS (a := 1) (b := 2 * ((k : Int) % 2)) (ra := ⟨.int 1, true, []⟩) rfl rfl (QaD (a := 2) (b := (k : Int) % 2) rfl rfl (QaR (a := (k : Int)) (b := 2) (ra := ⟨.int k, true, []⟩) rfl rfl (Qb3 _ _) rfl (by decide)) rfl (Qdf (by decide))) rfl).trans (by rw [Qs3])) rfl (entry (k := k) rfl rfl hkp) rfl (Qdf (by unfold sgn; split <;> decide))) rfl (rb := ⟨.int (det p λ c r => A (skp k c) (r + 1)), true, []⟩) rfl rfl (QdT (QbH ?_) (QbH bm))) rfl) (Qs (Qs ?_)))
    ·have := hA k hkp 0 (by omega)
     have b : (2 : Nat) ^ 200 < 2 ^ 2000 := Nat.pow_lt_pow_right (by decide) (by decide)
     rw [ZaG]
     have s : (sgn k).natAbs = 1 := by unfold sgn; split <;> rfl
     rw [s, Nat.one_mul]
     omega
    rw [Qq]
    exact ⟨_, _, rfl⟩
   ·have z : A k 0 = 0 := by simpa using h
    refine Qs (Qs ⟨some (.int k, true), j3, ?_⟩)
    have e : (sm (k + 1) λ j => sgn j * A j 0 * det p λ c r => A (skp j c) (r + 1)) = sm k λ j => sgn j * A j 0 * det p λ c r => A (skp j c) (r + 1) := by
     show (sm k λ j => sgn j * A j 0 * det p λ c r => A (skp j c) (r + 1)) + sgn k * A k 0 * (det p λ c r => A (skp k c) (r + 1)) = _
     rw [z, Zab, ZT, Zbd]
    rw [e]
    rfl
  ·rintro ρ ⟨j2, j3, rfl⟩
   rw [Zy]
   exact ⟨_, _, rfl⟩
 rintro ρ ⟨j2, j3, rfl⟩
 exact QM (r := ⟨.int (det (p + 1) A), true, []⟩) rfl ⟨rfl, rfl⟩
theorem QkT {n : Nat} {den : Den} {fs : DA} {ρ : En} {r : RA} {d : D} {fr : Bool} (h : fs ρ = some r) (e : den r.ds = some (d, fr)) (hn : r.ds.length = n) (hf : d.flat = false) (hM : r.M = []) : Qi n den [] fs ρ = some ⟨d, fr, []⟩ := by
 unfold Qi
 rw [h, Za, if_pos (by simpa using hn), Zac, e]
 cases fr with
 | true => rfl
 | false =>
  show some (R.norm ⟨d, false, r.M⟩) = _
  unfold R.norm
  rw [if_neg (by show ¬ d.flat = true; rw [hf]; exact ZE), hM]
end HS
namespace HS
open PySem PySem.Spec L2
def Ap (f : DS) (fx : DX) : Prop := ∀ ρ, fx ρ ≠ none -> f ρ = none
def ApF (d : Den) (xd : List D -> Option Str) : Prop := ∀ ds, xd ds ≠ none -> d ds = none
theorem QeG {f : DS} : Ap f xNo := λ ρ h => absurd rfl h
theorem Qdp {x : Str} {fs : DA} : Ap QB (Qeu x fs) := λ ρ h => rfl
theorem Qdx {f g : DS} {fx gx : DX} (a : Ap f fx) (b : Ap g gx) : Ap (Qe f g) (Qav f fx gx) := λ ρ h => by
 unfold Qav at h
 unfold Qe
 split at h
 ·rename_i ρ' e
  rw [e]
  exact b ρ' h
 ·exact absurd rfl h
 ·rename_i e
  rw [e]; rfl
theorem QjW {c : DT} {f g : DS} {fx gx : DX} (a : Ap f fx) (b : Ap g gx) : Ap (sIf c f g) (xIf c fx gx) := λ ρ h => by
 unfold xIf at h
 unfold sIf
 cases e : c ρ with
 | none => rfl
 | some v =>
  rw [e, Za] at h
  rw [Za]
  cases v with
  | true => rw [if_pos rfl] at h ⊢; exact a ρ h
  | false => rw [if_neg ZE] at h ⊢; exact b ρ h
theorem Qiu {fi : DI} {t : Tg} {fb : DS} {fx : DX} (a : Ap fb fx) : Ap (QcV fi t fb) (Qmg fi t fb fx) := λ ρ h => by
 unfold Qmg at h
 unfold QcV
 cases e : fi ρ with
 | none => rfl
 | some ir =>
  rw [e, Za] at h
  rw [Za]
  clear e
  revert h
  generalize ir.items = ds
  generalize Q4 ir.M ρ = ρ0
  induction ds generalizing ρ0 with
  | nil => exact λ h => absurd rfl h
  | cons d ds ih =>
   intro h
   unfold QfA at h
   unfold Qcj
   cases e1 : QaT t d ρ0 with
   | none => rfl
   | some ρ1 =>
    rw [e1, Za] at h
    rw [Za]
    split at h
    ·rename_i ρ2 e2; rw [e2, Za]; exact ih ρ2 h
    ·rename_i ρ2 e2; rw [e2, Za]; exact ih ρ2 h
    ·exact absurd rfl h
    ·rename_i e2; rw [e2]; rfl
theorem QiQ {n : Nat} {d : Den} {xd : List D -> Option Str} {fs : DA} (a : ApF d xd) {ρ : En} (h : Qbx n xd fs ρ ≠ none) : Qi n d [] fs ρ = none := by
 unfold Qbx at h
 unfold Qi
 cases e : fs ρ with
 | none => rfl
 | some r =>
  rw [e, Za] at h
  rw [Za]
  split at h
  ·rename_i hl
   rw [if_pos (by simpa using hl), Zac, a r.ds (λ z => h (by rw [z]; rfl))]; rfl
  ·exact absurd rfl h
theorem Qcf {n : Nat} {d : Den} {xd : List D -> Option Str} {fs : DA} (a : ApF d xd) : Ap (Qds (Qi n d [] fs)) (Qbx n xd fs) := λ ρ h => by unfold Qds; rw [QiQ a h]; rfl
theorem QfN {n i : Nat} {d : Den} {xd : List D -> Option Str} {fs : DA} (a : ApF d xd) : Ap (Qt i (Qi n d [] fs)) (Qbx n xd fs) := λ ρ h => by unfold Qt; rw [QiQ a h]; rfl
theorem Qit {n : Nat} {d : Den} {xd : List D -> Option Str} {fs : DA} (a : ApF d xd) : Ap (QL (Qi n d [] fs)) (Qbx n xd fs) := λ ρ h => by unfold QL; rw [QiQ a h]; rfl
theorem QpX {k : Nat} {f : DS} {fx : DX} (a : Ap f fx) : ApF (Qn k f) (Qdd k fx) := λ ds h => by
 unfold Qdd at h
 unfold Qn
 rw [a _ λ z => h (by rw [z]; rfl)]; rfl
def QeH (f : DX) (ρ : En) (x : Str) : Prop := ∃ ρ', f ρ = some (x, ρ')
theorem Qla {x : Str} {fs : DA} {ρ : En} {r : RA} (h : fs ρ = some r) (hl : r.ds.length <= 1) : QeH (Qeu x fs) ρ x := ⟨ρ, by unfold Qeu; rw [h, Za, if_pos hl]⟩
theorem Qrn {n : Nat} {xd : List D -> Option Str} {fs : DA} {ρ : En} {r : RA} {x : Str} (h : fs ρ = some r) (hl : r.ds.length = n) (hx : xd r.ds = some x) : QeH (Qbx n xd fs) ρ x := ⟨ρ, by unfold Qbx; rw [h, Za, if_pos hl, hx]; rfl⟩
theorem Qp6 {g : DT} {fa fb : DX} {b : Bool} {ρ : En} {x : Str} (h : g ρ = some b) (q1 : b = true -> QeH fa ρ x) (q2 : b = false -> QeH fb ρ x) : QeH (xIf g fa fb) ρ x := by
 cases b with
 | true => obtain ⟨o, h1⟩ := q1 rfl; exact ⟨o, by simp [xIf, h, h1]⟩
 | false => obtain ⟨o, h1⟩ := q2 rfl; exact ⟨o, by simp [xIf, h, h1]⟩
theorem Qe6 {f : DS} {fx fr : DX} {ρ : En} {x : Str} (a : Ap f fx) (q : QeH fx ρ x) : QeH (Qav f fx fr) ρ x := by
 obtain ⟨o, h⟩ := q
 exact ⟨o, by unfold Qav; rw [a ρ (by rw [h]; exact λ z => by cases z)]; exact h⟩
theorem Qgz {f : DS} {fx fr : DX} {ρ : En} {x : Str} (h : Run f ρ (Nx λ ρ' => QeH fr ρ' x)) : QeH (Qav f fx fr) ρ x := by
 obtain ⟨o, h1, h2⟩ := h
 cases o with
 | nx ρ' => obtain ⟨o, h3⟩ := h2; exact ⟨o, by unfold Qav; rw [h1]; exact h3⟩
 | _ => exact h2.elim
theorem Qms {k : Nat} {f : DX} {ds : List D} {x : Str} (h : QeH f (QbQ k ds) x) : Qdd k f ds = some x := by
 obtain ⟨ρ, e⟩ := h
 unfold Qdd
 rw [e]; rfl
theorem Qpn {f : DS} {fx : DX} {sub : Str -> Str -> Option Bool} {y : Str} {h : DS} {r : List Hd} {x : Str} {ρ ρ' : En} {Q : Out -> Prop} (a : Ap f fx) (e : fx ρ = some (x, ρ')) (hs : sub x y = some true) (q : Run h ρ' Q) : Run (QdY f fx sub ((y, none, h) :: r)) ρ Q := by
 obtain ⟨o, h1, h2⟩ := q
 refine ⟨o, ?_, h2⟩
 unfold QdY
 rw [a ρ (by rw [e]; exact λ z => by cases z)]
 dsimp only
 rw [e, Za]
 unfold Qhz
 rw [hs, Za, if_pos rfl]
 exact h1
theorem Qkg {f : DS} {fx : DX} {sub : Str -> Str -> Option Bool} {y : Str} {i : Nat} {h : DS} {r : List Hd} {x : Str} {ρ ρ' : En} {Q : Out -> Prop} (a : Ap f fx) (e : fx ρ = some (x, ρ')) (hs : sub x y = some true) (q : Run h (ρ'.set i (some (.exc x, true))) λ o => Q (Qsh i o)) : Run (QdY f fx sub ((y, some i, h) :: r)) ρ Q := by
 obtain ⟨o, h1, h2⟩ := q
 refine ⟨_, ?_, h2⟩
 unfold QdY
 rw [a ρ (by rw [e]; exact λ z => by cases z)]
 dsimp only
 rw [e, Za]
 unfold Qhz
 rw [hs, Za, if_pos rfl]
 dsimp only
 rw [h1]; rfl
end HS
namespace HS
open PySem L2
theorem QhX {n : Nat} {d : Den} {xd : List D -> Option Str} {fs : DA} {ρ : En} {r : RA} {x : Str} (a : ApF d xd) (h : fs ρ = some r) (hl : r.ds.length = n) (hx : xd r.ds = some x) : Qav (Qds (Qi n d [] fs)) (Qbx n xd fs) xNo ρ = some (x, ρ) := by
 have e : Qbx n xd fs ρ = some (x, ρ) := by unfold Qbx; rw [h, Za, if_pos hl, hx]; rfl
 unfold Qav
 rw [Qcf a ρ (by rw [e]; exact λ z => by cases z)]
 exact e
theorem Qe7 {sub : Str -> Str -> Option Bool} {ys : List Str} {fa : DE} {ρ : En} {x : Str} {b : Bool} (h : fa ρ = some ⟨.exc x, true, []⟩) (hs : anyS sub x ys = some b) : Qfy sub ys fa ρ = some ⟨.bl b, true, []⟩ := by
 unfold Qfy
 rw [h, Za]
 dsimp only
 rw [hs]; rfl
theorem any_cons {sub : Str -> Str -> Option Bool} {x y : Str} {ys : List Str} {b c : Bool} (h : sub x y = some b) (t : anyS sub x ys = some c) : anyS sub x (y :: ys) = some (b || c) := by
 unfold anyS
 rw [h, Za, t]; rfl
theorem QgI {fa fb : DE} {ρ : En} {a b : Bool} (ha : fa ρ = some ⟨.bl a, true, []⟩) (hb : fb ρ = some ⟨.bl b, true, []⟩) : Qen fa fb ρ = some ⟨.bl (a && b), true, []⟩ := by
 unfold Qen
 rw [ha, Za]
 cases a with
 | true => rw [hb]; rfl
 | false => rfl
def QeP (d : Den) : Prop := ∀ (n N : Nat) (A : Nat -> Nat -> Int), n <= 8 -> n <= N -> (∀ j, j < N -> ∀ r, r < n -> (A j r).natAbs <= 2 ^ 240) -> det n A ≠ 0 -> ∃ m R b, d [Qd n N (λ i j => A j i)] = some (.tup [Qd n N R, .int b], false) /\ Qcn n N n A m R b
theorem QkB {dc : Den} (hc : QdJ dc) : QeP (Qn 2 (Qb0 dc)) := λ n N A n8 hN hA hd => by
 obtain ⟨R, ec, hC⟩ := hc n N A n8 hN hA
 obtain ⟨m, C⟩ := hC hd
 refine ⟨m, R, det n A, Qae ?_, C⟩
 refine run_seq (Qh (r := ⟨.tup [Qd n N R, .int (det n A)], false, []⟩) ((Qfe (r := ⟨[Qd n N (λ i j => A j i)], false, []⟩) rfl ec rfl).trans rfl) ?_)
 refine Qz (QT (b := false) (QE (Qbs (a := det n A) (b := 0) (ra := ⟨.int (det n A), true, []⟩) rfl rfl rfl rfl) (by simp [hd])) (λ h => by cases h) (λ _ => Qs ?_))
 exact QM (r := ⟨.tup [Qd n N R, .int (det n A)], false, []⟩) rfl ⟨rfl, rfl⟩
noncomputable def QbX (Qa3 : Den) : DX := (Qav (Qt 1 (Qi 1 Qa3 [] (Qb (Qa 0) Qf))) xNo (Qav (sIf (QG (dOp gEq (Qo (Qa 1) (dC (.int 1))) (dC (.int 0)))) (Qe QB Ql) Ql) (xIf (QG (dOp gEq (Qo (Qa 1) (dC (.int 1))) (dC (.int 0)))) (Qav QB (Qeu "NoRings" (Qb (dC (.str "the table has measure 0")) Qf)) xNo) xNo) (Qav (QL (Qa 1)) xNo xNo)))
theorem QtS {dc : Den} : ApF (Qn 2 (Qb0 dc)) (Qdd 2 (QbX dc)) := QpX (by unfold Qb0 QbX; repeat (first | exact QeG | exact Qdp | assumption | apply Qdx | apply QjW | apply Qiu | apply Qcf | apply QfN | apply Qit))
def Qhl (xd : List D -> Option Str) : Prop := ∀ (n N : Nat) (A : Nat -> Nat -> Int), n <= 8 -> n <= N -> (∀ j, j < N -> ∀ r, r < n -> (A j r).natAbs <= 2 ^ 240) -> det n A = 0 -> xd [Qd n N (λ i j => A j i)] = some "NoRings"
theorem Qlq {dc : Den} (hc : QdJ dc) : Qhl (Qdd 2 (QbX dc)) := λ n N A n8 hN hA hd => by
 obtain ⟨R, ec, hC⟩ := hc n N A n8 hN hA
 rw [hd] at ec
 refine Qms (Qgz (Qh (r := ⟨.tup [Qd n N R, .int 0], false, []⟩) ((Qfe (r := ⟨[Qd n N (λ i j => A j i)], false, []⟩) rfl ec rfl).trans rfl) ?_))
 exact Qe6 (by repeat (first | exact QeG | exact Qdp | assumption | apply Qdx | apply QjW | apply Qiu | apply Qcf | apply QfN | apply Qit)) (Qp6 (b := true) rfl (λ _ => Qe6 Qdp (Qla rfl (Zn _))) (λ h => by cases h))
def Qgb (d : Den) : Prop := ∀ (n : Nat) (f : Nat -> Nat -> Int) (row : Nat -> Int), n <= 8 -> (∀ j r, j < n -> r < n -> (f j r).natAbs <= 2 ^ 240) -> (∀ r, r < n -> (row r).natAbs <= 2 ^ 240) -> det n f ≠ 0 -> ∃ tops q, d [Qd n n f, Qc n row] = some (.tup [Qc n tops, .int q], true) /\ 0 < q /\ q.natAbs < 2 ^ 2000 /\ (∀ r, r < n -> q * row r = sm n λ l => tops l * f l r) /\ (∀ l, l < n -> (tops l).natAbs < 2 ^ 2000) /\ (∀ t, t ∣ q -> (∀ l, l < n -> t ∣ tops l) -> t.natAbs = 1)
theorem Qmi {dt dc dl dm : Den} (ht : Qfq dt) (hc : QeP dc) (hl : Qff dl) (hm : QhB dm) : Qgb (Qn 6 (Qc4 dt dc dl dm)) := λ n f row n8 hf hr hL => by
 have hA : ∀ j, j < n + 1 -> ∀ r, r < n -> ((λ j r => if j = n then row r else f j r) j r).natAbs <= 2 ^ 240 := λ j hj r hr' => by
  show (if j = n then row r else f j r).natAbs <= _
  split
  ·exact hr r hr'
  ·exact hf j r (by omega) hr'
 have hL' : det n (λ j r => if j = n then row r else f j r) ≠ 0 := by
  rw [Qb7 (k := f) λ j hj r _ => by rw [if_neg (by omega)]]
  exact hL
 obtain ⟨m, R, b, ec, C⟩ := hc n (n + 1) _ n8 (by omega) hA hL'
 obtain ⟨sb, sR⟩ := C.small n8 hA
 obtain ⟨g, eg, g0, hg⟩ := hm ((List.range (n + 1)).map (up (λ i => R i n) n b))
 have gb : g ∣ b := (hg g).mp ⟨1, by omega⟩ b (ZX.mpr ⟨n, ZC.mpr (by omega), by rw [Qc7, if_pos rfl]⟩)
 have gR : ∀ i, i < n -> g ∣ R i n := λ i hi => (hg g).mp ⟨1, by omega⟩ _ (ZX.mpr ⟨i, ZC.mpr (by omega), by rw [Qc7, if_neg (by omega)]⟩)
 have bz := C.clr.nz
 have gz : g ≠ 0 := λ z => by rw [z] at gb; obtain ⟨x, hx⟩ := gb; rw [ZT] at hx; exact bz hx
 obtain ⟨p, hp⟩ : ∃ p, p = if b < 0 then 0 - g else g := ⟨_, rfl⟩
 have pz : p ≠ 0 := by rw [hp]; split <;> omega
 have pd : ∀ x, g ∣ x -> ∃ y, x = p * y := λ x ⟨y, hy⟩ => by
  rw [hp]
  split
  ·exact ⟨-y, by rw [hy, Int.zero_sub, Int.neg_mul_neg]⟩
  ·exact ⟨y, hy⟩
 obtain ⟨q, hq⟩ := pd b gb
 have tp : ∀ i, ∃ y, i < n -> R i n = p * y := λ i => by
  by_cases h : i < n
  ·obtain ⟨y, hy⟩ := pd _ (gR i h); exact ⟨y, λ _ => hy⟩
  ·exact ⟨0, λ h' => absurd h' h⟩
 have gle : g.natAbs <= b.natAbs := ZaC.mpr gb |> λ h => Zbo (by omega) h
 have ple : p.natAbs < 2 ^ 2000 := by rw [hp]; split <;> omega
 have q0 : 0 < q := by
  by_cases h : b < 0
  ·rw [if_pos h] at hp
   refine Zaf λ z => ?_
   have := Int.mul_nonneg_of_nonpos_of_nonpos (a := p) (b := q) (by omega) (by omega)
   omega
  ·rw [if_neg h] at hp
   refine Zaf λ z => ?_
   have := Int.mul_nonpos_of_nonneg_of_nonpos (a := p) (b := q) (by omega) (by omega)
   omega
 have qle : q.natAbs < 2 ^ 2000 := by
  have : q ∣ b := ⟨p, by rw [hq, Zat]⟩
  have := Zbo (by omega) (ZaC.mpr this)
  omega
 have tops_small : ∀ l, l < n -> ((tp l).choose).natAbs < 2 ^ 2000 := λ l hl => by
  have h := (tp l).choose_spec hl
  have := sR l n hl (by omega)
  by_cases z : (tp l).choose = 0
  ·rw [z]; exact ZY (ZK _) this
  ·have d : (tp l).choose ∣ R l n := ⟨p, by rw [Zat]; exact h⟩
   have nz : R l n ≠ 0 := by rw [h]; exact Int.mul_ne_zero pz z
   have := Zbo (by omega) (ZaC.mpr d)
   omega
 have low : ∀ t, t ∣ q -> (∀ l, l < n -> t ∣ (tp l).choose) -> t.natAbs = 1 := λ t tq all => by
  have bg : p * t ∣ g := (hg (p * t)).mpr λ x hx => by
   obtain ⟨i, hi, rfl⟩ := ZX.mp hx
   rw [Qc7]
   split
   ·obtain ⟨y, hy⟩ := tq
    exact ⟨y, by rw [hq, hy, ZaB]⟩
   ·rename_i z
    have hi' : i < n := by have := ZC.mp hi; omega
    obtain ⟨y, hy⟩ := all i hi'
    exact ⟨y, by rw [(tp i).choose_spec hi', hy, ZaB]⟩
  have pg : p.natAbs = g.natAbs := by rw [hp]; split <;> omega
  have h1 := Zbo (by omega) (ZaC.mpr bg)
  rw [ZaG, pg] at h1
  have t0 : t ≠ 0 := λ z => by
   obtain ⟨y, hy⟩ := tq
   rw [z, ZT] at hy
   omega
  have h2 : t.natAbs < 2 := by
   refine Zaf λ h => ?_
   have h3 := Nat.mul_le_mul_left g.natAbs (show 2 <= t.natAbs by omega)
   omega
  omega
 refine ⟨λ i => (tp i).choose, q, Qae ?_, q0, qle, λ r hr' => ?_, tops_small, low⟩
 ·refine run_seq (Qh (Qch (n := n) (m := n) (f := f) (r := ⟨Qd n n f, false, []⟩) rfl rfl) ?_)
  rw [Qq]
  refine Qz (QT (b := false) (QE (b := false) (r := ⟨.bl false, true, []⟩) ((Qdu (a := n) (b := n) ((Qeb (xs := (List.range n).map λ i => .int (row i)) (r := ⟨Qc n row, false, []⟩) rfl rfl).trans (by rw [Zw, Zy])) rfl (rb := ⟨.int n, true, []⟩) rfl rfl).trans (by simp)) rfl) (λ h => by cases h) (λ _ => Qs ?_))
  have et := ht n f (by omega)
  have eZ : QW (Qcx (Qi 1 dt [] (Qb (Qa 0) Qf)) (Qa 1)) (.tp [1, 2]) [none, none, none] Qaf (QU (Qa 1) (QY (Qb (Qa 2) Qf))) [some (Qd n n f, false), some (Qc n row, false), some (.int n, true), none, none, none] = some ⟨Qd n (n + 1) (λ i j => (λ j r => if j = n then row r else f j r) j i), true, []⟩ := by
   refine (Q6 (toD := λ (i : Nat) => .tup [Qc n (λ j => f j i), .int (row i)]) (out := λ (i : Nat) => Qc (n + 1) (up (λ j => f j i) n (row i))) (List.range n) (Qe2 (f := λ i => Qc n (λ j => f j i)) (g := λ i => .int (row i)) (Qw (r := ⟨[Qd n n f], false, []⟩) rfl et rfl) rfl (rb := ⟨Qc n row, false, []⟩) rfl rfl) rfl λ i hi => ⟨[none, some (Qc n (λ j => f j i), false), some (.int (row i), true)], rfl, ⟨Qc (n + 1) (up (λ j => f j i) n (row i)), true, []⟩, Qfu (m := n) (f := λ j => f j i) (ra := ⟨Qc n (λ j => f j i), false, []⟩) rfl rfl rfl (by omega), rfl, rfl⟩).trans ?_
   have eT : Qd n (n + 1) (λ i j => (λ j r => if j = n then row r else f j r) j i) = .lst ((List.range n).map λ i => Qc (n + 1) (up (λ j => f j i) n (row i))) := by
    unfold Qd
    refine congrArg D.lst (ZA λ i _ => ?_)
    unfold Qc
    exact congrArg D.lst (ZA λ j _ => by rw [Qc7])
   rw [eT]
  refine run_seq (Qh (r := ⟨.tup [Qd n (n + 1) R, .int b], false, []⟩) ((Qfe (Qp eZ (QO _)) ec rfl).trans rfl) ?_)
  refine run_seq (Qh (Qw (r := ⟨[Qd n (n + 1) R, .int n], false, []⟩) rfl (hl n (n + 1) R n (by omega)) rfl) ?_)
  rw [Qq]
  refine run_seq (Qh (Qw (Qp (Qfu (m := n) (f := λ i => R i n) (x := b) (ra := ⟨Qc n (λ i => R i n), true, [4]⟩) rfl rfl rfl (by omega)) (QO _)) (by show dm [Qc (n + 1) (up (λ i => R i n) n b)] = _; rw [Qoy]; exact eg) rfl) ?_)
  rw [Qq]
  refine QaP (P := λ ρ => ρ = [some (Qd n n f, false), some (Qc n row, false), some (.int n, true), some (.tup [Qd n (n + 1) R, .int b], false), some (Qc n (λ i => R i n), true), some (.int p, true)]) ?_ ?_
  ·refine QT (b := decide (b < 0)) (QE (QaF (d := .bl (decide (b < 0))) (ra := ⟨.int b, true, []⟩) (rb := ⟨.int 0, true, []⟩) rfl rfl rfl) rfl) (λ h => ?_) (λ h => ?_)
   ·refine run_seq (Qh (r := ⟨.int (0 - g), true, []⟩) rfl (Qs ?_))
    rw [Qq, hp, if_pos (of_decide_eq_true h)]; rfl
   ·refine Qs ?_
    rw [hp, if_neg (of_decide_eq_false h)]; rfl
  ·rintro ρ rfl
   refine QM (r := ⟨.tup [Qc n λ i => (tp i).choose, .int q], true, []⟩) ?_ ⟨rfl, rfl⟩
   unfold Qho
   refine (congrArg (λ z => Option.bind z _) (Qp (Q6 (toD := λ (i : Nat) => .int (R i n)) (out := λ (i : Nat) => .int (tp i).choose) (List.range n) (QbS (r := ⟨Qc n (λ i => R i n), true, [4]⟩) rfl rfl) rfl λ i hi => ⟨[none, some (.int (R i n), true), some (.int p, true)], rfl, ⟨.int (tp i).choose, true, []⟩, Qi7 (a := R i n) (b := p) (ra := ⟨.int (R i n), true, []⟩) (rb := ⟨.int p, true, []⟩) rfl rfl rfl rfl pz ple ((tp i).choose_spec (ZC.mp hi)), rfl, rfl⟩) (Qp (Qi7 (a := b) (b := p) (q := q) (ra := ⟨.int b, true, []⟩) (rb := ⟨.int p, true, []⟩) rfl rfl rfl rfl pz ple hq) (QO _)))).trans ?_
   rfl
 ·have t := C.clr.tell (j := n) (by omega) hr'
  have t : b * row r = sm n λ l => R l n * m l r := by
   have e : (if n = n then row r else f n r) = row r := if_pos rfl
   rw [← e]; exact t
  rw [Qcb (g := λ l => ((tp l).choose * f l r) * p) λ l hl => by
   rw [C.clr.own l hl]
   show R l n * (if l = n then row r else f l r) = _
   rw [if_neg (by omega), Zat _ p, ← ZaB, ← (tp l).choose_spec hl], QlR, hq] at t
  refine Zbk pz ?_
  rw [← ZaB, t, Zat]
noncomputable def Qc0 (QbA : Den) (QaC : Den) (Qbd : Den) (QS : Den) (x_cleared_whole : List D -> Option Str) : DX := (Qav (Qt 2 (dBf Qal (Qb (Qa 0) Qf))) xNo (Qav (sIf (QG (dOp gNe (dBf Qal (Qb (Qa 1) Qf)) (Qa 2))) (Qe QB Ql) Ql) (xIf (QG (dOp gNe (dBf Qal (Qb (Qa 1) Qf)) (Qa 2))) (Qav QB (Qeu "NoRow" (Qb (dC (.str "a row that is shared out is as long as the table")) Qf)) xNo) xNo) (Qav (Qt 3 (Qi 1 QS [] (Qb (QW (Qcx (Qi 1 Qbd [] (Qb (Qa 0) Qf)) (Qa 1)) (.tp [1, 2]) [none, none, none] Qaf (QU (Qa 1) (QY (Qb (Qa 2) Qf)))) Qf))) (Qbx 1 x_cleared_whole (Qb (QW (Qcx (Qi 1 Qbd [] (Qb (Qa 0) Qf)) (Qa 1)) (.tp [1, 2]) [none, none, none] Qaf (QU (Qa 1) (QY (Qb (Qa 2) Qf)))) Qf)) (Qav (Qt 4 (Qi 2 QaC [] (Qb (Qo (Qa 3) (dC (.int 0))) (Qb (Qa 2) Qf)))) xNo (Qav (Qt 5 (Qi 1 QbA [] (Qb (QU (Qa 4) (QY (Qb (Qo (Qa 3) (dC (.int 1))) Qf))) Qf))) xNo (Qav (sIf (QG (dOp gLt (Qo (Qa 3) (dC (.int 1))) (dC (.int 0)))) (Qe (Qt 5 (dOp Qbn (dC (.int 0)) (Qa 5))) Ql) Ql) (xIf (QG (dOp gLt (Qo (Qa 3) (dC (.int 1))) (dC (.int 0)))) (Qav (Qt 5 (dOp Qbn (dC (.int 0)) (Qa 5))) xNo xNo) xNo) (Qav (QL (Qho (Qb (QW (QaV (Qa 4)) (.nm 1) [none, none, some 5] Qaf (dOp Qco (Qa 1) (Qa 2))) (Qb (dOp Qco (Qo (Qa 3) (dC (.int 1))) (Qa 5)) Qf)))) xNo xNo)))))))
theorem QtR {dt dc dl dm : Den} {xc : List D -> Option Str} (h : ApF dc xc) : ApF (Qn 6 (Qc4 dt dc dl dm)) (Qdd 6 (Qc0 dm dl dt dc xc)) := QpX (by unfold Qc4 Qc0; repeat (first | exact QeG | exact Qdp | assumption | apply Qdx | apply QjW | apply Qiu | apply Qcf | apply QfN | apply Qit))
structure QiB (xd : List D -> Option Str) : Prop where
 row : ∀ (n : Nat) (f : Nat -> Nat -> Int) (xs : List D), xs.length ≠ n -> xd [Qd n n f, .lst xs] = some "NoRow"
 rings : ∀ (n : Nat) (f : Nat -> Nat -> Int) (row : Nat -> Int), n <= 8 -> (∀ j r, j < n -> r < n -> (f j r).natAbs <= 2 ^ 240) -> (∀ r, r < n -> (row r).natAbs <= 2 ^ 240) -> det n f = 0 -> xd [Qd n n f, Qc n row] = some "NoRings"
theorem QmY {dt dc dl dm : Den} {xc : List D -> Option Str} (h : ApF dc xc) (ht : Qfq dt) (hx : Qhl xc) : QiB (Qdd 6 (Qc0 dm dl dt dc xc)) where
 row := λ n f xs hl => by
  refine Qms (Qgz (Qh (Qch (n := n) (m := n) (f := f) (r := ⟨Qd n n f, false, []⟩) rfl rfl) ?_))
  rw [Qq]
  refine Qe6 (by repeat (first | exact QeG | exact Qdp | assumption | apply Qdx | apply QjW | apply Qiu | apply Qcf | apply QfN | apply Qit)) (Qp6 (b := true) (QE (Qdu (a := xs.length) (b := n) (Qeb (xs := xs) (r := ⟨.lst xs, false, []⟩) rfl rfl) rfl (rb := ⟨.int n, true, []⟩) rfl rfl) ?_) (λ _ => Qe6 Qdp (Qla rfl (Zn _))) (λ h => by cases h))
  show D.bl _ = _
  simp
  omega
 rings := λ n f row n8 hf hr hd => by
  have hA : ∀ j, j < n + 1 -> ∀ r, r < n -> ((λ j r => if j = n then row r else f j r) j r).natAbs <= 2 ^ 240 := λ j hj r hr' => by
   show (if j = n then row r else f j r).natAbs <= _
   split
   ·exact hr r hr'
   ·exact hf j r (by omega) hr'
  have hd' : det n (λ j r => if j = n then row r else f j r) = 0 := by
   rw [Qb7 (k := f) λ j hj r _ => by rw [if_neg (by omega)]]
   exact hd
  have ex := hx n (n + 1) _ n8 (by omega) hA hd'
  refine Qms (Qgz (Qh (Qch (n := n) (m := n) (f := f) (r := ⟨Qd n n f, false, []⟩) rfl rfl) ?_))
  rw [Qq]
  refine Qgz (QT (b := false) (QE (b := false) (r := ⟨.bl false, true, []⟩) ((Qdu (a := n) (b := n) ((Qeb (xs := (List.range n).map λ i => .int (row i)) (r := ⟨Qc n row, false, []⟩) rfl rfl).trans (by rw [Zw, Zy])) rfl (rb := ⟨.int n, true, []⟩) rfl rfl).trans (by simp)) rfl) (λ h => by cases h) (λ _ => Qs ?_))
  have et := ht n f (by omega)
  have eZ : QW (Qcx (Qi 1 dt [] (Qb (Qa 0) Qf)) (Qa 1)) (.tp [1, 2]) [none, none, none] Qaf (QU (Qa 1) (QY (Qb (Qa 2) Qf))) [some (Qd n n f, false), some (Qc n row, false), some (.int n, true), none, none, none] = some ⟨Qd n (n + 1) (λ i j => (λ j r => if j = n then row r else f j r) j i), true, []⟩ := by
   refine (Q6 (toD := λ (i : Nat) => .tup [Qc n (λ j => f j i), .int (row i)]) (out := λ (i : Nat) => Qc (n + 1) (up (λ j => f j i) n (row i))) (List.range n) (Qe2 (f := λ i => Qc n (λ j => f j i)) (g := λ i => .int (row i)) (Qw (r := ⟨[Qd n n f], false, []⟩) rfl et rfl) rfl (rb := ⟨Qc n row, false, []⟩) rfl rfl) rfl λ i hi => ⟨[none, some (Qc n (λ j => f j i), false), some (.int (row i), true)], rfl, ⟨Qc (n + 1) (up (λ j => f j i) n (row i)), true, []⟩, Qfu (m := n) (f := λ j => f j i) (ra := ⟨Qc n (λ j => f j i), false, []⟩) rfl rfl rfl (by omega), rfl, rfl⟩).trans ?_
   have eT : Qd n (n + 1) (λ i j => (λ j r => if j = n then row r else f j r) j i) = .lst ((List.range n).map λ i => Qc (n + 1) (up (λ j => f j i) n (row i))) := by
    unfold Qd
    refine congrArg D.lst (ZA λ i _ => ?_)
    unfold Qc
    exact congrArg D.lst (ZA λ j _ => by rw [Qc7])
   rw [eT]
  exact Qe6 (QfN h) (Qrn (Qp eZ (QO _)) rfl ex)
noncomputable def Qci : DS := (Qe (Qt 0 (dBf QgZ (Qb (Qa 0) Qf))) (Qe (Qt 1 (dBf QgZ (Qb (Qa 1) Qf))) (Qe (Qb9 (QG (dOp gGt (Qa 1) (dC (.int 0)))) (Qe (Qt 2 (dOp QaW (Qa 0) (Qa 1))) (Qe (Qt 0 (Q9 (Qa 1))) (Qe (Qt 1 (Q9 (Qa 2))) Ql)))) (Qe (QL (Qa 0)) Ql))))
def QiP (d : Den) : Prop := ∀ a b : Int, ∃ g, d [.int a, .int b] = some (.int g, true) /\ 0 <= g /\ ∀ t, t ∣ g ↔ (t ∣ a /\ t ∣ b)
theorem QnM {fa : DE} {ρ : En} {a : Int} {r : R} (h : fa ρ = some r) (e : r.d = .int a) : dBf QgZ (Qb fa Qf) ρ = some ⟨.int (if a < 0 then -a else a), true, []⟩ := by
 unfold dBf
 rw [Qp h (QO _), Za, e]; rfl
theorem Qpm : QiP (Qn 3 Qci) := λ a b => by
 have key : Run Qci [some (.int a, true), some (.int b, true), none] λ o => match o with | .rt d fr => fr = true /\ ∃ g, d = .int g /\ 0 <= g /\ ∀ t, t ∣ g ↔ (t ∣ a /\ t ∣ b) | _ => False := by
  refine run_seq (Qh (QnM (a := a) (r := ⟨.int a, true, []⟩) rfl rfl) ?_)
  rw [Qq]
  refine run_seq (Qh (QnM (a := b) (r := ⟨.int b, true, []⟩) rfl rfl) ?_)
  rw [Qq]
  have da : ∀ (x t : Int), t ∣ (if x < 0 then -x else x) ↔ t ∣ x := λ x t => by
   split
   ·exact Int.dvd_neg
   ·exact Iff.rfl
  have a0 : 0 <= (if a < 0 then -a else a) := by split <;> omega
  have b0 : 0 <= (if b < 0 then -b else b) := by split <;> omega
  have hab : ∀ t, (t ∣ (if a < 0 then -a else a) /\ t ∣ (if b < 0 then -b else b)) ↔ (t ∣ a /\ t ∣ b) := λ t => by rw [da a, da b]
  generalize (if a < 0 then -a else a) = x at a0 hab
  generalize (if b < 0 then -b else b) = y at b0 hab
  refine QaP (P := λ ρ => ∃ g j2, 0 <= g /\ (∀ t, t ∣ g ↔ (t ∣ a /\ t ∣ b)) /\ ρ = [some (.int g, true), some (.int 0, true), j2]) ?_ ?_
  ·refine Qju (λ n ρ => ∃ g r j2, n = r.natAbs /\ 0 <= g /\ 0 <= r /\ (∀ t, (t ∣ g /\ t ∣ r) ↔ (t ∣ a /\ t ∣ b)) /\ ρ = [some (.int g, true), some (.int r, true), j2]) ?_ y.natAbs _ ⟨x, y, none, rfl, a0, b0, hab, rfl⟩
   rintro n ρ ⟨g, r, j2, rfl, g0, r0, hd, rfl⟩
   refine ⟨decide (0 < r), QE (QaF (d := .bl (decide (0 < r))) (ra := ⟨.int r, true, []⟩) (rb := ⟨.int 0, true, []⟩) rfl rfl rfl) rfl, λ h => ?_, λ h => ?_⟩
   ·have hr : r = 0 := by have := of_decide_eq_false h; omega
    subst hr
    exact ⟨g, j2, g0, λ t => by rw [← hd t]; simp, rfl⟩
   ·have hr : 0 < r := of_decide_eq_true h
    refine run_seq (Qh (QaR (a := g) (b := r) (ra := ⟨.int g, true, []⟩) rfl rfl (rb := ⟨.int r, true, []⟩) rfl rfl hr) ?_)
    rw [Qq]
    refine run_seq (Qh (r := ⟨.int r, false, []⟩) rfl ?_)
    rw [Qbz rfl]
    refine run_seq (Qh (r := ⟨.int (g % r), false, []⟩) rfl (Qs ?_))
    rw [Qbz rfl]
    have l1 := ZS g (by omega : r ≠ 0)
    have l2 := ZM g hr
    refine ⟨_, by omega, r, g % r, _, rfl, r0, l1, λ t => ?_, rfl⟩
    rw [← hd t]
    refine ⟨λ ⟨h1, h2⟩ => ⟨?_, h1⟩, λ ⟨h1, h2⟩ => ⟨h2, ?_⟩⟩
    ·have := Int.mul_ediv_add_emod g r
     rw [← this]
     exact Int.dvd_add (Int.dvd_trans h1 ⟨_, rfl⟩) h2
    ·have := Int.mul_ediv_add_emod g r
     have e : g % r = g - r * (g / r) := by omega
     rw [e]
     exact Int.dvd_sub h1 (Int.dvd_trans h2 ⟨_, rfl⟩)
  ·rintro ρ ⟨g, j2, g0, hg, rfl⟩
   exact QM (r := ⟨.int g, true, []⟩) rfl ⟨rfl, g, rfl, g0, hg⟩
 obtain ⟨o, h1, h2⟩ := key
 cases o with
 | rt d fr =>
  obtain ⟨rfl, g, rfl, g0, hg⟩ := h2
  exact ⟨g, by show Option.bind (Qci [some (.int a, true), some (.int b, true), none]) outD = _; rw [h1]; rfl, g0, hg⟩
 | _ => exact h2.elim
noncomputable def QfG (QaL : Den) (Qah : Den) (QaJ : Den) : DS := (Qe (Qt 3 (dBf Qal (Qb (Qa 1) Qf))) (Qe (sIf (bOr (QcZ (QG (Qg1 "tuple" (Qa 0)))) (bOr (QG (dOp gNe (dBf Qal (Qb (Qa 0) Qf)) (dC (.int 2)))) (QcZ (QG (Qi 2 QaL [] (Qb (Qo (Qa 0) (dC (.int 0))) (Qb (Qa 3) Qf))))))) (Qe (QL (dC (.bl false))) Ql) Ql) (Qe (sIf (bOr (QcZ (QG (Qi 1 Qah [] (Qb (Qo (Qa 0) (dC (.int 1))) Qf)))) (QG (dOp gLt (Qo (Qa 0) (dC (.int 1))) (dC (.int 1))))) (Qe (QL (dC (.bl false))) Ql) Ql) (Qe (Qt 4 (Q9 (Qo (Qa 0) (dC (.int 1))))) (Qe (QcV (QaV (Qo (Qa 0) (dC (.int 0)))) (.nm 5) (Qe (Qt 4 (Qi 2 QaJ [] (Qb (Qa 4) (Qb (Qa 5) Qf)))) Ql)) (Qe (QcV (QaB (Qa 3)) (.nm 6) (Qe (sIf (QG (dOp gNe (dBf Qgx (Qb (QW (QaB (Qa 3)) (.nm 1) [none, none, some 0, some 6, some 1] Qaf (Qaw (Qo (Qo (Qa 2) (dC (.int 0))) (Qa 1)) (Qo (Qo (Qa 4) (Qa 1)) (Qa 3)))) Qf)) (Qaw (Qo (Qa 0) (dC (.int 1))) (Qo (Qa 2) (Qa 6))))) (Qe (QL (dC (.bl false))) Ql) Ql) Ql)) (Qe (QL (dOp gEq (Qa 4) (dC (.int 1)))) Ql)))))))
structure Qtn (n : Nat) (f : Nat -> Nat -> Int) (row tops : Nat -> Int) (q : Int) : Prop where
 pos : 0 < q
 sq : q.natAbs < 2 ^ 2000
 eq : ∀ r, r < n -> q * row r = sm n λ l => tops l * f l r
 st : ∀ l, l < n -> (tops l).natAbs < 2 ^ 2000
 low : ∀ t, t ∣ q -> (∀ l, l < n -> t ∣ tops l) -> t.natAbs = 1
def Qhf (d : Den) : Prop := ∀ (n : Nat) (f : Nat -> Nat -> Int) (row tops : Nat -> Int) (q : Int), n <= 8 -> (∀ j r, j < n -> r < n -> (f j r).natAbs <= 2 ^ 240) -> (∀ r, r < n -> (row r).natAbs <= 2 ^ 240) -> Qtn n f row tops q -> d [.tup [Qc n tops, .int q], Qd n n f, Qc n row] = some (.bl true, true)
theorem Qoj {dn dw dd : Den} (hn : QkL dn) (hw : Qgt dw) (hd : QiP dd) : Qhf (Qn 7 (QfG dn dw dd)) := λ n f row tops q n8 hf hr S => by
 have up : ∀ {x : Int}, x.natAbs <= 2 ^ 240 -> QbF x := λ {x} h => QbH (ZY h (Nat.pow_lt_pow_right (by decide) (by decide)))
 have t0 : ∀ {ρ : En}, ρ[0]? = some (some (.tup [Qc n tops, .int q], false)) -> Qo (Qa 0) (dC (.int 0)) ρ = some ⟨Qc n tops, false, []⟩ := λ {ρ} h => (Qm4 ((QcS h).trans rfl)).trans rfl
 have t1 : ∀ {ρ : En}, ρ[0]? = some (some (.tup [Qc n tops, .int q], false)) -> Qo (Qa 0) (dC (.int 1)) ρ = some ⟨.int q, true, []⟩ := λ {ρ} h => (QsK ((QcS h).trans rfl)).trans rfl
 refine Qae ?_
 refine run_seq (Qh (Qch (n := n) (m := n) (f := f) (r := ⟨Qd n n f, false, []⟩) rfl rfl) ?_)
 rw [Qq]
 change Run _ [some (.tup [Qc n tops, .int q], false), some (Qd n n f, false), some (Qc n row, false), some (.int n, true), none, none, none] _
 refine Qz (QT (b := false) (Qcw (a := false) (b := false) (Qb4 (b := true) (QE (b := true) rfl rfl)) (Qcw (a := false) (b := false) (QE (b := false) rfl rfl) (Qb4 (b := true) (QE (b := true) (Qw (Qp (t0 rfl) (Qp (r := ⟨.int n, true, []⟩) rfl (QO _))) (hn n tops) rfl) rfl)))) (λ h => by cases h) (λ _ => Qs ?_))
 refine Qz (QT (b := false) (Qcw (a := false) (b := false) (Qb4 (b := true) (QE (b := true) (Qw (Qp (t1 rfl) (QO _)) (hw q) rfl) rfl)) (QE (b := false) (QaF (d := .bl (decide (q < 1))) (rb := ⟨.int 1, true, []⟩) (t1 rfl) rfl rfl) ?_)) (λ h => by cases h) (λ _ => Qs ?_))
 ·show D.bl _ = _
  rw [decide_eq_false (by have := S.pos; omega)]
 refine run_seq (Qh (r := ⟨.int q, false, []⟩) (by unfold Q9; rw [t1 rfl]; rfl) ?_)
 rw [Qbz rfl]
 refine QaP (P := λ ρ => ∃ j5, ρ = [some (.tup [Qc n tops, .int q], false), some (Qd n n f, false), some (Qc n row, false), some (.int n, true), some (.int 1, true), j5, none]) ?_ ?_
 ·refine Qde (toD := λ (l : Nat) => .int (tops l)) (List.range n) (λ k ρ => ∃ g j5, 0 <= g /\ (∀ t, t ∣ g ↔ (t ∣ q /\ ∀ l, l < k -> t ∣ tops l)) /\ ρ = [some (.tup [Qc n tops, .int q], false), some (Qd n n f, false), some (Qc n row, false), some (.int n, true), some (.int g, true), j5, none]) (QbS (t0 rfl) rfl) rfl ⟨q, none, by have := S.pos; omega, λ t => ⟨λ h => ⟨h, λ l hl => absurd hl (by omega)⟩, λ h => h.1⟩, rfl⟩ ?_ ?_
  ·rintro i i' ρ hi ⟨g, j5, g0, hg, rfl⟩
   have hi' : i < n /\ i = i' := by
    obtain ⟨h1, h2⟩ := Zh.mp hi
    simp at h1 h2; exact ⟨h1, h2⟩
   obtain ⟨him, rfl⟩ := hi'
   refine ⟨[some (.tup [Qc n tops, .int q], false), some (Qd n n f, false), some (Qc n row, false), some (.int n, true), some (.int g, true), some (.int (tops i), true), none], rfl, ?_⟩
   obtain ⟨g', e', g0', hg'⟩ := hd g (tops i)
   refine run_seq (Qh (Qw (r := ⟨[.int g, .int (tops i)], true, []⟩) rfl e' rfl) (Qs ?_))
   rw [Qq]
   refine ⟨g', _, g0', λ t => ?_, rfl⟩
   rw [hg' t, hg t]
   refine ⟨λ ⟨⟨h1, h2⟩, h3⟩ => ⟨h1, λ l hl => ?_⟩, λ ⟨h1, h2⟩ => ⟨⟨h1, λ l hl => h2 l (by omega)⟩, h2 i (by omega)⟩⟩
   by_cases z : l = i
   ·subst z; exact h3
   ·exact h2 l (by omega)
  ·rintro ρ ⟨g, j5, g0, hg, rfl⟩
   rw [Zy] at hg
   obtain ⟨h1, h2⟩ := (hg g).mp ⟨1, by omega⟩
   have : g = 1 := by have := S.low g h1 h2; omega
   subst this
   exact ⟨_, rfl⟩
 rintro ρ ⟨j5, rfl⟩
 refine Qz (Qde (toD := λ (j : Nat) => .int (j : Int)) (List.range n) (λ _ ρ => ∃ j6, ρ = [some (.tup [Qc n tops, .int q], false), some (Qd n n f, false), some (Qc n row, false), some (.int n, true), some (.int 1, true), j5, j6]) (QbL (n := n) (r := ⟨.int n, true, []⟩) rfl rfl (by omega)) rfl ⟨none, rfl⟩ ?_ ?_)
 ·rintro i i' ρ hi ⟨j6, rfl⟩
  have hi' : i < n /\ i = i' := by
   obtain ⟨h1, h2⟩ := Zh.mp hi
   simp at h1 h2; exact ⟨h1, h2⟩
  obtain ⟨him, rfl⟩ := hi'
  refine ⟨[some (.tup [Qc n tops, .int q], false), some (Qd n n f, false), some (Qc n row, false), some (.int n, true), some (.int 1, true), j5, some (.int i, true)], rfl, ?_⟩
  have ec := Q6 (fi := QaB (Qa 3)) (t := .nm 1) (cap := [none, none, some 0, some 6, some 1]) (fe := Qaw (Qo (Qo (Qa 2) (dC (.int 0))) (Qa 1)) (Qo (Qo (Qa 4) (Qa 1)) (Qa 3))) (ρ := [some (.tup [Qc n tops, .int q], false), some (Qd n n f, false), some (Qc n row, false), some (.int n, true), some (.int 1, true), j5, some (.int i, true)])
   (toD := λ (k : Nat) => .int (k : Int)) (out := λ (k : Nat) => .int (tops k * f k i)) (List.range n) (QbL (n := n) (r := ⟨.int n, true, []⟩) rfl rfl (by omega)) rfl λ k hk => ⟨[none, some (.int k, true), some (.tup [Qc n tops, .int q], false), some (.int i, true), some (Qd n n f, false)], rfl, ⟨.int (tops k * f k i), true, []⟩, by
    have hk := ZC.mp hk
    exact QaD (a := tops k) (b := f k i) (Qbf (m := n) (f := tops) (i := k) ((Qm4 (fa := Qa 2) (a := Qc n tops) (b := .int q) (fr := false) (M := []) rfl).trans rfl) rfl (rb := ⟨.int k, true, []⟩) rfl rfl hk) rfl (Qbf (m := n) (f := f k) (i := i) ((QcP (m := n) (n := n) (f := f) (i := k) (ra := ⟨Qd n n f, false, []⟩) (rb := ⟨.int k, true, []⟩) rfl rfl rfl rfl (by omega) (by omega)).trans (by rw [ZO])) rfl (rb := ⟨.int i, true, []⟩) rfl rfl him) rfl (QdT (QbH (S.st k hk)) (up (hf k i hk him))), rfl, rfl⟩
  have es := Qqw (m := n) (f := λ k => tops k * f k i) ec rfl
  rw [← QlT, ← S.eq i him] at es
  refine Qz (QT (b := false) (QE (Qdu (a := q * row i) (b := q * row i) es rfl (QaD (a := q) (b := row i) (t1 rfl) rfl (Qbf (m := n) (f := row) (i := i) (ra := ⟨Qc n row, false, []⟩) rfl rfl (rb := ⟨.int i, true, []⟩) rfl rfl him) rfl (QdT (QbH S.sq) (up (hr i him)))) rfl) (by simp)) (λ h => by cases h) (λ _ => Qs (Qs ⟨_, rfl⟩)))
 ·rintro ρ ⟨j6, rfl⟩
  exact QM (r := ⟨.bl true, true, []⟩) rfl ⟨rfl, rfl⟩
noncomputable def Qb1 (Qab : Den) : DS := (Qe (Qt 2 (Qaw (QY (Qb (dC (.int 0)) Qf)) (dBf Qal (Qb (Qa 0) Qf)))) (Qe (QcV (Qcx (Qa 0) (Qa 1)) (.tp [3, 4]) (Qe (Qt 5 (Qi 2 Qab [] (Qb (Qa 4) (Qb (dOp Qcr (dC (.int 10)) (dC (.int 9))) Qf)))) (Qe (Qt 2 (QW (Qcx (Qa 2) (Qa 3)) (.tp [1, 2]) [none, none, none, some 5] Qaf (QU (Qa 1) (Qaw (Qa 3) (Qa 2))))) Ql))) (Qe (QL (Qa 2)) Ql)))
def QgY (d : Den) : Prop := ∀ (n : Nat) (f : Nat -> Nat -> Int) (c : Nat -> Int), n <= 8 -> (∀ i, i < n -> QbF (c i)) -> InT n (10 ^ 9) f -> ∃ g, d [Qd n n f, Qc n c] = some (Qc n g, true) /\ ∀ j, j < n -> (g j).natAbs <= 2 ^ 240
set_option exponentiation.threshold 400 in
theorem Qne {dn : Den} (hn : Qer dn) : QgY (Qn 6 (Qb1 dn)) := λ n f c n8 hc hf => by
 have key : Run (Qb1 dn) [some (Qd n n f, false), some (Qc n c, false), none, none, none, none] (Rt λ d fr => fr = true /\ ∃ g, d = Qc n g /\ ∀ j, j < n -> (g j).natAbs <= n * (10 ^ 9 * 10 ^ 9)) := by
  refine run_seq (Qh (Qof (n := n) (z := 0) (Qch (n := n) (m := n) (f := f) (r := ⟨Qd n n f, false, []⟩) rfl rfl) rfl (by omega)) ?_)
  rw [Qq]
  refine QaP (P := λ ρ => ∃ g j3 j4 j5, (∀ j, j < n -> (g j).natAbs <= n * (10 ^ 9 * 10 ^ 9)) /\ ρ = [some (Qd n n f, false), some (Qc n c, false), some (Qc n g, true), j3, j4, j5]) ?_ ?_
  ·refine Qde (toD := λ (i : Nat) => .tup [Qc n (f i), .int (c i)]) (List.range n) (λ i ρ => ∃ g j3 j4 j5, (∀ j, j < n -> (g j).natAbs <= i * (10 ^ 9 * 10 ^ 9)) /\ ρ = [some (Qd n n f, false), some (Qc n c, false), some (Qc n g, true), j3, j4, j5]) (Qe2 (f := λ i => Qc n (f i)) (g := λ i => .int (c i)) (ra := ⟨Qd n n f, false, []⟩) (rb := ⟨Qc n c, false, []⟩) rfl rfl rfl rfl) rfl ⟨λ _ => 0, none, none, none, λ j _ => by simp, rfl⟩ ?_ ?_
   ·rintro i i' ρ hi ⟨g, j3, j4, j5, hg, rfl⟩
    have hi' : i < n /\ i = i' := by
     obtain ⟨h1, h2⟩ := Zh.mp hi
     simp at h1 h2; exact ⟨h1, h2⟩
    obtain ⟨him, rfl⟩ := hi'
    refine ⟨[some (Qd n n f, false), some (Qc n c, false), some (Qc n g, true), some (Qc n (f i), false), some (.int (c i), true), j5], rfl, ?_⟩
    obtain ⟨v, ev, v1, v2⟩ := hn (c i) (10 ^ 9) (hc i him) (by decide)
    refine run_seq (Qh (Qw (Qp (r := ⟨.int (c i), true, []⟩) rfl (Qp (QdN (a := 10) (k := 9) (by decide) (by decide)) (QO _))) ev rfl) ?_)
    rw [Qq]
    refine run_seq (Qh (r := ⟨Qc n (λ j => g j + v * f i j), true, []⟩) (Q6 (toD := λ (j : Nat) => .tup [.int (g j), .int (f i j)]) (out := λ (j : Nat) => .int (g j + v * f i j)) (List.range n) (Qe2 (f := λ j => .int (g j)) (g := λ j => .int (f i j)) (ra := ⟨Qc n g, true, [2]⟩) (rb := ⟨Qc n (f i), false, []⟩) rfl rfl rfl rfl) rfl λ j _ => ⟨[none, some (.int (g j), true), some (.int (f i j), true), some (.int v, true)], rfl, ⟨.int (g j + v * f i j), true, []⟩, Qcc (a := g j) (b := v * f i j) rfl rfl (QaD (a := v) (b := f i j) rfl rfl rfl rfl (Qdf (by omega))) rfl, rfl, rfl⟩) (Qs ?_))
    rw [Qq]
    refine ⟨_, _, _, _, λ j hj => ?_, rfl⟩
    have h1 := hg j hj
    have h2 := hf i j him hj
    have h3 : (v * f i j).natAbs <= 10 ^ 9 * 10 ^ 9 := by
     rw [ZaG]
     exact ZaO (by omega) (by omega)
    have h4 := Int.natAbs_add_le (g j) (v * f i j)
    show (g j + v * f i j).natAbs <= _
    rw [Nat.succ_mul]
    omega
   ·rintro ρ ⟨g, j3, j4, j5, hg, rfl⟩
    rw [Zy] at *
    exact ⟨g, _, _, _, hg, rfl⟩
  rintro ρ ⟨g, j3, j4, j5, hg, rfl⟩
  exact QM (r := ⟨Qc n g, true, [2]⟩) rfl ⟨rfl, g, rfl, hg⟩
 obtain ⟨o, h1, h2⟩ := key
 cases o with
 | rt d fr =>
  obtain ⟨rfl, g, rfl, hg⟩ := h2
  exact ⟨g, by show Option.bind (Qb1 dn [some (Qd n n f, false), some (Qc n c, false), none, none, none, none]) outD = _; rw [h1]; rfl, λ j hj => Zr (hg j hj) (Zr (Nat.mul_le_mul_right _ n8) (by decide +kernel))⟩
 | _ => exact h2.elim
structure Drawn (n : Nat) (f : Nat -> Nat -> Int) (row : Nat -> Int) : Prop where
 n1 : 1 <= n
 n8 : n <= 8
 tab : ∀ i j, i < n -> j < n -> (f i j).natAbs <= 2 ^ 240
 row : ∀ j, j < n -> (row j).natAbs <= 2 ^ 240
set_option exponentiation.threshold 400 in
theorem QgE {x far : Int} (h : -far <= x /\ x <= far) (hf : far <= 10 ^ 30) : x.natAbs <= 2 ^ 240 := by
 have h4 : (((10 : Nat) ^ 30 : Nat) : Int) = (10 : Int) ^ 30 := by decide +kernel
 have h5 : (10 : Nat) ^ 30 <= 2 ^ 240 := by decide +kernel
 rw [← h4] at hf
 generalize (10 : Nat) ^ 30 = t at hf h5
 generalize (2 : Nat) ^ 240 = u at h5
 omega
theorem Qgr {fa : DE} {ρ : En} {n : Nat} {f : Nat -> Nat -> Int} {fr : Bool} {M : List Nat} (h : fa ρ = some ⟨Qd n n f, fr, M⟩) (n1 : 1 <= n) : Qo fa (dC (.int 0)) ρ = some ⟨Qc n (f 0), fr, M⟩ := QcP (m := n) (n := n) (f := f) (i := 0) h rfl (Qb3 _ _) rfl (by decide) (by omega)
theorem Qoq {n b : Nat} (hb : b < n) (g : Nat -> D) : ((List.range n).map g).drop b ++ ((List.range n).map g).take b = (List.range n).map λ i => g ((i + b) % n) := by
 refine ZaD λ i => ?_
 have l1 : (((List.range n).map g).drop b).length = n - b := by simp
 by_cases hi : i < n
 ·rw [List.getElem?_append, l1, Zk (l := List.range n) (f := λ i => g ((i + b) % n)), Zx hi]
  by_cases q : i < n - b
  ·rw [if_pos q, Zbi, Zk, Zx (by omega)]
   simp only [ZN]
   rw [Nat.mod_eq_of_lt (by omega), Nat.add_comm]
  ·rw [if_neg q, List.getElem?_take, if_pos (by omega), Zk, Zx (by omega)]
   simp only [ZN]
   rw [show (i + b) % n = i - (n - b) by rw [show i + b = (i - (n - b)) + n by omega, Nat.add_mod_right, Nat.mod_eq_of_lt (by omega)]]
 ·rw [Zp (by simp; omega), Zp (by simp; omega)]
noncomputable def Qbg (QA : Den) (Q0 : Den) : DS := (Qe (Qt 1 (QU (dC (.int 6)) (dOp QaW (dOp Qco (Qi 2 QA [] (Qb (Qa 0) (Qb (dC (.int 0)) Qf))) (dC (.int 80))) (dC (.int 3))))) (Qe (Qt 2 (Q9 (Qo (QY (Qb (dC (.int 3)) (Qb (dOp Qcr (dC (.int 10)) (dC (.int 9))) Qf))) (dOp QaW (Qi 2 QA [] (Qb (Qa 0) (Qb (dC (.int 1)) Qf))) (dC (.int 2)))))) (Qe (Qt 3 (Qi 4 Q0 [] (Qb (Qa 0) (Qb (dC (.int 2)) (Qb (Qa 1) (Qb (Qa 2) Qf)))))) (Qe (Qt 4 (QW (QaB (Qa 1)) (.nm 1) [none, none, some 3] Qaf (QU (Qaw (QY (Qb (dC (.int 0)) Qf)) (Qa 1)) (Qbc (Qo (Qa 2) (Qa 1)) (Qas (Qa 1)) Qaq)))) (Qe (Qt 5 (dOp QaW (dOp Qco (Qi 2 QA [] (Qb (Qa 0) (Qb (dC (.int 1)) Qf))) (dC (.int 2))) (Qa 1))) (Qe (QL (QY (Qb (QU (Qbc (Qa 4) (Qas (Qa 5)) Qaq) (Qbc (Qa 4) Qaq (Qas (Qa 5)))) (Qb (Qo (Qi 4 Q0 [] (Qb (Qa 0) (Qb (dC (.int 30)) (Qb (Qa 1) (Qb (Qa 2) Qf))))) (dC (.int 0))) Qf)))) Ql))))))
def Qfj (d : Den) : Prop := ∀ ns : List Int, ns.length <= 63 -> (∀ k, QbF (ns.getD k 0)) -> ∃ n f row fr, d [.lst (ns.map .int)] = some (.lst [Qd n n f, Qc n row], fr) /\ Drawn n f row
set_option exponentiation.threshold 400 in
theorem Qlx {dc dt : Den} (hc : QdV dc) (ht : QeE dt) : Qfj (Qn 6 (Qbg dc dt)) := λ ns hl hb => by
 obtain ⟨F, hF⟩ := hc ns hl hb
 have cell : ∀ (ρ : En) (k : Nat), k <= 1000 -> ρ[0]? = some (some (.lst (ns.map .int), false)) -> Qi 2 dc [] (Qb (Qa 0) (Qb (dC (.int k)) Qf)) ρ = some ⟨.int (F k), true, []⟩ := λ ρ k hk h0 => Qw (Qp (QcS h0) (Qp (Qb3 _ _) (QO _))) (hF k hk).1 rfl
 have z1 := ZS (F 0 / 80) (by decide : (3 : Int) ≠ 0)
 have z2 := ZM (F 0 / 80) (by decide : (0 : Int) < 3)
 obtain ⟨n, en⟩ : ∃ n : Nat, 6 + F 0 / 80 % 3 = (n : Int) := ⟨(6 + F 0 / 80 % 3).toNat, by omega⟩
 have n8 : n <= 8 := by omega
 have n1 : 1 <= n := by omega
 have y1 := ZS (F 1) (by decide : (2 : Int) ≠ 0)
 have y2 := ZM (F 1) (by decide : (0 : Int) < 2)
 obtain ⟨far, hfar⟩ : ∃ far, [3, (10 : Int) ^ 9][(F 1 % 2).toNat]? = some far := ⟨_, Zah (by simp; omega)⟩
 have hfb : 1 <= far /\ far <= 10 ^ 30 := by
  have hm := Zas hfar
  have all : ∀ x ∈ [3, (10 : Int) ^ 9], 1 <= x /\ x <= 10 ^ 30 := by decide +kernel
  exact all far hm
 have elst : ∀ ρ : En, QY (Qb (dC (.int 3)) (Qb (dOp Qcr (dC (.int 10)) (dC (.int 9))) Qf)) ρ = some ⟨.lst ([3, (10 : Int) ^ 9].map .int), true, []⟩ := λ ρ => by
  refine (QeU (rs := ⟨[.int 3, .int (10 ^ 9)], true, []⟩) ?_ (by simp)).trans rfl
  exact Qp (r := ⟨.int 3, true, []⟩) rfl (Qp (QdN (a := 10) (k := 9) (by decide) (by decide)) (QO _))
 have efar : ∀ (ρ : En), ρ[0]? = some (some (.lst (ns.map .int), false)) -> Qo (QY (Qb (dC (.int 3)) (Qb (dOp Qcr (dC (.int 10)) (dC (.int 9))) Qf))) (dOp QaW (Qi 2 dc [] (Qb (Qa 0) (Qb (dC (.int 1)) Qf))) (dC (.int 2))) ρ = some ⟨.int far, true, []⟩ := λ ρ h0 => Qgo (ns := [3, (10 : Int) ^ 9]) (i := F 1 % 2) (v := far) (elst ρ) rfl (QaR (a := F 1) (b := 2) (cell _ 1 (by decide) h0) rfl rfl rfl (by decide)) rfl y1 hfar
 obtain ⟨f, ef, hf⟩ := ht ns hl hb 2 n far (by decide) n8 (by omega)
 obtain ⟨g, eg, hg⟩ := ht ns hl hb 30 n far (by decide) n8 (by omega)
 have b1 := ZS (F 1 / 2) (by omega : (n : Int) ≠ 0)
 have b2 := ZM (F 1 / 2) (by omega : (0 : Int) < n)
 obtain ⟨b, eb⟩ : ∃ b : Nat, F 1 / 2 % n = (b : Int) := ⟨(F 1 / 2 % n).toNat, by omega⟩
 have key : Run (Qbg dc dt) [some (.lst (ns.map .int), false), none, none, none, none, none] (Rt λ d fr => ∃ h, d = .lst [Qd n n h, Qc n (g 0)] /\ Drawn n h (g 0)) := by
  refine run_seq (Qh (Qcc (a := 6) (b := F 0 / 80 % 3) rfl rfl (QaR (a := F 0 / 80) (b := 3) (Qe1 (a := F 0) (b := 80) (cell _ 0 (by decide) rfl) rfl rfl rfl (by decide) (by decide)) rfl rfl rfl (by decide)) rfl) ?_)
  rw [Qq, en]
  refine run_seq (Qh (r := ⟨.int far, false, []⟩) (by unfold Q9; rw [efar _ rfl]; rfl) ?_)
  rw [Qbz rfl]
  refine run_seq (Qh (Qw (r := ⟨[.lst (ns.map .int), .int ((2 : Nat) : Int), .int n, .int far], false, []⟩) rfl ef rfl) ?_)
  rw [Qq]
  change Run _ [some (.lst (ns.map .int), false), some (.int n, true), some (.int far, true), some (Qd n n f, true), none, none] _
  refine run_seq (Qh (r := ⟨Qd n n (λ i j => if j < i then 0 else f i j), true, []⟩) (Q6 (toD := λ (k : Nat) => .int (k : Int)) (out := λ (k : Nat) => Qc n (λ j => if j < k then 0 else f k j)) (List.range n) (QbL (n := n) (r := ⟨.int n, true, []⟩) rfl rfl (by omega)) rfl λ k hk => ⟨[none, some (.int k, true), some (Qd n n f, false)], rfl, ⟨Qc n (λ j => if j < k then 0 else f k j), true, []⟩, ?_, rfl, rfl⟩) ?_)
  ·have hk := ZC.mp hk
   refine (Qkt (m := k) (k := n - k) (f := λ _ => 0) (g := λ i => f k (k + i)) (Qof (n := k) (z := 0) (r := ⟨.int k, true, []⟩) rfl rfl (by omega)) rfl (Qfv (m := n) (n := k) (f := f k) ((QcP (m := n) (n := n) (f := f) (i := k) (ra := ⟨Qd n n f, false, []⟩) (rb := ⟨.int k, true, []⟩) rfl rfl rfl rfl (by omega) (by omega)).trans (by rw [ZO])) rfl (rb := ⟨.int k, true, []⟩) rfl rfl (by omega)) rfl (by omega)).trans ?_
   rw [show k + (n - k) = n by omega]
   congr 2
   refine QlG λ j hj => ?_
   by_cases q : j < k
   ·rw [if_pos q, if_pos q]
   ·rw [if_neg q, if_neg q, show k + (j - k) = j by omega]
  rw [Qq]
  have hs : ∀ i j, i < n -> j < n -> ((λ i j => if j < i then 0 else f i j) i j).natAbs <= 2 ^ 240 := λ i j hi hj => by
   show (if j < i then 0 else f i j).natAbs <= _
   split
   ·exact ZK _
   ·exact QgE (hf i j hi hj) hfb.2
  generalize (λ i j => if j < i then 0 else f i j) = s at hs
  refine run_seq (Qh (QaR (a := F 1 / 2) (b := n) (Qe1 (a := F 1) (b := 2) (cell _ 1 (by decide) rfl) rfl rfl rfl (by decide) (by decide)) rfl (rb := ⟨.int n, true, []⟩) rfl rfl (by omega)) ?_)
  rw [Qq, eb]
  change Run _ [some (.lst (ns.map .int), false), some (.int n, true), some (.int far, true), some (Qd n n f, true), some (Qd n n s, true), some (.int b, true)] _
  obtain ⟨r1, p1, d1⟩ := Qkf (fa := Qa 4) (fb := Qa 5) (ρ := [some (.lst (ns.map .int), false), some (.int n, true), some (.int far, true), some (Qd n n f, true), some (Qd n n s, true), some (.int b, true)]) (ra := ⟨Qd n n s, true, [4]⟩) (xs := (List.range n).map λ i => Qc n (s i)) (n := b) rfl rfl (rb := ⟨.int b, true, []⟩) rfl rfl (by simp; omega)
  obtain ⟨r2, p2, d2⟩ := QkA (fa := Qa 4) (fb := Qa 5) (ρ := [some (.lst (ns.map .int), false), some (.int n, true), some (.int far, true), some (Qd n n f, true), some (Qd n n s, true), some (.int b, true)]) (ra := ⟨Qd n n s, true, [4]⟩) (xs := (List.range n).map λ i => Qc n (s i)) (n := b) rfl rfl (rb := ⟨.int b, true, []⟩) rfl rfl (by simp; omega)
  obtain ⟨r3, p3, d3⟩ := Qj9 p1 d1 p2 d2 (by simp; omega)
  rw [Qoq (by omega)] at d3
  refine Qz (Qbj (QeU (Qp p3 (Qp (Qgr (Qw (r := ⟨[.lst (ns.map .int), .int ((30 : Nat) : Int), .int n, .int far], false, []⟩) rfl eg rfl) n1) (QO _))) (by simp)) ⟨λ i => s ((i + b) % n), ?_, n1, n8, λ i j hi hj => hs _ j (Nat.mod_lt _ (by omega)) hj, λ j hj => QgE (hg 0 j (by omega) hj) hfb.2⟩)
  show D.lst [r3.d, _] = _
  rw [d3]; rfl
 obtain ⟨o, h1, h2⟩ := key
 cases o with
 | rt d fr =>
  obtain ⟨h, rfl, hh⟩ := h2
  exact ⟨n, h, g 0, fr, by show Option.bind (Qbg dc dt [some (.lst (ns.map .int), false), none, none, none, none, none]) outD = _; rw [h1]; rfl, hh⟩
 | _ => exact h2.elim
noncomputable def QcW (QA : Den) (QaY : Den) (Q0 : Den) (QaA : Den) : DS := (Qe (sIf (QG (dOp gEq (dOp QaW (dOp Qco (Qi 2 QA [] (Qb (Qa 0) (Qb (dC (.int 0)) Qf))) (dC (.int 10))) (dC (.int 8))) (dC (.int 1)))) (Qe (QL (Qi 1 QaY [] (Qb (Qa 0) Qf))) Ql) Ql) (Qe (Qt 1 (QU (dC (.int 1)) (dOp QaW (Qi 2 QA [] (Qb (Qa 0) (Qb (dC (.int 0)) Qf))) (dC (.int 5))))) (Qe (Qt 2 (dOp QaW (dOp Qco (Qi 2 QA [] (Qb (Qa 0) (Qb (dC (.int 1)) Qf))) (dC (.int 3))) (dC (.int 6)))) (Qe (Qt 3 (Q9 (Qo (QY (Qb (dC (.int 3)) (Qb (dOp Qcr (dC (.int 10)) (dC (.int 9))) (Qb (dOp Qbn (dOp Qcr (dC (.int 10)) (dC (.int 30))) (dC (.int 1))) Qf)))) (dOp QaW (Qi 2 QA [] (Qb (Qa 0) (Qb (dC (.int 1)) Qf))) (dC (.int 3)))))) (Qe (sIf (QG (dOp gLt (Qa 2) (dC (.int 3)))) (Qe (Qt 3 (dBf QgF (Qb (Qa 3) (Qb (dOp Qcr (dC (.int 10)) (dC (.int 9))) Qf)))) Ql) Ql) (Qe (Qt 4 (Qi 4 Q0 [] (Qb (Qa 0) (Qb (dC (.int 2)) (Qb (Qa 1) (Qb (Qa 3) Qf)))))) (Qe (Qt 5 (Qo (Qi 4 Q0 [] (Qb (Qa 0) (Qb (dC (.int 30)) (Qb (Qa 1) (Qb (Qa 3) Qf))))) (dC (.int 0)))) (Qe (sIf (QiA (QG (dOp gEq (Qa 2) (dC (.int 0)))) (QG (dOp gEq (Qa 1) (dC (.int 1))))) (Qe (Qt 4 (QY (Qb (QY (Qb (dC (.int 0)) Qf)) Qf))) Ql) (Qe (sIf (QG (dOp gEq (Qa 2) (dC (.int 0)))) (Qe (Qfd 4 Qc5 (dOp Qbn (Qa 1) (dC (.int 1))) (QW (QaV (Qo (Qa 4) (dC (.int 0)))) (.nm 1) [none, none, some 0] Qaf (Qaw (Qa 1) (dOp Qbn (dOp QaW (dOp Qco (Qi 2 QA [] (Qb (Qa 2) (Qb (dC (.int 1)) Qf))) (dC (.int 18))) (dC (.int 9))) (dC (.int 4)))))) Ql) Ql) Ql)) (Qe (sIf (bOr (QG (dOp gEq (Qa 2) (dC (.int 1)))) (QG (dOp gEq (Qa 2) (dC (.int 2))))) (Qe (Qt 5 (Qi 2 QaA [] (Qb (Qa 4) (Qb (QW (QaB (Qa 1)) (.nm 1) [none, none, some 0] Qaf (Qi 2 QA [] (Qb (Qa 2) (Qb (QU (dC (.int 40)) (Qa 1)) Qf)))) Qf)))) Ql) Ql) (Qe (QL (QY (Qb (Qa 4) (Qb (Qa 5) Qf)))) Ql))))))))))
def Qi6 (d : Den) : Prop := ∀ ns : List Int, ns.length <= 63 -> (∀ k, QbF (ns.getD k 0)) -> ∃ n f row fr, d [.lst (ns.map .int)] = some (.lst [Qd n n f, Qc n row], fr) /\ Drawn n f row
theorem QnB {x n k : Nat} {f : Nat -> Nat -> Int} {p : Nat -> Int} {fi fa : DE} {ρ : En} {Q : Out -> Prop} (hx : ρ[x]? = some (some (Qd n n f, true))) (hi : fi ρ = some ⟨.int k, true, []⟩) (ha : fa ρ = some ⟨Qc n p, true, []⟩) (hk : k < n)
  (q : Q (.nx (ρ.set x (some (Qd n n (λ i j => if i = k then p j else f i j), true))))) : Run (Qfd x Qc5 fi fa) ρ Q := by
 refine ⟨_, ?_, q⟩
 have hn : (HS.R.mk (Qc n p) true []).norm = ⟨Qc n p, true, []⟩ := by unfold R.norm; split <;> rfl
 unfold Qfd
 rw [ha, Za, hx]
 simp only [Qc5, Za, hi, Qd, QcA, Zw, Zy, hn]
 rw [Qe5 (show (0 : Int) <= k by omega) (by omega)]
 simp only [Za, ZO, Qi3 hk]
 simp [kill, Qbr]
set_option maxHeartbeats 0 in
set_option exponentiation.threshold 400 in
theorem QoA {dc ds dt dg : Den} (hc : QdV dc) (hs : Qfj ds) (ht : QeE dt) (hg : QgY dg) : Qi6 (Qn 6 (QcW dc ds dt dg)) := λ ns hl hb => by
 obtain ⟨F, hF⟩ := hc ns hl hb
 have cell : ∀ (ρ : En) (k : Nat), k <= 1000 -> ρ[0]? = some (some (.lst (ns.map .int), false)) -> Qi 2 dc [] (Qb (Qa 0) (Qb (dC (.int k)) Qf)) ρ = some ⟨.int (F k), true, []⟩ := λ ρ k hk h0 => Qw (Qp (QcS h0) (Qp (Qb3 _ _) (QO _))) (hF k hk).1 rfl
 have y1 := ZS (F 1) (by decide : (3 : Int) ≠ 0)
 have y2 := ZM (F 1) (by decide : (0 : Int) < 3)
 obtain ⟨far, hfar⟩ : ∃ far, [3, 10 ^ 9, (10 : Int) ^ 30 - 1][(F 1 % 3).toNat]? = some far := ⟨_, Zah (by simp; omega)⟩
 have hfb : 1 <= far /\ far <= 10 ^ 30 := by
  have hm := Zas hfar
  have all : ∀ x ∈ [3, 10 ^ 9, (10 : Int) ^ 30 - 1], 1 <= x /\ x <= 10 ^ 30 := by decide +kernel
  exact all far hm
 have elst : ∀ ρ : En, QY (Qb (dC (.int 3)) (Qb (dOp Qcr (dC (.int 10)) (dC (.int 9))) (Qb (dOp Qbn (dOp Qcr (dC (.int 10)) (dC (.int 30))) (dC (.int 1))) Qf))) ρ = some ⟨.lst ([3, 10 ^ 9, (10 : Int) ^ 30 - 1].map .int), true, []⟩ := λ ρ => by
  refine (QeU (rs := ⟨[.int 3, .int (10 ^ 9), .int (10 ^ 30 - 1)], true, []⟩) ?_ (by simp)).trans rfl
  exact Qp (r := ⟨.int 3, true, []⟩) rfl (Qp (QdN (a := 10) (k := 9) (by decide) (by decide)) (Qp (QfS (a := 10 ^ 30) (b := 1) (QdN (a := 10) (k := 30) (by decide) (by decide)) rfl (Qb3 _ _) rfl) (QO _)))
 have efar : ∀ (ρ : En), ρ[0]? = some (some (.lst (ns.map .int), false)) -> Qo (QY (Qb (dC (.int 3)) (Qb (dOp Qcr (dC (.int 10)) (dC (.int 9))) (Qb (dOp Qbn (dOp Qcr (dC (.int 10)) (dC (.int 30))) (dC (.int 1))) Qf)))) (dOp QaW (Qi 2 dc [] (Qb (Qa 0) (Qb (dC (.int 1)) Qf))) (dC (.int 3))) ρ = some ⟨.int far, true, []⟩ := λ ρ h0 => Qgo (ns := [3, 10 ^ 9, (10 : Int) ^ 30 - 1]) (i := F 1 % 3) (v := far) (elst ρ) rfl (QaR (a := F 1) (b := 3) (cell _ 1 (by decide) h0) rfl rfl rfl (by decide)) rfl y1 hfar
 clear elst hfar
 have key : Run (QcW dc ds dt dg) [some (.lst (ns.map .int), false), none, none, none, none, none] (Rt λ d fr => ∃ n f row, d = .lst [Qd n n f, Qc n row] /\ Drawn n f row) := by
  refine Qz (QT (b := decide (F 0 / 10 % 8 = 1)) (QE (Qbs (a := F 0 / 10 % 8) (b := 1) (QaR (a := F 0 / 10) (b := 8) (Qe1 (a := F 0) (b := 10) (cell _ 0 (by decide) rfl) rfl rfl rfl (by decide) (by decide)) rfl rfl rfl (by decide)) rfl rfl rfl) rfl) (λ _ => ?_) (λ _ => Qs ?_))
  ·obtain ⟨n, f, row, fr, e, hd⟩ := hs ns hl hb
   exact Qz (Qbj (QkT (r := ⟨[.lst (ns.map .int)], false, []⟩) rfl e rfl rfl rfl) ⟨n, f, row, rfl, hd⟩)
  have z1 := ZS (F 0) (by decide : (5 : Int) ≠ 0)
  have z2 := ZM (F 0) (by decide : (0 : Int) < 5)
  obtain ⟨n, en⟩ : ∃ n : Nat, 1 + F 0 % 5 = (n : Int) := ⟨(1 + F 0 % 5).toNat, by omega⟩
  have n8 : n <= 8 := by omega
  have n1 : 1 <= n := by omega
  refine run_seq (Qh (Qcc (a := 1) (b := F 0 % 5) rfl rfl (QaR (a := F 0) (b := 5) (cell _ 0 (by decide) rfl) rfl rfl rfl (by decide)) rfl) ?_)
  rw [Qq, en]
  refine run_seq (Qh (QaR (a := F 1 / 3) (b := 6) (Qe1 (a := F 1) (b := 3) (cell _ 1 (by decide) rfl) rfl rfl rfl (by decide) (by decide)) rfl rfl rfl (by decide)) ?_)
  rw [Qq]
  generalize F 1 / 3 % 6 = kind
  refine run_seq (Qh (r := ⟨.int far, false, []⟩) (by unfold Q9; rw [efar _ rfl]; rfl) ?_)
  rw [Qbz rfl]
  refine QaP (P := λ ρ => ∃ far : Int, (1 <= far /\ far <= 10 ^ 30) /\ (kind < 3 -> far <= 10 ^ 9) /\ ρ = [some (.lst (ns.map .int), false), some (.int n, true), some (.int kind, true), some (.int far, true), none, none]) ?_ ?_
  ·refine QT (b := decide (kind < 3)) (QE (QaF (d := .bl (decide (kind < 3))) (ra := ⟨.int kind, true, []⟩) (rb := ⟨.int 3, true, []⟩) rfl rfl rfl) rfl) (λ h => ?_) (λ h => Qs ⟨far, hfb, λ q => absurd q (of_decide_eq_false h), rfl⟩)
   refine run_seq (Qh (QrD (a := far) (b := 10 ^ 9) (ra := ⟨.int far, true, []⟩) rfl rfl (QdN (a := 10) (k := 9) (by decide) (by decide)) rfl) (Qs ?_))
   rw [Qq]
   refine ⟨_, ?_, λ _ => ?_, rfl⟩
   ·have : (10 : Int) ^ 9 <= 10 ^ 30 := by decide +kernel
    have : (1 : Int) <= 10 ^ 9 := by decide +kernel
    generalize (10 : Int) ^ 9 = u at *
    generalize (10 : Int) ^ 30 = v at *
    split <;> omega
   ·generalize (10 : Int) ^ 9 = u at *
    split <;> omega
  clear hfb efar
  rintro ρ ⟨far, hfb, hf9, rfl⟩
  obtain ⟨f, ef, hf⟩ := ht ns hl hb 2 n far (by decide) n8 (by omega)
  obtain ⟨g, eg, hg'⟩ := ht ns hl hb 30 n far (by decide) n8 (by omega)
  refine run_seq (Qh (Qw (r := ⟨[.lst (ns.map .int), .int ((2 : Nat) : Int), .int n, .int far], false, []⟩) rfl ef rfl) ?_)
  rw [Qq]
  refine run_seq (Qh (Qgr (Qw (r := ⟨[.lst (ns.map .int), .int ((30 : Nat) : Int), .int n, .int far], false, []⟩) rfl eg rfl) n1) ?_)
  rw [Qq]
  have hrow : ∀ j, j < n -> (g 0 j).natAbs <= 2 ^ 240 := λ j hj => QgE (hg' 0 j (by omega) hj) hfb.2
  have htab : ∀ i j, i < n -> j < n -> (f i j).natAbs <= 2 ^ 240 := λ i j hi hj => QgE (hf i j hi hj) hfb.2
  change Run _ [some (.lst (ns.map .int), false), some (.int n, true), some (.int kind, true), some (.int far, true), some (Qd n n f, true), some (Qc n (g 0), true)] _
  refine QaP (P := λ ρ => ∃ f' : Nat -> Nat -> Int, (∀ i j, i < n -> j < n -> (f' i j).natAbs <= 2 ^ 240) /\ (kind = 1 ∨ kind = 2 -> InT n (10 ^ 9) f') /\ ρ = [some (.lst (ns.map .int), false), some (.int n, true), some (.int kind, true), some (.int far, true), some (Qd n n f', true), some (Qc n (g 0), true)]) ?_ ?_
  ·refine QT (b := decide (kind = 0) && decide ((n : Int) = 1)) (Qq3 (QE (Qbs (a := kind) (b := 0) (ra := ⟨.int kind, true, []⟩) rfl rfl rfl rfl) rfl) (QE (Qbs (a := n) (b := 1) (ra := ⟨.int n, true, []⟩) rfl rfl rfl rfl) rfl)) (λ h => ?_) (λ h => ?_)
   ·rw [Zg] at h
    have k0 : kind = 0 := of_decide_eq_true h.1
    have e1 : n = 1 := by have := of_decide_eq_true h.2; omega
    subst e1
    refine run_seq (Qh (r := ⟨Qd 1 1 λ _ _ => 0, true, []⟩) rfl (Qs ?_))
    rw [Qq]
    exact ⟨λ _ _ => 0, λ _ _ _ _ => ZK _, λ h => by omega, rfl⟩
   ·refine run_seq (QT (b := decide (kind = 0)) (QE (Qbs (a := kind) (b := 0) (ra := ⟨.int kind, true, []⟩) rfl rfl rfl rfl) rfl) (λ h0 => ?_) (λ h0 => Qs (Qs ?_)))
    ·have k0 : kind = 0 := of_decide_eq_true h0
     have f9 := hf9 (by omega)
     refine run_seq (QnB (n := n) (k := n - 1) (f := f) (p := λ j => f 0 j * (F 1 / 18 % 9 - 4)) rfl ((QfS (a := n) (b := 1) (ra := ⟨.int n, true, []⟩) rfl rfl rfl rfl).trans (by rw [show ((n - 1 : Nat) : Int) = (n : Int) - 1 by omega])) (Q6 (toD := λ (j : Nat) => .int (f 0 j)) (out := λ (j : Nat) => .int (f 0 j * (F 1 / 18 % 9 - 4))) (List.range n) (QbS (Qgr (fa := Qa 4) (f := f) (fr := true) (M := [4]) rfl n1) rfl) rfl λ j hj => ⟨[none, some (.int (f 0 j), true), some (.lst (ns.map .int), false)], rfl, ⟨.int (f 0 j * (F 1 / 18 % 9 - 4)), true, []⟩, ?_, rfl, rfl⟩) (by omega) (Qs ?_))
     ·refine QaD (a := f 0 j) (b := F 1 / 18 % 9 - 4) rfl rfl (QfS (a := F 1 / 18 % 9) (b := 4) (QaR (a := F 1 / 18) (b := 9) (Qe1 (a := F 1) (b := 18) (Qw (r := ⟨[.lst (ns.map .int), .int ((1 : Nat) : Int)], false, []⟩) rfl (hF 1 (by decide)).1 rfl) rfl rfl rfl (by decide) (by decide)) rfl rfl rfl (by decide)) rfl rfl rfl) rfl (Qjf (by omega))
     ·refine Qs ⟨_, λ i j hi hj => ?_, λ h => by omega, rfl⟩
      show (if i = n - 1 then f 0 j * (F 1 / 18 % 9 - 4) else f i j).natAbs <= _
      split
      ·have h1 := hf 0 j (by omega) hj
       rw [ZaG]
       have h2 : (f 0 j).natAbs <= 10 ^ 9 := by omega
       have h3 : (F 1 / 18 % 9 - 4).natAbs <= 9 := by omega
       exact Zr (ZaO h2 h3) (by decide +kernel)
      ·exact htab i j hi hj
    ·exact ⟨f, htab, λ h i j hi hj => by have h1 := hf i j hi hj; have h2 := hf9 (by omega); omega, rfl⟩
  rintro ρ ⟨f', hf', h12, rfl⟩
  refine QaP (P := λ ρ => ∃ row : Nat -> Int, (∀ j, j < n -> (row j).natAbs <= 2 ^ 240) /\ ρ = [some (.lst (ns.map .int), false), some (.int n, true), some (.int kind, true), some (.int far, true), some (Qd n n f', true), some (Qc n row, true)]) ?_ ?_
  ·refine QT (b := decide (kind = 1) || decide (kind = 2)) (Qcw (QE (Qbs (a := kind) (b := 1) (ra := ⟨.int kind, true, []⟩) rfl rfl rfl rfl) rfl) (QE (Qbs (a := kind) (b := 2) (ra := ⟨.int kind, true, []⟩) rfl rfl rfl rfl) rfl)) (λ h => ?_) (λ h => Qs ⟨g 0, hrow, rfl⟩)
   have hk : kind = 1 ∨ kind = 2 := by
    rw [ZbA] at h
    rcases h with h | h
    ·exact .inl (of_decide_eq_true h)
    ·exact .inr (of_decide_eq_true h)
   obtain ⟨w, ew, hw⟩ := hg n f' (λ j => F (40 + j)) n8 (λ i hi => (hF (40 + i) (by omega)).2) (h12 hk)
   refine run_seq (Qh (Qw (Qp (r := ⟨Qd n n f', true, [4]⟩) rfl (Qp (r := ⟨Qc n λ j => F (40 + j), true, []⟩) (Q6 (toD := λ (j : Nat) => .int (j : Int)) (out := λ (j : Nat) => .int (F (40 + j))) (List.range n) (QbL (n := n) (r := ⟨.int n, true, []⟩) rfl rfl (by omega)) rfl λ j hj => ⟨[none, some (.int j, true), some (.lst (ns.map .int), false)], rfl, ⟨.int (F (40 + j)), true, []⟩, ?_, rfl, rfl⟩) (QO _))) ew rfl) (Qs ?_))
   ·have hj := ZC.mp hj
    refine Qw (Qp (r := ⟨.lst (ns.map .int), false, []⟩) rfl (Qp (Qcc (a := 40) (b := j) rfl rfl (rb := ⟨.int j, true, []⟩) rfl rfl) (QO _))) ?_ rfl
    have := (hF (40 + j) (by omega)).1
    rw [show ((40 + j : Nat) : Int) = 40 + (j : Int) by simp] at this
    exact this
   ·rw [Qq]
    exact ⟨w, hw, rfl⟩
  rintro ρ ⟨row, hrow', rfl⟩
  exact Qz (Qbj (r := ⟨.lst [Qd n n f', Qc n row], true, [4, 5]⟩) rfl ⟨n, f', row, rfl, n1, n8, hf', hrow'⟩)
 obtain ⟨o, h1, h2⟩ := key
 cases o with
 | rt d fr =>
  obtain ⟨n, f, row, rfl, hd⟩ := h2
  exact ⟨n, f, row, fr, by show Option.bind (QcW dc ds dt dg [some (.lst (ns.map .int), false), none, none, none, none, none]) outD = _; rw [h1]; rfl, hd⟩
 | _ => exact h2.elim
theorem Qpw {f : DS} {fx : DX} {sub : Str -> Str -> Option Bool} {y y' : Str} {h h' : DS} {r : List Hd} {x : Str} {ρ ρ' : En} {Q : Out -> Prop} (a : Ap f fx) (e : fx ρ = some (x, ρ')) (hs : sub x y = some false) (hs' : sub x y' = some true) (q : Run h' ρ' Q) : Run (QdY f fx sub ((y, none, h) :: (y', none, h') :: r)) ρ Q := by
 obtain ⟨o, h1, h2⟩ := q
 refine ⟨o, ?_, h2⟩
 unfold QdY
 rw [a ρ (by rw [e]; exact λ z => by cases z)]
 dsimp only
 rw [e, Za]
 unfold Qhz
 rw [hs, Za, if_neg ZE]
 unfold Qhz
 rw [hs', Za, if_pos rfl]
 exact h1
noncomputable def Qe4 (QJ : Den) (x_shared_out : List D -> Option Str) (sub : Str -> Str -> Option Bool) : DS := (Qe (Qt 2 (dC (.str "taken"))) (Qe (QdY (Qe (Qds (Qi 2 QJ [] (Qb (Qa 0) (Qb (Qa 1) Qf)))) Ql) (Qav (Qds (Qi 2 QJ [] (Qb (Qa 0) (Qb (Qa 1) Qf)))) (Qbx 2 x_shared_out (Qb (Qa 0) (Qb (Qa 1) Qf))) xNo) sub [("NoRings", none, (Qe (Qt 2 (dC (.str "rings"))) Ql)), ("NoRow", none, (Qe (Qt 2 (dC (.str "row"))) Ql))]) (Qe (QL (Qa 2)) Ql)))
structure Qml (sub : Str -> Str -> Option Bool) : Prop where
 rh : sub "NoRow" "HeapError" = some true
 rv : sub "NoRow" "ValueError" = some true
 rr : sub "NoRow" "NoRow" = some true
 rg : sub "NoRow" "NoRings" = some false
 gh : sub "NoRings" "HeapError" = some true
 gv : sub "NoRings" "ValueError" = some true
 gr : sub "NoRings" "NoRow" = some false
 gg : sub "NoRings" "NoRings" = some true
def Qi4 (xs' : List D -> Option Str) (d : Den) : Prop := (∀ a b, xs' [.lst a, .lst b] = some "NoRow" -> d [.lst a, .lst b] = some (.str "row", true)) /\ ∀ a b, xs' [.lst a, .lst b] = some "NoRings" -> d [.lst a, .lst b] = some (.str "rings", true)
theorem Qow {ds : Den} {xs' : List D -> Option Str} {sub : Str -> Str -> Option Bool} (ap : ApF ds xs') (w : Qml sub) : Qi4 xs' (Qn 3 (Qe4 ds xs' sub)) := by
 refine ⟨λ a b hx => ?_, λ a b hx => ?_⟩
 ·refine Qae ?_
  refine run_seq (Qh (r := ⟨.str "taken", true, []⟩) rfl ?_)
  rw [Qq]
  refine run_seq (Qpw (x := "NoRow") (Qdx (Qcf ap) QeG) (QhX ap (r := ⟨[.lst a, .lst b], _, _⟩) rfl rfl hx) w.rg w.rr ?_)
  refine run_seq (Qh (r := ⟨.str "row", true, []⟩) rfl (Qs ?_))
  rw [Qq]
  exact QM (r := ⟨.str "row", true, []⟩) rfl ⟨rfl, rfl⟩
 ·refine Qae ?_
  refine run_seq (Qh (r := ⟨.str "taken", true, []⟩) rfl ?_)
  rw [Qq]
  refine run_seq (Qpn (x := "NoRings") (Qdx (Qcf ap) QeG) (QhX ap (r := ⟨[.lst a, .lst b], _, _⟩) rfl rfl hx) w.gg ?_)
  refine run_seq (Qh (r := ⟨.str "rings", true, []⟩) rfl (Qs ?_))
  rw [Qq]
  exact QM (r := ⟨.str "rings", true, []⟩) rfl ⟨rfl, rfl⟩
noncomputable def QeF (QJ : Den) (x_shared_out : List D -> Option Str) (sub : Str -> Str -> Option Bool) : DS := (Qe (Qt 3 (dC (.bl false))) (Qe (QdY (Qe (Qds (Qi 2 QJ [] (Qb (Qa 0) (Qb (Qa 1) Qf)))) Ql) (Qav (Qds (Qi 2 QJ [] (Qb (Qa 0) (Qb (Qa 1) Qf)))) (Qbx 2 x_shared_out (Qb (Qa 0) (Qb (Qa 1) Qf))) xNo) sub [("HeapError", some 4, (Qe (Qt 3 (Qen (Qfy sub ["ValueError"] (Qa 4)) (Qen (dOp gEq (Qfy sub ["NoRings"] (Qa 4)) (Qa 2)) (dOp gNe (Qfy sub ["NoRow"] (Qa 4)) (Qa 2))))) Ql))]) (Qe (QL (Qa 3)) Ql)))
def QiN (xs' : List D -> Option Str) (d : Den) : Prop := (∀ a b, xs' [.lst a, .lst b] = some "NoRow" -> d [.lst a, .lst b, .bl false] = some (.bl true, true)) /\ ∀ a b, xs' [.lst a, .lst b] = some "NoRings" -> d [.lst a, .lst b, .bl true] = some (.bl true, true)
theorem QlY {fa fb : DE} {ρ : En} {a b : Bool} (ha : fa ρ = some ⟨.bl a, true, []⟩) (hb : fb ρ = some ⟨.bl b, true, []⟩) : dOp gEq fa fb ρ = some ⟨.bl (a == b), true, []⟩ := by
 refine QaF ha hb ?_
 cases a <;> cases b <;> rfl
theorem QlV {fa fb : DE} {ρ : En} {a b : Bool} (ha : fa ρ = some ⟨.bl a, true, []⟩) (hb : fb ρ = some ⟨.bl b, true, []⟩) : dOp gNe fa fb ρ = some ⟨.bl (a != b), true, []⟩ := by
 refine QaF ha hb ?_
 cases a <;> cases b <;> rfl
theorem Qpi {ds : Den} {xs' : List D -> Option Str} {sub : Str -> Str -> Option Bool} (ap : ApF ds xs') (w : Qml sub) : QiN xs' (Qn 5 (QeF ds xs' sub)) := by
 refine ⟨λ a b hx => ?_, λ a b hx => ?_⟩
 ·refine Qae ?_
  refine run_seq (Qh (r := ⟨.bl false, true, []⟩) rfl ?_)
  rw [Qq]
  refine run_seq (Qkg (x := "NoRow") (Qdx (Qcf ap) QeG) (QhX ap (r := ⟨[.lst a, .lst b], _, _⟩) rfl rfl hx) w.rh ?_)
  refine run_seq (Qh (QgI (Qe7 (x := "NoRow") rfl (any_cons w.rv (ys := []) rfl)) (QgI (QlY (b := false) (Qe7 (x := "NoRow") rfl (any_cons w.rg (ys := []) rfl)) rfl) (QlV (b := false) (Qe7 (x := "NoRow") rfl (any_cons w.rr (ys := []) rfl)) rfl))) (Qs ?_))
  rw [Qq]
  exact QM (r := ⟨.bl true, true, []⟩) rfl ⟨rfl, rfl⟩
 ·refine Qae ?_
  refine run_seq (Qh (r := ⟨.bl false, true, []⟩) rfl ?_)
  rw [Qq]
  refine run_seq (Qkg (x := "NoRings") (Qdx (Qcf ap) QeG) (QhX ap (r := ⟨[.lst a, .lst b], _, _⟩) rfl rfl hx) w.gh ?_)
  refine run_seq (Qh (QgI (Qe7 (x := "NoRings") rfl (any_cons w.gv (ys := []) rfl)) (QgI (QlY (b := true) (Qe7 (x := "NoRings") rfl (any_cons w.gg (ys := []) rfl)) rfl) (QlV (b := true) (Qe7 (x := "NoRings") rfl (any_cons w.gr (ys := []) rfl)) rfl))) (Qs ?_))
  rw [Qq]
  exact QM (r := ⟨.bl true, true, []⟩) rfl ⟨rfl, rfl⟩
noncomputable def Qjt (Qbp : Den) (QA : Den) (Qao : Den) (Qaj : Den) (Qbq : Den) (QbO : Den) (QJ : Den) (Qad : Den) : DS := (Qe (Qgv (.tp [1, 2]) (Qi 1 Qbp [] (Qb (Qa 0) Qf))) (Qe (Qt 3 (Q9 (Qo (QY (Qb (QU (Qa 2) (QY (Qb (dC (.int 1)) Qf))) (Qb (Qbc (Qa 2) (Qas (dC (.int 1))) Qaq) Qf))) (dOp QaW (dOp Qco (Qi 2 QA [] (Qb (Qa 0) (Qb (dC (.int 0)) Qf))) (dC (.int 5))) (dC (.int 2)))))) (Qe (sIf (bOr (QG (dOp gNe (Qi 2 Qao [] (Qb (Qa 1) (Qb (Qa 3) Qf))) (dC (.str "row")))) (QcZ (QG (Qi 3 Qaj [] (Qb (Qa 1) (Qb (Qa 3) (Qb (dC (.bl false)) Qf))))))) (Qe (QL (dC (.bl false))) Ql) Ql) (Qe (sIf (QG (dOp gEq (Qi 1 Qbq [] (Qb (Qa 1) Qf)) (dC (.int 0)))) (Qe (QL (Qen (dOp gEq (Qi 2 Qao [] (Qb (Qa 1) (Qb (Qa 2) Qf))) (dC (.str "rings"))) (Qi 3 Qaj [] (Qb (Qa 1) (Qb (Qa 2) (Qb (dC (.bl true)) Qf)))))) Ql) Ql) (Qe (Qt 4 (QY (Qb (Qi 1 QbO [] (Qb (Qa 1) Qf)) (Qb (dList (Qb (Qa 2) Qf)) Qf)))) (Qe (Qt 5 (Qi 2 QJ [] (Qb (Qo (Qa 4) (dC (.int 0))) (Qb (Qo (Qa 4) (dC (.int 1))) Qf)))) (Qe (sIf (bOr (QcZ (QG (Qi 3 Qad [] (Qb (Qa 5) (Qb (Qa 1) (Qb (Qa 2) Qf)))))) (QG (dOp gNe (Qa 4) (QY (Qb (Qa 1) (Qb (Qa 2) Qf)))))) (Qe (QL (dC (.bl false))) Ql) Ql) (Qe (Qt 6 (QU (Qbc (Qo (Qa 1) (dC (.int 0))) (Qas (dC (.int 1))) Qaq) (Qbc (Qo (Qa 1) (dC (.int 0))) Qaq (Qas (dC (.int 1)))))) (Qe (sIf (bOr (QcZ (QG (Qi 3 Qad [] (Qb (Qi 2 QJ [] (Qb (Qa 1) (Qb (Qa 6) Qf))) (Qb (Qa 1) (Qb (Qa 6) Qf)))))) (QcZ (QG (Qi 3 Qad [] (Qb (Qa 5) (Qb (Qa 1) (Qb (Qa 2) Qf))))))) (Qe (QL (dC (.bl false))) Ql) Ql) (Qe (QeI 5 (Qim Qc5 (dC (.int 0))) (dC (.int 0))) (Qe (QL (Qi 3 Qad [] (Qb (Qi 2 QJ [] (Qb (Qa 1) (Qb (Qa 2) Qf))) (Qb (Qa 1) (Qb (Qa 2) Qf))))) Ql)))))))))))
theorem QqG {fa fb : DE} {ρ : En} {ra rb : R} {d : D} (ha : fa ρ = some ra) (ea : ra.d = d) (hb : fb ρ = some rb) (eb : rb.d = d) (hs : d.sim 8 = true) : dOp gEq fa fb ρ = some ⟨.bl true, true, []⟩ := by
 refine QaF ha hb ?_
 rw [ea, eb]
 unfold gEq
 rw [hs, Qld hs]; rfl
theorem Qn0 {ρ : En} {fa : DE} {r : R} {a b : D} {i j : Nat} {Q : Out -> Prop} (h : fa ρ = some r) (e : r.d = .lst [a, b]) (q : Q (.nx (((Q4 r.norm.M ρ).set i (some (a, a.flat))).set j (some (b, b.flat))))) : Run (Qgv (.tp [i, j]) fa) ρ Q := by
 refine ⟨_, ?_, q⟩
 unfold Qgv
 rw [h, Za, e]
 rfl
theorem QnT {x m : Nat} {f : Nat -> Int} {b : D} {ρ : En} {Q : Out -> Prop} (hx : ρ[x]? = some (some (.tup [Qc m f, b], true))) (hm : m < 1000) (q : Q (.nx (ρ.set x (some (.tup [Qc (m + 1) (up f m 0), b], true))))) : Run (QeI x (Qim Qc5 (dC (.int 0))) (dC (.int 0))) ρ Q := by
 refine ⟨_, ?_, q⟩
 unfold QeI
 rw [hx]
 have hp : Qim Qc5 (dC (.int 0)) ρ = some [0] := rfl
 have hd : QcA (.tup [.lst ((List.range m).map λ i => D.int (f i)), b]) [0] = some (.lst ((List.range m).map λ i => D.int (f i))) := rfl
 have hu' : ∀ d, Qbr [0] (.tup [.lst ((List.range m).map λ i => D.int (f i)), b]) d = .tup [d, b] := λ d => rfl
 have ha : dC (.int 0) ρ = some ⟨.int 0, true, []⟩ := rfl
 have hn : (HS.R.mk (.int 0) true []).norm = ⟨.int 0, true, []⟩ := rfl
 have e : ((List.range m).map λ i => D.int (f i)) ++ [.int 0] = (List.range (m + 1)).map λ i => D.int (up f m 0 i) := by
  rw [ZaZ, Zam]
  congr 1
  ·refine ZA λ i hi => ?_
   rw [Qc7, if_neg (by have := ZC.mp hi; omega)]
  ·show _ = [D.int (up f m 0 m)]
   rw [Qc7, if_pos rfl]
 simp only [hp, Za, ha, Qc, hd, QhW, hn, QhP, Zw, Zy, hu', e]
 rw [if_pos (by simp; omega)]
 rfl
set_option maxHeartbeats 0 in
theorem Qs6 {dd dc dr dor dme dcp ds dsh : Den} {xs' : List D -> Option Str} (hd : Qi6 dd) (hc : QdV dc) (hr : Qi4 xs' dr) (ho : QiN xs' dor) (hme : Qa2 8 dme) (hcp : Qkk dcp) (hs : Qgb ds) (hx : QiB xs') (hsh : Qhf dsh) (ns : List Int) (hl : ns.length <= 63) (hbits : ∀ k, QbF (ns.getD k 0)) : Qn 7 (Qjt dd dc dr dor dme dcp ds dsh) [.lst (ns.map .int)] = some (.bl true, true) := by
 obtain ⟨F, hF⟩ := hc ns hl hbits
 obtain ⟨n, f, row, fr, ed, D0⟩ := hd ns hl hbits
 have n1 := D0.n1
 have n8 := D0.n8
 have cell0 : ∀ (ρ : En), ρ[0]? = some (some (.lst (ns.map .int), false)) -> Qi 2 dc [] (Qb (Qa 0) (Qb (dC (.int 0)) Qf)) ρ = some ⟨.int (F 0), true, []⟩ := λ ρ h0 => Qw (Qp (QcS h0) (Qp (Qb3 _ _) (QO _))) (hF 0 (by decide)).1 rfl
 have z1 := ZS (F 0 / 5) (by decide : (2 : Int) ≠ 0)
 have z2 := ZM (F 0 / 5) (by decide : (0 : Int) < 2)
 refine Qae ?_
 refine run_seq (Qn0 (QkT (r := ⟨[.lst (ns.map .int)], false, []⟩) rfl ed rfl rfl rfl) rfl ?_)
 have e0 : (((Q4 (HS.R.mk (.lst [Qd n n f, Qc n row]) fr []).norm.M (QbQ 7 [.lst (ns.map .int)])).set 1 (some (Qd n n f, (Qd n n f).flat))).set 2 (some (Qc n row, (Qc n row).flat))) = [some (.lst (ns.map .int), false), some (Qd n n f, false), some (Qc n row, false), none, none, none, none] := by cases fr <;> rfl
 rw [e0]
 clear e0
 have key : ∃ xs b M, xs.length ≠ n /\ Qo (QY (Qb (QU (Qa 2) (QY (Qb (dC (.int 1)) Qf))) (Qb (Qbc (Qa 2) (Qas (dC (.int 1))) Qaq) Qf))) (dOp QaW (dOp Qco (Qi 2 dc [] (Qb (Qa 0) (Qb (dC (.int 0)) Qf))) (dC (.int 5))) (dC (.int 2))) [some (.lst (ns.map .int), false), some (Qd n n f, false), some (Qc n row, false), none, none, none, none] = some ⟨.lst xs, b, M⟩ /\ M = [] := by
  have e1 : QY (Qb (QU (Qa 2) (QY (Qb (dC (.int 1)) Qf))) (Qb (Qbc (Qa 2) (Qas (dC (.int 1))) Qaq) Qf)) [some (.lst (ns.map .int), false), some (Qd n n f, false), some (Qc n row, false), none, none, none, none] = some ⟨.lst [Qc (n + 1) (up row n 1), Qc (n - 1) λ i => row (1 + i)], true, []⟩ := (QeU (Qp (Qfu (m := n) (f := row) (x := 1) (ra := ⟨Qc n row, false, []⟩) rfl rfl rfl (by omega)) (Qp (Qfv (m := n) (n := 1) (f := row) (ra := ⟨Qc n row, false, []⟩) rfl rfl (Qb3 _ _) rfl n1) (QO _))) (by simp)).trans rfl
  have e2 := QaR (a := F 0 / 5) (b := 2) (Qe1 (a := F 0) (b := 5) (cell0 [some (.lst (ns.map .int), false), some (Qd n n f, false), some (Qc n row, false), none, none, none, none] rfl) rfl (Qb3 _ _) rfl (by decide) (by decide)) rfl (Qb3 (.int 2) [some (.lst (ns.map .int), false), some (Qd n n f, false), some (Qc n row, false), none, none, none, none]) rfl (by decide)
  have cond : F 0 / 5 % 2 = 0 ∨ F 0 / 5 % 2 = 1 := by omega
  unfold Qo
  rw [e1, Za, e2, Za]
  rcases cond with q | q
  ·rw [q]
   exact ⟨(List.range (n + 1)).map λ i => .int (up row n 1 i), _, _, by simp, rfl, rfl⟩
  ·rw [q]
   exact ⟨(List.range (n - 1)).map λ i => .int (row (1 + i)), _, _, by simp; omega, rfl, rfl⟩
 obtain ⟨xs, b, M, lx, ex, rfl⟩ := key
 refine run_seq (Qh (r := ⟨.lst xs, false, []⟩) ((Qfz ex).trans rfl) ?_)
 change Run _ [some (.lst (ns.map .int), false), some (Qd n n f, false), some (Qc n row, false), some (.lst xs, false), none, none, none] _
 have hxr := hx.row n f xs lx
 refine Qz (QT (b := false) (Qcw (a := false) (b := false) (QE (b := false) (Qnp (d := .str "row") (Qw (r := ⟨[Qd n n f, .lst xs], false, []⟩) rfl (hr.1 _ _ hxr) rfl) rfl (rb := ⟨.str "row", true, []⟩) rfl rfl (by decide +kernel)) rfl) (Qb4 (b := true) (QE (b := true) (Qw (r := ⟨[Qd n n f, .lst xs, .bl false], false, []⟩) rfl (ho.1 _ _ hxr) rfl) rfl))) (λ h => by cases h) (λ _ => Qs ?_))
 refine Qz (QT (b := decide (det n f = 0)) (QE (Qbs (a := det n f) (b := 0) (Qw (r := ⟨[Qd n n f], false, []⟩) rfl (hme n f n1 n8 n8 λ j hj r hr' => D0.tab j r hj hr') rfl) rfl rfl rfl) rfl) (λ h => ?_) (λ h => Qs ?_))
 ·have hxg := hx.rings n f row n8 D0.tab D0.row (of_decide_eq_true h)
  refine Qz (Qbj (QsP (a := true) (b := true) (QqG (d := .str "rings") (rb := ⟨.str "rings", true, []⟩) (Qw (r := ⟨[Qd n n f, Qc n row], false, []⟩) rfl (hr.2 _ _ hxg) rfl) rfl rfl rfl (by decide +kernel)) (Qw (r := ⟨[Qd n n f, Qc n row, .bl true], false, []⟩) rfl (ho.2 _ _ hxg) rfl)) ⟨rfl, rfl⟩)
 have nz : det n f ≠ 0 := of_decide_eq_false h
 have told : ∀ w : Nat -> Int, (∀ j, j < n -> (w j).natAbs <= 2 ^ 240) -> ∃ tops q, ds [Qd n n f, Qc n w] = some (.tup [Qc n tops, .int q], true) /\ dsh [.tup [Qc n tops, .int q], Qd n n f, Qc n w] = some (.bl true, true) := λ w hw => by
  obtain ⟨tops, q, e, h1, h2, h3, h4, h5⟩ := hs n f w n8 D0.tab hw nz
  exact ⟨tops, q, e, hsh n f w tops q n8 D0.tab hw ⟨h1, h2, h3, h4, h5⟩⟩
 obtain ⟨tops, q, e1, e2⟩ := told row D0.row
 refine run_seq (Qh (r := ⟨.lst [Qd n n f, Qc n row], true, []⟩) ((QeU (Qp (Qw (r := ⟨[Qd n n f], false, []⟩) rfl (hcp n n f) rfl) (Qp (Qka (m := n) (f := row) (rs := ⟨[Qc n row], false, []⟩) rfl rfl) (QO _))) (by simp)).trans rfl) ?_)
 rw [Qq]
 refine run_seq (Qh (Qw (r := ⟨[Qd n n f, Qc n row], true, [4, 4]⟩) rfl e1 rfl) ?_)
 rw [Qq]
 change Run _ [some (.lst (ns.map .int), false), some (Qd n n f, false), some (Qc n row, false), some (.lst xs, false), some (.lst [Qd n n f, Qc n row], true), some (.tup [Qc n tops, .int q], true), none] _
 have sH : (D.lst [Qd n n f, Qc n row]).sim 8 = true := by
  simp only [D.sim, List.all_cons, List.all_nil, Bool.and_true, Zg]
  exact ⟨Qq8 5 n n f, QlX 6 n row⟩
 refine Qz (QT (b := false) (Qcw (a := false) (b := false) (Qb4 (b := true) (QE (b := true) (Qw (r := ⟨[.tup [Qc n tops, .int q], Qd n n f, Qc n row], false, [5]⟩) rfl e2 rfl) rfl)) (QE (b := false) (Qnp (d := .lst [Qd n n f, Qc n row]) (ra := ⟨.lst [Qd n n f, Qc n row], true, [4]⟩) rfl rfl (rb := ⟨.lst [Qd n n f, Qc n row], false, []⟩) rfl rfl sH) rfl)) (λ h => by cases h) (λ _ => Qs ?_))
 have er0 : ∀ {ρ : En}, ρ[1]? = some (some (Qd n n f, false)) -> Qo (Qa 1) (dC (.int 0)) ρ = some ⟨Qc n (f 0), false, []⟩ := λ {ρ} h1 => Qgr ((QcS h1).trans rfl) n1
 refine run_seq (Qh (Qkt (m := n - 1) (k := 1) (f := λ i => f 0 (1 + i)) (g := f 0) (Qfv (m := n) (n := 1) (f := f 0) (er0 rfl) rfl (Qb3 _ _) rfl n1) rfl (Qrz (m := n) (n := 1) (f := f 0) (er0 rfl) rfl (Qb3 _ _) rfl n1) rfl (by omega)) ?_)
 rw [Qq, show n - 1 + 1 = n by omega]
 have ho' : ∀ j, j < n -> ((λ i => if i < n - 1 then f 0 (1 + i) else f 0 (i - (n - 1))) j).natAbs <= 2 ^ 240 := λ j hj => by
  show (if j < n - 1 then f 0 (1 + j) else f 0 (j - (n - 1))).natAbs <= _
  split
  ·exact D0.tab 0 _ (by omega) (by omega)
  ·exact D0.tab 0 _ (by omega) (by omega)
 generalize (λ i => if i < n - 1 then f 0 (1 + i) else f 0 (i - (n - 1))) = w at ho'
 obtain ⟨tops2, q2, e3, e4⟩ := told w ho'
 change Run _ [some (.lst (ns.map .int), false), some (Qd n n f, false), some (Qc n row, false), some (.lst xs, false), some (.lst [Qd n n f, Qc n row], true), some (.tup [Qc n tops, .int q], true), some (Qc n w, true)] _
 refine Qz (QT (b := false) (Qcw (a := false) (b := false) (Qb4 (b := true) (QE (b := true) (Qw (Qp (Qw (r := ⟨[Qd n n f, Qc n w], false, [6]⟩) rfl e3 rfl) (Qp (r := ⟨Qd n n f, false, []⟩) rfl (Qp (r := ⟨Qc n w, true, [6]⟩) rfl (QO _)))) e4 rfl) rfl)) (Qb4 (b := true) (QE (b := true) (Qw (r := ⟨[.tup [Qc n tops, .int q], Qd n n f, Qc n row], false, [5]⟩) rfl e2 rfl) rfl))) (λ h => by cases h) (λ _ => Qs ?_))
 refine run_seq (QnT (m := n) (f := tops) (b := .int q) rfl (by omega) ?_)
 exact QM (Qw (Qp (Qw (r := ⟨[Qd n n f, Qc n row], false, []⟩) rfl e1 rfl) (Qp (r := ⟨Qd n n f, false, []⟩) rfl (Qp (r := ⟨Qc n row, false, []⟩) rfl (QO _)))) e2 rfl) ⟨rfl, rfl⟩
end HS
theorem HS.some_of {α : Type} {x : Option α} {d : α} (h : x.isSome = true) : x = some (x.getD d) := by cases x with | none => cases h | some a => rfl
namespace Law
open PySem L2 HS
noncomputable section
def top (i : Nat) : Stmt := PySem.Challenge.pw_heapstill_k34_shared_out.main.body.getD i (.Pass ⟨0, 0, 0, 0⟩)
abbrev cst : List (Str × Int) := []
abbrev Sc (s : Stmt) (P : List Str) : Prop := Qbm (namesOf (Qg s)) P (Qg s)
theorem scM {s : Stmt} {P : List Str} (h1 : (Qg s).kind = .function) (h2 : (Qg s).isCoroutine = false) (h3 : (Qg s).isGenerator = false) (h4 : (namesOf (Qg s)).Nodup /\ (namesOf (Qg s)).take P.length = P /\ (∀ x ∈ P, (Qg s).names.lookup x = some .local ∨ (Qg s).names.lookup x = some .cell) /\ ∀ y ∈ (Qg s).names, y.2 ≠ .free) : Sc s P := ⟨h1, h2, h3, h4.1, h4.2.1, h4.2.2.1, h4.2.2.2⟩
noncomputable abbrev Cp (s : Stmt) (Γ : List (Str × FnR)) : Option DS := Qaa 60 (Qd3 s Γ cst) (Qap s)
noncomputable abbrev Dn (s : Stmt) (g : DS) : Den := Qn (namesOf (Qg s)).length g
noncomputable abbrev Gc (x : Str) (n : Nat) (d : Den) (Γ : List (Str × FnR)) : List (Str × FnR) := (x, ⟨n, [], d⟩) :: Γ
noncomputable abbrev cls : List Str := ["NoRings", "NoRow"]
noncomputable abbrev Qum : List (Str × List (Str × Bool)) := [("NoRings", [("NoRings", true), ("NoRow", false), ("HeapError", true), ("ValueError", true)]), ("NoRow", [("NoRings", false), ("NoRow", true), ("HeapError", true), ("ValueError", true)])]
noncomputable abbrev sub := QpZ Qum
noncomputable abbrev CpT (s : Stmt) (Γ : List (Str × FnR)) (Γx : List (Str × (Nat × (List D -> Option Str)))) (hΓ : List (Str × FnR)) : Option DS := Qaa 60 (thT 60 s Γ cst ⟨Γx, cls⟩ sub hΓ) (Qap s)
noncomputable abbrev CpX (s : Stmt) (Γ : List (Str × FnR)) (Γx : List (Str × (Nat × (List D -> Option Str)))) : Option DX := Qct 60 (Qd3 s Γ cst) ⟨Γx, cls⟩ (Qap s)
abbrev Qdk := top 5
theorem Qm9 : Sc Qdk ["table", "at"] := scM rfl rfl rfl (by decide +kernel)
theorem QpG : QD "column" Qdk ["table", "at"] := λ | _, _, _, _, _, _, [_, _], _ => rfl
def QkJ := (Cp Qdk []).getD QB
theorem QoF : Cp Qdk [] = some QkJ := some_of (by decide +kernel)
abbrev QaC := Dn Qdk QkJ
abbrev Qhm := Gc "column" 2 QaC []
abbrev Qdb := top 6
theorem Qok : Sc Qdb ["table"] := scM rfl rfl rfl (by decide +kernel)
theorem QpS : QD "turned" Qdb ["table"] := λ | _, _, _, _, _, _, [_], _ => rfl
def Qle := (Cp Qdb Qhm).getD QB
theorem Qpf : Cp Qdb Qhm = some Qle := some_of (by decide +kernel)
abbrev Qbd := Dn Qdb Qle
abbrev Qhy := Gc "turned" 1 Qbd Qhm
abbrev Qcl := top 7
theorem Qln : Sc Qcl ["line"] := scM rfl rfl rfl (by decide +kernel)
theorem Qmj : QD "opposite" Qcl ["line"] := λ | _, _, _, _, _, _, [_], _ => rfl
def Qig := (Cp Qcl Qhy).getD QB
theorem QmZ : Cp Qcl Qhy = some Qig := some_of (by decide +kernel)
abbrev Qck := Dn Qcl Qig
abbrev Qfm := Gc "opposite" 1 Qck Qhy
abbrev Qdj := top 8
theorem QnC : Sc Qdj ["numbers"] := scM rfl rfl rfl (by decide +kernel)
theorem Qpz : QD "common" Qdj ["numbers"] := λ | _, _, _, _, _, _, [_], _ => rfl
def Qki := (Cp Qdj Qfm).getD QB
theorem QoI : Cp Qdj Qfm = some Qki := some_of (by decide +kernel)
abbrev QbA := Dn Qdj Qki
abbrev Qg9 := Gc "common" 1 QbA Qfm
abbrev Qbk := top 10
theorem QjF : Sc Qbk ["lines", "at"] := scM rfl rfl rfl (by decide +kernel)
theorem Qlj : QD "with_pivot" Qbk ["lines", "at"] := λ | _, _, _, _, _, _, [_, _], _ => rfl
def Qgh := (Cp Qbk Qg9).getD QB
theorem Qj7 : Cp Qbk Qg9 = some Qgh := some_of (by decide +kernel)
abbrev Qbl := Dn Qbk Qgh
abbrev Qem := Gc "with_pivot" 2 Qbl Qg9
abbrev QbP := top 11
theorem Qkq : Sc QbP ["line", "pivot_line", "at", "before"] := scM rfl rfl rfl (by decide +kernel)
theorem Qlp : QD "taken_off" QbP ["line", "pivot_line", "at", "before"] := λ | _, _, _, _, _, _, [_, _, _, _], _ => rfl
def QgT := (Cp QbP Qem).getD QB
theorem Qls : Cp QbP Qem = some QgT := some_of (by decide +kernel)
abbrev QbT := Dn QbP QgT
abbrev QeN := Gc "taken_off" 4 QbT Qem
abbrev QcN := top 9
theorem Qmt : Sc QcN ["lines"] := scM rfl rfl rfl (by decide +kernel)
theorem Qnz : QD "cleared" QcN ["lines"] := λ | _, _, _, _, _, _, [_], _ => rfl
def QjB := (Cp QcN QeN).getD QB
theorem Qn7 : Cp QcN QeN = some QjB := some_of (by decide +kernel)
abbrev Qa3 := Dn QcN QjB
abbrev Qdv := Gc "cleared" 1 Qa3 QeN
abbrev QZ := top 12
theorem Qd9 : Sc QZ ["lines"] := scM rfl rfl rfl (by decide +kernel)
theorem QeD : QD "cleared_whole" QZ ["lines"] := λ | _, _, _, _, _, _, [_], _ => rfl
noncomputable def QdZ := (CpX QZ Qdv []).getD xNo
theorem Qhs : CpX QZ Qdv [] = some QdZ := some_of (by decide +kernel)
noncomputable abbrev QaQ := Qdd (namesOf (Qg QZ)).length QdZ
noncomputable abbrev QcC : List (Str × (Nat × (List D -> Option Str))) := ("cleared_whole", (1, QaQ)) :: []
def QeC := (Cp QZ Qdv).getD QB
theorem QhQ : Cp QZ Qdv = some QeC := some_of (by decide +kernel)
abbrev QS := Dn QZ QeC
abbrev Qa9 := Gc "cleared_whole" 1 QS Qdv
abbrev Qai := top 13
theorem QfH : Sc Qai ["table", "row"] := scM rfl rfl rfl (by decide +kernel)
theorem QfW : QD "shared_out" Qai ["table", "row"] := λ | _, _, _, _, _, _, [_, _], _ => rfl
noncomputable def QfE := (CpX Qai Qa9 QcC).getD xNo
theorem QjM : CpX Qai Qa9 QcC = some QfE := some_of (by decide +kernel)
noncomputable abbrev Qak := Qdd (namesOf (Qg Qai)).length QfE
noncomputable abbrev Qcz : List (Str × (Nat × (List D -> Option Str))) := ("shared_out", (2, Qak)) :: QcC
def QfP := (Cp Qai Qa9).getD QB
theorem QkR : Cp Qai Qa9 = some QfP := some_of (by decide +kernel)
abbrev QJ := Dn Qai QfP
abbrev Qd7 := Gc "shared_out" 2 QJ Qa9
abbrev QbR := top 15
theorem Qkl : Sc QbR ["_law_script", "_law_k"] := scM rfl rfl rfl (by decide +kernel)
theorem Qlm : QD "_law_cell" QbR ["_law_script", "_law_k"] := λ | _, _, _, _, _, _, [_, _], _ => rfl
def QgO := (Cp QbR Qd7).getD QB
theorem Qlu : Cp QbR Qd7 = some QgO := some_of (by decide +kernel)
abbrev QA := Dn QbR QgO
abbrev QeO := Gc "_law_cell" 2 QA Qd7
abbrev Qbo := top 16
theorem QjR : Sc Qbo ["_law_found"] := scM rfl rfl rfl (by decide +kernel)
theorem Qlc : QD "_law_whole" Qbo ["_law_found"] := λ | _, _, _, _, _, _, [_], _ => rfl
def Qgi := (Cp Qbo QeO).getD QB
theorem Qkj : Cp Qbo QeO = some Qgi := some_of (by decide +kernel)
abbrev Qah := Dn Qbo Qgi
abbrev Qd6 := Gc "_law_whole" 1 Qah QeO
abbrev QaH := top 17
theorem QhY : Sc QaH ["_law_found", "_law_size"] := scM rfl rfl rfl (by decide +kernel)
theorem QiZ : QD "_law_numbers" QaH ["_law_found", "_law_size"] := λ | _, _, _, _, _, _, [_, _], _ => rfl
def Qe3 := (Cp QaH Qd6).getD QB
theorem Qjd : Cp QaH Qd6 = some Qe3 := some_of (by decide +kernel)
abbrev QaL := Dn QaH Qe3
abbrev Qdi := Gc "_law_numbers" 2 QaL Qd6
abbrev Qa0 := top 18
theorem QiF : Sc Qa0 ["_law_cell_here", "_law_far"] := scM rfl rfl rfl (by decide +kernel)
theorem QjI : QD "_law_number" Qa0 ["_law_cell_here", "_law_far"] := λ | _, _, _, _, _, _, [_, _], _ => rfl
def QfI := (Cp Qa0 Qdi).getD QB
theorem QjN : Cp Qa0 Qdi = some QfI := some_of (by decide +kernel)
abbrev Qab := Dn Qa0 QfI
abbrev QdB := Gc "_law_number" 2 Qab Qdi
abbrev Qbv := top 19
theorem QjO : Sc Qbv ["_law_script", "_law_start", "_law_size", "_law_far"] := scM rfl rfl rfl (by decide +kernel)
theorem QkD : QD "_law_table" Qbv ["_law_script", "_law_start", "_law_size", "_law_far"] := λ | _, _, _, _, _, _, [_, _, _, _], _ => rfl
def QfX := (Cp Qbv QdB).getD QB
theorem Qkn : Cp Qbv QdB = some QfX := some_of (by decide +kernel)
abbrev Q0 := Dn Qbv QfX
abbrev Qkv := Gc "_law_table" 4 Q0 QdB
abbrev Qm := top 20
theorem Q8 : Sc Qm ["_law_table_here"] := scM rfl rfl rfl (by decide +kernel)
theorem Q3 : QD "_law_measure" Qm ["_law_table_here"] := λ | _, _, _, _, _, _, [_], _ => rfl
abbrev Qd0 : Den := λ _ => none
abbrev QcK := Gc "_law_measure" 1 Qd0 Qkv
def QdX := (Cp Qm QcK).getD QB
theorem QhC : Cp Qm QcK = some QdX := some_of (by decide +kernel)
abbrev QbB := Dn Qm QdX
abbrev QcL := Gc "_law_measure" 1 QbB QcK
def Qd4 := (Cp Qm QcL).getD QB
theorem Qg5 : Cp Qm QcL = some Qd4 := some_of (by decide +kernel)
abbrev QbC := Dn Qm Qd4
abbrev QcF := Gc "_law_measure" 1 QbC QcL
def Qd1 := (Cp Qm QcF).getD QB
theorem Qg6 : Cp Qm QcF = some Qd1 := some_of (by decide +kernel)
abbrev QbG := Dn Qm Qd1
abbrev QcH := Gc "_law_measure" 1 QbG QcF
def Qel := (Cp Qm QcH).getD QB
theorem Qhc : Cp Qm QcH = some Qel := some_of (by decide +kernel)
abbrev QbD := Dn Qm Qel
abbrev QcE := Gc "_law_measure" 1 QbD QcH
def Qeq := (Cp Qm QcE).getD QB
theorem Qha : Cp Qm QcE = some Qeq := some_of (by decide +kernel)
abbrev QbI := Dn Qm Qeq
abbrev QcJ := Gc "_law_measure" 1 QbI QcE
def Qep := (Cp Qm QcJ).getD QB
theorem Qg7 : Cp Qm QcJ = some Qep := some_of (by decide +kernel)
abbrev QbJ := Dn Qm Qep
abbrev QcD := Gc "_law_measure" 1 QbJ QcJ
def Qes := (Cp Qm QcD).getD QB
theorem Qhp : Cp Qm QcD = some Qes := some_of (by decide +kernel)
abbrev QbK := Dn Qm Qes
abbrev QcI := Gc "_law_measure" 1 QbK QcD
def Qej := (Cp Qm QcI).getD QB
theorem Qhg : Cp Qm QcI = some Qej := some_of (by decide +kernel)
abbrev Qby := Dn Qm Qej
abbrev QcB := Gc "_law_measure" 1 Qby QcI
abbrev Qbq := Qby
abbrev QaM := top 21
theorem Qh5 : Sc QaM ["_law_one", "_law_other"] := scM rfl rfl rfl (by decide +kernel)
theorem Qjb : QD "_law_divisor" QaM ["_law_one", "_law_other"] := λ | _, _, _, _, _, _, [_, _], _ => rfl
def QeW := (Cp QaM QcB).getD QB
theorem QiV : Cp QaM QcB = some QeW := some_of (by decide +kernel)
abbrev QaJ := Dn QaM QeW
abbrev Qdo := Gc "_law_divisor" 2 QaJ QcB
abbrev QbU := top 22
theorem QkC : Sc QbU ["_law_table_here"] := scM rfl rfl rfl (by decide +kernel)
theorem Qlo : QD "_law_copy" QbU ["_law_table_here"] := λ | _, _, _, _, _, _, [_], _ => rfl
def QgU := (Cp QbU Qdo).getD QB
theorem Qlr : Cp QbU Qdo = some QgU := some_of (by decide +kernel)
abbrev QbO := Dn QbU QgU
abbrev QeL := Gc "_law_copy" 1 QbO Qdo
abbrev QaG := top 23
theorem Qio : Sc QaG ["_law_table_here", "_law_row"] := scM rfl rfl rfl (by decide +kernel)
theorem Qi5 : QD "_law_refusal" QaG ["_law_table_here", "_law_row"] := λ | _, _, _, _, _, _, [_, _], _ => rfl
def QeX := (CpT QaG QeL Qcz []).getD QB
theorem Qi1 : CpT QaG QeL Qcz [] = some QeX := some_of (by decide +kernel)
abbrev Qao := Dn QaG QeX
abbrev Qdl := Gc "_law_refusal" 2 Qao QeL
abbrev Qay := top 24
theorem Qhx : Sc Qay ["_law_table_here", "_law_row", "_law_rings"] := scM rfl rfl rfl (by decide +kernel)
theorem Qh0 : QD "_law_in_order" Qay ["_law_table_here", "_law_row", "_law_rings"] := λ | _, _, _, _, _, _, [_, _, _], _ => rfl
def QeB := (CpT Qay Qdl Qcz []).getD QB
theorem Qin : CpT Qay Qdl Qcz [] = some QeB := some_of (by decide +kernel)
abbrev Qaj := Dn Qay QeB
abbrev QcX := Gc "_law_in_order" 3 Qaj Qdl
abbrev QaZ := top 25
theorem QiW : Sc QaZ ["_law_found", "_law_table_here", "_law_row"] := scM rfl rfl rfl (by decide +kernel)
theorem QjE : QD "_law_shares" QaZ ["_law_found", "_law_table_here", "_law_row"] := λ | _, _, _, _, _, _, [_, _, _], _ => rfl
def QfK := (Cp QaZ QcX).getD QB
theorem QjQ : Cp QaZ QcX = some QfK := some_of (by decide +kernel)
abbrev Qad := Dn QaZ QfK
abbrev QdE := Gc "_law_shares" 3 Qad QcX
abbrev Qaz := top 26
theorem Qhk : Sc Qaz ["_law_table_here", "_law_cells"] := scM rfl rfl rfl (by decide +kernel)
theorem Qiw : QD "_law_gathered" Qaz ["_law_table_here", "_law_cells"] := λ | _, _, _, _, _, _, [_, _], _ => rfl
def Qey := (Cp Qaz QdE).getD QB
theorem Qic : Cp Qaz QdE = some Qey := some_of (by decide +kernel)
abbrev QaA := Dn Qaz Qey
abbrev Qc1 := Gc "_law_gathered" 2 QaA QdE
abbrev Qa1 := top 27
theorem QiY : Sc Qa1 ["_law_script"] := scM rfl rfl rfl (by decide +kernel)
theorem QjG : QD "_law_stairs" Qa1 ["_law_script"] := λ | _, _, _, _, _, _, [_], _ => rfl
def QfJ := (Cp Qa1 Qc1).getD QB
theorem QjK : Cp Qa1 Qc1 = some QfJ := some_of (by decide +kernel)
abbrev QaY := Dn Qa1 QfJ
abbrev QdA := Gc "_law_stairs" 1 QaY Qc1
abbrev Qbu := top 28
theorem QjJ : Sc Qbu ["_law_script"] := scM rfl rfl rfl (by decide +kernel)
theorem QkN : QD "_law_drawn" Qbu ["_law_script"] := λ | _, _, _, _, _, _, [_], _ => rfl
def QfQ := (Cp Qbu QdA).getD QB
theorem Qlk : Cp Qbu QdA = some QfQ := some_of (by decide +kernel)
abbrev Qbp := Dn Qbu QfQ
abbrev Qf2 := Gc "_law_drawn" 1 Qbp QdA
abbrev Qgs := top 29
theorem Qsu : Sc Qgs ["_law_script"] := scM rfl rfl rfl (by decide +kernel)
theorem Qt3 : QD "law" Qgs ["_law_script"] := λ | _, _, _, _, _, _, [_], _ => rfl
def Qp5 := (Cp Qgs Qf2).getD QB
theorem Qt2 : Cp Qgs Qf2 = some Qp5 := some_of (by decide +kernel)
abbrev Qmh := Dn Qgs Qp5
theorem Qov : QaC = Qn 2 (HS.Qj8) := by kernel_rfl
theorem QpO : Qbd = Qn 1 (HS.QkZ QaC) := by kernel_rfl
theorem Qmk : Qck = Qn 1 (HS.Qiq) := by kernel_rfl
theorem QpF : QbA = Qn 5 (HS.Qfk) := by kernel_rfl
theorem QkP : Qbl = Qn 4 (HS.Qe8 Qck) := by kernel_rfl
theorem QlC : QbT = Qn 4 (HS.QgS) := by kernel_rfl
theorem Qoo : Qa3 = Qn 5 (HS.Qew Qbl QbT) := by kernel_rfl
theorem Qev : QS = Qn 2 (HS.Qb0 Qa3) := by kernel_rfl
theorem QfT : QJ = Qn 6 (HS.Qc4 Qbd QS QaC QbA) := by kernel_rfl
theorem Qlt : QA = Qn 3 (HS.Qdq) := by kernel_rfl
theorem QkV : Qah = Qn 1 (HS.Qge) := by kernel_rfl
theorem QiO : QaL = Qn 2 (HS.Qd5 Qah) := by kernel_rfl
theorem QjH : Qab = Qn 2 (HS.QfF) := by kernel_rfl
theorem Qku : Q0 = Qn 6 (HS.Qef QA Qab) := by kernel_rfl
theorem Qht : QbB = Qn 4 (HS.Q2 Qd0) := by kernel_rfl
theorem QhE : QbC = Qn 4 (HS.Q2 QbB) := by kernel_rfl
theorem Qhj : QbG = Qn 4 (HS.Q2 QbC) := by kernel_rfl
theorem Qg2 : QbD = Qn 4 (HS.Q2 QbG) := by kernel_rfl
theorem QhD : QbI = Qn 4 (HS.Q2 QbD) := by kernel_rfl
theorem Qg8 : QbJ = Qn 4 (HS.Q2 QbI) := by kernel_rfl
theorem Qhh : QbK = Qn 4 (HS.Q2 QbJ) := by kernel_rfl
theorem Qhi : Qby = Qn 4 (HS.Q2 QbK) := by kernel_rfl
theorem QiK : QaJ = Qn 3 (HS.Qci) := by kernel_rfl
theorem QlA : QbO = Qn 1 (HS.QgQ) := by kernel_rfl
theorem QiE : Qao = Qn 3 (HS.Qe4 QJ Qak sub) := by kernel_rfl
theorem Qh6 : Qaj = Qn 5 (HS.QeF QJ Qak sub) := by kernel_rfl
theorem QjS : Qad = Qn 7 (HS.QfG QaL Qah QaJ) := by kernel_rfl
theorem QhO : QaA = Qn 6 (HS.Qb1 Qab) := by kernel_rfl
theorem QjL : QaY = Qn 6 (HS.Qbg QA Q0) := by kernel_rfl
theorem Qll : Qbp = Qn 6 (HS.QcW QA QaY Q0 QaA) := by kernel_rfl
theorem QtL : Qmh = Qn 7 (HS.Qjt Qbp QA Qao Qaj Qbq QbO QJ Qad) := by kernel_rfl
theorem Qed : QaQ = Qdd 2 (HS.QbX Qa3) := by kernel_rfl
theorem QfL : Qak = Qdd 6 (HS.Qc0 QbA QaC Qbd QS QaQ) := by kernel_rfl
end
end Law
namespace HS
open PySem PySem.Spec L2
noncomputable def QoP (mg : Str -> Option Value) : List Str -> Prop
 | [] => True
 | x :: r => mg x = none /\ QoP mg r
theorem QkI {mg : Str -> Option Value} : ∀ {l : List Str}, QoP mg l -> ∀ x ∈ l, mg x = none
 | [], _, x, h => by simp at h
 | y :: r, h, x, hx => by
  rcases Zq.mp hx with rfl | hx
  ·exact h.1
  ·exact QkI h.2 x hx
noncomputable def Qps (mg : Str -> Option Value) : List (Str × Int) -> Prop
 | [] => True
 | (x, i) :: r => (∃ t, mg x = some (.int i t)) /\ Qps mg r
theorem Qks {mg : Str -> Option Value} : ∀ {l : List (Str × Int)}, Qps mg l -> ∀ x i, look x l = some i -> ∃ t, mg x = some (.int i t)
 | [], _, x, i, h => by cases h
 | (y, j) :: r, h, x, i, hx => by
  unfold look at hx
  split at hx
  ·rename_i e; cases hx; subst e; exact h.1
  ·exact Qks h.2 x i hx
theorem Qr9 {mg : Str -> Option Value} {cs : List (Str × Int)} (b : QoP mg QkM) (c : Qps mg cs) : QdG mg cs := ⟨QkI b, Qks c⟩
end HS
namespace Law
open HS
theorem QjX : QdV QA := by rw [Qlt]; exact Qo6
theorem QnG : Qgt Qah := by rw [QkV]; exact Qpu
theorem QtW : QkL QaL := by rw [QiO]; exact Qrw QnG
theorem QlI : Qer Qab := by rw [QjH]; exact Qnb
theorem QnP : QeE Q0 := by rw [Qku]; exact QmD QjX QlI
theorem Qto : Qkk QbO := by rw [QlA]; exact QqC
theorem QuJ : QmL Qck := by rw [Qmk]; exact Qs8
theorem Qua : QhF Qbl := by rw [QkP]; exact QnN QuJ
theorem QuN : QiH QbT := by rw [QlC]; exact QpH
theorem Qsr : QdJ Qa3 := by rw [Qoo]; exact Qlz Qua QuN
theorem Quh : QeP QS := by rw [Qev]; exact QkB Qsr
theorem QsG : Qff QaC := by rw [Qov]; exact Qn9
theorem Qqk : Qfq Qbd := by rw [QpO]; exact Qos QsG
theorem QuF : QhB QbA := by rw [QpF]; exact Qom
theorem QuM : Qgb QJ := by rw [QfT]; exact Qmi Qqk Quh QsG QuF
theorem QsD : ApF QS QaQ := by rw [Qev, Qed]; exact QtS
theorem xCw : Qhl QaQ := by rw [Qed]; exact Qlq Qsr
theorem Qtf : ApF QJ Qak := by rw [QfT, QfL]; exact QtR QsD
theorem xSh : QiB Qak := by rw [QfL]; exact QmY QsD Qqk xCw
theorem hDiv : QiP QaJ := by rw [QiK]; exact Qpm
theorem Qux : Qhf Qad := by rw [QjS]; exact Qoj QtW QnG hDiv
theorem Quz : QgY QaA := by rw [QhO]; exact Qne QlI
theorem hSt : Qfj QaY := by rw [QjL]; exact Qlx QjX QnP
theorem hDr : Qi6 Qbp := by rw [Qll]; exact QoA QjX hSt QnP Quz
theorem w34 : Qml sub := ⟨by decide +kernel, by decide +kernel, by decide +kernel, by decide +kernel, by decide +kernel, by decide +kernel, by decide +kernel, by decide +kernel⟩
theorem Qul : Qi4 Qak Qao := by rw [QiE]; exact Qow Qtf w34
theorem Qui : QiN Qak Qaj := by rw [Qh6]; exact Qpi Qtf w34
theorem hM1 : Qa2 1 QbB := by rw [Qht]; exact Qbb Qre
theorem hM2 : Qa2 2 QbC := by rw [QhE]; exact Qbb hM1
theorem hM3 : Qa2 3 QbG := by rw [Qhj]; exact Qbb hM2
theorem hM4 : Qa2 4 QbD := by rw [Qg2]; exact Qbb hM3
theorem hM5 : Qa2 5 QbI := by rw [QhD]; exact Qbb hM4
theorem hM6 : Qa2 6 QbJ := by rw [Qg8]; exact Qbb hM5
theorem hM7 : Qa2 7 QbK := by rw [Qhh]; exact Qbb hM6
theorem hM8 : Qa2 8 Qby := by rw [Qhi]; exact Qbb hM7
theorem Qtb (ns : List Int) (h : ns.length <= 63) (hb : ∀ k : Nat, PySem.Builtin.Int.intBits (ns.getD k 0) <= 2 ^ 20) : ∃ fr, Qmh [.lst (ns.map .int)] = some (.bl true, fr) := by
 rw [QtL]
 exact ⟨true, Qs6 hDr QjX Qul Qui hM8 Qto QuM xSh Qux ns h hb⟩
end Law
namespace PySem.W.Fast
def tw3126721332628899200 := 0
def tw9968168552786845282 := 0
def tw17059241445216211013 := 0
def tw3875213681016965125 := 0
def tw3406162007667673881 := 0
def tw5243935188298044405 := 0
def tw18416838885941892943 := 0
def tw15162626112817455004 := 0
def tw1636911184165396475 := 0
def tw5934644525709077014 := 0
def tw15182014732139825647 := 0
def tw4554208547420951070 := 0
def tw6089692645087925367 := 0
def tw491926452818818383 := 0
def tw1047089500362579881 := 0
def tw17596249388840654471 := 0
def tw160094854317552672 := 0
def tw7532048849113463587 := 0
def tw16244920045256506903 := 0
def tw14603332534642004776 := 0
def tw1171575654161605626 := 0
def tw16837555854381942851 := 0
def tw7488325089042564890 := 0
def tw17970496385323671356 := 0
def tw13006645962944410821 := 0
def tw8949044553484505739 := 0
def tw10232360021037426792 := 0
def tw9213660484935661058 := 0
def tw11869731665991126378 := 0
def tw9772725672020311704 := 0
def tw16374934258294993766 := 0
def tw3994728908105887915 := 0
def tw5869852294889067891 := 0
def tw14319222748745324263 := 0
def tw17583653632817829155 := 0
def tw5175854378007775184 := 0
def tw3784064045140544526 := 0
def tw6970977864029495413 := 0
def tw3054132041326993980 := 0
def tw9541883162995805960 := 0
def tw11424140237862610089 := 0
def tw1986036402346241029 := 0
def tw15555879174715522040 := 0
def tw7190166491028640496 := 0
def tw2103352812011045176 := 0
def tw5180986934820500619 := 0
def tw1185526018478485411 := 0
def tw15985764012104684457 := 0
def tw11207410127698157988 := 0
def tw15434381849530582484 := 0
def tw8911454268030244582 := 0
def tw16359960653119880498 := 0
def tw15344810940510356414 := 0
def tw11613622181412409964 := 0
def tw15859910065372135604 := 0
def tw2439845733677043406 := 0
def tw1672734262872725566 := 0
def tw18097357316641635217 := 0
def tw15854033914120686143 := 0
def tw7998975181843680565 := 0
def tw4650182404249496386 := 0
def tw17898248736027991295 := 0
def tw16651725572258135981 := 0
def tw12400625496362732368 := 0
def tw13955834088769452925 := 0
def tw12846447455789356628 := 0
def tw12613062510375653352 := 0
def tw3254563732049432886 := 0
def tw6191896578710004190 := 0
def tw10991200046555000673 := 0
def tw17612038464166366755 := 0
def tw15257910912383684604 := 0
end PySem.W.Fast
open PySem PySem.W PyProof.Rows HS
set_option maxRecDepth 100000 in
set_option maxHeartbeats 0 in
theorem PySem.Challenge.cw_heapstill_k34_shared_out_holds : PySem.Challenge.rw_heapstill_k34_shared_out.Holds := by
 w_on; o_law; k_head; (case hw => w_witness2)
 k_fill
 refine HS.Qna (l := PySem.Challenge.rw_heapstill_k34_shared_out) (k := 32) (x := "_law_script") (den := Law.Qmh) rfl rfl ⟨rfl, by decide, by decide⟩ (λ w h Y => PySem.W.kIn_of Y) Law.Qtb ?F
 case F =>
  intro w mg fa h KX G hmg
  obtain ⟨f_column, f_turned, f_opposite, f_common, f_with_pivot, f_taken_off, f_cleared, f_cleared_whole, f_shared_out, f__law_cell, f__law_whole, f__law_numbers, f__law_number, f__law_table, f__law_measure, f__law_divisor, f__law_copy, f__law_refusal, f__law_in_order, f__law_shares, f__law_gathered, f__law_stairs, f__law_drawn, f_law⟩ : HS.Fact (L2.KOf KX) "column" Law.Qdk /\ HS.Fact (L2.KOf KX) "turned" Law.Qdb /\ HS.Fact (L2.KOf KX) "opposite" Law.Qcl /\ HS.Fact (L2.KOf KX) "common" Law.Qdj /\ HS.Fact (L2.KOf KX) "with_pivot" Law.Qbk /\ HS.Fact (L2.KOf KX) "taken_off" Law.QbP /\ HS.Fact (L2.KOf KX) "cleared" Law.QcN /\ HS.Fact (L2.KOf KX) "cleared_whole" Law.QZ /\ HS.Fact (L2.KOf KX) "shared_out" Law.Qai /\ HS.Fact (L2.KOf KX) "_law_cell" Law.QbR /\ HS.Fact (L2.KOf KX) "_law_whole" Law.Qbo /\ HS.Fact (L2.KOf KX) "_law_numbers" Law.QaH /\ HS.Fact (L2.KOf KX) "_law_number" Law.Qa0 /\ HS.Fact (L2.KOf KX) "_law_table" Law.Qbv /\ HS.Fact (L2.KOf KX) "_law_measure" Law.Qm /\ HS.Fact (L2.KOf KX) "_law_divisor" Law.QaM /\ HS.Fact (L2.KOf KX) "_law_copy" Law.QbU /\ HS.Fact (L2.KOf KX) "_law_refusal" Law.QaG /\ HS.Fact (L2.KOf KX) "_law_in_order" Law.Qay /\ HS.Fact (L2.KOf KX) "_law_shares" Law.QaZ /\ HS.Fact (L2.KOf KX) "_law_gathered" Law.Qaz /\ HS.Fact (L2.KOf KX) "_law_stairs" Law.Qa1 /\ HS.Fact (L2.KOf KX) "_law_drawn" Law.Qbu /\ HS.Fact (L2.KOf KX) "law" Law.Qgs := by
   refine ⟨?_, ?_, ?_, ?_, ?_, ?_, ?_, ?_, ?_, ?_, ?_, ?_, ?_, ?_, ?_, ?_, ?_, ?_, ?_, ?_, ?_, ?_, ?_, ?_⟩ <;> (dsimp only [L2.KOf]; refine' HS.fact_mk ?a ?l ?c ?k; (case a => k_is); (case l => k_is); (case c => k_is); (case k => k_is))
  have M : HS.QdG mg Law.cst := by
   obtain ⟨n_range, n_enumerate, n_zip, n_len, n_list, n_min, n_max, n_sum, n_abs, n_isinstance, n_int, n_bool, n_tuple, n_str, n_divmod, n_sorted, n_any, n_all⟩ : PySem.W.nsIn (L2.KOf KX) mainGlobals "range" = some none /\ PySem.W.nsIn (L2.KOf KX) mainGlobals "enumerate" = some none /\ PySem.W.nsIn (L2.KOf KX) mainGlobals "zip" = some none /\ PySem.W.nsIn (L2.KOf KX) mainGlobals "len" = some none /\ PySem.W.nsIn (L2.KOf KX) mainGlobals "list" = some none /\ PySem.W.nsIn (L2.KOf KX) mainGlobals "min" = some none /\ PySem.W.nsIn (L2.KOf KX) mainGlobals "max" = some none /\ PySem.W.nsIn (L2.KOf KX) mainGlobals "sum" = some none /\ PySem.W.nsIn (L2.KOf KX) mainGlobals "abs" = some none /\ PySem.W.nsIn (L2.KOf KX) mainGlobals "isinstance" = some none /\ PySem.W.nsIn (L2.KOf KX) mainGlobals "int" = some none /\ PySem.W.nsIn (L2.KOf KX) mainGlobals "bool" = some none /\ PySem.W.nsIn (L2.KOf KX) mainGlobals "tuple" = some none /\ PySem.W.nsIn (L2.KOf KX) mainGlobals "str" = some none /\ PySem.W.nsIn (L2.KOf KX) mainGlobals "divmod" = some none /\ PySem.W.nsIn (L2.KOf KX) mainGlobals "sorted" = some none /\ PySem.W.nsIn (L2.KOf KX) mainGlobals "any" = some none /\ PySem.W.nsIn (L2.KOf KX) mainGlobals "all" = some none := by refine ⟨?_, ?_, ?_, ?_, ?_, ?_, ?_, ?_, ?_, ?_, ?_, ?_, ?_, ?_, ?_, ?_, ?_, ?_⟩ <;> (dsimp only [L2.KOf]; k_is)
   exact HS.Qr9 ⟨PySem.W.mg_none_of KX G n_range, PySem.W.mg_none_of KX G n_enumerate, PySem.W.mg_none_of KX G n_zip, PySem.W.mg_none_of KX G n_len, PySem.W.mg_none_of KX G n_list, PySem.W.mg_none_of KX G n_min, PySem.W.mg_none_of KX G n_max, PySem.W.mg_none_of KX G n_sum, PySem.W.mg_none_of KX G n_abs, PySem.W.mg_none_of KX G n_isinstance, PySem.W.mg_none_of KX G n_int, PySem.W.mg_none_of KX G n_bool, PySem.W.mg_none_of KX G n_tuple, PySem.W.mg_none_of KX G n_str, PySem.W.mg_none_of KX G n_divmod, PySem.W.mg_none_of KX G n_sorted, PySem.W.mg_none_of KX G n_any, PySem.W.mg_none_of KX G n_all, True.intro⟩ True.intro
  have t0 : ∀ base : Heap, HS.Qba (PySem.Challenge.rw_heapstill_k34_shared_out).prog w (L2.KOf KX) mg base 0 [] := λ _ => HS.Qba.nil
  have hcl : ∀ x ∈ Law.cls, HS.QfR (L2.KOf KX) x := HS.QlS (by refine ⟨?_, ?_, trivial⟩ <;> (dsimp only [L2.KOf]; refine' HS.QqW ?a ?b; (case a => k_is); (case b => k_exc)))
  have hsub : HS.Qbi (L2.KOf KX) Law.sub := by
   refine HS.QrI ⟨⟨?x0, ?y0_0, ?y0_1, ?y0_2, ?y0_3, trivial⟩, ⟨?x1, ?y1_0, ?y1_1, ?y1_2, ?y1_3, trivial⟩, trivial⟩
   case x0 => (dsimp only [L2.KOf]; refine' HS.Qqb ?a ?b ?c ?d ?e ?f ?g; (case a => k_is); (case b => k_is); (case c => k_is); (case d => k_is); (case e => k_is); (case f => k_is); (case g => k_is))
   case y0_0 => (dsimp only [L2.KOf]; refine' HS.Qdn ?a ?b ?c ?d; (case a => k_is); (case b => k_is); (case c => kts_exm); (case d => kit_is))
   case y0_1 => (dsimp only [L2.KOf]; refine' HS.Qdn ?a ?b ?c ?d; (case a => k_is); (case b => k_is); (case c => kts_exm); (case d => kit_is))
   case y0_2 => (dsimp only [L2.KOf]; refine' HS.Qdn ?a ?b ?c ?d; (case a => k_is); (case b => k_is); (case c => kts_exm); (case d => kit_is))
   case y0_3 => (dsimp only [L2.KOf]; refine' HS.QlH ?a ?b ?c ?d; (case a => k_is); (case b => k_is); (case c => kts_exm); (case d => kit_is))
   case x1 => (dsimp only [L2.KOf]; refine' HS.Qqb ?a ?b ?c ?d ?e ?f ?g; (case a => k_is); (case b => k_is); (case c => k_is); (case d => k_is); (case e => k_is); (case f => k_is); (case g => k_is))
   case y1_0 => (dsimp only [L2.KOf]; refine' HS.Qdn ?a ?b ?c ?d; (case a => k_is); (case b => k_is); (case c => kts_exm); (case d => kit_is))
   case y1_1 => (dsimp only [L2.KOf]; refine' HS.Qdn ?a ?b ?c ?d; (case a => k_is); (case b => k_is); (case c => kts_exm); (case d => kit_is))
   case y1_2 => (dsimp only [L2.KOf]; refine' HS.Qdn ?a ?b ?c ?d; (case a => k_is); (case b => k_is); (case c => kts_exm); (case d => kit_is))
   case y1_3 => (dsimp only [L2.KOf]; refine' HS.QlH ?a ?b ?c ?d; (case a => k_is); (case b => k_is); (case c => kts_exm); (case d => kit_is))
  have x0 : ∀ base : Heap, HS.QdC (PySem.Challenge.rw_heapstill_k34_shared_out).prog w (L2.KOf KX) mg base 0 [] := λ _ => HS.QdC.nil
  have x_column := λ b => (x0 b).mono (Zz _)
  have t_column := λ b => (t0 b).cons (HS.QF KX G f_column Law.Qm9 Law.QpG M (t0 b) Law.QoF)
  have x_turned := λ b => (x_column b).mono (Zz _)
  have t_turned := λ b => (t_column b).cons (HS.QF KX G f_turned Law.Qok Law.QpS M (t_column b) Law.Qpf)
  have x_opposite := λ b => (x_turned b).mono (Zz _)
  have t_opposite := λ b => (t_turned b).cons (HS.QF KX G f_opposite Law.Qln Law.Qmj M (t_turned b) Law.QmZ)
  have x_common := λ b => (x_opposite b).mono (Zz _)
  have t_common := λ b => (t_opposite b).cons (HS.QF KX G f_common Law.QnC Law.Qpz M (t_opposite b) Law.QoI)
  have x_with_pivot := λ b => (x_common b).mono (Zz _)
  have t_with_pivot := λ b => (t_common b).cons (HS.QF KX G f_with_pivot Law.QjF Law.Qlj M (t_common b) Law.Qj7)
  have x_taken_off := λ b => (x_with_pivot b).mono (Zz _)
  have t_taken_off := λ b => (t_with_pivot b).cons (HS.QF KX G f_taken_off Law.Qkq Law.Qlp M (t_with_pivot b) Law.Qls)
  have x_cleared := λ b => (x_taken_off b).mono (Zz _)
  have t_cleared := λ b => (t_taken_off b).cons (HS.QF KX G f_cleared Law.Qmt Law.Qnz M (t_taken_off b) Law.Qn7)
  have x_cleared_whole := λ b => (x_cleared b).cons (HS.QlL KX G f_cleared_whole Law.Qd9 Law.QeD M (t_cleared b) (x_cleared b) hcl Law.Qhs)
  have t_cleared_whole := λ b => (t_cleared b).cons (HS.QF KX G f_cleared_whole Law.Qd9 Law.QeD M (t_cleared b) Law.QhQ)
  have x_shared_out := λ b => (x_cleared_whole b).cons (HS.QlL KX G f_shared_out Law.QfH Law.QfW M (t_cleared_whole b) (x_cleared_whole b) hcl Law.QjM)
  have t_shared_out := λ b => (t_cleared_whole b).cons (HS.QF KX G f_shared_out Law.QfH Law.QfW M (t_cleared_whole b) Law.QkR)
  have x__law_cell := λ b => (x_shared_out b).mono (Zz _)
  have t__law_cell := λ b => (t_shared_out b).cons (HS.QF KX G f__law_cell Law.Qkl Law.Qlm M (t_shared_out b) Law.Qlu)
  have x__law_whole := λ b => (x__law_cell b).mono (Zz _)
  have t__law_whole := λ b => (t__law_cell b).cons (HS.QF KX G f__law_whole Law.QjR Law.Qlc M (t__law_cell b) Law.Qkj)
  have x__law_numbers := λ b => (x__law_whole b).mono (Zz _)
  have t__law_numbers := λ b => (t__law_whole b).cons (HS.QF KX G f__law_numbers Law.QhY Law.QiZ M (t__law_whole b) Law.Qjd)
  have x__law_number := λ b => (x__law_numbers b).mono (Zz _)
  have t__law_number := λ b => (t__law_numbers b).cons (HS.QF KX G f__law_number Law.QiF Law.QjI M (t__law_numbers b) Law.QjN)
  have x__law_table := λ b => (x__law_number b).mono (Zz _)
  have t__law_table := λ b => (t__law_number b).cons (HS.QF KX G f__law_table Law.QjO Law.QkD M (t__law_number b) Law.Qkn)
  have t__law_measure_0 := λ b => (t__law_table b).cons (HS.QmK KX G f__law_measure Law.Q3)
  have t__law_measure_1 := λ b => (t__law_measure_0 b).cons (HS.QF KX G f__law_measure Law.Q8 Law.Q3 M (t__law_measure_0 b) Law.QhC)
  have t__law_measure_2 := λ b => (t__law_measure_1 b).cons (HS.QF KX G f__law_measure Law.Q8 Law.Q3 M (t__law_measure_1 b) Law.Qg5)
  have t__law_measure_3 := λ b => (t__law_measure_2 b).cons (HS.QF KX G f__law_measure Law.Q8 Law.Q3 M (t__law_measure_2 b) Law.Qg6)
  have t__law_measure_4 := λ b => (t__law_measure_3 b).cons (HS.QF KX G f__law_measure Law.Q8 Law.Q3 M (t__law_measure_3 b) Law.Qhc)
  have t__law_measure_5 := λ b => (t__law_measure_4 b).cons (HS.QF KX G f__law_measure Law.Q8 Law.Q3 M (t__law_measure_4 b) Law.Qha)
  have t__law_measure_6 := λ b => (t__law_measure_5 b).cons (HS.QF KX G f__law_measure Law.Q8 Law.Q3 M (t__law_measure_5 b) Law.Qg7)
  have t__law_measure_7 := λ b => (t__law_measure_6 b).cons (HS.QF KX G f__law_measure Law.Q8 Law.Q3 M (t__law_measure_6 b) Law.Qhp)
  have t__law_measure_8 := λ b => (t__law_measure_7 b).cons (HS.QF KX G f__law_measure Law.Q8 Law.Q3 M (t__law_measure_7 b) Law.Qhg)
  have x__law_measure := λ b => (x__law_table b).mono (Nat.le_add_right _ 9)
  have x__law_divisor := λ b => (x__law_measure b).mono (Zz _)
  have t__law_divisor := λ b => (t__law_measure_8 b).cons (HS.QF KX G f__law_divisor Law.Qh5 Law.Qjb M (t__law_measure_8 b) Law.QiV)
  have x__law_copy := λ b => (x__law_divisor b).mono (Zz _)
  have t__law_copy := λ b => (t__law_divisor b).cons (HS.QF KX G f__law_copy Law.QkC Law.Qlo M (t__law_divisor b) Law.Qlr)
  have x__law_refusal := λ b => (x__law_copy b).mono (Zz _)
  have t__law_refusal := λ b => (t__law_copy b).cons (HS.Ql3 KX G f__law_refusal Law.Qio Law.Qi5 M (t__law_copy b) (x__law_copy b) hcl hsub HS.Qeo.nil Law.Qi1)
  have x__law_in_order := λ b => (x__law_refusal b).mono (Zz _)
  have t__law_in_order := λ b => (t__law_refusal b).cons (HS.Ql3 KX G f__law_in_order Law.Qhx Law.Qh0 M (t__law_refusal b) (x__law_refusal b) hcl hsub HS.Qeo.nil Law.Qin)
  have x__law_shares := λ b => (x__law_in_order b).mono (Zz _)
  have t__law_shares := λ b => (t__law_in_order b).cons (HS.QF KX G f__law_shares Law.QiW Law.QjE M (t__law_in_order b) Law.QjQ)
  have x__law_gathered := λ b => (x__law_shares b).mono (Zz _)
  have t__law_gathered := λ b => (t__law_shares b).cons (HS.QF KX G f__law_gathered Law.Qhk Law.Qiw M (t__law_shares b) Law.Qic)
  have x__law_stairs := λ b => (x__law_gathered b).mono (Zz _)
  have t__law_stairs := λ b => (t__law_gathered b).cons (HS.QF KX G f__law_stairs Law.QiY Law.QjG M (t__law_gathered b) Law.QjK)
  have x__law_drawn := λ b => (x__law_stairs b).mono (Zz _)
  have t__law_drawn := λ b => (t__law_stairs b).cons (HS.QF KX G f__law_drawn Law.QjJ Law.QkN M (t__law_stairs b) Law.Qlk)
  exact HS.QtB KX G hmg f_law Law.Qsu Law.Qt3 M (λ base => t__law_drawn base) Law.Qt2
