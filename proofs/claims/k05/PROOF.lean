import PyProof.Rows.All
import Wide.All
import OpenK.AllK
import Wide.FinOn
import Lean
import PyProof.EqAt
import PyProof.EqKinds
import PyProof.TupleCall
import PyProof.ZipIter
import PyProof.EnumMake
import PyProof.Rows.FactsT2
import PyProof.Rows.EnumRows
import PyProof.P3In
import PyProof.NeData
import KE.KUnpack
import PyProof.Rows.SumAny
import PyProof.Rows.MinMaxN
import PyProof.Rows.ListRangeD
import PyProof.Rows.Range3
import PyProof.Rows.RuleM_int
import PyProof.Rows.SortShell
import KE.KTryOn
import PyProof.ExcBaseAll.ValueError
import PyProof.RulesAs
import PyProof.ExcAttrAll.ValueError
import PyProof.Rows.RegTopCatchBFacts
import KE.RegKTryMore
import KE.RegKIsAll
import KE.KPar
import PySem.Challenge.RW_heapstill_k05_a_net_made
set_option Elab.async false
set_option linter.all false
set_option maxRecDepth 100000
def Za := @Option.bind_some
def Zb := @Option.map_eq_some_iff
def Zc := @List.mem_append_left
def Zd := @List.mem_cons_of_mem
def Ze := @List.mem_append_right
def Zf := @Bool.and_eq_true
def Zg := @List.getElem?_eq_some_iff
def Zh := @List.length_map
def Zi := @List.mem_cons_self
def Zj := @Nat.le_refl
def Zk := @List.getElem?_set_ne
def Zl := @List.length_append
def Zm := @List.mem_cons
def Zn := @List.mem_append
def Zo := @PySem.Heap.lt_size
def Zp := @Nat.lt_of_lt_of_le
def Zq := @PySem.Heap.get?_push_of_some
def Zr := @List.lookup_cons
def Zs := @List.size_toArray
def Zt := @List.getElem?_set_self
def Zu := @List.map_cons
def Zv := @List.map_append
def Zw := @Int.emod_nonneg
def Zx := @Int.toNat_natCast
def Zy := @Int.emod_lt_of_pos
def Zz := @List.getElem?_map
def ZA := @Nat.le_trans
def ZC := @List.getElem?_eq_none
def ZD := @List.mem_singleton
def ZE := @List.mem_map
def ZF := @List.length_range
def ZG := @PySem.Heap.get?_push_size
def ZH := @Nat.ne_of_lt
def ZI := @Nat.le_succ
def ZJ := @List.length_cons
def ZK := @Bool.false_ne_true
def ZL := @List.count_eq_zero
def ZM := @List.drop_eq_getElem_cons
def ZN := @Nat.lt_irrefl
def ZO := @Nat.zero_le
def ZP := @List.replicate_succ
def ZQ := @Bool.not_eq_true'
def ZR := @List.mem_range
def ZS := @List.all_eq_true
def ZT := @List.sum_cons
def ZU := @PySem.mem_of_lookup
def ZV := @List.getElem?_range
def ZW := @PyProof.Rows.callWith_type1
def ZX := @List.mem_filter
def ZY := @Option.map_some
def ZZ := @List.flatten_cons
def Zaa := @List.count_append
def Zab := @List.append_nil
def Zac := @List.mem_of_getElem?
def Zad := @List.getD_eq_getElem?_getD
def Zae := @List.getElem?_append_left
def Zaf := @List.contains_iff_mem
def Zag := @List.count_pos_iff
def Zah := @List.nodup_nil
def Zai := @List.nodup_iff_count
def Zaj := @List.nodup_cons
def Zak := @Nat.min_eq_left
def Zal := @Array.length_toList
def Zam := @PySem.W.mg_of
def Zan := @List.set_eq_take_append_cons_drop
def Zao := @List.count_cons
def Zap := @PySem.W.kia_one
def Zaq := @List.append_assoc
def Zar := @List.map_map
def Zas := @List.sum_append_int
def Zat := @List.eq_nil_of_length_eq_zero
def Zau := @List.mem_filterMap
def Zav := @PyProof.Rows.boot_isinstance
def Zaw := @List.length_singleton
def Zax := @List.length_filter_le
def Zay := @List.reverse_cons
def Zaz := @PySem.Heap.size_push
def ZaA := @Nat.pow_le_pow_right
def ZaB := @Int.add_mul
def ZaC := @Classical.byContradiction
def ZaD := @PySem.W.hideAll_get
def ZaE := @List.map_congr_left
def ZaF := @Int.toNat_of_nonneg
def ZaG := @List.map_take
def ZaH := @Nat.lt_succ_of_lt
def ZaI := @List.nodup_append
def ZaJ := @List.take_of_length_le
def ZaK := @List.length_replicate
def ZaL := @List.take_append_drop
def ZaM := @List.length_take
def ZaN := @List.mem_flatten
def ZaO := @Nat.min_le_right
def ZaP := @Int.mul_le_mul_of_nonneg_right
def ZaQ := @List.filter_cons
def ZaR := @Nat.add_le_add_right
def ZaS := @List.length_set
def ZaT := @List.range_succ
def ZaU := @List.filterMap_cons
def ZaV := @List.take_succ_cons
def ZaW := @List.length_reverse
def ZaX := @Int.zero_mul
def ZaY := @PySem.W.callWith_K
def ZaZ := @List.getElem?_append_right
def Zba := @List.getElem?_eq_none_iff
def Zbb := @List.ext_getElem?
def Zbc := @List.take_add_one
def Zbd := @Int.emod_eq_of_lt
def Zbe := @List.getElem?_eq_getElem
def Zbf := @Nat.lt_succ_self
def Zbg := @List.getElem?_replicate
def Zbh := @List.length_drop
def Zbi := @List.cons_append
def Zbj := @List.foldlM_cons
def Zbk := @List.drop_length
def Zbl := @PySem.F.plainAttrs_list
def Zbm := @List.take_length
def Zbn := @Classical.axiomOfChoice
def Zbo := @List.mem_reverse
def Zbp := @PySem.W.cellsFrom_some
def Zbq := @PyProof.Rows.boot_list
def Zbr := @List.append_eq_nil_iff
def Zbs := @Nat.sub_zero
def Zbt := @List.all_map
def Zbu := @Int.add_zero
def Zbv := @List.drop_eq_nil_of_le
def Zbw := @List.of_mem_zip
def Zbx := @List.foldl_cons
def Zby := @Bool.or_eq_true
def Zbz := @List.mapM_cons
def ZbA := @List.drop_zero
def ZbB := @Int.one_mul
def ZbC := @Int.mul_nonneg
def ZbD := @Bool.and_false
def ZbE := @List.map_drop
namespace L2
open PySem PySem.Spec PyProof.Rows
noncomputable abbrev Key := Sum Int Str
noncomputable def QpX : Key -> Value -> Bool
 | .inl k, v => Value.isInt k v
 | .inr x, v => Value.isStrOf x v
noncomputable def QuC (w : World) : Key -> Int
 | .inl k => hashInt k
 | .inr x => hashStr w x
theorem QaJ : ∀ {k : Key} {v : Value}, QpX k v = true -> (∃ i t, k = Sum.inl i /\ v = Value.int i t) ∨ (∃ x t, k = Sum.inr x /\ v = Value.str x t)
 | .inl i, v, h => by
  obtain ⟨t, e⟩ := Value.isInt_shape (k := i) (v := v) h
  exact .inl ⟨i, t, rfl, e⟩
 | .inr x, v, h => by
  obtain ⟨t, e⟩ := Value.isStrOf_shape (x := x) (v := v) h
  exact .inr ⟨x, t, rfl, e⟩
theorem Qsm (a b : Int) : decide ((Sum.inl a : Key) = Sum.inl b) = (a == b) := by
 by_cases e : a = b
 ·subst e; simp
 ·have h : ¬ (Sum.inl a : Key) = Sum.inl b := λ q => e (Sum.inl.inj q)
  rw [decide_eq_false h]
  exact (beq_eq_false_iff_ne.mpr e).symm
theorem Qr7 (a b : Str) : decide ((Sum.inr a : Key) = Sum.inr b) = decide (a = b) := by
 by_cases e : a = b
 ·subst e; simp
 ·have h : ¬ (Sum.inr a : Key) = Sum.inr b := λ q => e (Sum.inr.inj q)
  rw [decide_eq_false h, decide_eq_false e]
theorem Qr6 (a : Int) (b : Str) : decide ((Sum.inl a : Key) = Sum.inr b) = false := decide_eq_false (λ q => nomatch q)
theorem QsX (a : Str) (b : Int) : decide ((Sum.inr a : Key) = Sum.inl b) = false := decide_eq_false (λ q => nomatch q)
noncomputable def Qii (prog : Program) (w : World) : PySem.KeyKind prog w Key where
 is := QpX
 hash := QuC w
 inj := λ v a b ha hb => by
  rcases QaJ ha with ⟨i, t, rfl, rfl⟩ | ⟨x, t, rfl, rfl⟩
  ·rcases QaJ hb with ⟨j, u, rfl, e⟩ | ⟨y, u, rfl, e⟩
   ·injection e with e1 _; rw [e1]
   ·exact nomatch e
  ·rcases QaJ hb with ⟨j, u, rfl, e⟩ | ⟨y, u, rfl, e⟩
   ·exact nomatch e
   ·injection e with e1 _; rw [e1]
 byValue := λ k v h => by
  rcases QaJ h with ⟨i, t, rfl, rfl⟩ | ⟨x, t, rfl, rfl⟩ <;> rfl
 pyHash := λ hv h => by
  rcases QaJ hv with ⟨i, t, rfl, rfl⟩ | ⟨x, t, rfl, rfl⟩
  ·exact wpAny_pyHash_int h
  ·exact wpAny_pyHash_str h
 eqBool := λ hu hv h => by
  rcases QaJ hu with ⟨i, t, rfl, rfl⟩ | ⟨x, t, rfl, rfl⟩
  ·rcases QaJ hv with ⟨j, u, rfl, rfl⟩ | ⟨y, u, rfl, rfl⟩
   ·rw [Qsm] at h; exact wpAny_eqBool_int h
   ·rw [Qr6] at h; exact SeqAt.EqAt.int_str i t y u _ _ _ _ h
  ·rcases QaJ hv with ⟨j, u, rfl, rfl⟩ | ⟨y, u, rfl, rfl⟩
   ·rw [QsX] at h; exact SeqAt.EqAt.str_int x t j u _ _ _ _ h
   ·rw [Qr7] at h; exact wpAny_eqBool_str h
 «strs» := λ k x t v h => by
  rcases QaJ h with ⟨i, u, rfl, e⟩ | ⟨y, u, rfl, e⟩
  ·exact nomatch e
  ·injection e with e1 _
   subst e1
   cases v <;> rfl
end L2
namespace L2
open PySem PySem.Spec PyProof.Rows
inductive V where
 | non | bl (b : Bool) | int (i : Int) | str (x : Str) | byt (b : Array UInt8) | flt (b : UInt64) | ref (a : Addr) | ty (n : String)
 deriving DecidableEq
noncomputable def RelV : V -> Value -> Prop
 | .non, u => u = Value.none
 | .bl b, u => u = Value.bool b
 | .int i, u => ∃ t, u = Value.int i t
 | .str x, u => ∃ t, u = Value.str x t
 | .byt b, u => ∃ t, u = Value.bytes b t
 | .flt b, u => ∃ t, u = Value.float b t
 | .ref a, u => u = Value.ref a
 | .ty n, u => u = Value.type n
noncomputable abbrev Qq : List V -> List Value -> Prop := Paired RelV
theorem Qq.length {xs : List V} {us : List Value} (r : Qq xs us) : xs.length = us.length := Paired.length r
theorem Qq.get : ∀ {xs : List V} {us : List Value} {i : Nat} {x : V}, Qq xs us -> xs[i]? = some x -> ∃ u, us[i]? = some u /\ RelV x u
 | _, _, _, _, .nil, e => by simp at e
 | _, _, 0, _, .cons r _, e => by simp at e; subst e; exact ⟨_, rfl, r⟩
 | _, _, i + 1, x, .cons _ t, e => by
  obtain ⟨u, h1, h2⟩ := Qq.get (i := i) (x := x) t (by simpa using e)
  exact ⟨u, by simpa using h1, h2⟩
theorem Qq.set {x : V} {u : Value} (r : RelV x u) : ∀ {xs : List V} {us : List Value} (i : Nat), Qq xs us -> Qq (xs.set i x) (us.set i u)
 | _, _, _, .nil => .nil
 | _, _, 0, .cons _ t => .cons r t
 | _, _, i + 1, .cons q t => .cons q (Qq.set r i t)
theorem Qq.append : ∀ {xs ys : List V} {us ws : List Value}, Qq xs us -> Qq ys ws -> Qq (xs ++ ys) (us ++ ws)
 | _, _, _, _, .nil, s => s
 | _, _, _, _, .cons r t, s => .cons r (Qq.append t s)
theorem Qq.take : ∀ {xs : List V} {us : List Value} (n : Nat), Qq xs us -> Qq (xs.take n) (us.take n)
 | _, _, 0, _ => .nil
 | _, _, _ + 1, .nil => .nil
 | _, _, n + 1, .cons r t => .cons r (Qq.take n t)
theorem Qq.drop : ∀ {xs : List V} {us : List Value} (n : Nat), Qq xs us -> Qq (xs.drop n) (us.drop n)
 | _, _, 0, r => r
 | _, _, _ + 1, .nil => .nil
 | _, _, n + 1, .cons _ t => Qq.drop n t
theorem Qq.none_of : ∀ {xs : List V} {us : List Value} {i : Nat}, Qq xs us -> xs[i]? = none -> us[i]? = none := λ {xs us i} r e => by
 have h1 := r.length
 have h2 : xs.length <= i := Zba.mp e
 exact Zba.mpr (by omega)
noncomputable def Qh9 : Option V -> Option Value -> Prop
 | some v, some u => RelV v u
 | none, none => True
 | _, _ => False
noncomputable def KV {κ : Type} : List (κ × V) -> List (κ × Value) -> Prop := Paired λ (p : κ × V) (q : κ × Value) => p.1 = q.1 /\ RelV p.2 q.2
noncomputable def kV : Key -> V
 | .inl i => .int i
 | .inr x => .str x
inductive HO where
 | lst (xs : List V)
 | tup (xs : List V)
 | dK (kvs : List (Key × V)) | dT (kvs : List (List Key × V))
 | set (S : Int -> Bool) (n : Nat)
 | ins (C dx : Addr) (fs : List (Str × V))
 | own (x : Addr)
 | xd (fs : List (Str × V))
 | met (f x : Addr)
 | rng (lo hi : Int)
 | frz (o : Obj) (u : HO)
 | tbl (ps : Array Value)
 | ext (φ : Heap -> Prop)
noncomputable abbrev Hp := Addr -> Option HO
noncomputable def upd (H : Hp) (a : Addr) (o : HO) : Hp := λ b => if b = a then some o else H b
theorem Qar {H : Hp} {a : Addr} {o : HO} : upd H a o a = some o := by unfold upd; rw [if_pos rfl]
theorem QE {H : Hp} {a b : Addr} {o : HO} (h : b ≠ a) : upd H a o b = H b := by unfold upd; rw [if_neg h]
theorem Qjz {H : Hp} {a b : Addr} {o u : HO} (h : H a = some o) (h' : H b = some u) (d : o ≠ u) : a ≠ b := by
 intro e; subst e; rw [h] at h'; exact d (Option.some.inj h')
theorem Qby {H : Hp} {a b : Addr} {o : HO} (h : H a = some o) (h' : H b = none) : a ≠ b := by
 intro e; subst e; rw [h] at h'; cases h'
section
variable (P : Program) (w : World)
noncomputable def Qbz (H : Hp) (h : Heap) (a : Addr) : HO -> Prop
 | .lst xs => xs.length <= sizeLine /\ ∃ (its : List Value) (n : Nat), Qq xs its /\ h.get? a = some { cls := .type "list", data := .seq its.toArray n }
 | .tup xs => xs.length <= sizeLine /\ ∃ its : List Value, Qq xs its /\ IsTup h a its.toArray
 | .dK kvs => kvs.length <= sizeLine /\ (a == sysModules) = false /\ ∃ vs, KV kvs vs /\ h.DictOf (Qii P w) a vs
 | .dT kvs => kvs.length <= sizeLine /\ (a == sysModules) = false /\ ∃ xs : List (List Key × Addr × Value),
   Paired (λ (p : List Key × V) (q : List Key × Addr × Value) => p.1 = q.1 /\ H q.2.1 = some (.tup (p.1.map kV)) /\ RelV p.2 q.2.2) kvs xs ∧
   ∃ o es ep, h.get? a = some o /\ o.ExactDict /\ o.data = .dict es ep /\ es.toList = xs.map (entryOfKey (tupleKind (Qii P w))) /\ (xs.map (·.1)).Nodup
 | .set S n => h.SetOf (intKind P w) a S n
 | .ins C dx fs => H dx = some (.own a) /\ fs.length <= 1000 /\ dx ≠ a /\ h.get? a = some (PySem.W.instObj C dx) ∧
   ∃ mA, h.Ns1 dx mA /\ (∀ f, Qh9 (fs.lookup f) (mA f)) /\ PySem.Within mA (fs.map (·.1))
 | .own _ => ∃ o, h.get? a = some o
 | .xd fs => ∃ mA, h.Ns1 a mA /\ ∀ f, Qh9 (fs.lookup f) (mA f)
 | .rng lo hi => ∃ t u v, h.get? a = some { cls := .type "range", data := .fields #[.int lo t, .int hi u, .int 1 v] }
 | .frz o u => h.get? a = some o /\ Qbz H h a u
 | .tbl ps => h.get? a = some { cls := .none, data := .fields ps }
 | .met f x => h.get? a = some (PySem.W.methodObj (.ref f) (.ref x))
 | .ext φ => φ h /\ (∃ o, h.get? a = some o) /\ ∀ h1 h2 : Heap, φ h1 -> (∀ o, h1.get? a = some o -> h2.get? a = some o) -> φ h2
def HOk (H : Hp) (h : Heap) : Prop := ∀ a o, H a = some o -> Qbz P w H h a o
end
section
variable {P : Program} {w : World} {H H' : Hp} {h h' : Heap} {a : Addr} {o : HO}
theorem Qbz.lt (x : Qbz P w H h a o) : a < h.objs.size := by
 cases o with
 | lst xs => obtain ⟨_, _, _, _, e⟩ := x; exact Zo e
 | tup xs => obtain ⟨_, _, _, p⟩ := x; exact p.lt
 | dK kvs => obtain ⟨_, _, _, _, o, _, _, e, _⟩ := x; exact Zo e
 | dT kvs => obtain ⟨_, _, _, _, o, _, _, e, _⟩ := x; exact Zo e
 | set S n => obtain ⟨o, _, _, _, e, _⟩ := x; exact Zo e
 | ins C dx fs => obtain ⟨_, _, _, e, _⟩ := x; exact Zo e
 | own y => obtain ⟨_, e⟩ := x; exact Zo e
 | xd fs => obtain ⟨_, ⟨_, _, _, e, _⟩, _⟩ := x; exact Zo e
 | rng lo hi => obtain ⟨_, _, _, e⟩ := x; exact Zo e
 | frz ob u => obtain ⟨e, _⟩ := x; exact Zo e
 | tbl ps => exact Zo (show h.get? a = some _ from x)
 | met f y => exact Zo (show h.get? a = some _ from x)
 | ext φ => obtain ⟨_, ⟨_, e⟩, _⟩ := x; exact Zo e
theorem Paired.Qsx {α β : Type} {F G : α -> β -> Prop} : ∀ {l₁ : List α} {l₂ : List β}, Paired F l₁ l₂ -> (∀ a b, F a b -> G a b) -> Paired G l₁ l₂
 | _, _, .nil, _ => .nil
 | _, _, .cons r t, f => .cons (f _ _ r) (Paired.Qsx t f)
theorem Qbz.QeF (x : Qbz P w H h a o) (k : ∀ b u, (b = a ∨ H b = some (.own a)) -> h.get? b = some u -> h'.get? b = some u)
  (ho : ∀ b, H b = some (.own a) -> H' b = some (.own a)) (ht : ∀ b xs, H b = some (.tup xs) -> H' b = some (.tup xs)) : Qbz P w H' h' a o := by
 induction o with
 | lst xs => obtain ⟨z, its, n, r, e⟩ := x; exact ⟨z, its, n, r, k _ _ (.inl rfl) e⟩
 | tup xs => obtain ⟨z, its, r, ob, e, c⟩ := x; exact ⟨z, its, r, ob, k _ _ (.inl rfl) e, c⟩
 | dK kvs => obtain ⟨z, y, vs, r, ob, es, ep, e, c⟩ := x; exact ⟨z, y, vs, r, ob, es, ep, k _ _ (.inl rfl) e, c⟩
 | dT kvs =>
  obtain ⟨z, y, xs, r, ob, es, ep, e, c⟩ := x
  exact ⟨z, y, xs, Paired.Qsx r λ p q z => ⟨z.1, ht _ _ z.2.1, z.2.2⟩, ob, es, ep, k _ _ (.inl rfl) e, c⟩
 | set S n => obtain ⟨ob, es, ep, t, e, c⟩ := x; exact ⟨ob, es, ep, t, k _ _ (.inl rfl) e, c⟩
 | ins C dx fs =>
  obtain ⟨d, z, ne, e, mA, ⟨od, es, ep, e2, c⟩, r⟩ := x
  exact ⟨ho _ d, z, ne, k _ _ (.inl rfl) e, mA, ⟨od, es, ep, k _ _ (.inr d) e2, c⟩, r⟩
 | own y => obtain ⟨ob, e⟩ := x; exact ⟨ob, k _ _ (.inl rfl) e⟩
 | xd fs => obtain ⟨mA, ⟨od, es, ep, e, c⟩, r⟩ := x; exact ⟨mA, ⟨od, es, ep, k _ _ (.inl rfl) e, c⟩, r⟩
 | rng lo hi => obtain ⟨t, u, v, e⟩ := x; exact ⟨t, u, v, k _ _ (.inl rfl) e⟩
 | frz ob u ih => obtain ⟨e, q⟩ := x; exact ⟨k _ _ (.inl rfl) e, ih q⟩
 | tbl ps =>
  have e : h.get? a = some { cls := .none, data := .fields ps } := x
  show h'.get? a = some { cls := .none, data := .fields ps }
  exact k a _ (.inl rfl) e
 | met f y =>
  have e : h.get? a = some (PySem.W.methodObj (.ref f) (.ref y)) := x
  show h'.get? a = some (PySem.W.methodObj (.ref f) (.ref y))
  exact k a _ (.inl rfl) e
 | ext φ => obtain ⟨p, ⟨o, e⟩, st⟩ := x; exact ⟨st _ _ p λ o q => k _ _ (.inl rfl) q, ⟨o, k _ _ (.inl rfl) e⟩, st⟩
theorem HOk.lt (x : HOk P w H h) (e : H a = some o) : a < h.objs.size := (x a o e).lt
theorem HOk.fresh (x : HOk P w H h) (e : h.objs.size <= a) : H a = none := by
 cases q : H a with
 | none => rfl
 | some u => exact absurd (Zp (x.lt q) e) (ZN _)
theorem HOk.kept (x : HOk P w H h) (k : ∀ b u, h.get? b = some u -> h'.get? b = some u) : HOk P w H h' := λ a o e =>
 (x a o e).QeF (λ b u _ q => k b u q) (λ _ q => q) λ _ _ q => q
theorem HOk.laid (x : HOk P w H h) (k : ∀ b u, h.get? b = some u -> h'.get? b = some u) (hp : h.objs.size <= a) (new : Qbz P w (upd H a o) h' a o) : HOk P w (upd H a o) h' := λ b u e => by
 have hn := x.fresh hp
 by_cases hb : b = a
 ·subst hb; rw [Qar] at e; cases e; exact new
 ·rw [QE hb] at e
  exact (x b u e).QeF (λ c v _ q => k c v q) (λ c q => by rw [QE (Qby q hn)]; exact q) λ c xs q => by rw [QE (Qby q hn)]; exact q
end
def Rd (H : Hp) (a : Addr) (u : HO) : Prop := H a = some u ∨ ∃ o, H a = some (.frz o u)
theorem Rd.of {H : Hp} {a : Addr} {u : HO} (h : H a = some u) : Rd H a u := .inl h
theorem Rd.ok {P : Program} {w : World} {H : Hp} {h : Heap} {a : Addr} {u : HO} (r : Rd H a u) (x : HOk P w H h) : Qbz P w H h a u := by
 rcases r with r | ⟨o, r⟩
 ·exact x a u r
 ·obtain ⟨_, q⟩ := x a _ r
  exact q
noncomputable def Mut : Option HO -> Prop
 | some (.lst _) => True
 | some (.dK _) => True
 | some (.dT _) => True
 | some (.set _ _) => True
 | some (.ins _ _ _) => True
 | some (.ext _) => True
 | _ => False
section
variable {P : Program} {w : World} {H : Hp} {h h' : Heap} {x e : Addr} {o' : HO}
theorem HOk.write (ok : HOk P w H h) (mu : Mut (H x)) (he : e = x ∨ H e = some (.own x)) (k : ∀ b u, b ≠ e -> h.get? b = some u -> h'.get? b = some u) (heo : ∃ u, h'.get? e = some u)
  (new : Qbz P w (upd H x o') h' x o') : HOk P w (upd H x o') h' := λ b u q => by
 have nown : ∀ c y, H c = some (.own y) -> c ≠ x := λ c y r z => by subst z; rw [r] at mu; exact mu
 have ntup : ∀ c xs, H c = some (.tup xs) -> c ≠ x := λ c xs r z => by subst z; rw [r] at mu; exact mu
 by_cases hb : b = x
 ·subst hb; rw [Qar] at q; cases q; exact new
 ·rw [QE hb] at q
  by_cases hbe : b = e
  ·have q' : H b = some (.own x) := by
    rcases he with z | z
    ·exact absurd (hbe.trans z) hb
    ·rw [hbe]; exact z
   rw [q] at q'; cases q'
   obtain ⟨v, hv⟩ := heo
   exact ⟨v, by rw [hbe]; exact hv⟩
  ·refine (ok b u q).QeF (λ c v hc r => k c v ?_ r) (λ c r => by rw [QE (nown c b r)]; exact r) λ c xs r => by rw [QE (ntup c xs r)]; exact r
   rcases hc with rfl | hc
   ·exact hbe
   ·rintro rfl
    rcases he with z | z
    ·exact nown c b hc z
    ·rw [hc] at z; cases z; exact hb rfl
end
structure Un (fs ex : List Addr) (H H' : Hp) (h h' : Heap) : Prop where
 keep : ∀ b o, h.get? b = some o -> H b = none -> b ∉ fs -> b ∉ ex -> h'.get? b = some o
 slot : ∀ b o, h.get? b = some o -> H b = none -> b ∈ fs -> b ∉ ex -> ∃ sl, h'.get? b = some { o with slots := sl }
 free : ∀ b o, h.get? b = some o -> H b = none -> b ∉ ex -> H' b = none
 there : ∀ b o, h.get? b = some o -> b ∉ ex -> ∃ o', h'.get? b = some o'
 tups : ∀ b xs, H b = some (.tup xs) -> H' b = some (.tup xs)
 frzs : ∀ b o u, H b = some (.frz o u) -> H' b = some (.frz o u)
 tbls : ∀ b ps, H b = some (.tbl ps) -> ∃ more, H' b = some (.tbl (ps ++ more))
section
variable {fs fs' ex ex' : List Addr} {H H1 H2 : Hp} {h h1 h2 h' : Heap} {a x e : Addr} {o : HO}
theorem Un.any (u : Un fs ex H H1 h h1) {b : Addr} {ob : Obj} (q : h.get? b = some ob) (n : H b = none) (hx : b ∉ ex) : ∃ sl, h1.get? b = some { ob with slots := sl } := by
 by_cases hb : b ∈ fs
 ·exact u.slot b ob q n hb hx
 ·exact ⟨ob.slots, u.keep b ob q n hb hx⟩
theorem Un.trans (a : Un fs ex H H1 h h1) (b : Un fs ex H1 H2 h1 h2) : Un fs ex H H2 h h2 where
 keep := λ c ob q n hc hx => b.keep c ob (a.keep c ob q n hc hx) (a.free c ob q n hx) hc hx
 slot := λ c ob q n hc hx => by
  obtain ⟨sl, e1⟩ := a.slot c ob q n hc hx
  obtain ⟨sl', e2⟩ := b.slot c _ e1 (a.free c ob q n hx) hc hx
  exact ⟨sl', e2⟩
 free := λ c ob q n hx => by
  obtain ⟨o', e1⟩ := a.there c ob q hx
  exact b.free c o' e1 (a.free c ob q n hx) hx
 there := λ c ob q hx => by
  obtain ⟨o', e1⟩ := a.there c ob q hx
  exact b.there c o' e1 hx
 tups := λ c xs q => b.tups c xs (a.tups c xs q)
 frzs := λ c ob xs q => b.frzs c ob xs (a.frzs c ob xs q)
 tbls := λ c ps q => by
  obtain ⟨m1, e1⟩ := a.tbls c ps q
  obtain ⟨m2, e2⟩ := b.tbls c _ e1
  exact ⟨m1 ++ m2, by rw [e2, Array.append_assoc]⟩
theorem Un.kept (k : ∀ b u, h.get? b = some u -> h'.get? b = some u) : Un fs ex H H h h' :=
 ⟨λ b ob q _ _ _ => k b ob q, λ b ob q _ _ _ => ⟨ob.slots, k b ob q⟩, λ _ _ _ n _ => n, λ b ob q _ => ⟨ob, k b ob q⟩, λ _ _ q => q, λ _ _ _ q => q, λ _ ps q => ⟨#[], by rw [q]; simp⟩⟩
theorem Un.refl : Un fs ex H H h h := Un.kept λ _ _ q => q
theorem Un.laid (k : ∀ b u, h.get? b = some u -> h'.get? b = some u) (hp : h.objs.size <= a) (hn : H a = none) : Un fs ex H (upd H a o) h h' where
 keep := λ b u q _ _ _ => k b u q
 slot := λ b u q _ _ _ => ⟨u.slots, k b u q⟩
 free := λ b u q n _ => by rw [QE (ZH (Zp (Zo q) hp))]; exact n
 there := λ b u q _ => ⟨u, k b u q⟩
 tups := λ b xs q => by rw [QE (Qby q hn)]; exact q
 frzs := λ b u xs q => by rw [QE (Qby q hn)]; exact q
 tbls := λ b ps q => ⟨#[], by rw [QE (Qby q hn), q]; simp⟩
theorem Un.write (mu : Mut (H x)) (he : e = x ∨ H e = some (.own x)) (k : ∀ b u, b ≠ e -> h.get? b = some u -> h'.get? b = some u) (heo : ∃ u, h'.get? e = some u) : Un fs ex H (upd H x o) h h' := by
 have hx : ∀ b, H b = none -> b ≠ x := λ b n z => by subst z; rw [n] at mu; exact mu
 have hb : ∀ b, H b = none -> b ≠ e := λ b n z => by
  subst z
  rcases he with r | r
  ·exact hx b n r
  ·rw [n] at r; cases r
 have hm : ∀ b u, H b = some u -> ¬ Mut (some u) -> b ≠ x := λ b u q nm z => by subst z; rw [q] at mu; exact nm mu
 refine ⟨λ b u q n _ _ => k b u (hb b n) q, λ b u q n _ _ => ⟨u.slots, k b u (hb b n) q⟩, λ b u q n _ => by rw [QE (hx b n)]; exact n, λ b u q _ => ?_,
  λ b xs q => by rw [QE (hm b _ q λ z => z)]; exact q, λ b u xs q => by rw [QE (hm b _ q λ z => z)]; exact q, λ b ps q => ⟨#[], by rw [QE (hm b _ q λ z => z), q]; simp⟩⟩
 by_cases hbe : b = e
 ·subst hbe; exact heo
 ·exact ⟨u, k b u hbe q⟩
theorem Un.mono (u : Un fs ex H H1 h h1) (hs : ∀ b ∈ fs, b ∈ fs') (hx : ∀ b ∈ ex, b ∈ ex') : Un fs' ex' H H1 h h1 :=
 ⟨λ b ob q n hb he => u.keep b ob q n (λ z => hb (hs b z)) λ z => he (hx b z), λ _ _ q n _ he => u.any q n λ z => he (hx _ z), λ b ob q n he => u.free b ob q n λ z => he (hx b z), λ b ob q he => u.there b ob q λ z => he (hx b z), u.tups, u.frzs, u.tbls⟩
end
noncomputable def trk (h : Heap) (H : Hp) : List Addr := (List.range h.objs.size).filter λ a => (H a).isSome
noncomputable def Qfn (h : Heap) (H : Hp) : Heap := PySem.W.hideAll h (trk h H)
theorem QnT (h : Heap) (H : Hp) : (Qfn h H).objs.size = h.objs.size := PySem.W.hideAll_size _ _
theorem QoN {h : Heap} {H : Hp} {b : Addr} {o : Obj} (e : h.get? b = some o) (n : H b = none) : (Qfn h H).get? b = some o :=
 ZaD _ e λ hm => by
  have q : (H b).isSome = true := (ZX.mp hm).2
  rw [n] at q; simp at q
theorem Qrp {h : Heap} {H : Hp} {b : Addr} {o : Obj} (e : (Qfn h H).get? b = some o) : h.get? b = some o /\ H b = none := by
 have e' : h.get? b = some o := PySem.W.of_hideAll (trk h H) e
 refine ⟨e', ?_⟩
 cases q : H b with
 | none => rfl
 | some x =>
  have hm : b ∈ trk h H := ZX.mpr ⟨ZR.mpr (Zo e'), by simp [q]⟩
  have z : (Qfn h H).get? b = none := PySem.W.hideAll_none (trk h H) hm
  rw [z] at e; cases e
noncomputable def Qp5 (g h : Heap) (L : Addr) : List (Addr × Obj) := (List.range h.objs.size).filterMap λ a => if a = L ∨ (g.get? a).isSome = true then none else (h.get? a).map λ o => (a, o)
noncomputable def rest (g h : Heap) (L d : Addr) : List (Addr × Obj) := (Qp5 g h L).filter λ p => decide (p.1 ≠ d)
end L2
namespace L2
open PySem PySem.Spec PyProof.Rows
structure Mod (K : PySem.W.Frag) (mg : Str -> Option Value) (base : Heap) : Prop where
 kin : K.In base
 glob : base.Ns mainGlobals mg
 blt : ∃ mb, base.Ns builtinsNs mb /\ ∀ x : Str, x ≠ "__name__" -> mb x = bootBuiltins x
 nolimit : base.NoLimit
structure Cx where
 prog : Program
 w : World
 K : PySem.W.Frag
 mg : Str -> Option Value
 base : Heap
 A : Around
 N : List Str
 s₀ : Shared
 H₀ : Hp
 env : Env
 outer : List Env
 stack : List Env
 ex : List Addr
 fn : Str -> Bool
 calm : Bool
 pn : List (Addr × Obj)
 xe : Value -> Shared -> Prop
noncomputable def frs (l : List Env) : List Addr := l.filterMap (·.frame)
noncomputable abbrev Cx.fs (X : Cx) : List Addr := frs X.outer
def Vis (sc : Scope) (x : Str) : Prop := sc.names.lookup x = some .local ∨ sc.names.lookup x = some .cell ∨ sc.names.lookup x = some .free
def Loc (sc : Scope) (x : Str) : Prop := sc.names.lookup x = some .local ∨ sc.names.lookup x = some .cell
def Look (env : Env) (h : Heap) (m : Str -> Option Value) (x : Str) (u : Value) : Prop :=
 (env.kindOf x = some .local /\ m x = some u) ∨ ((env.kindOf x = some .cell ∨ env.kindOf x = some .free) /\ ∃ c, env.cells.lookup x = some c /\ h.IsCell c (some u))
structure Cx.Ok (X : Cx) : Prop where
 mod : Mod X.K X.mg X.base
 kind : X.env.scope.kind = .function
 glob : X.env.globals = mainGlobals
 blt : X.env.builtins = builtinsNs
 above : X.s₀.heap.objs.size <= X.env.locals
 inj : ∀ x y c, X.env.cells.lookup x = some c -> X.env.cells.lookup y = some c -> x = y
 has : ∀ x, (X.env.kindOf x = some .cell ∨ X.env.kindOf x = some .free) -> ∃ c, X.env.cells.lookup x = some c
 cab : ∀ x c, X.fn x = true -> X.env.cells.lookup x = some c -> X.s₀.heap.objs.size <= c
 hd : X.calm = true -> X.A.handled = none
 frames : X.A.frames = some X.stack
 stk : X.stack = X.outer ∨ (X.stack = X.env :: X.outer /\ X.env.frame = some X.env.locals)
 exf : ∀ b ∈ X.ex, b ≠ X.env.locals /\ ∀ x c, X.env.cells.lookup x = some c -> c ≠ b
 bs : ∀ b o, X.base.get? b = some o -> X.s₀.heap.get? b = some o /\ X.H₀ b = none
 bsz : X.base.objs.size <= X.s₀.heap.objs.size
 noex : ∀ b o, X.base.get? b = some o -> b ∉ X.ex
 exfs : ∀ b ∈ X.ex, b ∉ X.fs
 QcG : X.s₀.heap.FunFrames X.base X.outer
 frf : ∀ b ∈ X.fs, X.H₀ b = none
structure Inv (X : Cx) (pins : List (Addr × Obj)) (σ : List (Option V)) (H : Hp) (s : Shared) : Prop where
 ok : X.Ok
 os : s.os = X.s₀.os
 bare : AllBare s.gens
 base : Un X.fs X.ex X.H₀ H X.s₀.heap s.heap
 loc : ∃ m, s.heap.Ns X.env.locals m /\ ∀ (i : Nat) (x : Str) (v : V), X.N[i]? = some x -> σ[i]? = some (some v) -> Vis X.env.scope x -> ∃ u, RelV v u /\ Look X.env s.heap m x u
 cell : ∀ x c, X.env.cells.lookup x = some c -> ∃ v, s.heap.IsCell c v
 free : H X.env.locals = none
 freeC : ∀ x c, X.env.cells.lookup x = some c -> H c = none
 pin : ∀ p ∈ X.pn ++ pins, s.heap.get? p.1 = some p.2 /\ H p.1 = none /\ p.1 ≠ X.env.locals /\ p.1 ∉ X.fs /\ ∀ v, p.2.data ≠ .cell v
 hok : HOk X.prog X.w H s.heap
 len : σ.length = X.N.length
section
variable {X : Cx} {pins : List (Addr × Obj)} {σ : List (Option V)} {H H' : Hp} {s : Shared} {h' : Heap}
theorem Cx.Ok.QuP (ok : X.Ok) {b : Addr} {o : Obj} (e : X.base.get? b = some o) : b ∉ X.fs := λ hb => by
 have := (ok.QcG.mem hb).1
 rw [e] at this; cases this
theorem Inv.bs (I : Inv X pins σ H s) : ∀ b o, X.base.get? b = some o -> s.heap.get? b = some o /\ H b = none := λ b o e =>
 ⟨I.base.keep b o (I.ok.bs b o e).1 (I.ok.bs b o e).2 (I.ok.QuP e) (I.ok.noex b o e), I.base.free b o (I.ok.bs b o e).1 (I.ok.bs b o e).2 (I.ok.noex b o e)⟩
theorem Inv.bk (I : Inv X pins σ H s) : ∀ b o, X.base.get? b = some o -> s.heap.get? b = some o := λ b o e => (I.bs b o e).1
theorem Inv.mod (I : Inv X pins σ H s) : Mod X.K X.mg X.base := I.ok.mod
theorem Inv.kIn (I : Inv X pins σ H s) : X.K.In s.heap := I.ok.mod.kin.keeps I.bk
theorem Inv.nolimit (I : Inv X pins σ H s) : s.heap.NoLimit := I.ok.mod.nolimit.keeps I.bk
theorem Inv.fr (I : Inv X pins σ H s) : ∃ m, Fr X.base X.env.locals s.heap m :=
 let ⟨m, hn, _⟩ := I.loc
 ⟨m, hn, I.bk, ZA I.ok.bsz I.ok.above⟩
theorem Inv.lt (I : Inv X pins σ H s) : X.env.locals < s.heap.objs.size := let ⟨_, hn, _⟩ := I.loc; hn.lt
theorem Inv.sz (I : Inv X pins σ H s) : X.s₀.heap.objs.size <= s.heap.objs.size := ZA I.ok.above (Nat.le_of_lt I.lt)
theorem Inv.QuL (I : Inv X pins σ H s) {a : Addr} (h : s.heap.objs.size <= a) : a ∉ X.fs := λ hb => by
 obtain ⟨_, o, ho, _⟩ := I.ok.QcG.mem hb
 exact absurd (Zp (Zo ho) (ZA I.sz h)) (ZN _)
theorem Inv.cne (I : Inv X pins σ H s) : ∀ x c, X.env.cells.lookup x = some c -> c ≠ X.env.locals := λ x c e z => by
 obtain ⟨v, o, ho, hd⟩ := I.cell x c e
 obtain ⟨m, ⟨o', es, ep, ho', hd', _⟩, _⟩ := I.loc
 rw [z, ho'] at ho; cases ho; rw [hd'] at hd; cases hd
theorem Inv.QcG (I : Inv X pins σ H s) : s.heap.FunFrames X.base X.outer := by
 have all : ∀ (l : List Env), (∀ b ∈ frs l, b ∈ X.fs) -> X.s₀.heap.FunFrames X.base l -> s.heap.FunFrames X.base l := by
  intro l
  induction l with
  | nil => intro _ _; trivial
  | cons env r ih =>
   intro hs hl
   obtain ⟨hk, ⟨L, o, hf, hn, ho, hd⟩, hr⟩ := hl
   have hL : L ∈ X.fs := hs L (by unfold frs; rw [ZaU, hf]; exact Zi)
   obtain ⟨sl, e⟩ := I.base.slot L o ho (I.ok.frf L hL) hL λ z => I.ok.exfs L z hL
   exact ⟨hk, ⟨L, _, hf, hn, e, hd⟩, ih (λ b hb => hs b (by unfold frs; rw [ZaU, hf]; exact Zd _ hb)) hr⟩
 exact all X.outer (λ _ hb => hb) I.ok.QcG
theorem Inv.stack (I : Inv X pins σ H s) : s.heap.FunFrames X.base X.stack := by
 rcases I.ok.stk with e | ⟨e, hf⟩
 ·rw [e]; exact I.QcG
 ·rw [e]
  obtain ⟨m, hn, _⟩ := I.loc
  refine .cons (by rw [I.ok.kind]; decide) hf hn ?_ I.QcG
  exact Heap.get?_none_of_le (ZA I.ok.bsz I.ok.above)
theorem Inv.Qej (I : Inv X pins σ H s) : ∀ b ∈ frs X.stack, b ∈ X.env.locals :: X.fs := λ b hb => by
 rcases I.ok.stk with e | ⟨e, hf⟩
 ·rw [e] at hb; exact Zd _ hb
 ·rw [e] at hb
  unfold frs at hb
  rw [ZaU, hf] at hb
  exact hb
theorem Inv.Qis (I : Inv X pins σ H s) : ∀ b ∈ frs X.stack, H b = none := λ b hb => by
 rcases Zm.mp (I.Qej b hb) with e | hb
 ·rw [e]; exact I.free
 ·obtain ⟨_, o, ho, _⟩ := I.ok.QcG.mem hb
  exact I.base.free b o ho (I.ok.frf b hb) λ z => I.ok.exfs b z hb
theorem Inv.step {g' : Array GenState} {t' : Nat} {d' : Drawn} {ch : List Addr} (I : Inv X pins σ H s)
  (hch : ∀ b ∈ ch, (b ∈ X.ex ∨ X.s₀.heap.objs.size <= b) /\ b ≠ X.env.locals /\ (∀ x c, X.env.cells.lookup x = some c -> c ≠ b) /\ ∀ p ∈ X.pn ++ pins, p.1 ≠ b)
  (keep : ∀ b o, b ≠ X.env.locals -> b ∉ X.fs -> b ∉ ch -> s.heap.get? b = some o -> H b = none -> h'.get? b = some o)
  (slot : ∀ b o, b ≠ X.env.locals -> b ∈ X.fs -> b ∉ ch -> s.heap.get? b = some o -> H b = none -> ∃ sl, h'.get? b = some { o with slots := sl }) (free : ∀ b o, b ∉ ch -> s.heap.get? b = some o -> H b = none -> H' b = none)
  (there : ∀ b o, b ∉ ch -> s.heap.get? b = some o -> ∃ o', h'.get? b = some o')
  (tups : ∀ b xs, H b = some (.tup xs) -> H' b = some (.tup xs)) (frzs : ∀ b o u, H b = some (.frz o u) -> H' b = some (.frz o u)) (tbls : ∀ b ps, H b = some (.tbl ps) -> ∃ more, H' b = some (.tbl (ps ++ more)))
  (ns : ∀ m, s.heap.Ns X.env.locals m -> h'.Ns X.env.locals m) (hok : HOk X.prog X.w H' h') (hg : AllBare g') :
  Inv X pins σ H' { s with heap := h', gens := g', drawn := d', toks := t' } := by
 have neL : ∀ b o, X.s₀.heap.get? b = some o -> b ≠ X.env.locals := λ b o e => ZH (Zp (Zo e) I.ok.above)
 have neC : ∀ b o, X.s₀.heap.get? b = some o -> b ∉ X.ex -> b ∉ ch := λ b o e hx hb => by
  rcases (hch b hb).1 with z | z
  ·exact hx z
  ·exact absurd (Zp (Zo e) z) (ZN _)
 have cellK : ∀ x c, X.env.cells.lookup x = some c -> ∀ v, s.heap.IsCell c v -> h'.IsCell c v := λ x c e v ⟨o, ho, hd⟩ => by
  have nch : c ∉ ch := λ z => (hch c z).2.2.1 x c e rfl
  by_cases hc : c ∈ X.fs
  ·obtain ⟨sl, q⟩ := slot c o (I.cne x c e) hc nch ho (I.freeC x c e)
   exact ⟨_, q, hd⟩
  ·exact ⟨o, keep c o (I.cne x c e) hc nch ho (I.freeC x c e), hd⟩
 refine ⟨I.ok, I.os, hg, ⟨λ b o e n hb hx => ?_, λ b o e n hb hx => ?_, λ b o e n hx => ?_, λ b o e hx => ?_, λ b xs e => tups b xs (I.base.tups b xs e), λ b o xs e => frzs b o xs (I.base.frzs b o xs e), λ b ps e => ?_⟩, ?_, λ x c e => ?_, ?_, λ x c e => ?_, λ p hp => ?_, hok, I.len⟩
 ·exact keep b o (neL b o e) hb (neC b o e hx) (I.base.keep b o e n hb hx) (I.base.free b o e n hx)
 ·obtain ⟨sl, e1⟩ := I.base.slot b o e n hb hx
  obtain ⟨sl', e2⟩ := slot b _ (neL b o e) hb (neC b o e hx) e1 (I.base.free b o e n hx)
  exact ⟨sl', e2⟩
 ·obtain ⟨o', e1⟩ := I.base.there b o e hx
  exact free b o' (neC b o e hx) e1 (I.base.free b o e n hx)
 ·obtain ⟨o', e1⟩ := I.base.there b o e hx
  exact there b o' (neC b o e hx) e1
 ·obtain ⟨m1, e1⟩ := I.base.tbls b ps e
  obtain ⟨m2, e2⟩ := tbls b _ e1
  exact ⟨m1 ++ m2, by rw [e2, Array.append_assoc]⟩
 ·obtain ⟨m, hn, hl⟩ := I.loc
  refine ⟨m, ns m hn, λ i x v e1 e2 e3 => ?_⟩
  obtain ⟨u, r, l⟩ := hl i x v e1 e2 e3
  refine ⟨u, r, ?_⟩
  rcases l with l | ⟨k, c, e, z⟩
  ·exact .inl l
  ·exact .inr ⟨k, c, e, cellK x c e _ z⟩
 ·obtain ⟨v, z⟩ := I.cell x c e
  exact ⟨v, cellK x c e v z⟩
 ·obtain ⟨m, ⟨o, _, _, ho, _⟩, _⟩ := I.loc
  exact free _ o (λ z => (hch _ z).2.1 rfl) ho I.free
 ·obtain ⟨v, o, ho, hd⟩ := I.cell x c e
  exact free c o (λ z => (hch c z).2.2.1 x c e rfl) ho (I.freeC x c e)
 ·obtain ⟨e, n, ne, nf, d⟩ := I.pin p hp
  have nch : p.1 ∉ ch := λ z => (hch p.1 z).2.2.2 p hp rfl
  exact ⟨keep p.1 p.2 ne nf nch e n, free p.1 p.2 nch e n, ne, nf, d⟩
theorem Inv.un {t' : Nat} (I : Inv X pins σ H s) (u : Un X.fs [] H H' s.heap h') (hok : HOk X.prog X.w H' h') : Inv X pins σ H' { s with heap := h', toks := t' } := by
 obtain ⟨m, ⟨o, es, ep, ho, r⟩, _⟩ := id I.loc
 obtain ⟨sl, hL⟩ := u.any ho I.free (by simp)
 exact I.step (g' := s.gens) (d' := s.drawn) (ch := []) (λ _ z => nomatch z) (λ b o _ hb _ e n => u.keep b o e n hb (by simp)) (λ b o _ hb _ e n => u.slot b o e n hb (by simp)) (λ b o _ e n => u.free b o e n (by simp)) (λ b o _ e => u.there b o e (by simp)) u.tups u.frzs u.tbls (λ m' hm => by
  obtain ⟨o', es', ep', ho', r'⟩ := hm
  rw [ho] at ho'; cases ho'
  exact ⟨_, es', ep', hL, r'⟩) hok I.bare
theorem Inv.call {g' : Array GenState} {t' : Nat} {d' : Drawn} {ch : List Addr} (I : Inv X pins σ H s) (u : Un (frs X.stack) ch H H' s.heap h') (hok : HOk X.prog X.w H' h') (hg : AllBare g')
  (hch : ∀ b ∈ ch, (b ∈ X.ex ∨ X.s₀.heap.objs.size <= b) /\ b ≠ X.env.locals /\ (∀ x c, X.env.cells.lookup x = some c -> c ≠ b) /\ ∀ p ∈ X.pn ++ pins, p.1 ≠ b) :
  Inv X pins σ H' { s with heap := h', gens := g', drawn := d', toks := t' } := by
 obtain ⟨m, ⟨o, es, ep, ho, r⟩, _⟩ := id I.loc
 obtain ⟨sl, hL⟩ := u.any ho I.free λ z => (hch _ z).2.1 rfl
 exact I.step (ch := ch) hch (λ b o hL hb hc e n => u.keep b o e n (λ z => (Zm.mp (I.Qej b z)).elim hL hb) hc) (λ b o _ _ hc e n => u.any e n hc) (λ b o hc e n => u.free b o e n hc) (λ b o hc e => u.there b o e hc) u.tups u.frzs u.tbls (λ m' hm => by
  obtain ⟨o', es', ep', ho', r'⟩ := hm
  rw [ho] at ho'; cases ho'
  exact ⟨_, es', ep', hL, r'⟩) hok hg
theorem Inv.turned {t' : Nat} {it : Addr} (I : Inv X pins σ H s) (k : ∀ b o, b ≠ it -> s.heap.get? b = some o -> h'.get? b = some o) (hn : H it = none) (hL : it ≠ X.env.locals)
  (h1 : it ∈ X.ex ∨ X.s₀.heap.objs.size <= it) (h2 : ∀ x c, X.env.cells.lookup x = some c -> c ≠ it) (h3 : ∀ p ∈ X.pn ++ pins, p.1 ≠ it) : Inv X pins σ H { s with heap := h', toks := t' } := by
 have nit : ∀ b u, H b = some u -> b ≠ it := λ b u e z => by rw [z, hn] at e; cases e
 refine I.step (g' := s.gens) (d' := s.drawn) (ch := [it]) (λ b hb => ?_) (λ b o _ _ hc e _ => k b o (λ z => hc (by simp [z])) e) (λ b o _ _ hc e _ => ⟨o.slots, k b o (λ z => hc (by simp [z])) e⟩) (λ _ _ _ _ n => n)
  (λ b o hc e => ⟨o, k b o (λ z => hc (by simp [z])) e⟩) (λ _ _ e => e) (λ _ _ _ e => e) (λ b ps e => ⟨#[], by rw [e]; simp⟩) (λ m hm => ?_) (λ b u e => ?_) I.bare
 ·have e : b = it := by simpa using hb
  subst e
  exact ⟨h1, hL, h2, h3⟩
 ·obtain ⟨o, es, ep, ho, r⟩ := hm
  exact ⟨o, es, ep, k _ o (Ne.symm hL) ho, r⟩
 ·refine (I.hok b u e).QeF (λ c v hc q => k c v ?_ q) (λ _ q => q) λ _ _ q => q
  rcases hc with z | z
  ·rw [z]; exact nit b u e
  ·exact nit c _ z
theorem Inv.tok (I : Inv X pins σ H s) (t : Nat) : Inv X pins σ H { s with toks := t } := I.un (h' := s.heap) (t' := t) Un.refl I.hok
theorem Inv.kept {t' : Nat} (I : Inv X pins σ H s) (k : ∀ b u, s.heap.get? b = some u -> h'.get? b = some u) : Inv X pins σ H { s with heap := h', toks := t' } := I.un (Un.kept k) (I.hok.kept k)
theorem Inv.laid {a : Addr} {o : HO} {t' : Nat} (I : Inv X pins σ H s) (k : ∀ b u, s.heap.get? b = some u -> h'.get? b = some u) (hp : s.heap.objs.size <= a) (new : Qbz X.prog X.w (upd H a o) h' a o) :
  Inv X pins σ (upd H a o) { s with heap := h', toks := t' } := I.un (Un.laid k hp (I.hok.fresh hp)) (I.hok.laid k hp new)
theorem Inv.write {x e : Addr} {o : HO} {t' : Nat} (I : Inv X pins σ H s) (mu : Mut (H x)) (he : e = x ∨ H e = some (.own x)) (k : ∀ b u, b ≠ e -> s.heap.get? b = some u -> h'.get? b = some u) (heo : ∃ u, h'.get? e = some u)
  (new : Qbz X.prog X.w (upd H x o) h' x o) : Inv X pins σ (upd H x o) { s with heap := h', toks := t' } := I.un (Un.write mu he k heo) (I.hok.write mu he k heo new)
theorem Inv.weak {σ' : List (Option V)} (I : Inv X pins σ H s) (hl : σ'.length = σ.length) (w : ∀ (i : Nat) v, σ'[i]? = some (some v) -> σ[i]? = some (some v)) : Inv X pins σ' H s :=
 ⟨I.ok, I.os, I.bare, I.base, let ⟨m, hn, hl'⟩ := I.loc; ⟨m, hn, λ i x v e1 e2 e3 => hl' i x v e1 (w i v e2) e3⟩, I.cell, I.free, I.freeC, I.pin, I.hok, hl.trans I.len⟩
theorem Inv.Qle {pins' : List (Addr × Obj)} (I : Inv X pins σ H s) (h : ∀ p ∈ pins', s.heap.get? p.1 = some p.2 /\ H p.1 = none /\ p.1 ≠ X.env.locals /\ p.1 ∉ X.fs /\ ∀ v, p.2.data ≠ .cell v) : Inv X pins' σ H s :=
 ⟨I.ok, I.os, I.bare, I.base, I.loc, I.cell, I.free, I.freeC, λ p hp => (Zn.mp hp).elim (λ z => I.pin p (Zc _ z)) (h p), I.hok, I.len⟩
theorem Qg8 {N : List Str} (hN : N.Nodup) {i j : Nat} {x : Str} (a : N[i]? = some x) (b : N[j]? = some x) : i = j := by
 obtain ⟨h1, e1⟩ := Zg.mp a
 obtain ⟨h2, e2⟩ := Zg.mp b
 exact (List.getElem_inj hN).mp (e1.trans e2.symm)
theorem Qjj {M : Model} {A : Around} {E : Value -> Shared -> Prop} {i : Nat} {x : Str} {v : V} {u : Value} {Q : Unit -> Shared -> Prop} (I : Inv X pins σ H s) (hN : X.N.Nodup) (hi : X.N[i]? = some x) (hx : Loc X.env.scope x) (r : RelV v u)
  (h : ∀ s', Inv X pins (σ.set i (some v)) H s' -> (∃ a, Heap.SameBut a s.heap s'.heap /\ (a = X.env.locals ∨ X.env.cells.lookup x = some a)) -> Q () s') (hf : X.fn x = true ∨ X.env.scope.names.lookup x = some .local := by first | exact .inl rfl | exact .inr rfl | assumption) : wpAny M A (storeName X.env x u) Q E s := by
 obtain ⟨m, hn, hl⟩ := id I.loc
 have hcls : (X.env.scope.kind == .class || (X.env.scope.kind == .module && X.env.locals != X.env.globals)) = false := by rw [I.ok.kind]; rfl
 have hiσ : i < σ.length := by rw [I.len]; exact (Zg.mp hi).1
 have cne := I.cne
 have tracked : ∀ {a : Addr} {h' : Heap}, (∃ o, s.heap.get? a = some o /\ H a = none) -> Heap.SameBut a s.heap h' -> HOk X.prog X.w H h' := λ {a h'} ha hs b ob e => by
  obtain ⟨_, _, hfree⟩ := ha
  refine (I.hok b ob e).QeF (λ c w' hc q => (hs.2 c ?_).trans q) (λ _ q => q) λ _ _ q => q
  rintro rfl
  rcases hc with rfl | hc
  ·rw [hfree] at e; cases e
  ·rw [hfree] at hc; cases hc
 rcases hx with hk | hk
 ·refine wpAny_storeName_local hk hn (λ h' hn' hs => ?_) hcls
  obtain ⟨oL, _, _, hoL, _⟩ := id hn
  refine h _ ⟨I.ok, I.os, I.bare, ⟨λ b o e n hb hx => ?_, λ b o e n hb hx => ?_, I.base.free, λ b o e hx => ?_, I.base.tups, I.base.frzs, I.base.tbls⟩, ⟨_, hn', λ j y v' e1 e2 e3 => ?_⟩, λ y c e => ?_, I.free, I.freeC, λ p hp => ?_, tracked ⟨oL, hoL, I.free⟩ hs, by simpa using I.len⟩ ⟨_, hs, .inl rfl⟩
  ·exact (hs.2 b (ZH (Zp (Zo e) I.ok.above))).trans (I.base.keep b o e n hb hx)
  ·obtain ⟨sl, e1⟩ := I.base.slot b o e n hb hx
   exact ⟨sl, (hs.2 b (ZH (Zp (Zo e) I.ok.above))).trans e1⟩
  ·obtain ⟨o', e1⟩ := I.base.there b o e hx
   exact ⟨o', (hs.2 b (ZH (Zp (Zo e) I.ok.above))).trans e1⟩
  ·by_cases hj : j = i
   ·subst hj
    rw [hi] at e1; cases e1
    rw [Zt hiσ] at e2
    cases e2
    exact ⟨u, r, .inl ⟨hk, by simp⟩⟩
   ·rw [Zk (Ne.symm hj)] at e2
    obtain ⟨u', r', q⟩ := hl j y v' e1 e2 e3
    refine ⟨u', r', ?_⟩
    rcases q with ⟨k, e⟩ | ⟨k, c, e, z⟩
    ·refine .inl ⟨k, ?_⟩
     have : y ≠ x := λ e => hj (Qg8 hN e1 (e ▸ hi))
     simp [this, e]
    ·exact .inr ⟨k, c, e, z.sameBut hs (cne y c e)⟩
  ·obtain ⟨w', z⟩ := I.cell y c e
   exact ⟨w', z.sameBut hs (cne y c e)⟩
  ·obtain ⟨e, n, ne, nf, d⟩ := I.pin p hp
   exact ⟨(hs.2 p.1 ne).trans e, n, ne, nf, d⟩
 ·have hfn : X.fn x = true := by
   rcases hf with z | z
   ·exact z
   ·rw [z] at hk; cases hk
  obtain ⟨c, hc⟩ := I.ok.has x (.inl hk)
  obtain ⟨w', z⟩ := I.cell x c hc
  refine wpAny_storeName_cell I.ok.kind hk hc z (λ h' hc' hs => ?_)
  obtain ⟨oc, hoc, hocd⟩ := id z
  refine h { s with heap := h' } ⟨I.ok, I.os, I.bare, ⟨λ b o e n hb hx => ?_, λ b o e n hb hx => ?_, I.base.free, λ b o e hx => ?_, I.base.tups, I.base.frzs, I.base.tbls⟩, ⟨m, hn.sameBut hs (Ne.symm (cne x c hc)), λ j y v' e1 e2 e3 => ?_⟩, λ y c' e => ?_, I.free, I.freeC, λ p hp => ?_, tracked ⟨oc, hoc, I.freeC x c hc⟩ hs, by simpa using I.len⟩ ⟨c, hs, .inr hc⟩
  ·exact (hs.2 b (ZH (Zp (Zo e) (I.ok.cab x c hfn hc)))).trans (I.base.keep b o e n hb hx)
  ·obtain ⟨sl, e1⟩ := I.base.slot b o e n hb hx
   exact ⟨sl, (hs.2 b (ZH (Zp (Zo e) (I.ok.cab x c hfn hc)))).trans e1⟩
  ·obtain ⟨o', e1⟩ := I.base.there b o e hx
   exact ⟨o', (hs.2 b (ZH (Zp (Zo e) (I.ok.cab x c hfn hc)))).trans e1⟩
  ·by_cases hj : j = i
   ·subst hj
    rw [hi] at e1; cases e1
    rw [Zt hiσ] at e2
    cases e2
    exact ⟨u, r, .inr ⟨.inl hk, c, hc, hc'⟩⟩
   ·rw [Zk (Ne.symm hj)] at e2
    obtain ⟨u', r', q⟩ := hl j y v' e1 e2 e3
    refine ⟨u', r', ?_⟩
    rcases q with q | ⟨k, c', e, z'⟩
    ·exact .inl q
    ·refine .inr ⟨k, c', e, z'.sameBut hs ?_⟩
     rintro rfl
     exact hj (Qg8 hN e1 (I.ok.inj _ _ _ e hc ▸ hi))
  ·by_cases hcc : c' = c
   ·subst hcc; exact ⟨_, hc'⟩
   ·obtain ⟨w2, z2⟩ := I.cell y c' e
    exact ⟨w2, z2.sameBut hs hcc⟩
  ·obtain ⟨e, n, ne, nf, d⟩ := I.pin p hp
   refine ⟨(hs.2 p.1 ?_).trans e, n, ne, nf, d⟩
   intro q
   rw [q, hoc] at e
   have q' : oc = p.2 := Option.some.inj e
   exact d w' (by rw [← q']; exact hocd)
theorem Qfu {M : Model} {A : Around} {E : Value -> Shared -> Prop} {i : Nat} {x : Str} {v : V} {u : Value} {Q : Unit -> Shared -> Prop} (I : Inv X pins σ H s) (hN : X.N.Nodup) (hi : X.N[i]? = some x) (hx : Loc X.env.scope x) (r : RelV v u)
  (h : ∀ s', Inv X pins (σ.set i (some v)) H s' -> Q () s') (hf : X.fn x = true ∨ X.env.scope.names.lookup x = some .local := by first | exact .inl rfl | exact .inr rfl | assumption) : wpAny M A (storeName X.env x u) Q E s :=
 Qjj I hN hi hx r (λ s' I' _ => h s' I') hf
theorem Inv.QpH {s' : Shared} {ch : List Addr} (I : Inv X pins σ H s) (ho : s'.os = s.os) (u : Un (frs X.stack) ch H H' s.heap s'.heap) (hok : HOk X.prog X.w H' s'.heap) (hg : AllBare s'.gens)
  (hch : ∀ b ∈ ch, (b ∈ X.ex ∨ X.s₀.heap.objs.size <= b) /\ b ≠ X.env.locals /\ (∀ x c, X.env.cells.lookup x = some c -> c ≠ b) /\ ∀ p ∈ X.pn ++ pins, p.1 ≠ b) : Inv X pins σ H' s' := by
 obtain ⟨h', g', d', t', o'⟩ := s'
 have e : o' = s.os := ho
 subst e
 exact I.call (g' := g') (t' := t') (d' := d') u hok hg hch
end
noncomputable abbrev XK := Value -> Option Addr -> Hp -> Prop
noncomputable abbrev St := List (Option V)
noncomputable abbrev VK := V -> Hp -> Prop
noncomputable abbrev TE := St -> Hp -> VK -> Prop
noncomputable abbrev TT := St -> Hp -> (Bool -> Hp -> Prop) -> Prop
noncomputable abbrev TA := St -> Hp -> (List V -> Hp -> Prop) -> Prop
structure Ends where
 nx : St -> Hp -> Prop
 rt : VK
 bk : St -> Hp -> Prop := λ _ _ => False
 ct : St -> Hp -> Prop := λ _ _ => False
noncomputable abbrev TS := Ends -> St -> Hp -> Prop
def EP (X : Cx) (pins : List (Addr × Obj)) (σ : St) (Q : VK) (u : Value) (s' : Shared) : Prop := ∃ v H', Inv X pins σ H' s' /\ RelV v u /\ Q v H'
def TP (X : Cx) (pins : List (Addr × Obj)) (σ : St) (Q : Bool -> Hp -> Prop) (b : Bool) (s' : Shared) : Prop := ∃ H', Inv X pins σ H' s' /\ Q b H'
def AP (X : Cx) (pins : List (Addr × Obj)) (σ : St) (Q : List V -> Hp -> Prop) (us : List Value) (s' : Shared) : Prop := ∃ vs H', Inv X pins σ H' s' /\ Qq vs us /\ Q vs H'
def SP (X : Cx) (pins : List (Addr × Obj)) (D : Ends) (f : Flow) (s' : Shared) : Prop :=
 match f with
 | .next => ∃ σ' H', Inv X pins σ' H' s' /\ D.nx σ' H'
 | .brk => ∃ σ' H', Inv X pins σ' H' s' /\ D.bk σ' H'
 | .cont => ∃ σ' H', Inv X pins σ' H' s' /\ D.ct σ' H'
 | .ret u => ∃ v σ' H', Inv X pins σ' H' s' /\ RelV v u /\ D.rt v H'
def PE (X : Cx) (e : Expr) (t : TE) : Prop :=
 ∀ (pins : List (Addr × Obj)) (s : Shared) (σ : St) (H : Hp) (Q : VK), Inv X pins σ H s -> t σ H Q -> wpAny (model X.prog X.w) X.A (eval e X.env) (EP X pins σ Q) X.xe s
def PT (X : Cx) (e : Expr) (t : TT) : Prop :=
 ∀ (pins : List (Addr × Obj)) (s : Shared) (σ : St) (H : Hp) (Q : Bool -> Hp -> Prop), Inv X pins σ H s -> t σ H Q -> wpAny (model X.prog X.w) X.A (isTrue e X.env (eval e X.env)) (TP X pins σ Q) X.xe s
def PW (X : Cx) (e : Expr) (t : TT) : Prop :=
 ∀ (whole : Sem Value) (pins : List (Addr × Obj)) (s : Shared) (σ : St) (H : Hp) (Q : Bool -> Hp -> Prop), Inv X pins σ H s -> t σ H Q -> wpAny (model X.prog X.w) X.A (isTrue e X.env whole) (TP X pins σ Q) X.xe s
theorem PW.pt {X : Cx} {e : Expr} {t : TT} (h : PW X e t) : PT X e t := h _
def PA (X : Cx) (es : List Expr) (t : TA) : Prop :=
 ∀ (pos : Pos) (pins : List (Addr × Obj)) (s : Shared) (σ : St) (H : Hp) (Q : List V -> Hp -> Prop), Inv X pins σ H s -> t σ H Q -> wpAny (model X.prog X.w) X.A (spliced (backTo pos (starEach es X.env))) (AP X pins σ Q) X.xe s
def PS (X : Cx) (st : Stmt) (t : TS) : Prop :=
 ∀ (pins : List (Addr × Obj)) (s : Shared) (σ : St) (H : Hp) (D : Ends), Inv X pins σ H s -> t D σ H -> wpAny (model X.prog X.w) X.A (exec st X.env) (SP X pins D) X.xe s
def PSs (X : Cx) (st : List Stmt) (t : TS) : Prop :=
 ∀ (pins : List (Addr × Obj)) (s : Shared) (σ : St) (H : Hp) (D : Ends), Inv X pins σ H s -> t D σ H -> wpAny (model X.prog X.w) X.A (execs st X.env) (SP X pins D) X.xe s
theorem thn {α : Type} {t : Sem α} {Q Q' : α -> Shared -> Prop} {M : Model} {A : Around} {E : Value -> Shared -> Prop} {s : Shared} (h : wpAny M A t Q E s) (hQ : ∀ a s, Q a s -> Q' a s) : wpAny M A t Q' E s := wpAny_mono h hQ λ _ _ x => x
end L2
namespace L2
open PySem PySem.Spec PyProof.Rows
section
variable {X : Cx}
noncomputable def Qmo (i : Nat) : TE := λ σ H Q => ∃ v, σ[i]? = some (some v) /\ Q v H
noncomputable def tC (v : V) : TE := λ _ H Q => Q v H
theorem Qr8 {i : Nat} {x : Str} {pos : Pos} (hN : X.N[i]? = some x) (hv : Vis X.env.scope x) (hd : (x == ("__debug__" : Str)) = false := by decide) (hcd : (x == ("__classdict__" : Str)) = false := by decide) : PE X (.Name x pos) (Qmo i) := by
 intro pins s σ H Q I h
 obtain ⟨v, e, h⟩ := h
 obtain ⟨m, hn, hl⟩ := I.loc
 obtain ⟨u, r, l⟩ := hl i x v hN e hv
 have fin : EP X pins σ Q u s := ⟨v, H, I, r, h⟩
 rcases l with ⟨hk, hm⟩ | ⟨hk, c, hc, hcell⟩
 ·exact wpAny_Name (wpAny_loadName_local I.ok.kind hk hn hm fin) hd
 ·rcases hk with hk | hk
  ·exact wpAny_Name (wpAny_loadName_cell I.ok.kind hk hc hcell fin) hd
  ·exact wpAny_Name (wpAny_loadName_free I.ok.kind hk hc hcell fin hcd) hd
theorem Qtl {i j pos} : PE X (.Constant (.int i) j pos) (tC (.int i)) := λ _ _ _ H _ I h => wpAny_Constant_int ⟨.int i, H, I.tok _, ⟨_, rfl⟩, h⟩
theorem QpP {b j pos} : PE X (.Constant (.bool b) j pos) (tC (.bl b)) := λ _ _ _ H _ I h => Constant_bool ⟨.bl b, H, I, rfl, h⟩
theorem Qr1 {j pos} : PE X (.Constant .none j pos) (tC .non) := λ _ _ _ H _ I h => Constant_none ⟨.non, H, I, rfl, h⟩
theorem QnQ {x j pos} : PE X (.Constant (.str x) j pos) (tC (.str x)) := λ _ _ _ H _ I h => Calls.Constant_str ⟨.str x, H, I.tok _, ⟨_, rfl⟩, h⟩
def Gl (X : Cx) (x : Str) : Prop := X.env.kindOf x = some .globalImplicit
theorem Qdm {E : Value -> Shared -> Prop} {pins : List (Addr × Obj)} {s : Shared} {σ : St} {H : Hp} {x : Str} {u : Value} {pos : Pos} {Q : Value -> Shared -> Prop} (I : Inv X pins σ H s) (hg : Gl X x) (hm : X.mg x = some u) (h : Q u s)
  (hd : (x == ("__debug__" : Str)) = false := by decide) : wpAny (model X.prog X.w) X.A (eval (.Name x pos) X.env) Q E s :=
 Calls.Name_function_global I.ok.kind hg (Calls.loadGlobal_global (by rw [I.ok.glob]; exact I.mod.glob.keeps I.bk) hm h) hd
theorem Qc8 {E : Value -> Shared -> Prop} {pins : List (Addr × Obj)} {s : Shared} {σ : St} {H : Hp} {x : Str} {u : Value} {pos : Pos} {Q : Value -> Shared -> Prop} (I : Inv X pins σ H s) (hg : Gl X x) (hm : X.mg x = none) (hv : bootBuiltins x = some u) (h : Q u s)
  (hn : x ≠ "__name__" := by decide) (hd : (x == ("__debug__" : Str)) = false := by decide) : wpAny (model X.prog X.w) X.A (eval (.Name x pos) X.env) Q E s := by
 obtain ⟨mb, h1, h2⟩ := I.mod.blt
 exact Calls.Name_function_global I.ok.kind hg (Calls.loadGlobal_builtin (by rw [I.ok.glob]; exact I.mod.glob.keeps I.bk) hm (by rw [I.ok.blt]; exact h1.keeps I.bk) ((h2 x hn).trans hv) h) hd
theorem QrO {x : Str} {v : V} {u : Value} {pos : Pos} (hg : Gl X x) (hm : X.mg x = some u) (r : RelV v u) (hd : (x == ("__debug__" : Str)) = false := by decide) : PE X (.Name x pos) (tC v) :=
 λ _ _ _ H _ I h => Qdm I hg hm ⟨v, H, I, r, h⟩ hd
theorem Qe5 {x : Str} {v : V} {u : Value} {pos : Pos} (hg : Gl X x) (hm : X.mg x = none) (hv : bootBuiltins x = some u) (r : RelV v u) (hn : x ≠ "__name__" := by decide) (hd : (x == ("__debug__" : Str)) = false := by decide) : PE X (.Name x pos) (tC v) :=
 λ _ _ _ H _ I h => Qc8 I hg hm hv ⟨v, H, I, r, h⟩ hn hd
variable {a b : Expr} {ta tb : TE} {pos : Pos}
variable {tA tB' : TT} {rest : List Expr}
noncomputable def QuO (t u : TT) : TT := λ σ H Q => t σ H λ c H1 => if c = true then u σ H1 Q else Q false H1
noncomputable def tOr (t u : TT) : TT := λ σ H Q => t σ H λ c H1 => if c = true then Q true H1 else u σ H1 Q
noncomputable def QuI (t : TT) : TT := λ σ H Q => t σ H λ c H1 => Q (!c) H1
theorem QrC (ha : PT X a tA) : PW X (.BoolOp .And [a] pos) tA := by
 intro wh pins s σ H Q I h
 refine isTrue_and (thn (ha pins s σ H Q I h) λ c s1 e => ?_)
 cases c with
 | true => exact isTrue_and_nil e
 | false => exact e
theorem QrR (ha : PT X a tA) : PW X (.BoolOp .Or [a] pos) tA := by
 intro wh pins s σ H Q I h
 refine isTrue_or (thn (ha pins s σ H Q I h) λ c s1 e => ?_)
 cases c with
 | false => exact isTrue_or_nil e
 | true => exact e
theorem QsB (ha : PT X a tA) (hb : PW X (.BoolOp .And (b :: rest) pos) tB') : PW X (.BoolOp .And (a :: b :: rest) pos) (QuO tA tB') := by
 intro wh pins s σ H Q I h
 refine isTrue_and (thn (ha pins s σ H _ I h) λ c s1 ⟨H1, I1, q1⟩ => ?_)
 cases c with
 | true => exact hb wh pins s1 σ H1 Q I1 q1
 | false => exact ⟨H1, I1, q1⟩
theorem Qt9 (ha : PT X a tA) (hb : PW X (.BoolOp .Or (b :: rest) pos) tB') : PW X (.BoolOp .Or (a :: b :: rest) pos) (tOr tA tB') := by
 intro wh pins s σ H Q I h
 refine isTrue_or (thn (ha pins s σ H _ I h) λ c s1 ⟨H1, I1, q1⟩ => ?_)
 cases c with
 | true => exact ⟨H1, I1, q1⟩
 | false => exact hb wh pins s1 σ H1 Q I1 q1
theorem Qsp (ha : PT X a tA) : PT X (.UnaryOp .Not a pos) (QuI tA) := by
 intro pins s σ H Q I h
 exact isTrue_not (ha pins s σ H (λ c H1 => Q (!c) H1) I h)
theorem Qr2 {op} {t : TE} (h : PE X a t) : PE X (.BoolOp op [a] pos) t := λ pins s σ H Q I hw => BoolOp_one (h pins s σ H Q I hw)
end
end L2
namespace L2
open PySem PySem.Spec PyProof.Rows
def SqL (K : PySem.W.Frag) (H : Hp) (a : Addr) (xs : List V) : Prop :=
 Rd H a (.lst xs) ∨
  ∃ (o : Obj) (its : Array Value) (n : Nat), K.lookup a = some o /\ o.cls = .type "list" /\ o.dict = none /\ o.data = .seq its n /\ its.size <= sizeLine /\ Qq xs its.toList
def SqT (K : PySem.W.Frag) (H : Hp) (a : Addr) (xs : List V) : Prop :=
 Rd H a (.tup xs) ∨
  ∃ (o : Obj) (its : Array Value) (n : Nat), K.lookup a = some o /\ o.cls = .type "tuple" /\ o.data = .seq its n /\ its.size <= sizeLine /\ Qq xs its.toList
noncomputable def QuM : Value -> Option V
 | .none => some .non
 | .bool b => some (.bl b)
 | .int i _ => some (.int i)
 | .str x _ => some (.str x)
 | .bytes b _ => some (.byt b)
 | .float b _ => some (.flt b)
 | .ref a => some (.ref a)
 | .type n => some (.ty n)
 | _ => none
theorem RelV.abs {x : V} {u : Value} (r : RelV x u) : QuM u = some x := by
 cases x with
 | non => cases r; rfl
 | bl _ => cases r; rfl
 | int _ => obtain ⟨t, rfl⟩ := r; rfl
 | str _ => obtain ⟨t, rfl⟩ := r; rfl
 | byt _ => obtain ⟨t, rfl⟩ := r; rfl
 | flt _ => obtain ⟨t, rfl⟩ := r; rfl
 | ref _ => cases r; rfl
 | ty _ => cases r; rfl
theorem RelV.inj {x y : V} {u : Value} (r : RelV x u) (q : RelV y u) : x = y := Option.some.inj (r.abs.symm.trans q.abs)
theorem Qq.inj : ∀ {xs ys : List V} {us : List Value}, Qq xs us -> Qq ys us -> xs = ys
 | _, _, _, .nil, .nil => rfl
 | _, _, _, .cons r t, .cons r' t' => by rw [r.inj r', Qq.inj t t']
section
variable {X : Cx} {pins : List (Addr × Obj)} {σ : St} {H : Hp} {s : Shared} {a : Addr} {xs ys : List V}
theorem SqL.of {K : PySem.W.Frag} (h : H a = some (.lst xs)) : SqL K H a xs := .inl (.inl h)
theorem SqT.of {K : PySem.W.Frag} (h : H a = some (.tup xs)) : SqT K H a xs := .inl (.inl h)
theorem Inv.list (I : Inv X pins σ H s) (h : SqL X.K H a xs) : ∃ its : List Value, Qq xs its /\ PlainL s.heap a its.toArray /\ xs.length <= sizeLine := by
 rcases h with h | ⟨o, its, n, hk, hc, hd, hs, hz, r⟩
 ·obtain ⟨z, its, n, r, e⟩ := h.ok I.hok
  exact ⟨its, r, ⟨_, n, e, rfl, rfl, rfl⟩, z⟩
 ·refine ⟨its.toList, r, ⟨o, n, I.kIn a o hk, hc, hd, by simpa using hs⟩, ?_⟩
  have e := r.length
  simp only [Zal] at e
  omega
theorem Inv.tuple (I : Inv X pins σ H s) (h : SqT X.K H a xs) : ∃ its : List Value, Qq xs its /\ IsTup s.heap a its.toArray /\ xs.length <= sizeLine := by
 rcases h with h | ⟨o, its, n, hk, hc, hs, hz, r⟩
 ·obtain ⟨z, its, r, p⟩ := h.ok I.hok
  exact ⟨its, r, p, z⟩
 ·refine ⟨its.toList, r, ⟨o, I.kIn a o hk, hc, n, by simpa using hs⟩, ?_⟩
  have e := r.length
  simp only [Zal] at e
  omega
theorem Inv.QfH (I : Inv X pins σ H s) (h : SqL X.K H a xs) (h' : SqL X.K H a ys) : xs = ys := by
 obtain ⟨its, r, ⟨o, n, e, _, _, d⟩, _⟩ := I.list h
 obtain ⟨its', r', ⟨o', n', e', _, _, d'⟩, _⟩ := I.list h'
 rw [e] at e'; cases e'
 rw [d] at d'
 injection d' with d1 _
 have : its = its' := by simpa using congrArg Array.toList d1
 subst this
 exact r.inj r'
theorem Inv.Qnp (I : Inv X pins σ H s) (h : SqT X.K H a xs) (h' : SqT X.K H a ys) : xs = ys := by
 obtain ⟨its, r, ⟨o, e, _, n, d⟩, _⟩ := I.tuple h
 obtain ⟨its', r', ⟨o', e', _, n', d'⟩, _⟩ := I.tuple h'
 rw [e] at e'; cases e'
 rw [d] at d'
 injection d' with d1 _
 have : its = its' := by simpa using congrArg Array.toList d1
 subst this
 exact r.inj r'
end
noncomputable abbrev Cx.Qdf (X : Cx) (E : Value -> Shared -> Prop) : Cx := { X with xe := E }
noncomputable abbrev Cx.nox (X : Cx) : Cx := X.Qdf λ _ _ => False
theorem Cx.Ok.Qdf {X : Cx} (ok : X.Ok) (E : Value -> Shared -> Prop) : (X.Qdf E).Ok :=
 ⟨ok.mod, ok.kind, ok.glob, ok.blt, ok.above, ok.inj, ok.has, ok.cab, ok.hd, ok.frames, ok.stk, ok.exf, ok.bs, ok.bsz, ok.noex, ok.exfs, ok.QcG, ok.frf⟩
theorem Cx.Ok.QcI {X : Cx} {E : Value -> Shared -> Prop} (ok : (X.Qdf E).Ok) : X.Ok :=
 ⟨ok.mod, ok.kind, ok.glob, ok.blt, ok.above, ok.inj, ok.has, ok.cab, ok.hd, ok.frames, ok.stk, ok.exf, ok.bs, ok.bsz, ok.noex, ok.exfs, ok.QcG, ok.frf⟩
section
variable {X : Cx} {pins : List (Addr × Obj)} {σ : St} {H : Hp} {s : Shared} {E : Value -> Shared -> Prop}
theorem Inv.Qdf (I : Inv X pins σ H s) (E : Value -> Shared -> Prop) : Inv (X.Qdf E) pins σ H s := ⟨I.ok.Qdf E, I.os, I.bare, I.base, I.loc, I.cell, I.free, I.freeC, I.pin, I.hok, I.len⟩
theorem Inv.QcI (I : Inv (X.Qdf E) pins σ H s) : Inv X pins σ H s := ⟨I.ok.QcI, I.os, I.bare, I.base, I.loc, I.cell, I.free, I.freeC, I.pin, I.hok, I.len⟩
theorem SP.QcI {D : Ends} {f : Flow} {s' : Shared} (h : SP (X.Qdf E) pins D f s') : SP X pins D f s' := by
 cases f with
 | next => obtain ⟨σ', H', I, q⟩ := h; exact ⟨σ', H', I.QcI, q⟩
 | brk => obtain ⟨σ', H', I, q⟩ := h; exact ⟨σ', H', I.QcI, q⟩
 | cont => obtain ⟨σ', H', I, q⟩ := h; exact ⟨σ', H', I.QcI, q⟩
 | ret u => obtain ⟨v, σ', H', I, r, q⟩ := h; exact ⟨v, σ', H', I.QcI, r, q⟩
theorem PE.nox {e : Expr} {t : TE} (h : PE X.nox e t) : PE X e t := λ pins s σ H Q I hw =>
 wpAny_mono (h pins s σ H Q (I.Qdf _) hw) (λ _ _ ⟨v, H', I', r, q⟩ => ⟨v, H', I'.QcI, r, q⟩) λ _ _ z => False.elim z
theorem PT.nox {e : Expr} {t : TT} (h : PT X.nox e t) : PT X e t := λ pins s σ H Q I hw =>
 wpAny_mono (h pins s σ H Q (I.Qdf _) hw) (λ _ _ ⟨H', I', q⟩ => ⟨H', I'.QcI, q⟩) λ _ _ z => False.elim z
theorem PSs.nox {st : List Stmt} {t : TS} (h : PSs X.nox st t) : PSs X st t := λ pins s σ H D I hw =>
 wpAny_mono (h pins s σ H D (I.Qdf _) hw) (λ _ _ q => q.QcI) λ _ _ z => False.elim z
end
section
variable {X : Cx} {st : Stmt} {rest : List Stmt} {t u : TS} {e : Expr} {te : TE} {pos : Pos}
noncomputable def Ql5 : TS := λ D σ H => D.nx σ H
noncomputable def Quj (t u : TS) : TS := λ D σ H => t { D with nx := u D } σ H
theorem Qq6 : PSs X [] Ql5 := λ _ _ σ H _ I h => wpAny_execs_nil ⟨σ, H, I, h⟩
theorem Qj2 (h1 : PS X st t) (h2 : PSs X rest u) : PSs X (st :: rest) (Quj t u) := by
 intro pins s σ H D I h
 refine wpAny_execs_cons (thn (h1 pins s σ H { D with nx := u D } I h) λ f s1 q => ?_)
 cases f with
 | next =>
  obtain ⟨σ', H', I', q⟩ := q
  exact h2 pins s1 σ' H' D I' q
 | ret v => exact q
 | brk => exact q
 | cont => exact q
noncomputable def Qso : TS := λ D σ H => D.bk σ H
noncomputable def Qt8 : TS := λ D σ H => D.ct σ H
theorem QrJ : PS X (.Pass pos) Ql5 := λ _ _ σ H _ I h => wpAny_Pass ⟨σ, H, I, h⟩
theorem QoS : PS X (.Break pos) Qso := λ _ _ σ H _ I h => wpAny_Break ⟨σ, H, I, h⟩
theorem Qla : PS X (.Continue pos) Qt8 := λ _ _ σ H _ I h => wpAny_Continue ⟨σ, H, I, h⟩
theorem Inv.quiet {pins : List (Addr × Obj)} {σ : St} {H : Hp} {s : Shared} (I : Inv X pins σ H s) : interactive X.env = false := by simp [interactive, I.ok.kind]
theorem Qr9 {x j pos pos'} : PS X (.Expr (.Constant (.str x) j pos) pos') Ql5 := λ _ s σ H _ I h => wpAny_Expr (Calls.Constant_str (show SP X _ _ .next { s with toks := s.toks + 1 } from ⟨σ, H, I.tok _, h⟩)) I.quiet
noncomputable def Qjy (te : TE) : TS := λ D σ H => te σ H λ _ H1 => D.nx σ H1
theorem Qgt (he : PE X e te) (hs : swapsWith e none pos.line X.env = pure false := by rfl) : PS X (.Expr e pos) (Qjy te) := by
 intro pins s σ H D I h
 exact wpAny_Expr_any (thn (he pins s σ H _ I h) λ v s1 ⟨x, H1, I1, r1, q1⟩ => ⟨σ, H1, I1, q1⟩) I.quiet hs
noncomputable def Qup (te : TE) : TS := λ D σ H => te σ H D.rt
theorem QmZ (he : PE X e te) : PS X (.Return (some e) pos) (Qup te) := by
 intro pins s σ H D I h
 exact wpAny_Return_some (thn (he pins s σ H _ I h) λ v s1 ⟨x, H1, I1, r1, q1⟩ => ⟨x, σ, H1, I1, r1, q1⟩)
noncomputable def Qud : TS := λ D _ H => D.rt .non H
theorem QqT : PS X (.Return none pos) Qud := λ _ _ σ H _ I h => wpAny_Return_none ⟨.non, σ, H, I, rfl, h⟩
noncomputable def Quo (c : TT) (t u : TS) : TS := λ D σ H => c σ H λ b H1 => if b = true then t D σ H1 else u D σ H1
theorem QpG {c : Expr} {a b : List Stmt} {tc : TT} (hc : PT X c tc) (ha : PSs X a t) (hb : PSs X b u) : PS X (.If c a b pos) (Quo tc t u) := by
 intro pins s σ H D I h
 refine wpAny_If (thn (hc pins s σ H _ I h) λ d s1 ⟨H1, I1, q1⟩ => ?_)
 cases d with
 | true => exact ha pins s1 σ H1 D I1 q1
 | false => exact hb pins s1 σ H1 D I1 q1
noncomputable def QsZ : TS := λ _ _ _ => False
theorem QoO : PS X st QsZ := λ _ _ _ _ _ _ h => h.elim
end
noncomputable abbrev TG := V -> St -> Hp -> (St -> Hp -> Prop) -> Prop
noncomputable abbrev TGs := List V -> St -> Hp -> (St -> Hp -> Prop) -> Prop
def PG (X : Cx) (target : Expr) (t : TG) : Prop :=
 ∀ (pins : List (Addr × Obj)) (s : Shared) (σ : St) (H : Hp) (v : V) (u : Value) (Q : St -> Hp -> Prop), Inv X pins σ H s -> RelV v u -> t v σ H Q →
  wpAny (model X.prog X.w) X.A (assign target X.env u) (λ _ s' => ∃ σ' H', Inv X pins σ' H' s' /\ Q σ' H') X.xe s
def PGs (X : Cx) (ts : List Expr) (t : TGs) : Prop :=
 ∀ (pins : List (Addr × Obj)) (s : Shared) (σ : St) (H : Hp) (vs : List V) (us : List Value) (Q : St -> Hp -> Prop), Inv X pins σ H s -> Qq vs us -> t vs σ H Q →
  wpAny (model X.prog X.w) X.A (assignInOrder ((assignEach ts X.env).map (·.2)) us) (λ _ s' => ∃ σ' H', Inv X pins σ' H' s' /\ Q σ' H') X.xe s
noncomputable abbrev QkA := V -> V -> V -> Hp -> (Hp -> Prop) -> Prop
def Qpg (X : Cx) (t : QkA) : Prop :=
 ∀ (pins : List (Addr × Obj)) (s : Shared) (σ : St) (H : Hp) (o i v : V) (ov iv u : Value) (Q : Hp -> Prop), Inv X pins σ H s -> RelV o ov -> RelV i iv -> RelV v u -> t o i v H Q →
  wpAny (model X.prog X.w) X.A (setItem ov iv u) (λ _ s' => ∃ H', Inv X pins σ H' s' /\ Q H') X.xe s
noncomputable abbrev TIp := V -> V -> Hp -> VK -> Prop
def PIp (X : Cx) (op : Operator) (t : TIp) : Prop :=
 ∀ (pins : List (Addr × Obj)) (s : Shared) (σ : St) (H : Hp) (x y : V) (v u : Value) (Q : VK), Inv X pins σ H s -> RelV x v -> RelV y u -> t x y H Q →
  wpAny (model X.prog X.w) X.A (inplaceOp op v u) (EP X pins σ Q) X.xe s
section
variable {X : Cx} {pos : Pos}
noncomputable def Qgs (i : Nat) : TG := λ v σ H Q => Q (σ.set i (some v)) H
theorem QlB {i : Nat} {x : Str} (hN : X.N.Nodup) (hi : X.N[i]? = some x) (hx : Loc X.env.scope x) (hf : X.fn x = true ∨ X.env.scope.names.lookup x = some .local := by first | exact .inl rfl | exact .inr rfl | assumption) : PG X (.Name x pos) (Qgs i) := by
 intro pins s σ H v u Q I r h
 exact wpAny_assign_Name (Qfu I hN hi hx r (λ s' I' => ⟨_, H, I', h⟩) hf)
noncomputable def QsU : TGs := λ vs σ H Q => vs = [] /\ Q σ H
noncomputable def QpW (t : TG) (u : TGs) : TGs := λ vs σ H Q => ∃ v r, vs = v :: r /\ t v σ H λ σ' H' => u r σ' H' Q
theorem QqE : PGs X [] QsU := by
 intro pins s σ H vs us Q I r h
 obtain ⟨e, h⟩ := h
 subst e
 cases r
 exact assignInOrder_nil ⟨σ, H, I, h⟩
theorem QoR {e : Expr} {es : List Expr} {t : TG} {u : TGs} (h1 : PG X e t) (h2 : PGs X es u)
  (hs : (assignEach (e :: es) X.env).map (·.2) = assign e X.env :: (assignEach es X.env).map (·.2) := by rfl) : PGs X (e :: es) (QpW t u) := by
 intro pins s σ H vs us Q I r h
 obtain ⟨v, vr, e1, h⟩ := h
 subst e1
 cases r with
 | cons r rr =>
  rw [hs]
  refine assignInOrder_cons (thn (h1 pins s σ H _ _ _ I r h) λ _ s1 ⟨σ1, H1, I1, q1⟩ => ?_)
  exact h2 pins s1 σ1 H1 _ _ Q I1 rr q1
noncomputable def Qui (K : PySem.W.Frag) (n : Nat) (t : TGs) : TG := λ v σ H Q => ∃ a xs, v = .ref a /\ SqT K H a xs /\ xs.length = n /\ t xs σ H Q
theorem Qtn {es : List Expr} {k : Nat} {t : TGs} {n : Nat} (hc : X.calm = true) (h : PGs X es t)
  (hn : (assignEach es X.env).length = n := by rfl) (hst : (assignEach es X.env).findIdx? (·.1) = none := by rfl) : PG X (.Tuple es k pos) (Qui X.K n t) := by
 intro pins s σ H v u Q I r hw
 obtain ⟨a, xs, e1, hq, hl, hw⟩ := hw
 subst e1
 cases r
 obtain ⟨its, rv, ht, hz⟩ := I.tuple hq
 refine assign_Tuple_tuple (I.ok.hd hc) ht (by simp [hn, ← hl, rv.length]) hst λ h' hx => ?_
 have I1 : Inv X pins σ H { s with heap := h' } := I.kept (t' := s.toks) λ b o e => hx b o (ZH (Zo e)) e
 exact h pins _ σ H xs _ Q I1 (by simpa using rv) hw
noncomputable def QbA (to ti : TE) (t : QkA) : TG := λ v σ H Q => to σ H λ o H1 => ti σ H1 λ i H2 => t o i v H2 λ H3 => Q σ H3
theorem QsE {o i : Expr} {to ti : TE} {t : QkA} (ho : PE X o to) (hi : PE X i ti) (hs : Qpg X t)
  (ha : ∀ v, assign (.Subscript o i pos) X.env v = (do
   let ov ← holding [v] (eval o X.env)
   let iv ← holding [v, ov] (eval i X.env)
   standAt pos
   holding [v, ov, iv] (setItem ov iv v)
   release [v, ov, iv] []) := by intro _; rfl) : PG X (.Subscript o i pos) (QbA to ti t) := by
 intro pins s σ H v u Q I r h
 rw [ha]
 refine wpAny_bind (wpAny_holding (thn (ho pins s σ H _ I h) λ ov s1 ⟨x, H1, I1, r1, q1⟩ => ?_))
 refine wpAny_bind (wpAny_holding (thn (hi pins s1 σ H1 _ I1 q1) λ iv s2 ⟨y, H2, I2, r2, q2⟩ => ?_))
 refine wpAny_bind (wpAny_standAt (wpAny_bind (wpAny_holding (thn (hs pins s2 σ H2 x y v ov iv u _ I2 r1 r2 r q2) λ _ s3 ⟨H3, I3, q3⟩ => ?_))))
 exact wpAny_release ⟨σ, H3, I3, q3⟩
noncomputable def Qj7 (te : TE) (g : TG) : TS := λ D σ H => te σ H λ x H1 => g x σ H1 D.nx
theorem Qny {tg e : Expr} {te : TE} {g : TG} (he : PE X e te) (hg : PG X tg g) (hs : swapsWithSole [tg] e pos.line X.env = pure false := by rfl) (hw : swappedStores [tg] e X.env = pure none := by rfl)
  (h1 : (assignEach [tg] X.env).map (·.2) = [assign tg X.env] := by rfl) : PS X (.Assign [tg] e pos) (Qj7 te g) := by
 intro pins s σ H D I h
 refine wpAny_Assign_stores (thn (he pins s σ H _ I h) λ v s1 ⟨x, H1, I1, r1, q1⟩ => ?_) hs hw
 rw [h1]
 exact thn (hg pins s1 σ H1 x v _ I1 r1 q1) λ _ s2 q => q
theorem Qgc {i : Nat} {x : Str} {e : Expr} {te : TE} {pos' : Pos} (hN : X.N.Nodup) (hi : X.N[i]? = some x) (hx : Loc X.env.scope x) (he : PE X e te) (hs : swapsWith e (some (.Name x pos')) pos.line X.env = pure false := by rfl) (hf : X.fn x = true ∨ X.env.scope.names.lookup x = some .local := by first | exact .inl rfl | exact .inr rfl | assumption) :
  PS X (.Assign [.Name x pos'] e pos) (Qj7 te (Qgs i)) := by
 intro pins s σ H D I h
 refine wpAny_Assign_Name (thn (he pins s σ H _ I h) λ v s1 ⟨y, H1, I1, r1, q1⟩ => ?_) hs
 exact Qfu I1 hN hi hx r1 (λ s2 I2 => ⟨_, H1, I2, q1⟩) hf
noncomputable def Qt2 (to ti te : TE) (tget : V -> V -> Hp -> VK -> Prop) (tip : TIp) (tset : QkA) : TS := λ D σ H => to σ H λ o H1 => ti σ H1 λ i H2 => tget o i H2 λ x H3 => te σ H3 λ y H4 => tip x y H4 λ z H5 => tset o i z H5 λ H6 => D.nx σ H6
def Qs0 (X : Cx) (t : V -> V -> Hp -> VK -> Prop) : Prop :=
 ∀ (pins : List (Addr × Obj)) (s : Shared) (σ : St) (H : Hp) (o i : V) (ov iv : Value) (Q : VK), Inv X pins σ H s -> RelV o ov -> RelV i iv -> t o i H Q →
  wpAny (model X.prog X.w) X.A (getItem ov iv) (EP X pins σ Q) X.xe s
theorem Qqv {o i e : Expr} {to ti te : TE} {tget : V -> V -> Hp -> VK -> Prop} {tip : TIp} {tset : QkA} {op : Operator} {tpos : Pos} (ho : PE X o to) (hi : PE X i ti) (hg : Qs0 X tget) (he : PE X e te) (hp : PIp X op tip) (hs : Qpg X tset)
  (ha : ∀ ov iv new, augStore i ov iv new = (do holding [new, ov, iv] (setItem ov iv new); release [new, ov, iv] []; pure .next) := by intros; rfl) : PS X (.AugAssign (.Subscript o i tpos) op e pos) (Qt2 to ti te tget tip tset) := by
 intro pins s σ H D I h
 refine wpAny_AugAssign_SubscriptAny (thn (ho pins s σ H _ I h) λ ov s1 ⟨x1, H1, I1, r1, q1⟩ => ?_) ha
 refine thn (hi pins s1 σ H1 _ I1 q1) λ iv s2 ⟨x2, H2, I2, r2, q2⟩ => ?_
 refine thn (hg pins s2 σ H2 x1 x2 ov iv _ I2 r1 r2 q2) λ old s3 ⟨x3, H3, I3, r3, q3⟩ => ?_
 refine thn (he pins s3 σ H3 _ I3 q3) λ v s4 ⟨x4, H4, I4, r4, q4⟩ => ?_
 refine thn (hp pins s4 σ H4 x3 x4 old v _ I4 r3 r4 q4) λ new s5 ⟨x5, H5, I5, r5, q5⟩ => ?_
 exact thn (hs pins s5 σ H5 x1 x2 x5 ov iv new _ I5 r1 r2 r5 q5) λ _ s6 ⟨H6, I6, q6⟩ => ⟨σ, H6, I6, q6⟩
end
section
variable {X : Cx} {pos : Pos}
end
structure It where
 go : Nat -> Hp -> Prop
 yld : Nat -> Hp -> V -> Hp -> Prop
 stop : Nat -> Hp -> Prop
def Qdo (X : Cx) (pins : List (Addr × Obj)) (H : Hp) (b : Addr) : Prop :=
 H b = none /\ b ≠ X.env.locals /\ b ∉ X.fs /\ (b ∈ X.ex ∨ X.s₀.heap.objs.size <= b) /\ (∀ x c, X.env.cells.lookup x = some c -> c ≠ b) /\ ∀ p ∈ X.pn ++ pins, p.1 ≠ b
theorem Inv.Qj8 {X : Cx} {pins : List (Addr × Obj)} {σ : St} {H H' : Hp} {s : Shared} {b : Addr} (I : Inv X pins σ H s) (hb : s.heap.objs.size <= b) (hn : H' b = none) : Qdo X pins H' b := by
 refine ⟨hn, Nat.ne_of_gt (Zp I.lt hb), I.QuL hb, .inr (ZA I.sz hb), λ x c e z => ?_, λ p hp z => ?_⟩
 ·obtain ⟨v, q⟩ := I.cell x c e
  exact absurd (Zp q.lt (by rw [z]; exact hb)) (ZN _)
 ·exact absurd (Zp (Zo (I.pin p hp).1) (by rw [z]; exact hb)) (ZN _)
structure Turn (P : Program) (w : World) (K : PySem.W.Frag) (tg : Expr) (J : It) (fp : List Addr) (it : Addr) (tn : Nat -> Heap -> Prop) : Prop where
 mem : it ∈ fp
 obj : ∀ i h, tn i h -> ∀ b ∈ fp, ∃ o, h.get? b = some o /\ ∀ v, o.data ≠ .cell v
 keep : ∀ i h h', tn i h -> (∀ b ∈ fp, ∀ o, h.get? b = some o -> h'.get? b = some o) -> tn i h'
 item : ∀ (X : Cx), X.prog = P -> X.w = w -> X.K = K -> X.calm = true -> ∀ (i : Nat) (pins : List (Addr × Obj)) (s : Shared) (σ : St) (H : Hp) (E : Value -> Shared -> Prop), Inv X pins σ H s -> (∀ b ∈ fp, Qdo X pins H b) -> tn i s.heap -> J.go i H →
  wpAny (model P w) X.A (pyNext (.ref it)) (λ r s1 => ∃ u, r = some u ∧
   wpAny (model P w) X.A (letOwnedTupleGo tg (.ref it) u) (λ _ s2 => ∃ x H', Inv X pins σ H' s2 /\ RelV x u /\ J.yld i H x H' /\ tn (i + 1) s2.heap /\ ∀ b ∈ fp, H' b = none) E s1) E s
 done : ∀ (X : Cx), X.prog = P -> X.w = w -> X.K = K -> X.calm = true -> ∀ (i : Nat) (pins : List (Addr × Obj)) (s : Shared) (σ : St) (H : Hp) (E : Value -> Shared -> Prop), Inv X pins σ H s -> (∀ b ∈ fp, Qdo X pins H b) -> tn i s.heap -> J.stop i H →
  wpAny (model P w) X.A (pyNext (.ref it)) (λ r s1 => r = none /\ Inv X pins σ H s1) E s
 self : ∀ (A : Around) (i : Nat) (s : Shared) (Q : Value -> Shared -> Prop) (E : Value -> Shared -> Prop), tn i s.heap -> Q (.ref it) s -> wpAny (model P w) A (pyIter (.ref it)) Q E s
noncomputable abbrev TI := St -> Hp -> (It -> Hp -> Prop) -> Prop
def PIE (X : Cx) (pins : List (Addr × Obj)) (σ : St) (tg : Expr) (R : It -> Hp -> Prop) (itv : Value) (s2 : Shared) : Prop :=
 ∃ (it : Addr) (fp : List Addr) (tn : Nat -> Heap -> Prop) (J : It) (H' : Hp), itv = .ref it /\ Inv X pins σ H' s2 /\ Turn X.prog X.w X.K tg J fp it tn /\ tn 0 s2.heap /\ (∀ b ∈ fp, Qdo X pins H' b) /\ R J H'
def PI (X : Cx) (tg iter : Expr) (wi : TI) : Prop :=
 ∀ (pins : List (Addr × Obj)) (s : Shared) (σ : St) (H : Hp) (R : It -> Hp -> Prop), Inv X pins σ H s -> wi σ H R →
  wpAny (model X.prog X.w) X.A (eval iter X.env) (λ v s1 => wpAny (model X.prog X.w) X.A (pyIter v) (PIE X pins σ tg R) X.xe s1) X.xe s
theorem Qmc {M : Model} {A : Around} {E : Value -> Shared -> Prop} {s : Shared} {tg : Expr} {it : Addr} {u : Value} {o : Obj} {n : String} {vs : Array Value} {Q : Unit -> Shared -> Prop} (ho : s.heap.get? it = some o) (hc : o.cls = .type n) (hd : o.data = .fields vs)
    (hn : ["enumerate", "zip", "dict_itemiterator", "dict_reverseitemiterator", "odict_iterator", "itertools.zip_longest", "itertools.pairwise"].contains n = false) (hQ : Q () s) : wpAny M A (letOwnedTupleGo tg (.ref it) u) Q E s := by
  unfold letOwnedTupleGo
  cases tg <;> first
    | exact wpAny_pure hQ
    | (cases u <;> first
        | exact wpAny_pure hQ
        | (refine wpAny_bind (wpAny_load ho ?_)
           rw [hc, hd]
           show wpAny M A (if (["enumerate", "zip", "dict_itemiterator", "dict_reverseitemiterator", "odict_iterator", "itertools.zip_longest", "itertools.pairwise"].contains n && vs[0]? == some (rawInt _)) = true then _ else _) Q E s
           rw [if_neg (by intro h; rw [hn, Bool.false_and] at h; cases h)]
           exact wpAny_pure hQ))
noncomputable def Itl (K : PySem.W.Frag) (a : Addr) : It :=
 ⟨λ i H => ∃ xs x, SqL K H a xs /\ xs[i]? = some x, λ i H x H' => H' = H /\ ∀ xs, SqL K H a xs -> xs[i]? = some x, λ i H => ∃ xs, SqL K H a xs /\ xs.length <= i⟩
noncomputable def Itt (K : PySem.W.Frag) (a : Addr) : It :=
 ⟨λ i H => ∃ xs x, SqT K H a xs /\ xs[i]? = some x, λ i H x H' => H' = H /\ ∀ xs, SqT K H a xs -> xs[i]? = some x, λ i H => ∃ xs, SqT K H a xs /\ xs.length <= i⟩
noncomputable def Itr (lo : Int) (n : Nat) : It := ⟨λ i _ => i < n, λ i H x H' => H' = H /\ x = .int (lo + i), λ i _ => n <= i⟩
theorem Qn0 {P : Program} {w : World} {K : PySem.W.Frag} {tg : Expr} (a it : Addr) : Turn P w K tg (Itl K a) [it] it (λ i h => h.IsListIter it a i) where
 mem := by simp
 obj := λ i h st b hb => by
  have e : b = it := by simpa using hb
  subst e
  obtain ⟨o, e, c, d⟩ := st
  exact ⟨o, e, λ v z => by rw [d] at z; cases z⟩
 keep := λ i h h' st k => st.at λ o e => k it (by simp) o e
 item := by
  intro X hP hw hK hc i pins s σ H E I hf st hg
  subst hP hw hK
  obtain ⟨xs, x, hq, hx⟩ := hg
  obtain ⟨its, rv, p, hz⟩ := I.list hq
  obtain ⟨u, hu, ru⟩ := rv.get hx
  obtain ⟨f0, f1, f2, f3, f4, f5⟩ := hf it (by simp)
  refine wpAny_pyNext_list_item st p.isList (x := u) (by simpa using hu) λ h' st' sb => ?_
  have I1 : Inv X pins σ H { s with heap := h' } := I.turned (t' := s.toks) (λ b o hb e => (sb.2 b hb).trans e) f0 f1 f3 f4 f5
  obtain ⟨o, e, c, d⟩ := id st'
  exact ⟨u, rfl, Qmc (s := { s with heap := h' }) e c d (by decide) ⟨x, H, I1, ru, ⟨rfl, λ ys hy => by rw [I.QfH hy hq]; exact hx⟩, st', λ b hb => (hf b hb).1⟩⟩
 done := by
  intro X hP hw hK hc i pins s σ H E I hf st hg
  subst hP hw hK
  obtain ⟨xs, hq, hx⟩ := hg
  obtain ⟨its, rv, p, hz⟩ := I.list hq
  obtain ⟨f0, f1, f2, f3, f4, f5⟩ := hf it (by simp)
  have hl := rv.length
  exact wpAny_pyNext_list_end (I.ok.hd hc) st p.isList (by simp; omega) λ h' eb => ⟨rfl, I.turned (t' := s.toks) (λ b o hb e => eb b o hb e) f0 f1 f3 f4 f5⟩
 self := λ _ _ _ _ _ st h => wpAny_pyIter_listiter st h
theorem Qmw {P : Program} {w : World} {K : PySem.W.Frag} {tg : Expr} (a it : Addr) : Turn P w K tg (Itt K a) [it] it (λ i h => h.IsTupleIter it a i) where
 mem := by simp
 obj := λ i h st b hb => by
  have e : b = it := by simpa using hb
  subst e
  obtain ⟨o, e, c, d⟩ := st
  exact ⟨o, e, λ v z => by rw [d] at z; cases z⟩
 keep := λ i h h' st k => st.at λ o e => k it (by simp) o e
 item := by
  intro X hP hw hK hc i pins s σ H E I hf st hg
  subst hP hw hK
  obtain ⟨xs, x, hq, hx⟩ := hg
  obtain ⟨its, rv, p, hz⟩ := I.tuple hq
  obtain ⟨u, hu, ru⟩ := rv.get hx
  obtain ⟨f0, f1, f2, f3, f4, f5⟩ := hf it (by simp)
  refine wpAny_pyNext_tuple_item st (show s.heap.IsTuple a its.toArray from p) (x := u) (by simpa using hu) λ h' st' sb => ?_
  have I1 : Inv X pins σ H { s with heap := h' } := I.turned (t' := s.toks) (λ b o hb e => (sb.2 b hb).trans e) f0 f1 f3 f4 f5
  obtain ⟨o, e, c, d⟩ := id st'
  exact ⟨u, rfl, Qmc (s := { s with heap := h' }) e c d (by decide) ⟨x, H, I1, ru, ⟨rfl, λ ys hy => by rw [I.Qnp hy hq]; exact hx⟩, st', λ b hb => (hf b hb).1⟩⟩
 done := by
  intro X hP hw hK hc i pins s σ H E I hf st hg
  subst hP hw hK
  obtain ⟨xs, hq, hx⟩ := hg
  obtain ⟨its, rv, p, hz⟩ := I.tuple hq
  obtain ⟨f0, f1, f2, f3, f4, f5⟩ := hf it (by simp)
  have hl := rv.length
  exact wpAny_pyNext_tuple_end (I.ok.hd hc) st (show s.heap.IsTuple a its.toArray from p) (by simp; omega) λ h' eb => ⟨rfl, I.turned (t' := s.toks) (λ b o hb e => eb b o hb e) f0 f1 f3 f4 f5⟩
 self := λ _ _ _ _ _ st h => wpAny_pyIter_tupleiter st h
theorem Qmx {P : Program} {w : World} {K : PySem.W.Frag} {tg : Expr} (it : Addr) (lo : Int) (n : Nat) : Turn P w K tg (Itr lo n) [it] it (λ i h => IsRangeIter h it (lo + (i : Nat) * 1) ((n : Int) - (i : Nat)) 1) where
 mem := by simp
 obj := λ i h st b hb => by
  have e : b = it := by simpa using hb
  subst e
  exact ⟨_, st, λ v z => by
   have z' : Data.fields _ = Data.cell v := z
   cases z'⟩
 keep := λ i h h' st k => k it (by simp) _ st
 item := by
  intro X hP hw hK hc i pins s σ H E I hf st hg
  subst hP hw hK
  obtain ⟨f0, f1, f2, f3, f4, f5⟩ := hf it (by simp)
  have W := Walks.range (prog := X.prog) (w := X.w) (I.ok.hd hc) it lo 1 n
  refine W.item i s _ _ hg st λ v h' tk hv st' kk => ?_
  obtain ⟨t, rfl⟩ := hv
  have I1 : Inv X pins σ H { s with heap := h', toks := tk } := I.turned (λ b o hb e => kk b o (by simpa using hb) e) f0 f1 f3 f4 f5
  refine ⟨_, rfl, Qmc (s := { s with heap := h', toks := tk }) (n := "range_iterator") st' rfl rfl (by decide) ⟨.int (lo + i), H, I1, ⟨t, ?_⟩, ⟨rfl, rfl⟩, st', λ b hb => (hf b hb).1⟩⟩
  rw [Int.mul_one]
 done := by
  intro X hP hw hK hc i pins s σ H E I hf st hg
  subst hP hw hK
  obtain ⟨f0, f1, f2, f3, f4, f5⟩ := hf it (by simp)
  exact wpAny_pyNext_range_end (I.ok.hd hc) st (by have : n <= i := hg; omega) λ h' eb => ⟨rfl, I.turned (t' := s.toks) (λ b o hb e => eb b o hb e) f0 f1 f3 f4 f5⟩
 self := λ _ _ _ _ _ st h => wpAny_pyIter_rangeiter st h
end L2
namespace L2
open PySem PySem.Spec PyProof.Rows
section
variable {X : Cx} {tg : Expr}
theorem QoK {pins : List (Addr × Obj)} {σ : St} {H : Hp} {s : Shared} {R : It -> Hp -> Prop} {E : Value -> Shared -> Prop} {lo hi : Int} {t u v : Tok} {tk : Nat} (I : Inv X pins σ H s) (h1 : -(2 ^ 62) <= lo) (h2 : lo < 2 ^ 62) (h3 : -(2 ^ 62) <= hi) (h4 : hi < 2 ^ 62)
  (q : R (Itr lo (hi - lo).toNat) H) : wpAny (model X.prog X.w) X.A (pyIter (.ref s.heap.objs.size)) (PIE X pins σ tg R) E { s with heap := s.heap.push { cls := .type "range", data := .fields #[.int lo t, .int hi u, .int 1 v] }, toks := tk } := by
 refine wpAny_pyIter_range (IsRange.new ..) (small_one h1 h2 h3 h4) ?_
 have I1 : Inv X pins σ H { s with heap := s.heap.push { cls := .type "range", data := .fields #[.int lo t, .int hi u, .int 1 v] }, toks := tk } := I.kept λ b o e => Zq _ e
 refine ⟨(s.heap.push { cls := .type "range", data := .fields #[.int lo t, .int hi u, .int 1 v] }).objs.size, [(s.heap.push { cls := .type "range", data := .fields #[.int lo t, .int hi u, .int 1 v] }).objs.size], _, _, H, rfl,
  I1.kept (t' := tk) λ b o e => Zq _ e, Qmx _ lo (hi - lo).toNat, ?_, λ b hb => ?_, q⟩
 ·have e1 : lo + ((0 : Nat) : Int) * 1 = lo := by simp
  have e2 : (((hi - lo).toNat : Nat) : Int) - ((0 : Nat) : Int) = Builtin.Range.rangeSize lo hi 1 := by rw [rangeSize_one]; split <;> omega
  show IsRangeIter _ _ (lo + ((0 : Nat) : Int) * 1) ((((hi - lo).toNat : Nat) : Int) - ((0 : Nat) : Int)) 1
  rw [e1, e2]
  exact ZG _ rfl
 ·have e : b = (s.heap.push { cls := .type "range", data := .fields #[.int lo t, .int hi u, .int 1 v] }).objs.size := by simpa using hb
  subst e
  exact I1.Qj8 (Zj _) (I1.hok.fresh (Zj _))
noncomputable def QtM (ta : TA) : TI := λ σ H R => ta σ H λ vs H1 => ∃ j : Int, vs = [.int j] /\ -(2 ^ 62) <= j /\ j < 2 ^ 62 /\ R (Itr 0 j.toNat) H1
theorem QmX {a : Expr} {ta : TA} {p pos : Pos} (hg : Gl X "range") (hm : X.mg "range" = none) (ha : PA X [a] ta) (hs : starEach [a] X.env = [(false, eval a X.env)] := by rfl) : PI X tg (.Call (.Name "range" p) [a] [] pos) (QtM ta) := by
 intro pins s σ H R I h
 refine Call_ (Qc8 I hg hm boot_range (ZW (thn (ha pos pins s σ H _ I h) λ us s1 ⟨vs, H1, I1, r1, q1⟩ => ?_) hs rfl))
 obtain ⟨j, e, q1, q2, q⟩ := q1
 subst e
 cases r1 with
 | cons r rr =>
  cases rr
  obtain ⟨t, rfl⟩ := r
  exact call_range_1 (QoK I1 (by omega) (by omega) q1 q2 (by simpa using q))
noncomputable def Qut (wi : TI) (g : TG) (tb : TS) : TS := λ D σ H => wi σ H λ J H1 => ∃ W : Nat -> Nat -> St -> Hp -> Prop, (∃ m, W 0 m σ H1) /\ ∀ i m σ H, W i m σ H →
 (J.stop i H /\ D.nx σ H) ∨ (J.go i H /\ ∃ N : St -> Hp -> Prop, (∀ σ' H', N σ' H' -> ∃ m', m' < m /\ W (i + 1) m' σ' H') /\ ∀ x H', J.yld i H x H' -> g x σ H' λ σ2 H2 => tb { D with nx := N, ct := N, bk := D.nx } σ2 H2)
noncomputable def QfT (fp : List Addr) (h : Heap) : List (Addr × Obj) := fp.filterMap λ b => (h.get? b).map λ o => (b, o)
theorem QfD {fp : List Addr} {h : Heap} {b : Addr} {o : Obj} (hb : b ∈ fp) (e : h.get? b = some o) : (b, o) ∈ QfT fp h := Zau.mpr ⟨b, hb, by rw [e]; rfl⟩
theorem QnA {fp : List Addr} {h : Heap} {p : Addr × Obj} (hp : p ∈ QfT fp h) : p.1 ∈ fp /\ h.get? p.1 = some p.2 := by
 obtain ⟨b, hb, e⟩ := Zau.mp hp
 cases q : h.get? b with
 | none => rw [q] at e; cases e
 | some o =>
  rw [q] at e
  have e' : (b, o) = p := Option.some.inj e
  subst e'
  exact ⟨hb, q⟩
theorem Inv.pinned {pins : List (Addr × Obj)} {σ : St} {H : Hp} {s : Shared} {fp : List Addr} (I : Inv X pins σ H s) (hf : ∀ b ∈ fp, Qdo X pins H b) (ho : ∀ b ∈ fp, ∃ o, s.heap.get? b = some o /\ ∀ v, o.data ≠ .cell v) : Inv X (pins ++ QfT fp s.heap) σ H s :=
 I.Qle λ p hp => (Zn.mp hp).elim (λ z => I.pin p (Ze _ z)) λ z => by
  obtain ⟨hb, e⟩ := QnA z
  obtain ⟨f0, f1, f2, _⟩ := hf p.1 hb
  obtain ⟨o, e', d⟩ := ho p.1 hb
  rw [e] at e'; cases e'
  exact ⟨e, f0, f1, f2, d⟩
theorem Inv.QfB {pins pl : List (Addr × Obj)} {σ : St} {H : Hp} {s : Shared} (I : Inv X (pins ++ pl) σ H s) : Inv X pins σ H s := I.Qle λ p hp => I.pin p (Ze _ (Zc _ hp))
theorem QnD {iter : Expr} {body : List Stmt} {wi : TI} {g : TG} {tb : TS} {pos : Pos} (hp : PassesOwn (model X.prog X.w) X.A X.env X.xe) (hc : X.calm = true) (hi : PI X tg iter wi) (hg : PG X tg g) (hb : PSs X body tb)
  (hs : ∀ x, foldedSetIterable iter X.env x = pure x := by intro _; rfl) : PS X (.For tg iter body [] pos) (Qut wi g tb) := by
 intro pins s σ H D I h
 refine wpAny_For (thn (hi pins s σ H _ I h) λ v s1 h1 => thn h1 λ itv s2 h2 => ?_) hs
 obtain ⟨it, fp, tn, J, H2, e, I2, T, st2, f2, W, ⟨m0, w0⟩, turn⟩ := h2
 subst e
 have stat : ∀ {H' : Hp}, (∀ b ∈ fp, H' b = none) -> ∀ b ∈ fp, Qdo X pins H' b := λ hn b hb => ⟨hn b hb, (f2 b hb).2⟩
 refine codeAny_forLoop_any (λ n s' => ∃ i σ' H', Inv X pins σ' H' s' /\ tn i s'.heap /\ (∀ b ∈ fp, H' b = none) /\ W i n σ' H') ?_ m0 ⟨0, σ, H2, I2, st2, λ b hb => (f2 b hb).1, w0⟩
 rintro n s3 ⟨i, σ3, H3, I3, st3, fr3, w3⟩
 rcases turn i n σ3 H3 w3 with ⟨stop, qn⟩ | ⟨go, N, hN, step⟩
 ·refine wpAny_passesOwn hp (thn (T.done X rfl rfl rfl hc i pins s3 σ3 H3 X.xe I3 (stat fr3) st3 stop) λ r s4 ⟨hr, I4⟩ => ?_)
  subst hr
  exact wpAny_execs_nil ⟨σ3, H3, I4, qn⟩
 ·refine wpAny_passesOwn hp (thn (T.item X rfl rfl rfl hc i pins s3 σ3 H3 X.xe I3 (stat fr3) st3 go) λ r s4 ⟨u, hr, h4⟩ => ?_)
  subst hr
  refine wpAny_passesOwn hp (thn h4 λ _ s5 ⟨x, H5, I5, r5, y5, st5, fr5⟩ => ?_)
  have I5' := I5.pinned (stat fr5) (T.obj _ _ st5)
  refine wpAny_passesOwn hp (thn (hg _ s5 σ3 H5 x u _ I5' r5 (step x H5 y5)) λ _ s6 ⟨σ6, H6, I6, q6⟩ => ?_)
  refine wpAny_passesOwn hp (thn (hb _ s6 σ6 H6 _ I6 q6) λ f s7 q7 => ?_)
  have again : ∀ {σ7 : St} {H7 : Hp}, Inv X (pins ++ QfT fp s5.heap) σ7 H7 s7 -> N σ7 H7 -> ∃ m, m < n /\ ∃ i σ' H', Inv X pins σ' H' s7 /\ tn i s7.heap /\ (∀ b ∈ fp, H' b = none) /\ W i m σ' H' := λ {σ7 H7} I7 n7 => by
   obtain ⟨m', hm, w7⟩ := hN σ7 H7 n7
   refine ⟨m', hm, i + 1, σ7, H7, I7.QfB, T.keep _ _ _ st5 λ b hb o e => (I7.pin (b, o) (Ze _ (Ze _ (QfD hb e)))).1, λ b hb => ?_, w7⟩
   obtain ⟨o, e, d⟩ := T.obj _ _ st5 b hb
   exact (I7.pin (b, o) (Ze _ (Ze _ (QfD hb e)))).2.1
  cases f with
  | next => obtain ⟨σ7, H7, I7, n7⟩ := q7; exact again I7 n7
  | cont => obtain ⟨σ7, H7, I7, n7⟩ := q7; exact again I7 n7
  | brk => obtain ⟨σ7, H7, I7, q7⟩ := q7; exact ⟨σ7, H7, I7.QfB, q7⟩
  | ret v => obtain ⟨x7, σ7, H7, I7, r7, q7⟩ := q7; exact ⟨x7, σ7, H7, I7.QfB, r7, q7⟩
end
end L2
namespace L2
open PySem PySem.Spec PyProof.Rows
noncomputable abbrev R2 := V -> V -> Hp -> VK -> Prop
def OpR (X : Cx) (f : Value -> Value -> Sem Value) (r : R2) : Prop :=
 ∀ (pins : List (Addr × Obj)) (s : Shared) (σ : St) (H : Hp) (x y : V) (v u : Value) (Q : VK), Inv X pins σ H s -> RelV x v -> RelV y u -> r x y H Q →
  wpAny (model X.prog X.w) X.A (f v u) (EP X pins σ Q) X.xe s
def UnR (X : Cx) (f : Value -> Sem Value) (r : V -> Hp -> VK -> Prop) : Prop :=
 ∀ (pins : List (Addr × Obj)) (s : Shared) (σ : St) (H : Hp) (x : V) (v : Value) (Q : VK), Inv X pins σ H s -> RelV x v -> r x H Q →
  wpAny (model X.prog X.w) X.A (f v) (EP X pins σ Q) X.xe s
def QbD (X : Cx) (f : Value) (r : List V -> Hp -> VK -> Prop) : Prop :=
 ∀ (pins : List (Addr × Obj)) (s : Shared) (σ : St) (H : Hp) (xs : List V) (us : List Value) (Q : VK), Inv X pins σ H s -> Qq xs us -> r xs H Q →
  wpAny (model X.prog X.w) X.A (call f us) (EP X pins σ Q) X.xe s
def Qul (X : Cx) (r : V -> Hp -> (Bool -> Hp -> Prop) -> Prop) : Prop :=
 ∀ (pins : List (Addr × Obj)) (s : Shared) (σ : St) (H : Hp) (x : V) (v : Value) (Q : Bool -> Hp -> Prop), Inv X pins σ H s -> RelV x v -> r x H Q →
  wpAny (model X.prog X.w) X.A (truthy v) (TP X pins σ Q) X.xe s
noncomputable def tOp (r : R2) (ta tb : TE) : TE := λ σ H Q => ta σ H λ x H1 => tb σ H1 λ y H2 => r x y H2 Q
noncomputable def tUn (r : V -> Hp -> VK -> Prop) (ta : TE) : TE := λ σ H Q => ta σ H λ x H1 => r x H1 Q
noncomputable def rI (C : Int -> Int -> Prop) (g : Int -> Int -> V) : R2 := λ x y H Q => ∃ i j, x = .int i /\ y = .int j /\ C i j /\ Q (g i j) H
noncomputable def rI0 (g : Int -> Int -> V) : R2 := λ x y H Q => ∃ i j, x = .int i /\ y = .int j /\ Q (g i j) H
noncomputable def rU (g : Int -> V) : V -> Hp -> VK -> Prop := λ x H Q => ∃ i, x = .int i /\ Q (g i) H
section
variable {X : Cx} {a b c : Expr} {ta tb tc : TE} {pos : Pos}
theorem Qo3 (ha : PE X a ta) (hb : PE X b tb) {pins : List (Addr × Obj)} {s : Shared} {σ : St} {H : Hp} {R : V -> V -> Hp -> Prop} (I : Inv X pins σ H s)
  (h : ta σ H λ x H1 => tb σ H1 λ y H2 => R x y H2) {Q : Value -> Shared -> Prop} {f : Value -> Value -> Sem Value}
  (hf : ∀ v u s2 x y H2, Inv X pins σ H2 s2 -> RelV x v -> RelV y u -> R x y H2 -> wpAny (model X.prog X.w) X.A (f v u) Q X.xe s2) :
  wpAny (model X.prog X.w) X.A (eval a X.env) (λ v s₁ => wpAny (model X.prog X.w) X.A (eval b X.env) (λ u s₂ => wpAny (model X.prog X.w) X.A (f v u) Q X.xe s₂) X.xe s₁) X.xe s := by
 refine thn (ha pins s σ H _ I h) λ v s1 ⟨x, H1, I1, r1, q1⟩ => ?_
 refine thn (hb pins s1 σ H1 _ I1 q1) λ u s2 ⟨y, H2, I2, r2, q2⟩ => ?_
 exact hf v u s2 x y H2 I2 r1 r2 q2
theorem Qmv {op : Operator} {r : R2} (ho : OpR X (binaryOp op) r) (ha : PE X a ta) (hb : PE X b tb) : PE X (.BinOp a op b pos) (tOp r ta tb) := by
 intro pins s σ H Q I h
 exact wpAny_BinOp (Qo3 ha hb I h λ v u s2 x y H2 I2 rx ry q => ho pins s2 σ H2 x y v u Q I2 rx ry q)
theorem QtZ {op : UnaryOp} {r : V -> Hp -> VK -> Prop} (ho : UnR X (unaryOp op) r) (ha : PE X a ta) : PE X (.UnaryOp op a pos) (tUn r ta) := by
 intro pins s σ H Q I h
 exact UnaryOp_ (thn (ha pins s σ H _ I h) λ v s1 ⟨x, H1, I1, r1, q1⟩ => ho pins s1 σ H1 x v Q I1 r1 q1)
theorem Quu {op : Operator} {r : R2} (ho : OpR X (inplaceOp op) r) {pins : List (Addr × Obj)} {s : Shared} {σ : St} {H : Hp} {x y : V} {v u : Value} {Q : VK} (I : Inv X pins σ H s)
  (rx : RelV x v) (ry : RelV y u) (q : r x y H Q) : wpAny (model X.prog X.w) X.A (inplaceOp op v u) (EP X pins σ Q) X.xe s := ho pins s σ H x y v u Q I rx ry q
theorem opI {f : Value -> Value -> Sem Value} {C : Int -> Int -> Prop} {g : Int -> Int -> Int}
  (rule : ∀ (i j : Int) (t u : Tok) (s : Shared) (Q : Value -> Shared -> Prop) (E : Value -> Shared -> Prop), C i j -> Q (.int (g i j) s.toks) { s with toks := s.toks + 1 } -> wpAny (model X.prog X.w) X.A (f (.int i t) (.int j u)) Q E s) :
  OpR X f (rI C λ i j => .int (g i j)) := by
 intro pins s σ H x y v u Q I rx ry h
 obtain ⟨i, j, rfl, rfl, hc, q⟩ := h
 obtain ⟨t, rfl⟩ := rx
 obtain ⟨t', rfl⟩ := ry
 exact rule i j t t' s _ _ hc ⟨.int (g i j), H, I.tok _, ⟨_, rfl⟩, q⟩
theorem Ql4 {f : Value -> Value -> Sem Value} {g : Int -> Int -> Int}
  (rule : ∀ (i j : Int) (t u : Tok) (s : Shared) (Q : Value -> Shared -> Prop) (E : Value -> Shared -> Prop), Q (.int (g i j) s.toks) { s with toks := s.toks + 1 } -> wpAny (model X.prog X.w) X.A (f (.int i t) (.int j u)) Q E s) :
  OpR X f (rI0 λ i j => .int (g i j)) := by
 intro pins s σ H x y v u Q I rx ry h
 obtain ⟨i, j, rfl, rfl, q⟩ := h
 obtain ⟨t, rfl⟩ := rx
 obtain ⟨t', rfl⟩ := ry
 exact rule i j t t' s _ _ ⟨.int (g i j), H, I.tok _, ⟨_, rfl⟩, q⟩
theorem Qmk {f : Value -> Value -> Sem Value} {g : Int -> Int -> Bool}
  (rule : ∀ (i j : Int) (t u : Tok) (s : Shared) (Q : Value -> Shared -> Prop) (E : Value -> Shared -> Prop), Q (.bool (g i j)) s -> wpAny (model X.prog X.w) X.A (f (.int i t) (.int j u)) Q E s) :
  OpR X f (rI0 λ i j => .bl (g i j)) := by
 intro pins s σ H x y v u Q I rx ry h
 obtain ⟨i, j, rfl, rfl, q⟩ := h
 obtain ⟨t, rfl⟩ := rx
 obtain ⟨t', rfl⟩ := ry
 exact rule i j t t' s _ _ ⟨.bl (g i j), H, I, rfl, q⟩
def QrZ (i j : Int) : Prop := (-(2 ^ 64) < i /\ i < 2 ^ 64) ∨ (-(2 ^ 64) < j /\ j < 2 ^ 64)
theorem QrZ.ok {i j : Int} (h : QrZ i j) : IntMulOk i j := by
 rcases h with ⟨h1, h2⟩ | ⟨h1, h2⟩
 ·exact .of_left (intBits_le_64 h1 h2)
 ·exact .of_right (intBits_le_64 h1 h2)
theorem Qsz : OpR X (binaryOp .Add) (rI0 λ i j => .int (i + j)) := Ql4 λ _ _ _ _ _ _ _ q => add_int q
theorem QsK : OpR X (binaryOp .Sub) (rI0 λ i j => .int (i - j)) := Ql4 λ _ _ _ _ _ _ _ q => sub_int q
theorem Qqz : OpR X (inplaceOp .Add) (rI0 λ i j => .int (i + j)) := Ql4 λ _ _ _ _ _ _ _ q => iadd_int q
theorem Qq3 : OpR X (inplaceOp .Sub) (rI0 λ i j => .int (i - j)) := Ql4 λ _ _ _ _ _ _ _ q => isub_int q
theorem unI {f : Value -> Sem Value} {g : Int -> Int}
  (rule : ∀ (i : Int) (t : Tok) (s : Shared) (Q : Value -> Shared -> Prop) (E : Value -> Shared -> Prop), Q (.int (g i) s.toks) { s with toks := s.toks + 1 } -> wpAny (model X.prog X.w) X.A (f (.int i t)) Q E s) :
  UnR X f (rU λ i => .int (g i)) := by
 intro pins s σ H x v Q I rx h
 obtain ⟨i, rfl, q⟩ := h
 obtain ⟨t, rfl⟩ := rx
 exact rule i t s _ _ ⟨.int (g i), H, I.tok _, ⟨_, rfl⟩, q⟩
theorem QsM : UnR X (unaryOp .USub) (rU λ i => .int (-i)) := unI λ _ _ _ _ _ q => neg_int q
end
section
variable {X : Cx} {a b c : Expr} {ta tb tc : TE} {pos : Pos}
theorem Qhz {pins : List (Addr × Obj)} {σ : St} {H : Hp} {s : Shared} {Q : VK} {k k' : Bool} (I : Inv X pins σ H s) (q : Q (.bl k) H) (e : k = k') : EP X pins σ Q (.bool k') s := by
 subst e
 exact ⟨.bl k, H, I, rfl, q⟩
theorem QtL : OpR X (compareOp .Lt) (rI0 λ i j => .bl (decide (i < j))) := Qmk λ _ _ _ _ _ _ _ q => lt_int q
theorem Qtz : OpR X (compareOp .LtE) (rI0 λ i j => .bl (decide (i <= j))) := Qmk λ _ _ _ _ _ _ _ q => le_int q
theorem QtT : OpR X (compareOp .Gt) (rI0 λ i j => .bl (decide (j < i))) := Qmk λ _ _ _ _ _ _ _ q => gt_int q
theorem QtY : OpR X (compareOp .GtE) (rI0 λ i j => .bl (decide (j <= i))) := Qmk λ _ _ _ _ _ _ _ q => ge_int q
theorem QrY : OpR X (compareOp .Is) (λ x y H Q => y = .non /\ Q (.bl (decide (x = .non))) H) := by
 intro pins s σ H x y v u Q I rx ry h
 obtain ⟨rfl, q⟩ := h
 cases ry
 refine is_none_gen (Qhz I q ?_)
 cases x <;> first
  | (cases rx; rfl)
  | (obtain ⟨t, rfl⟩ := rx; rfl)
theorem Qp7 : OpR X (compareOp .IsNot) (λ x y H Q => y = .non /\ Q (.bl (!decide (x = .non))) H) := by
 intro pins s σ H x y v u Q I rx ry h
 obtain ⟨rfl, q⟩ := h
 cases ry
 refine isnot_none_gen (Qhz I q ?_)
 cases x <;> first
  | (cases rx; rfl)
  | (obtain ⟨t, rfl⟩ := rx; rfl)
theorem OpR.or {f : Value -> Value -> Sem Value} {r r' : R2} (h : OpR X f r) (h' : OpR X f r') : OpR X f (λ x y H Q => r x y H Q ∨ r' x y H Q) := by
 intro pins s σ H x y v u Q I rx ry q
 rcases q with q | q
 ·exact h pins s σ H x y v u Q I rx ry q
 ·exact h' pins s σ H x y v u Q I rx ry q
theorem QuX (b : Expr) {op : CmpOp} (h : op ≠ .In := by decide) (h2 : op ≠ .NotIn := by decide) : behindInMarks op b = false := by
 have e1 : (op == CmpOp.In) = false := by cases op <;> first | rfl | exact absurd rfl h
 have e2 : (op == CmpOp.NotIn) = false := by cases op <;> first | rfl | exact absurd rfl h2
 cases b <;> simp [behindInMarks, e1, e2]
theorem Qqa {op : CmpOp} {r : R2} (ho : OpR X (compareOp op) r) (ha : PE X a ta) (hb : PE X b tb) (hm : behindInMarks op b = false) : PE X (.Compare a [op] [b] pos) (tOp r ta tb) := by
 intro pins s σ H Q I h
 exact wpAny_Compare1 (Qo3 ha hb I h λ v u s2 x y H2 I2 rx ry q => ho pins s2 σ H2 x y v u Q I2 rx ry q) hm
noncomputable def QtK (t : TE) : TT := λ σ H Q => t σ H λ x H' => ∃ k, x = .bl k /\ Q k H'
theorem Qqr {op : CmpOp} {r : R2} (ho : OpR X (compareOp op) r) (ha : PE X a ta) (hb : PE X b tb) (hm : behindInMarks op b = false) : PT X (.Compare a [op] [b] pos) (QtK (tOp r ta tb)) := by
 intro pins s σ H Q I h
 refine wpAny_isTrue_Compare1 (thn (ha pins s σ H _ I h) λ v s1 ⟨x, H1, I1, r1, q1⟩ => thn (hb pins s1 σ H1 _ I1 q1) λ u s2 ⟨y, H2, I2, r2, q2⟩ =>
  thn (ho pins s2 σ H2 x y v u _ I2 r1 r2 q2) λ c s3 ⟨z, H3, I3, r3, k, e, q3⟩ => ?_) hm
 subst e
 cases r3
 exact wpAny_truthy_bool ⟨H3, I3, q3⟩
def QoM (K : PySem.W.Frag) (x : V) (H : Hp) (k : Bool) : Prop :=
 match x with
 | .non => k = false
 | .bl b => k = b
 | .int i => k = (i != 0)
 | .str y => y.length <= sizeLine /\ k = ((y.length : Int) != 0)
 | .byt y => y.size <= sizeLine /\ k = ((y.size : Int) != 0)
 | .ref p => (∃ xs, SqL K H p xs /\ k = !xs.isEmpty) ∨ (∃ xs, SqT K H p xs /\ k = !xs.isEmpty) ∨ ∃ kvs, H p = some (.dK kvs) /\ k = !kvs.isEmpty
 | _ => False
theorem Qmd {κ : Type} {kvs : List (κ × V)} {vs : List (κ × Value)} (r : KV kvs vs) : (!vs.isEmpty) = !kvs.isEmpty := by
 cases r <;> rfl
theorem QhO {xs : List V} {its : List Value} (r : Qq xs its) : (!its.toArray.isEmpty) = !xs.isEmpty := by
 cases r <;> simp
theorem Qe4 : (sizeLine : Nat) < 2 ^ 63 := by rw [sizeLine_eq]; decide
theorem QhR : Qul X (λ x H Q => ∃ k, QoM X.K x H k /\ Q k H) := by
 intro pins s σ H x v Q I rx h
 obtain ⟨k, e, q⟩ := h
 have hl := Qe4
 have hs : sizeLine = 16777216 := sizeLine_eq
 cases x with
 | non =>
  cases rx
  have e' : k = false := e
  subst e'
  exact truthy_none ⟨H, I, q⟩
 | bl b =>
  cases rx
  have e' : k = b := e
  subst e'
  exact wpAny_truthy_bool ⟨H, I, q⟩
 | int i =>
  obtain ⟨t, rfl⟩ := rx
  have e' : k = (i != 0) := e
  subst e'
  exact PySem.P.truthy_int ⟨H, I, q⟩
 | str y =>
  obtain ⟨t, rfl⟩ := rx
  obtain ⟨hy, e'⟩ : y.length <= sizeLine /\ k = ((y.length : Int) != 0) := e
  subst e'
  exact PySem.P.truthy_str (by omega) ⟨H, I.tok _, q⟩
 | byt y =>
  obtain ⟨t, rfl⟩ := rx
  obtain ⟨hy, e'⟩ : y.size <= sizeLine /\ k = ((y.size : Int) != 0) := e
  subst e'
  exact PySem.W.truthy_bytes (by omega) ⟨H, I.tok _, q⟩
 | ref p =>
  cases rx
  have e' : (∃ xs, SqL X.K H p xs /\ k = !xs.isEmpty) ∨ (∃ xs, SqT X.K H p xs /\ k = !xs.isEmpty) ∨ ∃ kvs, H p = some (.dK kvs) /\ k = !kvs.isEmpty := e
  rcases e' with ⟨xs, hx, e'⟩ | ⟨xs, hx, e'⟩ | ⟨kvs, hx, e'⟩
  ·subst e'
   obtain ⟨its, r, pl, hz⟩ := I.list hx
   have hlen := r.length
   exact wpAny_truthy_list pl.isList (by simp only [Zs]; omega) ⟨H, I.tok _, by rw [QhO r]; exact q⟩
  ·subst e'
   obtain ⟨its, r, pl, hz⟩ := I.tuple hx
   have hlen := r.length
   exact truthy_tuple pl (by simp only [Zs]; omega) ⟨H, I.tok _, by rw [QhO r]; exact q⟩
  ·subst e'
   obtain ⟨hz, hS, vs, r, m⟩ : kvs.length <= sizeLine /\ (p == sysModules) = false /\ ∃ vs, KV kvs vs /\ s.heap.DictOf (Qii X.prog X.w) p vs := I.hok p _ hx
   have hlen : kvs.length = vs.length := Paired.length r
   exact wpAny_truthy_dict hS m (by omega) ⟨H, I.tok _, by rw [Qmd r]; exact q⟩
 | _ => exact (show False from e).elim
theorem Qom (ha : PE X a ta) (he : ∀ whole, isTrue a X.env whole = (do let v ← whole; standAt a.pos; holding [v] (truthy v))) :
  PT X a (λ σ H Q => ta σ H λ x H' => ∃ k, QoM X.K x H' k /\ Q k H') := by
 intro pins s σ H Q I h
 exact isTrue_plain (thn (ha pins s σ H _ I h) λ v s1 ⟨x, H1, I1, r1, q1⟩ => QhR pins s1 σ H1 x v Q I1 r1 q1) (he _)
theorem vals1 {x : V} {us : List Value} (r : Qq [x] us) : ∃ u, us = [u] /\ RelV x u := by
 cases r with
 | cons r1 r2 => cases r2; exact ⟨_, rfl, r1⟩
theorem vals2 {x y : V} {us : List Value} (r : Qq [x, y] us) : ∃ u w', us = [u, w'] /\ RelV x u /\ RelV y w' := by
 cases r with
 | cons r1 r2 =>
  cases r2 with
  | cons r3 r4 => cases r4; exact ⟨_, _, rfl, r1, r3⟩
theorem QnL (hc : X.calm = true) : QbD X (.builtin "max") (λ xs H Q => ∃ i j, xs = [.int i, .int j] /\ Q (.int (if j > i then j else i)) H) := by
 intro pins s σ H xs us Q I r h
 obtain ⟨i, j, rfl, q⟩ := h
 obtain ⟨u, w', rfl, ⟨t, rfl⟩, ⟨t', rfl⟩⟩ := vals2 r
 refine max_two_ints (I.ok.hd hc) λ h' tk k => ⟨_, H, I.kept k, ?_, q⟩
 by_cases hj : j > i
 ·rw [if_pos hj, if_pos hj]; exact ⟨_, rfl⟩
 ·rw [if_neg hj, if_neg hj]; exact ⟨_, rfl⟩
theorem QnY (hc : X.calm = true) : QbD X (.builtin "min") (λ xs H Q => ∃ i j, xs = [.int i, .int j] /\ Q (.int (if j < i then j else i)) H) := by
 intro pins s σ H xs us Q I r h
 obtain ⟨i, j, rfl, q⟩ := h
 obtain ⟨u, w', rfl, ⟨t, rfl⟩, ⟨t', rfl⟩⟩ := vals2 r
 refine min_two_ints (I.ok.hd hc) λ h' tk k => ⟨_, H, I.kept k, ?_, q⟩
 by_cases hj : j < i
 ·rw [if_pos hj, if_pos hj]; exact ⟨_, rfl⟩
 ·rw [if_neg hj, if_neg hj]; exact ⟨_, rfl⟩
theorem QnF : QbD X (.type "int") (λ xs H Q => (∃ i, xs = [.int i] /\ Q (.int i) H) ∨ ∃ k, xs = [.bl k] /\ Q (.int (if k then 1 else 0)) H) := by
 intro pins s σ H xs us Q I r h
 rcases h with ⟨i, rfl, q⟩ | ⟨k, rfl, q⟩
 ·obtain ⟨u, rfl, t, rfl⟩ := vals1 r
  exact call_int_int ⟨.int i, H, I, ⟨_, rfl⟩, q⟩
 ·obtain ⟨u, rfl, r1⟩ := vals1 r
  cases r1
  exact call_int_bool ⟨.int (if k then 1 else 0), H, I.tok _, ⟨_, rfl⟩, q⟩
end
end L2
namespace L2
open PySem PySem.Spec PyProof.Rows
structure Qse (h : Heap) (x dx C : Addr) (mA : Str -> Option Value) : Prop where
 obj : h.get? x = some (PySem.W.instObj C dx)
 ns : h.Ns1 dx mA
 ne : dx ≠ x
theorem Qm4 {h : Heap} {dx : Addr} {mA : Str -> Option Value} (n : h.Ns1 dx mA) : ∃ od, h.get? dx = some od /\ ∀ name, PySem.W.lookIn name od = some (mA name) := by
 obtain ⟨o, es, ep, ho, hd, hk, _, hm⟩ := n
 refine ⟨o, ho, λ name => ?_⟩
 have e := hm name
 unfold nsFind findBy at e
 rw [← Array.find?_toList] at e
 unfold PySem.W.lookIn
 rw [hd]
 dsimp only
 split
 ·rename_i y q
  rw [q] at e
  exact congrArg some e
 ·rename_i q
  rw [q] at e
  have a : es.toList.any (·.refKey) = false := by
   rw [List.any_eq_false]
   intro y hy
   obtain ⟨z, t, hkey⟩ := hk y (Array.mem_toList_iff.mp hy)
   simp [DictEntry.refKey, hkey]
  have a' : ¬ es.toList.any (·.refKey) = true := by rw [a]; exact ZK
  rw [if_neg a']
  exact congrArg some e
theorem Qse.look {h : Heap} {x dx C : Addr} {mA : Str -> Option Value} (I : Qse h x dx C mA) : ∃ od, PySem.W.InstAt h x (PySem.W.instObj C dx) C (some od) /\ ∀ name, PySem.W.lookIn name od = some (mA name) :=
 let ⟨od, ho, hl⟩ := Qm4 I.ns
 ⟨od, ⟨I.obj, rfl, rfl, ho⟩, hl⟩
section
variable {prog : Program} {w : World} {A : Around} {E : Value -> Shared -> Prop} {s : Shared} {K : PySem.W.Frag} {x dx C f : Addr} {mA : Str -> Option Value} {name : Str} {v : Value}
end
theorem Qh9.some_of {v : V} {o : Option Value} (r : Qh9 (some v) o) : ∃ u, o = some u /\ RelV v u := by
 cases o with
 | none => exact (show False from r).elim
 | some u => exact ⟨u, rfl, r⟩
theorem Qh9.none_of {o : Option Value} (r : Qh9 none o) : o = none := by
 cases o with
 | none => rfl
 | some u => exact (show False from r).elim
section
variable {P : Program} {w : World} {H H' : Hp} {h h' : Heap} {a C dx : Addr} {fs fs' : List (Str × V)}
end
structure Cls (K : PySem.W.Frag) (C : Addr) : Prop where
 pg : PySem.W.plainGet K C Str.empty = true
 hd : PySem.W.hasDictIn K C = true
 po : PySem.W.plainOver K C = true
 sa : PySem.W.findIn K (.ref C) "__setattr__" = some (some (.builtin "object.__setattr__"))
theorem Cls.get {K : PySem.W.Frag} {C : Addr} (c : Cls K C) (f : Str) : PySem.W.plainGet K C f = true := c.pg
structure Con (K : PySem.W.Frag) (C : Addr) (f : Str) (v : V) (u : Value) : Prop where
 at_ : PySem.W.findIn K (.ref C) f = some (some u)
 rel : RelV v u
 get : PySem.W.specialIn K u "__get__" = some none
 cp : PySem.W.copiedNames.contains f = false
structure Qu0 (K : PySem.W.Frag) (C : Addr) (m : Str) (f : Addr) : Prop where
 at_ : PySem.W.findIn K (.ref C) m = some (some (.ref f))
 fn : PySem.W.isFn K (.ref f) = true
 kp : PySem.W.keepIn K (.ref f) = true
section
variable {X : Cx} {pins : List (Addr × Obj)} {σ : St} {H : Hp} {s : Shared} {a C dx : Addr} {fs : List (Str × V)} {f : Str} {v : V} {A : Around} {E : Value -> Shared -> Prop}
theorem Inv.made (I : Inv X pins σ H s) : Inv X pins σ (upd (upd H s.heap.objs.size (.own (s.heap.objs.size + 1))) (s.heap.objs.size + 1) (.ins C s.heap.objs.size []))
  { s with heap := (s.heap.push PySem.W.emptyDict).push (PySem.W.instObj C s.heap.objs.size) } := by
 have e1 : (s.heap.push PySem.W.emptyDict).get? s.heap.objs.size = some PySem.W.emptyDict := ZG s.heap rfl
 have e2 : ((s.heap.push PySem.W.emptyDict).push (PySem.W.instObj C s.heap.objs.size)).get? (s.heap.objs.size + 1) = some (PySem.W.instObj C s.heap.objs.size) := by
  have := ZG (s.heap.push PySem.W.emptyDict) (o := PySem.W.instObj C s.heap.objs.size) rfl
  rwa [Zaz] at this
 have e3 : (s.heap.push PySem.W.emptyDict).Ns s.heap.objs.size (λ _ => none) := ⟨PySem.W.emptyDict, #[], _, e1, rfl, (λ e he => absurd he (by simp)), λ _ => rfl⟩
 have I1 := I.laid (a := s.heap.objs.size) (o := .own (s.heap.objs.size + 1)) (h' := s.heap.push PySem.W.emptyDict) (t' := s.toks) (λ b u q => Zq _ q) (Zj _) ⟨_, e1⟩
 refine I1.laid (a := s.heap.objs.size + 1) (o := .ins C s.heap.objs.size []) (t' := s.toks) (λ b u q => Zq _ q) (Nat.le_of_eq (Zaz _ _)) ?_
 have ne : s.heap.objs.size ≠ s.heap.objs.size + 1 := ZH (Zbf _)
 refine ⟨by rw [QE ne, Qar], ZO _, ne, e2, λ _ => none, (Heap.Ns1.of_empty e3).at λ o q => Zq _ q, λ _ => True.intro, λ y hy => absurd rfl hy⟩
end
section
variable {X : Cx} {o e value : Expr} {f : Str} {pos pos' tpos : Pos} {ta tv : TE}
end
section
variable {X : Cx} {pins : List (Addr × Obj)} {σ : St} {H : Hp} {s : Shared} {A : Around} {E : Value -> Shared -> Prop} {Q : Value -> Shared -> Prop} {c : Value} {b : Bool}
inductive Qes (K : PySem.W.Frag) (H : Hp) : V -> Value -> Prop where
 | non : Qes K H .non (.type "NoneType")
 | bl (x : Bool) : Qes K H (.bl x) (.type "bool")
 | int (i : Int) : Qes K H (.int i) (.type "int")
 | str (x : Str) : Qes K H (.str x) (.type "str")
 | flt (x : UInt64) : Qes K H (.flt x) (.type "float")
 | lst {a : Addr} {xs : List V} (e : H a = some (.lst xs)) : Qes K H (.ref a) (.type "list")
 | frz {a : Addr} {o : Obj} {xs : List V} (e : H a = some (.frz o (.lst xs))) : Qes K H (.ref a) (.type "list")
 | tup {a : Addr} {xs : List V} (e : H a = some (.tup xs)) : Qes K H (.ref a) (.type "tuple")
 | dK {a : Addr} {kvs : List (Key × V)} (e : H a = some (.dK kvs)) : Qes K H (.ref a) (.type "dict")
 | dT {a : Addr} {kvs : List (List Key × V)} (e : H a = some (.dT kvs)) : Qes K H (.ref a) (.type "dict")
 | ins {a C dx : Addr} {fs : List (Str × V)} (e : H a = some (.ins C dx fs)) (cl : Cls K C) (ha : PySem.W.findIn K (.ref C) "__class__" = some (some (.builtin "object.__class__")))
   (hn : PySem.W.specialIn K (.builtin "object.__class__") "__get__" = some (some (.builtin "getset_descriptor.__get__"))) (htk : PySem.W.takesIn K (.builtin "object.__class__") = some true)
   (hm : PySem.W.mroIn K C (.type "object") = some true) : Qes K H (.ref a) (.ref C)
end
end L2
namespace L2
open PySem PySem.Spec PyProof.Rows
structure Qaj (k : Nat) (A : Around) : Prop where
 hd : A.handled = none
 dp : A.depth + 3 * k + 5 < recursionLimit
 un : A.units + 16 * k + 200 < cLine
theorem Qaj.mono {j k : Nat} {A : Around} (r : Qaj k A) (h : j <= k) : Qaj j A := ⟨r.hd, by have := r.dp; omega, by have := r.un; omega⟩
theorem Qaj.deeper {k : Nat} {A : Around} (r : Qaj (k + 1) A) (env : Env) : Qaj k (A.deeper env) :=
 ⟨r.hd, by have := r.dp; show A.depth + 1 + 3 * k + 5 < _; omega, by have := r.un; show A.units + 3 + 16 * k + 200 < _; omega⟩
theorem Qaj.in1 {k : Nat} {A : Around} (r : Qaj (k + 1) A) : Qaj k A.in1 :=
 ⟨r.hd, by have := r.dp; show A.depth + 3 * k + 5 < _; omega, by have := r.un; show A.units + 1 + 16 * k + 200 < _; omega⟩
theorem Qmu {A : Around} {C : Addr} {us : List Value} {kw : List (Str × Value)} : (A.under (.builtin "type.__call__" ⟨.ref C :: us, kw⟩)).depth = A.depth + 1 := by
 first | rfl | simp [Around.under, Code.weight, Code.isCreation, Code.isGuard, Code.isCaller, Code.frames, Code.isFrame, guardIds]
theorem QlY {A : Around} {C : Addr} {us : List Value} {kw : List (Str × Value)} : (A.under (.builtin "type.__call__" ⟨.ref C :: us, kw⟩)).units = A.units + 1 := by
 first | rfl | simp [Around.under, Code.cUnits, Code.frames, Code.isFrame]
theorem Qaj.make {k : Nat} {A : Around} (r : Qaj (k + 1) A) (C : Addr) (us : List Value) (kw : List (Str × Value)) : Qaj k (A.under (.builtin "type.__call__" ⟨.ref C :: us, kw⟩)) :=
 ⟨r.hd, by have := r.dp; rw [Qmu]; omega, by have := r.un; rw [QlY]; omega⟩
theorem Qaj.depth {k : Nat} {A : Around} (r : Qaj k A) : A.depth < recursionLimit := by have := r.dp; omega
theorem Qaj.units {k : Nat} {A : Around} (r : Qaj k A) : A.units + 64 < cLine := by have := r.un; omega
noncomputable def QlQ : TA := λ _ H Q => Q [] H
noncomputable def QlV (ta : TE) (tr : TA) : TA := λ σ H Q => ta σ H λ x H1 => tr σ H1 λ xs H2 => Q (x :: xs) H2
section
variable {X : Cx} {e : Expr} {es : List Expr} {te : TE} {t : TA} {pos : Pos}
theorem QcL : PA X [] QlQ := λ _ _ _ _ H Q I h => Calls.spliced_nil ⟨[], H, I, .nil, h⟩
theorem QaV (ha : PE X e te) (hr : PA X es t) (hs : starEach (e :: es) X.env = (false, eval e X.env) :: starEach es X.env := by rfl) : PA X (e :: es) (QlV te t) := by
 intro pos pins s σ H Q I h
 rw [hs]
 show wpAny _ _ (spliced ((false, eval e X.env) :: backTo pos (starEach es X.env))) _ _ s
 refine Calls.spliced_cons (thn (ha pins s σ H _ I h) λ u s1 ⟨x, H1, I1, r1, q1⟩ => ?_)
 exact thn (hr pos pins s1 σ H1 _ I1 q1) λ us s2 ⟨xs, H2, I2, r2, q2⟩ => ⟨x :: xs, H2, I2, .cons r1 r2, q2⟩
noncomputable def Quq (t : TA) : TE := λ σ H Q => t σ H λ xs H1 => xs.length <= sizeLine /\ ∀ p, H1 p = none -> Q (.ref p) (upd H1 p (.tup xs))
noncomputable def Quv (t : TA) : TE := λ σ H Q => t σ H λ xs H1 => xs.length <= sizeLine /\ ∀ p, H1 p = none -> Q (.ref p) (upd H1 p (.lst xs))
theorem Qm5 {x1} (h : PA X es t) : PE X (.Tuple es x1 pos) (Quq t) := by
 intro pins s σ H Q I hq
 refine wpAny_Tuple_spliced (thn (h pos pins s σ H _ I hq) λ us s1 ⟨xs, H1, I1, r, z, q⟩ => ⟨by rw [← r.length]; exact z, ?_⟩)
 have hf : H1 s1.heap.objs.size = none := I1.hok.fresh (Zj _)
 refine ⟨.ref s1.heap.objs.size, upd H1 s1.heap.objs.size (.tup xs), I1.laid (t' := s1.toks) (λ b u e => Zq _ e) (Zj _) ?_, rfl, q _ hf⟩
 exact ⟨z, us, r, ⟨_, ZG _ rfl, rfl, _, rfl⟩⟩
theorem QsP (h : PA X es t) : PE X (.List es pos) (Quv t) := by
 intro pins s σ H Q I hq
 refine wpAny_List_spliced (thn (h pos pins s σ H _ I hq) λ us s1 ⟨xs, H1, I1, r, z, q⟩ => ⟨by rw [← r.length]; exact z, ?_⟩)
 have hf : H1 s1.heap.objs.size = none := I1.hok.fresh (Zj _)
 refine ⟨.ref s1.heap.objs.size, upd H1 s1.heap.objs.size (.lst xs), I1.laid (t' := s1.toks) (λ b u e => Zq _ e) (Zj _) ?_, rfl, q _ hf⟩
 exact ⟨z, us, 0, r, ZG _ rfl⟩
end
noncomputable abbrev Sp := List V -> Hp -> VK -> XK -> Prop
noncomputable abbrev CXT := List Env -> Hp -> Shared -> XK -> Value -> Shared -> Prop
structure Qeu (P : Program) (w : World) (K : PySem.W.Frag) (mg : Str -> Option Value) (base : Heap) (A : Around) (outer : List Env) (s : Shared) (H : Hp) : Prop where
 frames : A.frames = some outer
 mod : Mod K mg base
 bs : ∀ b o, base.get? b = some o -> s.heap.get? b = some o /\ H b = none
 bsz : base.objs.size <= s.heap.objs.size
 QcG : s.heap.FunFrames base outer
 frf : ∀ b ∈ frs outer, H b = none
 hok : HOk P w H s.heap
 bare : AllBare s.gens
def CE (outer : List Env) (P : Program) (w : World) (H : Hp) (s : Shared) (Q : VK) (u : Value) (s' : Shared) : Prop :=
 ∃ v H', s'.os = s.os /\ AllBare s'.gens /\ Un (frs outer) [] H H' s.heap s'.heap /\ HOk P w H' s'.heap /\ RelV v u /\ Q v H'
def CR (CX : CXT) (outer : List Env) (P : Program) (w : World) (H : Hp) (s : Shared) (Q : VK) (E : XK) (r : Result) (s' : Shared) : Prop :=
 match r with
 | .ok (.ret u) => CE outer P w H s Q u s'
 | .ok _ => False
 | .error e => CX outer H s E e s'
structure Qbe (P : Program) (w : World) (K : PySem.W.Frag) (mg : Str -> Option Value) (base : Heap) (CX : CXT) (k : Nat) (f : Addr) (fd : FuncData) (ps : List Str) (sp : Sp) : Prop where
 len : ∀ vs H Q E, sp vs H Q E -> vs.length = ps.length
 run : ∀ (A : Around) (outer : List Env) (s : Shared) (H : Hp) (args : Args) (us : List Value) (vs : List V) (Q : VK) (E : XK), Qaj k A -> Qeu P w K mg base A outer s H -> BindsTo s fd args (ps.zip us) -> Qq vs us -> sp vs H Q E →
  codeAny (model P w) A (.call (.ref f) args) (CR CX outer P w H s Q E) s
theorem Qbe.mono {P : Program} {w : World} {K : PySem.W.Frag} {mg : Str -> Option Value} {base : Heap} {CX : CXT} {j k : Nat} {f : Addr} {fd : FuncData} {ps : List Str} {sp : Sp} (F : Qbe P w K mg base CX j f fd ps sp) (h : j <= k) :
  Qbe P w K mg base CX k f fd ps sp := ⟨F.len, λ A outer s H args us vs Q E hr => F.run A outer s H args us vs Q E (hr.mono h)⟩
theorem Qbe.imp {P : Program} {w : World} {K : PySem.W.Frag} {mg : Str -> Option Value} {base : Heap} {CX : CXT} {k : Nat} {f : Addr} {fd : FuncData} {ps : List Str} {sp sp' : Sp} (F : Qbe P w K mg base CX k f fd ps sp)
  (h : ∀ vs H Q E, sp' vs H Q E -> sp vs H Q E) : Qbe P w K mg base CX k f fd ps sp' :=
 ⟨λ vs H Q E q => F.len vs H Q E (h _ _ _ _ q), λ A outer s H args us vs Q E hr he hb hv hs => F.run A outer s H args us vs Q E hr he hb hv (h _ _ _ _ hs)⟩
theorem Qeu.make {P : Program} {w : World} {K : PySem.W.Frag} {mg : Str -> Option Value} {base : Heap} {A : Around} {outer : List Env} {s : Shared} {H : Hp} (e : Qeu P w K mg base A outer s H) (C : Addr) (us : List Value) (kw : List (Str × Value)) :
  Qeu P w K mg base (A.under (.builtin "type.__call__" ⟨.ref C :: us, kw⟩)) outer s H := ⟨by first | exact e.frames | (simpa [Around.under, Code.envs, Code.isFrame, pushEnvs] using e.frames), e.mod, e.bs, e.bsz, e.QcG, e.frf, e.hok, e.bare⟩
theorem Qeu.in1 {P : Program} {w : World} {K : PySem.W.Frag} {mg : Str -> Option Value} {base : Heap} {A : Around} {outer : List Env} {s : Shared} {H : Hp} (e : Qeu P w K mg base A outer s H) :
  Qeu P w K mg base A.in1 outer s H := ⟨e.frames, e.mod, e.bs, e.bsz, e.QcG, e.frf, e.hok, e.bare⟩
section
variable {X : Cx} {pins : List (Addr × Obj)} {σ : St} {H : Hp} {s s' : Shared}
theorem Inv.Qot (I : Inv X pins σ H s) : Qeu X.prog X.w X.K X.mg X.base X.A X.stack s H :=
 ⟨I.ok.frames, I.ok.mod, I.bs, ZA I.ok.bsz I.sz, I.stack, I.Qis, I.hok, I.bare⟩
theorem Inv.after {Q : VK} {u : Value} (I : Inv X pins σ H s) (h : CE X.stack X.prog X.w H s Q u s') : EP X pins σ Q u s' := by
 obtain ⟨v, H', os, bare, un, hok, r, q⟩ := h
 obtain ⟨hh, g, d, t, os'⟩ := s'
 obtain rfl : os' = s.os := os
 exact ⟨v, H', I.call (h' := hh) (g' := g) (d' := d) (t' := t) (ch := []) un hok bare (λ b z => absurd z (by simp)), r, q⟩
end
noncomputable def Qmj (sp : Sp) (dvs : List V) (E : XK) (t : TA) : TE := λ σ H Q => t σ H λ vs H1 => sp (vs ++ dvs) H1 Q E
def Binds (K : PySem.W.Frag) (fd : FuncData) (ps : List Str) (ds : List Value) : Prop :=
 ∀ (s : Shared) (us : List Value), K.In s.heap -> (us ++ ds).length = ps.length -> BindsTo s fd ⟨us, []⟩ (ps.zip (us ++ ds))
theorem Binds.all {K : PySem.W.Frag} {fd : FuncData} {ps : List Str} (h : ∀ us : List Value, us.length = ps.length -> bindArgs fd ⟨us, []⟩ = pure (ps.zip us)) : Binds K fd ps [] := λ s us _ hl => by
 rw [Zab] at hl ⊢
 exact .of_eq (h us hl)
def QhQ (CX : CXT) (X : Cx) (E : XK) : Prop := ∀ (pins : List (Addr × Obj)) (σ : St) (H : Hp) (s : Shared) (e : Value) (s' : Shared), Inv X pins σ H s -> CX X.stack H s E e s' -> X.xe e s'
section
variable {X : Cx} {CX : CXT} {k : Nat} {f C : Addr} {fd : FuncData} {ps : List Str} {sp : Sp} {dvs : List V} {ds : List Value} {E : XK} {x m : Str} {p pos apos : Pos} {e o : Expr} {es : List Expr} {ta : TE} {t : TA}
theorem Qn6 {pins : List (Addr × Obj)} {σ : St} {H : Hp} {s : Shared} {Q : VK} {us : List Value} {vs : List V} (F : Qbe X.prog X.w X.K X.mg X.base CX k f fd ps sp) (hr : Qaj k X.A) (hb : Binds X.K fd ps ds) (hd : Qq dvs ds) (hx : QhQ CX X E)
  (I : Inv X pins σ H s) (r : Qq vs us) (h : sp (vs ++ dvs) H Q E) : wpAny (model X.prog X.w) X.A (call (.ref f) us) (EP X pins σ Q) X.xe s := by
 have r2 : Qq (vs ++ dvs) (us ++ ds) := r.append hd
 have hl : (us ++ ds).length = ps.length := by rw [← r2.length]; exact F.len _ _ _ _ h
 refine wpAny_call (codeAny_mono (F.run X.A X.stack s H ⟨us, []⟩ (us ++ ds) (vs ++ dvs) Q E hr I.Qot (hb s us I.kIn hl) r2 h) λ r s' hq => ?_)
 cases r with
 | error e => exact hx pins σ H s e s' I hq
 | ok fl =>
  cases fl with
  | ret u => exact I.after hq
  | next => exact False.elim hq
  | brk => exact False.elim hq
  | cont => exact False.elim hq
theorem Qqm (F : Qbe X.prog X.w X.K X.mg X.base CX k f fd ps sp) (hr : Qaj k X.A) (hg : Gl X x) (hm : X.mg x = some (.ref f)) (hk : PySem.W.keepIn X.K (.ref f) = true) (hb : Binds X.K fd ps ds) (hd : Qq dvs ds) (hx : QhQ CX X E)
  (ha : PA X (e :: es) t) (hdb : (x == ("__debug__" : Str)) = false := by decide) (he : starEach (e :: es) X.env = (false, eval e X.env) :: starEach es X.env := by rfl) (hpl : (backTo pos (starEach es X.env)).any (·.1) = false := by rfl) :
  PE X (.Call (.Name x p) (e :: es) [] pos) (Qmj sp dvs E t) := by
 intro pins s σ H Q I h
 refine wpAny_Call_Name_kw (Qdm I hg hm ?_ hdb)
 refine ZaY (h₀ := X.base) I.ok.mod.kin hk (thn (ha pos pins s σ H _ I h) λ us s1 ⟨vs, H1, I1, r, q⟩ => ⟨I1.kIn, ?_⟩) he hpl
 exact Qn6 F hr hb hd hx I1 r q
theorem QoT (F : Qbe X.prog X.w X.K X.mg X.base CX k f fd ps sp) (hr : Qaj k X.A) (hg : Gl X x) (hm : X.mg x = some (.ref f)) (hk : PySem.W.keepIn X.K (.ref f) = true) (hb : Binds X.K fd ps ds) (hd : Qq dvs ds) (hx : QhQ CX X E)
  (hdb : (x == ("__debug__" : Str)) = false := by decide) : PE X (.Call (.Name x p) [] [] pos) (Qmj sp dvs E QlQ) := by
 intro pins s σ H Q I h
 refine wpAny_Call_Name_kw (Qdm I hg hm ?_ hdb)
 exact PySem.W.callWith_K0 I.kIn hk (Qn6 (us := []) F hr hb hd hx I .nil h)
structure Mk (K : PySem.W.Frag) (C f : Addr) : Prop where
 makes : PySem.W.makesIn K C = true
 init : PySem.W.findIn K (.ref C) "__init__" = some (some (.ref f))
 fn : PySem.W.isFn K (.ref f) = true
 kp : PySem.W.keepIn K (.ref C) = true
end
section
variable {X : Cx} {CX : CXT} {k : Nat} {f C : Addr} {fd : FuncData} {ps ks : List Str} {sp : Sp} {E : XK} {x m : Str} {p pos apos kpos : Pos} {e o : Expr} {es : List Expr} {kws : List Keyword} {te ta : TE} {t tk : TA} {nm : Option Str}
structure QuY (K : PySem.W.Frag) (fd : FuncData) (ps ks : List Str) (g : List Value -> List Value -> List Value) (gV : List V -> List V -> List V) : Prop where
 to : ∀ (s : Shared) (us ws : List Value), K.In s.heap -> (g us ws).length = ps.length -> BindsTo s fd ⟨us, ks.zip ws⟩ (ps.zip (g us ws))
 rel : ∀ {vs : List V} {us : List Value} {zs : List V} {ws : List Value}, Qq vs us -> Qq zs ws -> Qq (gV vs zs) (g us ws)
variable {g : List Value -> List Value -> List Value} {gV : List V -> List V -> List V}
end
structure Qa6 (N P : List Str) (sc : Scope) : Prop where
 kind : sc.kind = .function
 co : sc.isCoroutine = false
 gen : sc.isGenerator = false
 nd : N.Nodup
 pre : N.take P.length = P
 par : ∀ x ∈ P, sc.names.lookup x = some .local ∨ sc.names.lookup x = some .cell
 nofree : ∀ y ∈ sc.names, y.2 ≠ .free
theorem QiT {kindOf : Str -> Option NameKind} {x : Str} : ∀ {binds : List (Str × Value)} {m : Str -> Option Value}, (∀ v, (x, v) ∉ binds) -> bindL kindOf binds m x = m x
 | [], _, _ => rfl
 | (n, v) :: r, m, h => by
  unfold bindL
  rw [QiT λ w hw => h w (Zd _ hw)]
  split
  ·have : x ≠ n := by rintro rfl; exact h v Zi
   simp [this]
  ·rfl
theorem Qi8 {kindOf : Str -> Option NameKind} {x : Str} : ∀ {binds : List (Str × Value)} {m : Str -> Option Value}, (∀ v, (x, v) ∉ binds) -> bindC kindOf binds m x = m x
 | [], _, _ => rfl
 | (n, v) :: r, m, h => by
  unfold bindC
  rw [Qi8 λ w hw => h w (Zd _ hw)]
  split
  ·rfl
  ·have : x ≠ n := by rintro rfl; exact h v Zi
   simp [this]
theorem QiY {kindOf : Str -> Option NameKind} {x : Str} {v : Value} : ∀ {P : List Str} {vs : List Value} {i : Nat} {m : Str -> Option Value}, P.Nodup -> P[i]? = some x -> vs[i]? = some v -> kindOf x = some .local →
  bindL kindOf (P.zip vs) m x = some v
 | [], _, _, _, _, h, _, _ => by simp at h
 | _ :: _, [], _, _, _, _, h, _ => by simp at h
 | p :: P, w :: vs, 0, m, nd, h1, h2, hk => by
  simp at h1 h2; subst h1; subst h2
  show bindL kindOf ((p, w) :: P.zip vs) m p = _
  unfold bindL
  rw [QiT λ v hv => (Zaj.mp nd).1 (Zbw hv).1, if_pos hk]
  simp
 | p :: P, w :: vs, i + 1, m, nd, h1, h2, hk => by
  show bindL kindOf ((p, w) :: P.zip vs) m x = _
  unfold bindL
  exact QiY (i := i) (Zaj.mp nd).2 (by simpa using h1) (by simpa using h2) hk
theorem Qjc {kindOf : Str -> Option NameKind} {x : Str} {v : Value} : ∀ {P : List Str} {vs : List Value} {i : Nat} {m : Str -> Option Value}, P.Nodup -> P[i]? = some x -> vs[i]? = some v -> kindOf x ≠ some .local →
  bindC kindOf (P.zip vs) m x = some v
 | [], _, _, _, _, h, _, _ => by simp at h
 | _ :: _, [], _, _, _, _, h, _ => by simp at h
 | p :: P, w :: vs, 0, m, nd, h1, h2, hk => by
  simp at h1 h2; subst h1; subst h2
  show bindC kindOf ((p, w) :: P.zip vs) m p = _
  unfold bindC
  rw [Qi8 λ v hv => (Zaj.mp nd).1 (Zbw hv).1, if_neg hk]
  simp
 | p :: P, w :: vs, i + 1, m, nd, h1, h2, hk => by
  show bindC kindOf ((p, w) :: P.zip vs) m x = _
  unfold bindC
  exact Qjc (i := i) (Zaj.mp nd).2 (by simpa using h1) (by simpa using h2) hk
noncomputable def start (N : List Str) (vs : List V) : St := vs.map some ++ List.replicate (N.length - vs.length) none
noncomputable def Qc5 (CX : CXT) (P : Program) (w : World) (K : PySem.W.Frag) (mg : Str -> Option Value) (base : Heap) (N : List Str) (qual : Str) (scope : Scope) (f : Addr) (cd : Value) (A : Around) (outer : List Env) (s : Shared) (H : Hp) (E : XK) : Cx where
 prog := P
 w := w
 K := K
 mg := mg
 base := base
 A := A.deeper (envOfC qual scope s.heap.objs.size f cd)
 N := N
 s₀ := s
 H₀ := H
 env := envOfC qual scope s.heap.objs.size f cd
 outer := outer
 stack := envOfC qual scope s.heap.objs.size f cd :: outer
 ex := []
 calm := decide (A.handled = none)
 fn := λ _ => true
 pn := []
 xe := λ e s' => wpAny (model P w) (A.deeper (envOfC qual scope s.heap.objs.size f cd)) (leaving (envOfC qual scope s.heap.objs.size f cd) e) (λ _ s'' => CX outer H s E e s'') (λ e' s'' => CX outer H s E e' s'') s'
theorem Qj4 {sc : Scope} {n : Nat} {x : Str} (h : sc.names.lookup x = some .cell) : ∃ c, (cellsFrom n sc.names []).lookup x = some c := by
 have q := Zbp sc.names n [] (.inl h)
 exact Option.isSome_iff_exists.mp q
theorem QmR {CX : CXT} {P : Program} {w : World} {K : PySem.W.Frag} {mg : Str -> Option Value} {base : Heap} {N ps : List Str} {qual : Str} {scope : Scope} {f : Addr} {cd : Value} {A : Around} {outer : List Env} {s s1 : Shared} {H : Hp} {E : XK} {us : List Value} {vs : List V}
  (S : Qa6 N ps scope) (e0 : Qeu P w K mg base A outer s H) (hl : vs.length = ps.length) (r : Qq vs us)
  (x : InCallC s s.heap.objs.size (bindL (envOfC qual scope s.heap.objs.size f cd).kindOf (ps.zip us) λ _ => none) (cellsFrom (s.heap.objs.size + 1) scope.names []) (bindC (envOfC qual scope s.heap.objs.size f cd).kindOf (ps.zip us) λ _ => none) s1) :
  Inv (Qc5 CX P w K mg base N qual scope f cd A outer s H E) [] (start N vs) H s1 := by
 have hpl : ps.length <= N.length := by have := congrArg List.length S.pre; rw [ZaM] at this; omega
 obtain ⟨h1, tk, rfl, hk⟩ := x.done
 have noA : ∀ b : Addr, b ∉ (Qc5 CX P w K mg base N qual scope f cd A outer s H E).ex := λ b z => absurd (show b ∈ ([] : List Addr) from z) (by simp)
 refine ⟨⟨e0.mod, S.kind, rfl, rfl, Zj _, λ y z c h1 h2 => ?_, λ y hy => ?_, λ y c _ h => ?_, λ h => of_decide_eq_true h, Around.frames_deeper e0.frames, .inr ⟨rfl, rfl⟩, λ b z => absurd z (noA b), e0.bs, e0.bsz, λ b _ _ => noA b, λ b z => absurd z (noA b), e0.QcG, e0.frf⟩,
  rfl, e0.bare, Un.kept hk, ⟨_, x.toInCall.ns, λ i y v h1 h2 h3 => ?_⟩, λ y c h => ⟨_, x.cell y c h⟩, e0.hok.fresh (Zj _), λ y c h => ?_, λ p hp => absurd (show p ∈ ([] : List (Addr × Obj)) from hp) (by simp), e0.hok.kept hk, ?_⟩
 ·exact name_of_addr x.apart (ZU h1) (ZU h2)
 ·have hy : scope.names.lookup y = some .cell ∨ scope.names.lookup y = some .free := hy
  rcases hy with hy | hy
  ·exact Qj4 hy
  ·exact absurd rfl (S.nofree _ (ZU hy))
 ·exact Nat.le_of_lt (x.above y c (ZU h))
 ·have hi : i < vs.length := by
   unfold start at h2
   by_cases hi : i < vs.length
   ·exact hi
   ·rw [ZaZ (by simpa using hi)] at h2
    rw [Zbg] at h2
    split at h2 <;> cases h2
  have ha : vs[i]? = some v := by
   unfold start at h2
   rw [Zae (by simpa using hi), Zz] at h2
   cases e : vs[i]? with
   | none => rw [e] at h2; cases h2
   | some a => rw [e] at h2; cases h2; rfl
  obtain ⟨u, hu, rv⟩ := r.get ha
  have hp : ps[i]? = some y := by
   rw [← S.pre, List.getElem?_take_of_lt (by omega)]; exact h1
  have ndP : ps.Nodup := by rw [← S.pre]; exact S.nd.sublist (List.take_sublist _ _)
  refine ⟨u, rv, ?_⟩
  rcases S.par y (Zac hp) with k | k
  ·exact .inl ⟨k, QiY ndP hp hu k⟩
  ·obtain ⟨c, e⟩ := Qj4 (n := s.heap.objs.size + 1) k
   refine .inr ⟨.inl k, c, e, ?_⟩
   have q := x.cell y c e
   rw [Qjc ndP hp hu (by show scope.names.lookup y ≠ _; rw [k]; decide)] at q
   exact q
 ·exact e0.hok.fresh (Nat.le_of_lt (x.above y c (ZU h)))
 ·unfold start
  show _ = N.length
  rw [Zl, Zh, ZaK]
  omega
theorem Qjv {CX : CXT} {P : Program} {w : World} {K : PySem.W.Frag} {mg : Str -> Option Value} {base : Heap} {k : Nat} {f : Addr} {name qual : Str} {params : Arguments} {body : List Stmt} {scope : Scope} {dV kV doc pm cdv ct oc : Value} {an od : Option Addr}
  {osl : Array (Option Value)} {N ps : List Str} {sp : Sp} (lk : K.lookup f = some ⟨oc, od, .func (PySem.W.fnOf name qual params body scope dV kV doc pm an cdv ct), osl⟩) (hcd : PySem.W.codeIn K cdv qual = true) (S : Qa6 N ps scope)
  (len : ∀ vs H Q E, sp vs H Q E -> vs.length = ps.length)
  (hbody : ∀ (A : Around) (outer : List Env) (s : Shared) (H : Hp) (vs : List V) (Q : VK) (E : XK), Qaj k (A.deeper (envOfC qual scope s.heap.objs.size f cdv)) -> sp vs H Q E →
   ∃ t, PSs (Qc5 CX P w K mg base N qual scope f cdv A outer s H E) body t /\ t { nx := λ _ H' => Q .non H', rt := Q } (start N vs) H) :
  Qbe P w K mg base CX (k + 1) f (PySem.W.fnOf name qual params body scope dV kV doc pm an cdv ct) ps sp := by
 refine ⟨len, λ A outer s H args us vs Q E hr e0 hb r hsp => ?_⟩
 have hl := len _ _ _ _ hsp
 have KX : K.In s.heap := e0.mod.kin.keeps λ b o e => (e0.bs b o e).1
 have lim : s.heap.NoLimit := e0.mod.nolimit.keeps λ b o e => (e0.bs b o e).1
 have hkind : ∀ y ∈ ps.zip us, scope.names.lookup y.1 = some .local ∨ (scope.names.lookup y.1 = some .cell /\ ((cellsFrom (s.heap.objs.size + 1) scope.names []).lookup y.1).isSome = true) := λ ⟨n, v⟩ hy => by
  rcases S.par n (Zbw hy).1 with q | q
  ·exact .inl q
  ·exact .inr ⟨q, Zbp _ _ _ (.inl q)⟩
 refine codeAny_call_function hr.depth (KX _ _ lk) rfl S.co S.gen rfl (PySem.W.codeRec_of KX hcd) (hb _ _ _ _ ?_)
 refine wpAny_newFunctionEnv_cells S.kind hkind λ env he s1 x => ?_
 subst he
 refine ⟨lim.keeps x.toInCall.keep, codeAny_func ?_⟩
 obtain ⟨t, ht, hq⟩ := hbody A outer s H vs Q E (hr.deeper _) hsp
 have I : Inv (Qc5 CX P w K mg base N qual scope f cdv A outer s H E) [] (start N vs) H s1 := QmR S e0 hl r x
 refine wpAny_mono (ht [] s1 (start N vs) H _ I hq) (λ fl s' hs => ?_) λ e s' hs => hs
 have fin : ∀ {σ' : St} {H' : Hp} {v : V} {u : Value}, Inv (Qc5 CX P w K mg base N qual scope f cdv A outer s H E) [] σ' H' s' -> RelV v u -> Q v H' -> CE outer P w H s Q u s' :=
  λ {σ' H' v u} J rv q => ⟨v, H', J.os, J.bare, J.base, J.hok, rv, q⟩
 cases fl with
 | ret u =>
  obtain ⟨v, σ', H', J, rv, q⟩ := hs
  exact fin J rv q
 | next =>
  obtain ⟨σ', H', J, q⟩ := hs
  exact fin (v := V.non) (u := Value.none) J rfl q
 | brk =>
  obtain ⟨_, _, _, q⟩ := hs
  exact False.elim q
 | cont =>
  obtain ⟨_, _, _, q⟩ := hs
  exact False.elim q
end L2
namespace L2
open PySem PySem.Spec PyProof.Rows
section
variable {X : Cx} {x : Str} {p pos : Pos} {e : Expr} {es : List Expr} {t : TA} {id T : String} {r : List V -> Hp -> VK -> Prop}
noncomputable def tCB (r : List V -> Hp -> VK -> Prop) (t : TA) : TE := λ σ H Q => t σ H λ vs H1 => r vs H1 Q
theorem Qft (hc : QbD X (.builtin id) r) (hg : Gl X x) (hm : X.mg x = none) (hv : bootBuiltins x = some (.builtin id)) (ha : PA X (e :: es) t) (hn : x ≠ "__name__" := by decide) (hdb : (x == ("__debug__" : Str)) = false := by decide)
  (he : starEach (e :: es) X.env = (false, eval e X.env) :: starEach es X.env := by rfl) (hpl : (backTo pos (starEach es X.env)).any (·.1) = false := by rfl) : PE X (.Call (.Name x p) (e :: es) [] pos) (tCB r t) := by
 intro pins s σ H Q I h
 refine wpAny_Call_Name_kw (Qc8 I hg hm hv ?_ hn hdb)
 exact PyProof.Rows.callWith_builtin1 (thn (ha pos pins s σ H _ I h) λ us s1 ⟨vs, H1, I1, r1, q1⟩ => hc pins s1 σ H1 vs us Q I1 r1 q1) he hpl
theorem Qjh (hc : QbD X (.type T) r) (hg : Gl X x) (hm : X.mg x = none) (hv : bootBuiltins x = some (.type T)) (ha : PA X (e :: es) t) (hn : x ≠ "__name__" := by decide) (hdb : (x == ("__debug__" : Str)) = false := by decide)
  (he : starEach (e :: es) X.env = (false, eval e X.env) :: starEach es X.env := by rfl) (hpl : (backTo pos (starEach es X.env)).any (·.1) = false := by rfl) : PE X (.Call (.Name x p) (e :: es) [] pos) (tCB r t) := by
 intro pins s σ H Q I h
 refine wpAny_Call_Name_kw (Qc8 I hg hm hv ?_ hn hdb)
 exact ZW (thn (ha pos pins s σ H _ I h) λ us s1 ⟨vs, H1, I1, r1, q1⟩ => hc pins s1 σ H1 vs us Q I1 r1 q1) he hpl
end
end L2
namespace HT
open PySem PyProof.Rows
section
open PySem.SeqAt
open PySem.AutoSeq1 (wpAny_loadPart')
open PySem.MeetsSeq PySem.MeetsSeq2 PySem.MeetsSeq3
end
section
variable {prog : Program} {w : World} {A : Around} {E : Value -> Shared -> Prop} {s : Shared}
noncomputable def sIx (n d : Nat) : Option Int -> Nat
 | none => d
 | some v => if v < 0 then (v + (n : Int)).toNat else min v.toNat n
theorem QfA (n d : Nat) : sIx n d none = d := rfl
theorem Qdn (n d k : Nat) : sIx n d (some (k : Int)) = min k n := by
 show (if (k : Int) < 0 then ((k : Int) + (n : Int)).toNat else min (k : Int).toNat n) = min k n
 rw [if_neg (by omega), Zx]
end
end HT
namespace L2
open PySem PySem.Spec PyProof.Rows
noncomputable abbrev TO := St -> Hp -> (Option Int -> Hp -> Prop) -> Prop
def PO (X : Cx) (e : Option Expr) (t : TO) : Prop :=
 ∀ (pins : List (Addr × Obj)) (s : Shared) (σ : St) (H : Hp) (Q : Option Int -> Hp -> Prop), Inv X pins σ H s -> t σ H Q →
  wpAny (model X.prog X.w) X.A (evalPart e X.env) (λ u s' => ∃ o H', Inv X pins σ H' s' /\ IsPart u o /\ Q o H') X.xe s
noncomputable def QqW : TO := λ _ H Q => Q none H
noncomputable def QtR (t : TE) : TO := λ σ H Q => t σ H λ x H1 => ∃ i, x = .int i /\ Q (some i) H1
theorem intsAre_of {ns : List Int} : ∀ {us : List Value}, Qq (ns.map V.int) us -> IntsAre us ns := by
 induction ns with
 | nil => intro us r; rw [List.map_nil] at r; cases r; exact .nil
 | cons n ns ih =>
  intro us r
  rw [Zu] at r
  cases r with
  | cons r1 r2 =>
   obtain ⟨t, e⟩ := r1
   subst e
   exact .cons n t (ih r2)
section
variable {X : Cx} {e : Expr} {te : TE} {lo hi : Option Expr} {tl th : TO} {pos p2 : Pos}
theorem QrE : PO X none QqW := by
 intro pins s σ H Q I h
 rw [evalPart_none]
 exact wpAny_pure ⟨none, H, I, .none, h⟩
theorem Qrf (h : PE X e te) : PO X (some e) (QtR te) := by
 intro pins s σ H Q I hw
 rw [evalPart_some]
 refine thn (h pins s σ H _ I hw) λ u s1 ⟨x, H1, I1, r1, q1⟩ => ?_
 obtain ⟨i, rfl, q⟩ := q1
 obtain ⟨t, rfl⟩ := r1
 exact ⟨some i, H1, I1, .int i t, q⟩
def SlR (X : Cx) (r : V -> Option Int -> Option Int -> Hp -> VK -> Prop) : Prop :=
 ∀ (pins : List (Addr × Obj)) (s : Shared) (σ : St) (H : Hp) (x : V) (v vl vu : Value) (lo hi : Option Int) (sl : Addr) (Q : VK), Inv X pins σ H s -> RelV x v -> s.heap.IsSliceOf sl vl vu .none -> IsPart vl lo -> IsPart vu hi -> r x lo hi H Q →
  ∃ T id, typeLookup (.type T) "__getitem__" = pure (some (.builtin id)) /\ s.TypeIs v T /\ wpAny (model X.prog X.w) X.A (getItem v (.ref sl)) (EP X pins σ Q) X.xe s
theorem SlR.or {r r' : V -> Option Int -> Option Int -> Hp -> VK -> Prop} (h : SlR X r) (h' : SlR X r') : SlR X (λ x lo hi H Q => r x lo hi H Q ∨ r' x lo hi H Q) := by
 intro pins s σ H x v vl vu lo hi sl Q I rx hs pl pu q
 rcases q with q | q
 ·exact h pins s σ H x v vl vu lo hi sl Q I rx hs pl pu q
 ·exact h' pins s σ H x v vl vu lo hi sl Q I rx hs pl pu q
noncomputable def tSl (r : V -> Option Int -> Option Int -> Hp -> VK -> Prop) (te : TE) (tl th : TO) : TE := λ σ H Q => te σ H λ x H1 => tl σ H1 λ l H2 => th σ H2 λ u H3 => r x l u H3 Q
theorem Qpt {r : V -> Option Int -> Option Int -> Hp -> VK -> Prop} (hr : SlR X r) (he : PE X e te) (hl : PO X lo tl) (hu : PO X hi th) : PE X (.Subscript e (.Slice lo hi none p2) pos) (tSl r te tl th) := by
 intro pins s σ H Q I h
 refine Subscript_ (thn (he pins s σ H _ I h) λ v s1 ⟨x, H1, I1, r1, q1⟩ => ?_)
 refine wpAny_Slice (thn (hl pins s1 σ H1 _ I1 q1) λ vl s2 ⟨l, H2, I2, pl, q2⟩ => thn (hu pins s2 σ H2 _ I2 q2) λ vu s3 ⟨u, H3, I3, pu, q3⟩ => ?_)
 rw [evalPart_none]
 refine wpAny_pure ?_
 have I4 : Inv X pins σ H3 { s3 with heap := s3.heap.push { cls := .type "slice", data := .fields #[vl, vu, .none] } } := I3.kept (t' := s3.toks) λ b ob q => Zq _ q
 obtain ⟨T, id, hT, ht, hg⟩ := hr pins { s3 with heap := s3.heap.push { cls := .type "slice", data := .fields #[vl, vu, .none] } } σ H3 x v vl vu l u s3.heap.objs.size Q I4 r1 (Heap.IsSliceOf.new ..) pl pu q3
 show wpAny (model X.prog X.w) X.A (subscriptTail e (.Slice lo hi none p2) v (.ref s3.heap.objs.size)) (EP X pins σ Q) X.xe { s3 with heap := s3.heap.push { cls := .type "slice", data := .fields #[vl, vu, .none] } }
 exact tail_any (ops := [.ref s3.heap.objs.size, v]) ht hT hg (by with_unfolding_all rfl)
noncomputable def QiO (xs : List V) (lo hi : Option Int) : List V := (xs.drop (HT.sIx xs.length 0 lo)).take (HT.sIx xs.length xs.length hi - HT.sIx xs.length 0 lo)
theorem Qk4 (xs : List V) (lo hi : Option Int) : (QiO xs lo hi).length <= xs.length := by
 unfold QiO
 rw [ZaM, Zbh]
 omega
end
end L2
namespace L2
open PySem PySem.Spec PyProof.Rows
noncomputable def ixN (n : Nat) (i : Int) : Option Nat := if 0 <= i then (if i < n then some i.toNat else none) else if -(n : Int) <= i then some (i + n).toNat else none
noncomputable def atI {α : Type} (xs : List α) (i : Int) : Option α := (ixN xs.length i).bind λ j => xs[j]?
theorem Qgp {n : Nat} {i : Int} {j : Nat} (h : ixN n i = some j) : seqIndex? i n = some j /\ j < n /\ -(n : Int) <= i /\ i < n := by
 unfold ixN at h
 by_cases h0 : 0 <= i
 ·rw [if_pos h0] at h
  by_cases h1 : i < n
  ·rw [if_pos h1] at h
   have e : i.toNat = j := Option.some.inj h
   exact ⟨by rw [seqIndex_of h0 h1, e], by omega, by omega, h1⟩
  ·rw [if_neg h1] at h; cases h
 ·rw [if_neg h0] at h
  by_cases h1 : -(n : Int) <= i
  ·rw [if_pos h1] at h
   have e : (i + n).toNat = j := Option.some.inj h
   exact ⟨by rw [seqIndex_neg (by omega) h1, e], by omega, h1, by omega⟩
  ·rw [if_neg h1] at h; cases h
theorem Qir {α : Type} {xs : List α} {i : Int} {v : α} (h : atI xs i = some v) : ∃ j, seqIndex? i xs.length = some j /\ xs[j]? = some v /\ j < xs.length /\ -(xs.length : Int) <= i /\ i < xs.length := by
 unfold atI at h
 cases e : ixN xs.length i with
 | none => rw [e] at h; cases h
 | some j =>
  rw [e] at h
  obtain ⟨h1, h2, h3, h4⟩ := Qgp e
  exact ⟨j, h1, h, h2, h3, h4⟩
def Qgn (b : Expr) : Prop := ∀ o i, subscripted b false o i = operate [o, i] (getItem o i)
def IxR (X : Cx) (r : R2) : Prop :=
 ∀ (value slice : Expr) (pins : List (Addr × Obj)) (s : Shared) (σ : St) (H : Hp) (x y : V) (v u : Value) (Q : VK), Inv X pins σ H s -> RelV x v -> RelV y u -> r x y H Q →
  subscripted slice false v u = operate [v, u] (getItem v u) -> wpAny (model X.prog X.w) X.A (subscriptTail value slice v u) (EP X pins σ Q) X.xe s
def MtR (X : Cx) (id : String) (r : V -> List V -> Hp -> VK -> Prop) : Prop :=
 ∀ (pins : List (Addr × Obj)) (s : Shared) (σ : St) (H : Hp) (x : V) (xs : List V) (v : Value) (us : List Value) (Q : VK), Inv X pins σ H s -> RelV x v -> Qq xs us -> r x xs H Q →
  wpAny (model X.prog X.w) X.A (call (.builtin id) (v :: us)) (EP X pins σ Q) X.xe s
section
variable {X : Cx} {a b : Expr} {ta tb : TE} {pos : Pos}
theorem IxR.or {r r' : R2} (h : IxR X r) (h' : IxR X r') : IxR X (λ x y H Q => r x y H Q ∨ r' x y H Q) := by
 intro value slice pins s σ H x y v u Q I rx ry q hs
 rcases q with q | q
 ·exact h value slice pins s σ H x y v u Q I rx ry q hs
 ·exact h' value slice pins s σ H x y v u Q I rx ry q hs
theorem MtR.or {id : String} {r r' : V -> List V -> Hp -> VK -> Prop} (h : MtR X id r) (h' : MtR X id r') : MtR X id (λ x xs H Q => r x xs H Q ∨ r' x xs H Q) := by
 intro pins s σ H x xs v us Q I rx rs q
 rcases q with q | q
 ·exact h pins s σ H x xs v us Q I rx rs q
 ·exact h' pins s σ H x xs v us Q I rx rs q
theorem QpL {r : R2} (hr : IxR X r) (ha : PE X a ta) (hb : PE X b tb) (hs : Qgn b) : PE X (.Subscript a b pos) (tOp r ta tb) := by
 intro pins s σ H Q I h
 exact Subscript_ (Qo3 ha hb I h λ v u s2 x y H2 I2 rx ry q => hr a b pins s2 σ H2 x y v u Q I2 rx ry q (hs _ _))
noncomputable def Qsd (K : PySem.W.Frag) : R2 := λ x y H Q => ∃ p xs i v, x = .ref p /\ y = .int i /\ SqL K H p xs /\ atI xs i = some v /\ Q v H
noncomputable def QuA (K : PySem.W.Frag) : R2 := λ x y H Q => ∃ p xs i v, x = .ref p /\ y = .int i /\ SqT K H p xs /\ atI xs i = some v /\ Q v H
theorem Qls : IxR X (Qsd X.K) := by
 intro value slice pins s σ H x y v u Q I rx ry h hs
 obtain ⟨p, xs, i, z, rfl, rfl, hq, he, q⟩ := h
 cases rx
 obtain ⟨t, rfl⟩ := ry
 obtain ⟨its, r, pl, hz⟩ := I.list hq
 obtain ⟨j, h1, h2, h3, h4, h5⟩ := Qir he
 obtain ⟨w, ew, rw'⟩ := r.get h2
 have hl := r.length
 have hn := Qe4
 have fin : EP X pins σ Q w s := ⟨z, H, I, rw', q⟩
 by_cases h0 : 0 <= i
 ·have hj : i.toNat = j := by
   rw [seqIndex_of h0 h5] at h1
   exact Option.some.inj h1
  exact item_listR pl.isList h0 (by omega) (by rw [hj]; simpa using ew) fin hs
 ·have hj : (i + (its.toArray.size : Int)).toNat = j := by
   rw [seqIndex_neg (by omega) h4] at h1
   rw [Zs, ← hl]
   exact Option.some.inj h1
  exact subscriptTail_builtinR (x := w) pl.isList.typeIs slot_list_getitem.lookup
   (wpAny_getItem_list_neg (Q := λ r s' => r = w /\ EP X pins σ Q r s') pl.isList (by omega) (by rw [Zs] <;> omega) (by omega) (by rw [hj]; simpa using ew) ⟨rfl, fin⟩) hs
theorem QnE : IxR X (QuA X.K) := by
 intro value slice pins s σ H x y v u Q I rx ry h hs
 obtain ⟨p, xs, i, z, rfl, rfl, hq, he, q⟩ := h
 cases rx
 obtain ⟨t, rfl⟩ := ry
 obtain ⟨its, r, pl, hz⟩ := I.tuple hq
 obtain ⟨j, h1, h2, h3, h4, h5⟩ := Qir he
 obtain ⟨w, ew, rw'⟩ := r.get h2
 have hl := r.length
 have hn := Qe4
 have fin : EP X pins σ Q w s := ⟨z, H, I, rw', q⟩
 exact subscriptTail_builtinR (x := w) pl.typeIs slot_tuple_getitem.lookup
  (getItem_tuple (j := j) (Q := λ r s' => r = w /\ EP X pins σ Q r s') pl (by omega) (by omega) (by rw [Zs, ← hl]; exact h1) (by simpa using ew) ⟨rfl, fin⟩) hs
theorem Qmi (its : List Value) (n j : Nat) (u : Value) : Obj.mapSeq (·.setIfInBounds j u) { cls := .type "list", data := .seq its.toArray n } = { cls := .type "list", data := .seq (its.set j u).toArray n } := by
 simp [Obj.mapSeq]
theorem Inv.lst {pins : List (Addr × Obj)} {σ : St} {H : Hp} {s : Shared} {p : Addr} {xs : List V} (I : Inv X pins σ H s) (h : H p = some (.lst xs)) :
  ∃ (its : List Value) (n : Nat), Qq xs its /\ s.heap.get? p = some { cls := .type "list", data := .seq its.toArray n } /\ xs.length <= sizeLine := by
 obtain ⟨z, its, n, r, e⟩ := I.hok p _ h
 exact ⟨its, n, r, e, z⟩
theorem Inv.Qs6 {pins : List (Addr × Obj)} {σ : St} {H : Hp} {s : Shared} {p : Addr} {xs ys : List V} {its its' : List Value} {n n' : Nat} {f : Obj -> Obj} (I : Inv X pins σ H s) (h : H p = some (.lst xs))
  (ho : s.heap.get? p = some { cls := .type "list", data := .seq its.toArray n }) (hf : f { cls := .type "list", data := .seq its.toArray n } = { cls := .type "list", data := .seq its'.toArray n' }) (r : Qq ys its') (hz : ys.length <= sizeLine) (t : Nat) :
  Inv X pins σ (upd H p (.lst ys)) { s with heap := s.heap.update p f, toks := t } := by
 have e : (s.heap.update p f).get? p = some { cls := .type "list", data := .seq its'.toArray n' } := by
  rw [Heap.get?_update_self f ho (by rw [hf] <;> rfl), hf]
 refine I.write (x := p) (e := p) (by rw [h]; trivial) (.inl rfl) (λ b u hb q => (Heap.get?_update_other _ _ (Ne.symm hb)).trans q) ⟨_, e⟩ ?_
 exact ⟨hz, its', n', r, e⟩
noncomputable def QpJ : V -> V -> V -> Hp -> (Hp -> Prop) -> Prop := λ o i v H Q => ∃ p xs k j, o = .ref p /\ i = .int k /\ H p = some (.lst xs) /\ ixN xs.length k = some j /\ Q (upd H p (.lst (xs.set j v)))
theorem set_list : Qpg X QpJ := by
 intro pins s σ H o i v ov iv u Q I ro ri rv h
 obtain ⟨p, xs, k, j, rfl, rfl, hp, hj, q⟩ := h
 cases ro
 obtain ⟨t, rfl⟩ := ri
 obtain ⟨its, n, r, ho, hz⟩ := I.lst hp
 obtain ⟨h1, h2, h3, h4⟩ := Qgp hj
 have hl := r.length
 have hn := Qe4
 have I' : Inv X pins σ (upd H p (.lst (xs.set j v))) { s with heap := s.heap.update p (Obj.mapSeq (·.setIfInBounds j u)) } :=
  I.Qs6 hp ho (Qmi its n j u) (r.set rv j) (by rw [ZaS]; exact hz) s.toks
 by_cases h0 : 0 <= k
 ·have hk : k.toNat = j := by
   rw [seqIndex_of h0 h4] at h1
   exact Option.some.inj h1
  exact PySem.W.ki_setAt ho h0 (by omega) (by rw [Zs, ← hl]; exact h4) (by rw [hk]; exact ⟨_, I', q⟩)
 ·have hk : (k + (its.toArray.size : Int)).toNat = j := by
   rw [seqIndex_neg (by omega) h3] at h1
   rw [Zs, ← hl]
   exact Option.some.inj h1
  exact PySem.W.ki_setBack ho (by omega) (by rw [Zs, ← hl]; exact h3) (by omega) (by rw [hk]; exact ⟨_, I', q⟩)
theorem QkI (lo hi : Option Int) (n : Nat) : (sliceBounds lo hi none n).1 = ((HT.sIx n 0 lo : Nat) : Int) /\ (sliceBounds lo hi none n).2.1 = ((HT.sIx n n hi : Nat) : Int) /\ (sliceBounds lo hi none n).2.2 = 1 := by
 refine ⟨?_, ?_, rfl⟩
 ·cases lo with
  | none => simp [sliceBounds, HT.sIx]
  | some i =>
   simp only [sliceBounds, HT.sIx, Option.getD_none, show (1 : Int) > 0 by decide, if_true]
   by_cases h : i < 0
   ·simp only [h, if_true] <;> omega
   ·simp only [h, if_false] <;> omega
 ·cases hi with
  | none => simp [sliceBounds, HT.sIx]
  | some i =>
   simp only [sliceBounds, HT.sIx, Option.getD_none, show (1 : Int) > 0 by decide, if_true]
   by_cases h : i < 0
   ·simp only [h, if_true] <;> omega
   ·simp only [h, if_false] <;> omega
theorem Qjn (its : List Value) (lo hi : Option Int) : slicePick its.toArray lo hi none = ((its.drop (HT.sIx its.length 0 lo)).take (HT.sIx its.length its.length hi - HT.sIx its.length 0 lo)).toArray := by
 obtain ⟨h1, h2, h3⟩ := QkI lo hi its.toArray.size
 unfold slicePick
 rw [h1, h2, h3]
 simp only [sliceRange_one, pick_run, Zs] <;> rfl
noncomputable def Qum (K : PySem.W.Frag) : V -> Option Int -> Option Int -> Hp -> VK -> Prop := λ x lo hi H Q => ∃ a xs, x = .ref a /\ SqL K H a xs /\ ∀ p, H p = none -> Q (.ref p) (upd H p (.lst (QiO xs lo hi)))
theorem QrI : SlR X (Qum X.K) := by
 intro pins s σ H x v vl vu lo hi sl Q I rx hs pl pu h
 obtain ⟨a, xs, rfl, hx, q⟩ := h
 cases rx
 obtain ⟨its, r, ht, hz⟩ := I.list hx
 have hlen := r.length
 refine ⟨"list", _, slot_list_getitem.lookup, ht.isList.typeIs, ?_⟩
 refine wpAny_getItem_list_slice ht.isList hs pl pu .none (by simp) ?_ (by rw [Zs] <;> omega)
 rw [Qjn, ← hlen]
 refine ⟨.ref s.heap.objs.size, _, I.laid (t' := s.toks) (o := .lst (QiO xs lo hi)) (λ b ob q => Zq _ q) (Zj _) ?_, rfl, q _ (I.hok.fresh (Zj _))⟩
 exact ⟨ZA (Qk4 xs lo hi) hz, _, 0, (r.drop (HT.sIx xs.length 0 lo)).take (HT.sIx xs.length xs.length hi - HT.sIx xs.length 0 lo), ZG _ rfl⟩
theorem QjF : QbD X (.builtin "len") (λ xs H Q => ∃ p ys, xs = [.ref p] /\ (SqL X.K H p ys ∨ SqT X.K H p ys) /\ Q (.int ys.length) H) := by
 intro pins s σ H xs us Q I r h
 obtain ⟨p, ys, rfl, hq, q⟩ := h
 obtain ⟨u, rfl, rx⟩ := vals1 r
 cases rx
 have hn := Qe4
 rcases hq with hq | hq
 ·obtain ⟨its, r', pl, hz⟩ := I.list hq
  have hlen := r'.length
  exact Calls.call_len_list pl.isList (by simp only [Zs] <;> omega) ⟨.int ys.length, H, I.tok _, ⟨s.toks + 1, by rw [Zs, hlen]⟩, q⟩
 ·obtain ⟨its, r', pl, hz⟩ := I.tuple hq
  have hlen := r'.length
  exact len_tuple pl (by simp only [Zs] <;> omega) ⟨.int ys.length, H, I.tok _, ⟨s.toks + 1, by rw [Zs, hlen]⟩, q⟩
theorem QbD.or {f : Value} {r r' : List V -> Hp -> VK -> Prop} (h : QbD X f r) (h' : QbD X f r') : QbD X f (λ xs H Q => r xs H Q ∨ r' xs H Q) := by
 intro pins s σ H xs us Q I rs q
 rcases q with q | q
 ·exact h pins s σ H xs us Q I rs q
 ·exact h' pins s σ H xs us Q I rs q
theorem QkH : QbD X (.type "list") (λ xs H Q => ∃ p ys, xs = [.ref p] /\ (SqL X.K H p ys ∨ SqT X.K H p ys) /\ ∀ l, H l = none -> Q (.ref l) (upd H l (.lst ys))) := by
 intro pins s σ H xs us Q I r h
 obtain ⟨p, ys, rfl, hq, q⟩ := h
 obtain ⟨u, rfl, rx⟩ := vals1 r
 cases rx
 have fin : ∀ (its : List Value), Qq ys its -> ys.length <= sizeLine -> ∀ (h' : Heap) (c' : Nat), (∀ b o', s.heap.get? b = some o' -> h'.get? b = some o') →
   h'.get? s.heap.objs.size = some { cls := .type "list", dict := none, data := .seq its.toArray c', slots := #[] } -> EP X pins σ Q (.ref s.heap.objs.size) { s with heap := h' } := λ its r' hz h' c' kp e =>
  ⟨.ref s.heap.objs.size, _, I.laid (t' := s.toks) kp (Zj _) (show Qbz X.prog X.w _ h' _ (.lst ys) from ⟨hz, its, c', r', e⟩), rfl, q _ (I.hok.fresh (Zj _))⟩
 rcases hq with hq | hq
 ·obtain ⟨its, r', pl, hz⟩ := I.list hq
  have hlen := r'.length
  obtain ⟨o, ho, hc, n, hd⟩ := pl.isList
  exact call_list_seq p (.inl rfl) ho hc hd (λ h' c' kp e => fin its r' hz h' c' kp e) (by simp only [Zs] <;> omega)
 ·obtain ⟨its, r', pl, hz⟩ := I.tuple hq
  have hlen := r'.length
  obtain ⟨o, ho, hc, n, hd⟩ := pl
  exact call_list_seq p (.inr rfl) ho hc hd (λ h' c' kp e => fin its r' hz h' c' kp e) (by simp only [Zs] <;> omega)
def tyV (K : PySem.W.Frag) (T : String) (x : V) (H : Hp) : Prop := match x with
 | .str _ => T = "str"
 | .int _ => T = "int"
 | .ref p => (T = "list" /\ ∃ xs, SqL K H p xs) ∨ (T = "tuple" /\ ∃ o, K.lookup p = some o /\ o.cls = .type "tuple" /\ o.dict = none) ∨
   (T = "dict" /\ ((∃ kvs, H p = some (.dK kvs)) ∨ ∃ kvs, H p = some (.dT kvs))) ∨ (T = "set" /\ ∃ S n, H p = some (.set S n))
 | _ => False
theorem QmV {pins : List (Addr × Obj)} {σ : St} {H : Hp} {s : Shared} {T : String} {x : V} {v : Value} (I : Inv X pins σ H s) (r : RelV x v) (ty : tyV X.K T x H) :
  s.TypeIs v T /\ ∀ a, v = .ref a -> ∃ ob, s.heap.get? a = some ob /\ ob.dict = none := by
 cases x with
 | str z =>
  obtain ⟨t, rfl⟩ := r
  cases (show T = "str" from ty)
  exact ⟨typeIs_str s z t, λ _ e => nomatch e⟩
 | int i =>
  obtain ⟨t, rfl⟩ := r
  cases (show T = "int" from ty)
  exact ⟨typeIs_int s i t, λ _ e => nomatch e⟩
 | ref p =>
  cases r
  rcases ty with ⟨rfl, xs, hq⟩ | ⟨rfl, o, hk, hc, hd⟩ | ⟨rfl, hk⟩ | ⟨rfl, S, n, hk⟩
  ·obtain ⟨its, _, pl, _⟩ := I.list hq
   refine ⟨pl.isList.typeIs, λ a e => ?_⟩
   cases e
   obtain ⟨o, n, e, c, hd, _⟩ := pl
   exact ⟨o, e, hd⟩
  ·refine ⟨⟨o, I.kIn p o hk, hc⟩, λ a e => ?_⟩
   cases e
   exact ⟨o, I.kIn _ o hk, hd⟩
  ·have z : ∃ o, s.heap.get? p = some o /\ o.ExactDict := by
    rcases hk with ⟨kvs, hk⟩ | ⟨kvs, hk⟩
    ·obtain ⟨_, _, _, _, o, _, _, e, ex, _⟩ := I.hok p _ hk
     exact ⟨o, e, ex⟩
    ·obtain ⟨_, _, _, _, o, _, _, e, ex, _⟩ := I.hok p _ hk
     exact ⟨o, e, ex⟩
   obtain ⟨o, e, ex⟩ := z
   refine ⟨⟨o, e, ex.1⟩, λ a e2 => ?_⟩
   cases e2
   exact ⟨o, e, ex.2.1⟩
  ·obtain ⟨o, _, _, _, e, ex, _⟩ := I.hok p _ hk
   refine ⟨⟨o, e, ex.1⟩, λ a e2 => ?_⟩
   cases e2
   exact ⟨o, e, ex.2.1⟩
 | _ => exact False.elim ty
noncomputable def Qsj (K : PySem.W.Frag) (T : String) (r : V -> List V -> Hp -> VK -> Prop) (to : TE) : TE := λ σ H Q => to σ H λ x H1 => tyV K T x H1 /\ r x [] H1 Q
noncomputable def tBM (K : PySem.W.Frag) (T : String) (r : V -> List V -> Hp -> VK -> Prop) (to : TE) (t : TA) : TE := λ σ H Q => to σ H λ x H1 => tyV K T x H1 /\ t σ H1 λ xs H2 => r x xs H2 Q
variable {o e : Expr} {es : List Expr} {to : TE} {t : TA} {name : Str} {apos cpos : Pos} {T id : String} {r : V -> List V -> Hp -> VK -> Prop}
theorem Qr0 (pa : PlainAttrs T) (slot : Slot T name id) (hty : typeOf (.builtin id) = pure (.type "method_descriptor")) (hm : MtR X id r) (ho : PE X o to)
  (hbase : attributeBase o name X.env (eval o X.env) = eval o X.env := by rfl) (hline : (apos.endLine == cpos.line) = true := by rfl) : PE X (.Call (.Attribute o name apos) [] [] cpos) (Qsj X.K T r to) := by
 intro pins s σ H Q I h
 refine wpAny_Call_method0_late hbase hline (thn (ho pins s σ H _ I h) λ v s1 ⟨x, H1, I1, r1, ty, q1⟩ => ?_)
 obtain ⟨h1, h2⟩ := QmV I1 r1 ty
 exact ⟨T, id, pa, slot, hty, h1, h2, Calls.callWith_builtin rfl (PySem.evalArgs_none (hm pins s1 σ H1 x [] v [] Q I1 r1 .nil q1))⟩
theorem Qt3 (pa : PlainAttrs T) (slot : Slot T name id) (hty : typeOf (.builtin id) = pure (.type "method_descriptor")) (hm : MtR X id r) (ho : PE X o to) (ha : PA X (e :: es) t)
  (hbase : attributeBase o name X.env (eval o X.env) = eval o X.env := by rfl)
  (hfew : ((backTo cpos (starEach (e :: es) X.env)).all (λ x => !x.1) && (backToKw cpos (keywordEach [] X.env)).all (λ x => x.1.isSome)
   && decide ((e :: es).length + ([] : List Keyword).length + (if ([] : List Keyword).isEmpty then 0 else 1) < 30)) = true := by rfl)
  (hline : (apos.endLine == cpos.line) = true := by rfl) (hs : starEach (e :: es) X.env = (false, eval e X.env) :: starEach es X.env := by rfl) (hplain : (backTo cpos (starEach es X.env)).any (·.1) = false := by rfl) :
  PE X (.Call (.Attribute o name apos) (e :: es) [] cpos) (tBM X.K T r to t) := by
 intro pins s σ H Q I h
 refine wpAny_Call_method_late hbase hfew hline rfl (thn (ho pins s σ H _ I h) λ v s1 ⟨x, H1, I1, r1, ty, q1⟩ => ?_)
 obtain ⟨h1, h2⟩ := QmV I1 r1 ty
 refine ⟨T, id, pa, slot, hty, h1, h2, ?_⟩
 have hA := ha cpos pins s1 σ H1 _ I1 q1
 rw [hs] at hA ⊢
 refine Calls.callWith_builtin (by show (false || (backTo cpos (starEach es X.env)).any (·.1)) = false; rw [hplain] <;> rfl) (Calls.evalArgs_plain ?_)
 exact thn hA λ us s2 ⟨vs, H2, I2, r2, q2⟩ => hm pins s2 σ H2 x vs v us Q I2 r1 r2 q2
end
end L2
namespace L2
open PySem PySem.Spec PyProof.Rows
def MtM (X : Cx) (id : String) (r : V -> List V -> Hp -> VK -> Prop) : Prop :=
 ∀ (pins : List (Addr × Obj)) (s : Shared) (σ : St) (H : Hp) (x : V) (xs : List V) (v : Value) (us : List Value) (Q : VK), Inv X pins σ H s -> RelV x v -> Qq xs us -> r x xs H Q →
  wpAny (model X.prog X.w) X.A (call (.builtin id) (v :: us)) (EP X pins σ Q) X.xe s
theorem Qq.one : ∀ {x : V} {us : List Value}, Qq [x] us -> ∃ u, us = [u] /\ RelV x u
 | _, _, .cons r .nil => ⟨_, rfl, r⟩
theorem Qq.two : ∀ {x y : V} {us : List Value}, Qq [x, y] us -> ∃ u v, us = [u, v] /\ RelV x u /\ RelV y v
 | _, _, _, .cons r (.cons q .nil) => ⟨_, _, rfl, r, q⟩
theorem Qq.zero : ∀ {us : List Value}, Qq [] us -> us = []
 | _, .nil => rfl
theorem Qq.eraseIdx : ∀ {xs : List V} {us : List Value} (i : Nat), Qq xs us -> Qq (xs.eraseIdx i) (us.eraseIdx i)
 | _, _, _, .nil => .nil
 | _, _, 0, .cons _ t => t
 | _, _, i + 1, .cons r t => .cons r (Qq.eraseIdx i t)
theorem Qq.reverse {xs : List V} {us : List Value} (h : Qq xs us) : Qq xs.reverse us.reverse := by
 induction h with
 | nil => exact .nil
 | cons r t ih => rw [Zay, Zay]; exact Qq.append ih (.cons r .nil)
theorem Qq.rep {xs : List V} {us : List Value} (h : Qq xs us) : ∀ k : Nat, Qq (List.replicate k xs).flatten (List.replicate k us).flatten
 | 0 => .nil
 | k + 1 => by
  rw [ZP, ZP, ZZ, ZZ]
  exact Qq.append h (Qq.rep h k)
theorem foldl_rep (its : List Value) : ∀ (k : Nat) (acc : List Value),
  List.foldl (λ x1 x2 => x1 ++ x2) acc.toArray (List.replicate k its.toArray) = (acc ++ (List.replicate k its).flatten).toArray
 | 0, acc => by simp
 | k + 1, acc => by
  have e : acc.toArray ++ its.toArray = (acc ++ its).toArray := by simp
  have e2 : (acc ++ its) ++ (List.replicate k its).flatten = acc ++ (List.replicate (k + 1) its).flatten := by
   rw [ZP, ZZ, Zaq]
  rw [← e2, ← foldl_rep its k (acc ++ its), ← e, ZP, Zbx]
section
variable {X : Cx} {pins : List (Addr × Obj)} {σ : St} {H : Hp} {s : Shared} {l b : Addr} {xs ys zs : List V}
theorem Inv.Qtj {its its' : List Value} {n : Nat} {f : Array Value -> Array Value} {t' : Nat} (I : Inv X pins σ H s) (hH : H l = some (.lst xs))
  (e : s.heap.get? l = some { cls := .type "list", data := .seq its.toArray n }) (hf : f its.toArray = its'.toArray) (hv : Qq ys its') (hz : ys.length <= sizeLine) :
  Inv X pins σ (upd H l (.lst ys)) { s with heap := s.heap.update l (Obj.mapSeq f), toks := t' } := by
 have q := PySem.IsL.update e f
 rw [hf] at q
 refine I.write (x := l) (e := l) (by rw [hH]; exact trivial) (.inl rfl) (λ b' u hb hu => (Heap.get?_update_other s.heap (Obj.mapSeq f) (Ne.symm hb)).trans hu) ⟨_, q⟩ ?_
 exact ⟨hz, its', _, hv, q⟩
theorem Inv.QsQ {its : List Value} {t' : Nat} (I : Inv X pins σ H s) (hv : Qq ys its) (hz : ys.length <= sizeLine) :
  Inv X pins σ (upd H s.heap.objs.size (.lst ys)) { s with heap := s.heap.push { cls := .type "list", data := .seq its.toArray }, toks := t' } :=
 I.laid (λ _ _ q => Zq _ q) (Zj _) ⟨hz, its, 0, hv, ZG _ rfl⟩
theorem Inv.fresh (I : Inv X pins σ H s) : H s.heap.objs.size = none := I.hok.fresh (Zj _)
theorem Inv.Qo7 (I : Inv X pins σ H s) (hH : H l = some (.lst xs)) : xs.length <= sizeLine /\ ∃ (its : List Value) (n : Nat), Qq xs its /\ xs.length = its.length /\ s.heap.get? l = some { cls := .type "list", data := .seq its.toArray n } := by
 obtain ⟨z, its, n, r, e⟩ := I.hok l _ hH
 exact ⟨z, its, n, r, r.length, e⟩
theorem QoG {n : Nat} (h : n <= sizeLine) : Builtin.List.listTooLong n = false := by
 unfold Builtin.List.listTooLong
 exact decide_eq_false (by omega)
end
section
variable {X : Cx}
noncomputable def Qll : V -> List V -> Hp -> VK -> Prop := λ x vs H Q => ∃ l xs y, x = .ref l /\ vs = [y] /\ H l = some (.lst xs) /\ xs.length < sizeLine /\ Q .non (upd H l (.lst (xs ++ [y])))
theorem Qi5 : MtM X "list.append" Qll := by
 intro pins s σ H x vs v us Q I rx rv h
 obtain ⟨l, xs, y, rfl, rfl, hH, hz, q⟩ := h
 cases rx
 obtain ⟨u, rfl, ru⟩ := rv.one
 obtain ⟨z, its, n, r, hl, e⟩ := I.Qo7 hH
 refine call_meets F.slot_list_append ⟨_, e, rfl⟩ F.entry_list_append (F.args_list_append_2 _ _) (PySem.list_append l its.toArray n u (by rw [Zs]; omega)) ⟨e, ?_⟩
 refine ⟨.non, _, I.Qtj (its' := its ++ [u]) hH e (by simp) (r.append (.cons ru .nil)) ?_, rfl, q⟩
 rw [Zl, Zaw]
 omega
noncomputable def QnH : V -> List V -> Hp -> VK -> Prop := λ x vs H Q => ∃ l xs, x = .ref l /\ vs = [] /\ H l = some (.lst xs) /\ Q .non (upd H l (.lst []))
theorem QoH : MtM X "list.clear" QnH := by
 intro pins s σ H x vs v us Q I rx rv h
 obtain ⟨l, xs, rfl, rfl, hH, q⟩ := h
 cases rx
 have hus := rv.zero
 subst hus
 obtain ⟨z, its, n, r, hl, e⟩ := I.Qo7 hH
 refine call_meets F.slot_list_clear ⟨_, e, rfl⟩ F.entry_list_clear (F.args_list_clear_1 _) (AutoSeq1.list_clear_list_0 l its.toArray n (by rw [Zs]; omega)) ⟨e, ?_⟩
 exact ⟨.non, _, I.Qtj (its' := []) (ys := []) hH e rfl .nil (ZO _), rfl, q⟩
theorem len_rep {α : Type} (xs : List α) (k : Nat) : (List.replicate k xs).flatten.length = k * xs.length := by
 induction k with
 | zero => simp
 | succ k ih => rw [ZP, ZZ, Zl, ih, Nat.succ_mul, Nat.add_comm]
end
section
variable {prog : Program} {w : World} {A : Around} {E : Value -> Shared -> Prop} {s : Shared}
end
section
variable {X : Cx}
end
end L2
namespace Att
open PySem PySem.W PySem.Calls PyProof.Rows
theorem QhN {P : Params} {h : Heap} : ∀ (ns : List Int) (vs : List Value), WellAll P h vs (ns.map WData.int) -> IntsAre vs ns := by
 intro ns
 induction ns with
 | nil =>
  intro vs w
  rw [List.map_nil] at w
  cases w
  exact .nil
 | cons n ns ih =>
  intro vs w
  rw [Zu] at w
  cases w with
  | cons a b =>
   cases a
   exact .cons _ _ (ih _ b)
theorem Qm8 {l : OpenLaw} {n : Nat} (hn : l.most = some n) {P : Params} {h : Heap} {args : List WData} {vals : List Value}
  (hpre : l.row.toRowW.claim.pre args = true) (hwl : WellAll P h vals args) :
  ∃ a vs ns, vals = [Value.ref a] /\ args = [WData.list (ns.map WData.int)] /\ h.get? a = some { cls := .type "list", data := .seq vs.toArray } /\ IntsAre vs ns /\ ns.length <= n := by
 have hsh : WShape.hasAll [] args [.list .int] = true := (pre_splitW hpre).1
 have hc : l.pre.holds [] { args := args } = true := (pre_splitW hpre).2
 obtain ⟨d, r, rfl, h1, h2⟩ := hasAllW_cons hsh
 obtain rfl := hasAllW_nil h2
 obtain ⟨xs, rfl, h3⟩ := hasW_list h1
 obtain ⟨ns, rfl⟩ := items_int h3
 have hlen : ns.length <= n := by
  unfold OpenLaw.pre at hc
  have h4 : (WTm.not (.lt (.lit (.int (n : Int))) (.len (.arg 0)))).holds [] { args := [.list (ns.map .int)] } = true := by
   have h4 := (holds_andW hc).1
   rw [hn] at h4
   exact h4
  have h5 := condW_of h4 (w_not (w_lt w_lit (w_len_list (w_arg rfl))))
  rw [Zh] at h5
  refine Nat.le_of_not_lt λ q => ?_
  have q' : (n : Int) < ((ns.length : Nat) : Int) := by omega
  first
   | (rw [decide_eq_true q'] at h5; exact absurd h5 (by decide))
   | (simp at h5; omega)
 cases hwl with
 | cons w1 w2 =>
  cases w2
  cases w1 with
  | list ho hall => exact ⟨_, _, ns, rfl, rfl, ho, QhN ns _ hall, hlen⟩
theorem QmG (l : OpenLaw) (args : List WData) : l.row.toRowW.claim.post args (.bool true) args = true :=
 postW_of (r := l.row.toRowW) (X := (true == true))
  (show WShape.has [] (.bool true) .bool = true by first | rfl | decide | simp [WShape.has, WShape.arms, WShape.armsAll])
  (show (WTm.eq .res (.lit (.bool true))).value [] { args := args, res := some (.bool true), after := args } = some (.bool (true == true)) from w_eq_bool (w_res rfl) w_lit) rfl
theorem QgO {l : OpenLaw} {n : Nat} {q : Program} {loose : List Str} {XP : (Str -> Option Value) -> Heap -> Prop} {YP : World -> Heap -> Prop} {d : DefRec}
  (hn : l.most = some n) (hdf : d.params.defaults = [])
  (call : ∀ (w : World) (s₀ s₁ : Shared) (mg mb : Str -> Option Value) (fa : Addr) (o : Obj) (pm cd doc : Value) (a : Addr) (vs : List Value) (ns : List Int),
   Ground q loose [] XP w s₀ mg mb s₁.heap -> YP w s₁.heap →
   s₁.heap.get? fa = some o -> o.data = .func (docDef d.name d.params d.body d.scope pm cd doc) -> s₁.heap.CodeRec cd d.name -> mg d.name = some (.ref fa) →
   s₁.heap.get? a = some { cls := .type "list", data := .seq vs.toArray } -> IntsAre vs ns -> ns.length <= n -> s₁.gens = #[] →
   codeAny (model l.prog w) callerA (.call (.ref fa) ⟨[.ref a], []⟩) (λ r s' => r = .ok (.ret (.bool true)) /\ OldK s₁.heap s'.heap /\ s'.os = s₁.os /\ AllBare s'.gens) s₁) :
  WalkO q loose XP YP l.row.toRowW d [] (λ f vs => PySem.call f vs) := by
 intro w s₀ s₁ mg mb G Y fa o pm cd doc dV kV ho hd hcd hD hmg hg args vals as hpre hlay hrd hwl hlo
 obtain rfl : dV = .none := Dflts.none hD hdf
 obtain rfl : kV = .none := Dflts.noKw hD
 obtain ⟨a, vs, ns, rfl, rfl, hobj, hints, hlen⟩ := Qm8 hn hpre hwl
 refine enter_call (codeAny_mono (call w s₀ s₁ mg mb fa o pm cd doc a vs ns G Y ho (fd_plain hd) hcd hmg hobj hints hlen hg) λ r s' hq => ?_)
 obtain ⟨rfl, h2, h3, h4⟩ := hq
 exact ⟨.inl ⟨.bool true, .bool true, [], rfl, λ _ => rfl, .bool true, QmG l _, λ _ => ⟨List.Pairwise.nil, λ _ hm => (nomatch hm)⟩⟩, h2, h3, h4⟩
section
variable {prog : Program} {w : World} {A : Around} {E : Value -> Shared -> Prop} {s : Shared} {K : Frag}
noncomputable def ledger (h : Heap) (L d : Addr) : List (Addr × Obj) := (List.range h.objs.size).filterMap λ a => if a = L ∨ a = d then none else (h.get? a).map λ o => (a, o)
end
end Att
namespace L2
open PySem PySem.Spec PyProof.Rows
theorem QdL : ∀ {vs : List Value} {ns : List Int}, IntsAre vs ns -> Qq (ns.map V.int) vs
 | _, _, .nil => .nil
 | _, _, .cons n t h => .cons ⟨t, rfl⟩ (QdL h)
def Qpn (H : Hp) : Prop := ∀ b, H b = none ∨ ∃ o xs, H b = some (.frz o (.lst xs))
theorem Qkg {P : Program} {w : World} {K : PySem.W.Frag} {mg mb : Str -> Option Value} {CX : CXT} {k : Nat} {fa a : Addr} {fd : FuncData} {x : Str} {sp : Sp} {s₁ : Shared} {vs : List Value} {ns : List Int}
  (KX : K.In s₁.heap) (hns : s₁.heap.Ns mainGlobals mg) (hb : s₁.heap.Ns builtinsNs mb) (hbb : ∀ x : Str, x ≠ "__name__" -> mb x = bootBuiltins x) (hlim : s₁.heap.NoLimit) (hg : s₁.gens = #[])
  (ha : s₁.heap.get? a = some { cls := .type "list", data := .seq vs.toArray }) (hi : IntsAre vs ns) (hl : ns.length <= sizeLine) (hr : Qaj k callerA)
  (F : ∀ base : Heap, K.In base -> base.Ns mainGlobals mg -> Qbe P w K mg base CX k fa fd [x] sp) (hbind : ∀ (s : Shared) (u : Value), BindsTo s fd ⟨[u], []⟩ [(x, u)])
  (hsp : ∀ H : Hp, Qpn H -> SqL K H a (ns.map V.int) -> sp [.ref a] H (λ v _ => v = .bl true) λ _ _ _ => False)
  (hCX : ∀ H e s', CX [] H s₁ (λ _ _ _ => False) e s' -> False) :
  codeAny (model P w) callerA (.call (.ref fa) ⟨[.ref a], []⟩) (λ r s' => r = .ok (.ret (.bool true)) /\ OldK s₁.heap s'.heap /\ s'.os = s₁.os /\ AllBare s'.gens) s₁ := by
 have rv := QdL hi
 have lenV := hi.length
 have core : ∀ H : Hp, Qpn H -> SqL K H a (ns.map V.int) -> HOk P w H s₁.heap -> (∀ b, H b ≠ none -> b = a) -> (H a ≠ none -> K.lookup a = none) →
   codeAny (model P w) callerA (.call (.ref fa) ⟨[.ref a], []⟩) (λ r s' => r = .ok (.ret (.bool true)) /\ OldK s₁.heap s'.heap /\ s'.os = s₁.os /\ AllBare s'.gens) s₁ := by
  intro H hO hS hok hA hK
  have base_of : ∀ {b : Addr} {o : Obj}, s₁.heap.get? b = some o -> H b = none -> (Qfn s₁.heap H).get? b = some o := λ e n => QoN e n
  have noA : ∀ {b : Addr} {o : Obj} {es : Array DictEntry} {ep : Nat}, s₁.heap.get? b = some o -> o.data = .dict es ep -> H b = none := λ {b o es ep} e d => by
   cases q : H b with
   | none => rfl
   | some u =>
    have e' : b = a := hA b (by rw [q]; simp)
    subst e'
    rw [ha] at e; cases e
    have d' : Data.seq vs.toArray _ = Data.dict es ep := d
    cases d'
  have nsK : ∀ {b : Addr} {m : Str -> Option Value}, s₁.heap.Ns b m -> (Qfn s₁.heap H).Ns b m := λ {b m} ⟨o, es, ep, e, d, r⟩ => ⟨o, es, ep, base_of e (noA e d), d, r⟩
  have hKb : K.In (Qfn s₁.heap H) := λ b o e => base_of (KX b o e) (by
   cases q : H b with
   | none => rfl
   | some u =>
    have e' : b = a := hA b (by rw [q]; simp)
    subst e'
    rw [hK (by rw [q]; simp)] at e; cases e)
  have hM : Mod K mg (Qfn s₁.heap H) := ⟨hKb, nsK hns, ⟨mb, nsK hb, hbb⟩, let ⟨mc, h1, h2⟩ := hlim; ⟨mc, nsK h1, h2⟩⟩
  have e0 : Qeu P w K mg (Qfn s₁.heap H) callerA [] s₁ H := ⟨rfl, hM, λ b o e => Qrp e, Nat.le_of_eq (QnT _ _), trivial, λ b hb => absurd (show b ∈ ([] : List Addr) from hb) (by simp), hok, .of_eq hg⟩
  refine codeAny_mono ((F _ hKb (nsK hns)).run callerA [] s₁ H ⟨[.ref a], []⟩ [.ref a] [.ref a] _ _ hr e0 (hbind s₁ (.ref a)) (.cons rfl .nil) (hsp H hO hS)) λ r s' h => ?_
  cases r with
  | error e => exact (hCX H e s' h).elim
  | ok fl =>
   cases fl with
   | next => exact False.elim h
   | brk => exact False.elim h
   | cont => exact False.elim h
   | ret u =>
    obtain ⟨v, H', os, bare, un, hok', r', q⟩ := h
    have q' : v = .bl true := q
    subst q'
    obtain rfl : u = Value.bool true := r'
    refine ⟨rfl, OldK.of_keep λ b o e => ?_, os, bare⟩
    cases q : H b with
    | none => exact un.keep b o e q (by intro z; exact absurd (show b ∈ ([] : List Addr) from z) (by simp)) (by simp)
    | some u =>
     rcases hO b with z | ⟨ob, xs, z⟩
     ·rw [q] at z; cases z
     ·have z2 := un.frzs b ob _ z
      obtain ⟨e1, _⟩ := hok b _ z
      obtain ⟨e2, _⟩ := hok' b _ z2
      rw [e] at e1; cases e1
      exact e2
 cases hk : K.lookup a with
 | some o =>
  have e := KX a o hk
  rw [ha] at e
  cases e
  refine core (λ _ => none) (λ _ => .inl rfl) (.inr ⟨_, vs.toArray, _, hk, rfl, rfl, rfl, by rw [Zs, lenV]; exact hl, by simpa using rv⟩) (λ b u z => by have z' : (none : Option HO) = some u := z; cases z') (λ b z => absurd rfl z) λ z => absurd rfl z
 | none =>
  refine core (λ b => if b = a then some (.frz { cls := .type "list", data := .seq vs.toArray } (.lst (ns.map V.int))) else none) (λ b => ?_) (.inl (.inr ⟨{ cls := .type "list", data := .seq vs.toArray }, if_pos rfl⟩)) (λ b u z => ?_) (λ b z => ?_) λ _ => hk
  ·by_cases hb : b = a
   ·exact .inr ⟨_, _, if_pos hb⟩
   ·exact .inl (if_neg hb)
  ·by_cases hb : b = a
   ·have z' := (if_pos hb).symm.trans z
    cases z'
    subst hb
    exact ⟨ha, by rw [Zh]; exact hl, vs, _, rv, ha⟩
   ·have z' := (if_neg hb).symm.trans z
    cases z'
  ·by_cases hb : b = a
   ·exact hb
   ·exact absurd (if_neg hb) z
end L2
namespace L2
open PySem PySem.Spec PyProof.Rows
noncomputable abbrev KOf {K : PySem.W.Frag} {h : Heap} (_ : K.In h) : PySem.W.Frag := K
theorem QuW {l : PySem.W.OpenLaw} {n k : Nat} {q : Program} {loose : List Str} {XP : (Str -> Option Value) -> Heap -> Prop} {YP : World -> Heap -> Prop} {d : DefRec} {K : Params -> PySem.W.Frag} {CX : World -> CXT} {sp : World -> Sp} {x : Str}
  (hn : l.most = some n) (hn2 : n <= sizeLine) (hdf : d.params.defaults = []) (hr : Qaj k callerA)
  (hY : ∀ (w : World) (h : Heap), YP w h -> (K w.params).In h)
  (F : ∀ (w : World) (mg : Str -> Option Value) (fa : Addr) (h : Heap), (K w.params).In h -> h.Ns mainGlobals mg -> mg d.name = some (.ref fa) →
   ∃ fd : FuncData, (∀ (s : Shared) (u : Value), BindsTo s fd ⟨[u], []⟩ [(x, u)]) ∧
    ∀ base : Heap, (K w.params).In base -> base.Ns mainGlobals mg -> Qbe l.prog w (K w.params) mg base (CX w) k fa fd [x] (sp w))
  (hsp : ∀ (w : World) (H : Hp) (a : Addr) (ns : List Int), ns.length <= n -> Qpn H -> SqL (K w.params) H a (ns.map V.int) -> sp w [.ref a] H (λ v _ => v = .bl true) λ _ _ _ => False)
  (hCX : ∀ (w : World) (H : Hp) (s : Shared) (e : Value) (s' : Shared), CX w [] H s (λ _ _ _ => False) e s' -> False) :
  PySem.W.WalkO q loose XP YP l.row.toRowW d [] (λ f vs => PySem.call f vs) := by
 refine Att.QgO hn hdf λ w s₀ s₁ mg mb fa o pm cd doc a vs ns G Y ho hd hcd hmg hobj hints hlen hg => ?_
 have KX := hY w _ Y
 obtain ⟨fd, hb, hF⟩ := F w mg fa _ KX G.T.g hmg
 exact Qkg KX G.T.g G.T.b G.T.builtins G.T.nolimit hg hobj hints (ZA hlen hn2) hr hF hb (λ H hO hS => hsp w H a ns hlen hO hS) λ H e s' => hCX w H s₁ e s'
end L2
namespace L2
open PySem PySem.Spec PyProof.Rows
noncomputable def Qbq (s : Stmt) : Arguments := match s with
 | .FunctionDef _ a _ _ _ _ _ _ _ _ => a
 | _ => { posonlyargs := [], args := [], vararg := none, kwonlyargs := [], kw_defaults := [], kwarg := none, defaults := [] }
noncomputable def QZ (s : Stmt) : List Stmt := match s with
 | .FunctionDef _ _ b _ _ _ _ _ _ _ => b
 | _ => []
noncomputable def Qh (s : Stmt) : Scope := match s with
 | .FunctionDef _ _ _ _ _ _ sc _ _ _ => sc
 | _ => { kind := .function, names := [], isGenerator := false, isCoroutine := false }
noncomputable abbrev CX0 : CXT := λ _ _ _ _ _ _ => False
noncomputable abbrev E0 : XK := λ _ _ _ => False
theorem Qms {X : Cx} : QhQ CX0 X E0 := λ _ _ _ _ _ _ _ h => h.elim
structure Fun (K : PySem.W.Frag) (x qual : Str) (st : Stmt) (f : Addr) (fd : FuncData) : Prop where
 ex : ∃ (oc : Value) (od : Option Addr) (kV doc pm : Value) (an : Option Addr) (cdv ct : Value) (osl : Array (Option Value)),
  fd = PySem.W.fnOf x qual (Qbq st) (QZ st) (Qh st) .none kV doc pm an cdv ct /\ K.lookup f = some ⟨oc, od, .func fd, osl⟩ /\ PySem.W.codeIn K cdv qual = true
 kp : PySem.W.keepIn K (.ref f) = true
section
variable {P : Program} {w : World} {K : PySem.W.Frag} {mg : Str -> Option Value} {base : Heap}
theorem Fun.ok {x qual : Str} {st : Stmt} {f : Addr} {fd : FuncData} {N ps : List Str} {k : Nat} {sp : Sp} (F : Fun K x qual st f fd) (S : Qa6 N ps (Qh st)) (len : ∀ vs H Q E, sp vs H Q E -> vs.length = ps.length)
  (hbody : ∀ (cdv : Value) (A : Around) (outer : List Env) (s : Shared) (H : Hp) (vs : List V) (Q : VK) (E : XK), Qaj k (A.deeper (envOfC qual (Qh st) s.heap.objs.size f cdv)) -> sp vs H Q E →
   ∃ t, PSs (Qc5 CX0 P w K mg base N qual (Qh st) f cdv A outer s H E).nox (QZ st) t /\ t { nx := λ _ H' => Q .non H', rt := Q } (start N vs) H) : Qbe P w K mg base CX0 (k + 1) f fd ps sp := by
 obtain ⟨oc, od, kV, doc, pm, an, cdv, ct, osl, rfl, lk, hcd⟩ := F.ex
 refine Qjv lk hcd S len λ A outer s H vs Q E hr hsp => ?_
 obtain ⟨t, h, q⟩ := hbody cdv A outer s H vs Q E hr hsp
 exact ⟨t, h.nox, q⟩
theorem Fun.binds {x qual : Str} {st : Stmt} {f : Addr} {fd : FuncData} {ps : List Str} (F : Fun K x qual st f fd)
  (h : ∀ (kV doc pm : Value) (an : Option Addr) (cdv ct : Value) (us : List Value), us.length = ps.length -> bindArgs (PySem.W.fnOf x qual (Qbq st) (QZ st) (Qh st) .none kV doc pm an cdv ct) ⟨us, []⟩ = pure (ps.zip us)) : Binds K fd ps [] := by
 obtain ⟨oc, od, kV, doc, pm, an, cdv, ct, osl, rfl, lk, hcd⟩ := F.ex
 exact .all (h kV doc pm an cdv ct)
theorem Qsh {x qual : Str} {st : Stmt} {f : Addr} {oc : Value} {od an : Option Addr} {osl : Array (Option Value)} {kV doc pm cdv ct : Value} (l : K.lookup f = some ⟨oc, od, .func (PySem.W.fnOf x qual (Qbq st) (QZ st) (Qh st) .none kV doc pm an cdv ct), osl⟩)
  (c : PySem.W.codeIn K cdv qual = true) (k : PySem.W.keepIn K (.ref f) = true) : Fun K x qual st f (PySem.W.fnOf x qual (Qbq st) (QZ st) (Qh st) .none kV doc pm an cdv ct) := ⟨⟨oc, od, kV, doc, pm, an, cdv, ct, osl, rfl, l, c⟩, k⟩
end
section
variable {X : Cx}
end
theorem QoA {A B : Prop} (h : B) : if false = true then A else B := by
 rw [if_neg ZK]
 exact h
theorem Qob {A B : Prop} (h : A) : if true = true then A else B := by
 rw [if_pos rfl]
 exact h
def QD (H H' : Hp) : Prop := ∀ b o, H b = some o -> H' b = some o
theorem QD.refl (H : Hp) : QD H H := λ _ _ h => h
theorem QD.trans {H H1 H2 : Hp} (a : QD H H1) (b : QD H1 H2) : QD H H2 := λ c o h => b c o (a c o h)
theorem QD.free {H H' : Hp} (e : QD H H') {l : Addr} (h : H' l = Option.none) : H l = Option.none := by
 cases q : H l with
 | none => rfl
 | some o =>
  rw [e l o q] at h
  cases h
theorem QD.seq {K : PySem.W.Frag} {H H' : Hp} {a : Addr} {xs : List V} (e : QD H H') (h : SqL K H a xs) : SqL K H' a xs := by
 rcases h with (h | ⟨o, h⟩) | h
 ·exact .inl (.inl (e _ _ h))
 ·exact .inl (.inr ⟨o, e _ _ h⟩)
 ·exact .inr h
end L2
namespace L2
open PySem PySem.Spec PyProof.Rows
theorem QiS (env : Env) (body : Str × NameKind -> List (Str × Addr) -> Sem (ForInStep (List (Str × Addr))))
  (hb : ∀ n k cs, body (n, k) cs = if (k == NameKind.free) = true then (do let c ← cellOf env n; pure (ForInStep.yield ((n, c) :: cs))) else pure (ForInStep.yield cs)) :
  ∀ (names : List (Str × NameKind)) (acc : List (Str × Addr)), (∀ y ∈ names, y.2 = .free -> ∃ c, env.cells.lookup y.1 = some c) -> (∀ x c, acc.lookup x = some c -> env.cells.lookup x = some c) →
   ∃ cl, forIn names acc body = (pure cl : Sem _) /\ (∀ x c, cl.lookup x = some c -> env.cells.lookup x = some c) /\ (∀ x, acc.lookup x ≠ none -> cl.lookup x ≠ none) /\ ∀ y ∈ names, y.2 = .free -> cl.lookup y.1 ≠ none
 | [], acc, _, ha => ⟨acc, rfl, ha, λ _ h => h, λ y hy => by simp at hy⟩
 | (n, k) :: r, acc, hn, ha => by
  rw [List.forIn_cons, hb]
  have hr : ∀ y ∈ r, y.2 = .free -> ∃ c, env.cells.lookup y.1 = some c := λ y hy => hn y (Zd _ hy)
  by_cases hk : k = .free
  ·subst hk
   obtain ⟨c, hc⟩ := hn (n, .free) Zi rfl
   have hce : cellOf env n = pure c := by unfold cellOf; rw [show env.cells.lookup n = some c from hc]
   rw [if_pos (by rfl), hce]
   obtain ⟨cl, e, h1, h2, h3⟩ := QiS env body hb r ((n, c) :: acc) hr (λ x c' e => by
    rw [Zr] at e
    cases q : x == n with
    | true => rw [q] at e; cases e; rw [beq_iff_eq] at q; rw [q]; exact hc
    | false => rw [q] at e; exact ha x c' e)
   have hcons : ∀ x, ((n, c) :: acc).lookup x ≠ none -> cl.lookup x ≠ none := h2
   refine ⟨cl, by simpa using e, h1, λ x hx => hcons x ?_, λ y hy hf => ?_⟩
   ·rw [Zr]; cases x == n with
    | true => simp
    | false => exact hx
   ·rcases Zm.mp hy with rfl | hy
    ·exact hcons _ (by simp [Zr])
    ·exact h3 y hy hf
  ·rw [if_neg (by simpa using hk)]
   obtain ⟨cl, e, h1, h2, h3⟩ := QiS env body hb r acc hr ha
   refine ⟨cl, by simpa using e, h1, h2, λ y hy hf => ?_⟩
   rcases Zm.mp hy with rfl | hy
   ·exact absurd hf hk
   ·exact h3 y hy hf
theorem QqR {scope : Scope} {env : Env} (h : ∀ y ∈ scope.names, y.2 = .free -> ∃ c, env.cells.lookup y.1 = some c) :
  ∃ cl, closureFor scope env = pure cl /\ (∀ x c, cl.lookup x = some c -> env.cells.lookup x = some c) /\ ∀ y ∈ scope.names, y.2 = .free -> ∃ c, cl.lookup y.1 = some c := by
 unfold closureFor
 obtain ⟨cl, e, h1, _, h3⟩ := QiS env (λ x cs => match x with | (name, kind) => if (kind == NameKind.free) = true then (do let c ← cellOf env name; pure (ForInStep.yield ((name, c) :: cs))) else pure (ForInStep.yield cs)) (λ _ _ _ => rfl) scope.names [] h (λ x c e => by simp at e)
 refine ⟨cl, ?_, h1, λ y hy hf => Option.ne_none_iff_exists'.mp (h3 y hy hf)⟩
 show (forIn scope.names [] _ >>= λ r => pure r) = _
 rw [e]; rfl
noncomputable def cxc (X : Cx) (N' : List Str) (scope : Scope) (cl : List (Str × Addr)) (C : Addr) (fp : List Addr) (s3 : Shared) (H3 : Hp) : Cx :=
 { X with N := N', s₀ := s3, H₀ := H3, env := compEnvC scope cl C X.env, outer := X.stack, ex := fp, fn := λ x => decide (scope.names.lookup x = some .cell), pn := [], xe := λ _ _ => False }
def PTs (X : Cx) (ifs : List Expr) (t : TT) : Prop :=
 ∀ (pins : List (Addr × Obj)) (s : Shared) (σ : St) (H : Hp) (Q : Bool -> Hp -> Prop), Inv X pins σ H s -> t σ H Q →
  wpAny (model X.prog X.w) X.A (forIn ifs true λ c r => if r = true then do let ok ← isTrue c X.env (eval c X.env); pure (ForInStep.yield ok) else pure (ForInStep.yield r)) (TP X pins σ Q) X.xe s
noncomputable def QuS : TT := λ _ H Q => Q true H
theorem QqF {X : Cx} : PTs X [] QuS := λ _ _ _ H _ I h => wpAny_tests_nil ⟨H, I, h⟩
theorem Qqy {X : Cx} {c : Expr} {t : TT} (h : PT X c t) : PTs X [c] t := λ pins s σ H Q I q => wpAny_tests_one (h pins s σ H Q I q)
def QhC (X : Cx) (N' : List Str) (scope : Scope) (σ σ' : St) : Prop :=
 σ'.length = N'.length /\ ∀ (j : Nat) (x : Str) (v : V), N'[j]? = some x -> σ'[j]? = some (some v) -> scope.names.lookup x = some .free /\ ∃ i : Nat, X.N[i]? = some x /\ σ[i]? = some (some v) /\ (X.env.kindOf x = some .cell ∨ X.env.kindOf x = some .free)
noncomputable def Qjw (wi : TI) (cap : St -> St -> Prop) (g : TG) (tc : TT) (te : TE) : TE := λ σ H Q => wi σ H λ J H1 => ∃ σc, cap σ σc /\ ∀ D, H1 D = none -> ∃ W : Nat -> Nat -> List V -> Hp -> Prop,
 (∃ m, W 0 m [] (upd H1 D (.lst []))) /\ ∀ i m acc H2, W i m acc H2 -> (J.stop i H2 /\ Q (.ref D) H2) ∨
  (J.go i H2 /\ ∀ x H3, J.yld i H2 x H3 -> g x σc H3 λ σ2 H4 => (∀ (j : Nat) v, σc[j]? = some (some v) -> σ2[j]? = some (some v)) /\ tc σ2 H4 λ b H5 => if b = true then
   te σ2 H5 λ y H6 => H6 D = some (.lst acc) /\ acc.length < sizeLine /\ ∃ m', m' < m /\ W (i + 1) m' (acc ++ [y]) (upd H6 D (.lst (acc ++ [y])))
   else ∃ m', m' < m /\ W (i + 1) m' acc H5)
theorem Qcl {env : Env} : ∀ {names : List (Str × NameKind)} {x : Str}, names.lookup x = some .free →
  (names.map λ (n, k) => if (k == NameKind.free && env.scope.kind == .function && env.kindOf n == some .cell) then (n, NameKind.cell) else (n, k)).lookup x = some .cell ∨
  (names.map λ (n, k) => if (k == NameKind.free && env.scope.kind == .function && env.kindOf n == some .cell) then (n, NameKind.cell) else (n, k)).lookup x = some .free
 | [], _, h => by simp at h
 | (n, k) :: r, x, h => by
  have ih := @Qcl env r x
  rw [Zu]
  cases hx : x == n with
  | true =>
   simp only [Zr, hx] at h
   cases h
   dsimp only
   split
   ·left; simp [Zr, hx]
   ·right; simp [Zr, hx]
  | false =>
   simp only [Zr, hx] at h
   dsimp only
   split
   ·simp only [Zr, hx]; exact ih h
   ·simp only [Zr, hx]; exact ih h
theorem QdB {env : Env} : ∀ {names : List (Str × NameKind)} {x : Str},
  ((names.map λ (n, k) => if (k == NameKind.free && env.scope.kind == .function && env.kindOf n == some .cell) then (n, NameKind.cell) else (n, k)).lookup x = some .cell ∨
  (names.map λ (n, k) => if (k == NameKind.free && env.scope.kind == .function && env.kindOf n == some .cell) then (n, NameKind.cell) else (n, k)).lookup x = some .free) →
  ∃ k, (x, k) ∈ names /\ (k = .free ∨ k = .cell)
 | [], _, h => by simp at h
 | (n, k) :: r, x, h => by
  have ih := @QdB env r x
  rw [Zu] at h
  cases hx : x == n with
  | true =>
   have hn : x = n := by simpa using hx
   subst hn
   dsimp only at h
   split at h
   ·rename_i hc
    simp only [Zf] at hc
    refine ⟨k, Zi, .inl (by simpa using hc.1.1)⟩
   ·simp only [Zr, hx] at h
    refine ⟨k, Zi, ?_⟩
    rcases h with h | h
    ·exact .inr (Option.some.inj h)
    ·exact .inl (Option.some.inj h)
  | false =>
   dsimp only at h
   have : ∃ k, (x, k) ∈ r /\ (k = .free ∨ k = .cell) := by
    apply ih
    split at h
    ·simpa only [Zr, hx] using h
    ·simpa only [Zr, hx] using h
   obtain ⟨k', h1, h2⟩ := this
   exact ⟨k', Zd _ h1, h2⟩
theorem Qfc : ∀ (names : List (Str × NameKind)) (n : Nat) (acc : List (Str × Addr)) (x : Str) (c : Addr), (cellsFrom n names acc).lookup x = some c -> acc.lookup x = some c ∨ (n <= c /\ (x, NameKind.cell) ∈ names)
 | [], _, _, _, _, h => .inl h
 | (nm, k) :: r, n, acc, x, c, h => by
  unfold cellsFrom at h
  split at h
  ·rename_i hk
   have hk : k = .cell := by simpa using hk
   rcases Qfc r (n + 1) ((nm, n) :: acc) x c h with h | ⟨h1, h2⟩
   ·rw [Zr] at h
    cases q : x == nm with
    | true =>
     rw [q] at h
     cases h
     have : x = nm := by simpa using q
     exact .inr ⟨Zj _, by rw [this, hk]; exact Zi⟩
    | false => rw [q] at h; exact .inl h
   ·exact .inr ⟨by omega, Zd _ h2⟩
  ·rcases Qfc r n acc x c h with h | ⟨h1, h2⟩
   ·exact .inl h
   ·exact .inr ⟨h1, Zd _ h2⟩
theorem QkB : ∀ (names : List (Str × NameKind)) (n : Nat) (acc : List (Str × Addr)) (x : Str) (c : Addr), (x, NameKind.cell) ∈ names -> (cellsFrom n names acc).lookup x = some c -> n <= c
 | (nm, k) :: r, n, acc, x, c, hm, h => by
  unfold cellsFrom at h
  split at h
  ·by_cases hr : (x, NameKind.cell) ∈ r
   ·have := QkB r (n + 1) _ x c hr h
    omega
   ·have hx : x = nm := by
     rcases Zm.mp hm with e | e
     ·exact (Prod.mk.inj e).1
     ·exact absurd e hr
    rcases Qfc r (n + 1) ((nm, n) :: acc) x c h with h | ⟨h1, _⟩
    ·rw [Zr, show (x == nm) = true by simpa using hx] at h
     cases h
     exact Zj _
    ·omega
  ·rename_i hk
   rcases Zm.mp hm with e | e
   ·exact absurd (by rw [← (Prod.mk.inj e).2]; rfl) hk
   ·exact QkB r n acc x c e h
theorem Qj1 : ∀ (names : List (Str × NameKind)) (n : Nat) (acc : List (Str × Addr)), (∀ x y c, acc.lookup x = some c -> acc.lookup y = some c -> x = y) -> (∀ x c, acc.lookup x = some c -> c < n) →
  ∀ x y c, (cellsFrom n names acc).lookup x = some c -> (cellsFrom n names acc).lookup y = some c -> x = y
 | [], _, _, hi, _, x, y, c, h1, h2 => hi x y c h1 h2
 | (nm, k) :: r, n, acc, hi, hb, x, y, c, h1, h2 => by
  unfold cellsFrom at h1 h2
  split at h1
  ·rename_i hk
   rw [if_pos hk] at h2
   refine Qj1 r (n + 1) ((nm, n) :: acc) (λ x y c h1 h2 => ?_) (λ x c h => ?_) x y c h1 h2
   ·rw [Zr] at h1 h2
    cases qx : x == nm with
    | true =>
     rw [qx] at h1
     cases h1
     cases qy : y == nm with
     | true => rw [show x = nm by simpa using qx, show y = nm by simpa using qy]
     | false => rw [qy] at h2; exact absurd (hb y _ h2) (ZN _)
    | false =>
     rw [qx] at h1
     cases qy : y == nm with
     | true => rw [qy] at h2; cases h2; exact absurd (hb x _ h1) (ZN _)
     | false => rw [qy] at h2; exact hi x y c h1 h2
   ·rw [Zr] at h
    cases qx : x == nm with
    | true => rw [qx] at h; cases h; exact Zbf _
    | false => rw [qx] at h; exact ZaH (hb x c h)
  ·rename_i hk
   rw [if_neg hk] at h2
   exact Qj1 r n acc hi hb x y c h1 h2
theorem QeS : ∀ (names : List (Str × NameKind)) (n : Nat) (acc : List (Str × Addr)) (x : Str), (∃ c, acc.lookup x = some c) -> ∃ c, (cellsFrom n names acc).lookup x = some c
 | [], _, _, _, h => h
 | (nm, k) :: r, n, acc, x, h => by
  unfold cellsFrom
  split
  ·refine QeS r (n + 1) _ x ?_
   rw [Zr]
   cases x == nm with
   | true => exact ⟨n, rfl⟩
   | false => exact h
  ·exact QeS r n acc x h
theorem Qkn : ∀ (names : List (Str × NameKind)) (n : Nat) (acc : List (Str × Addr)) (x : Str), (x, NameKind.cell) ∈ names -> ∃ c, (cellsFrom n names acc).lookup x = some c
 | (nm, k) :: r, n, acc, x, hm => by
  unfold cellsFrom
  rcases Zm.mp hm with e | e
  ·obtain ⟨e1, e2⟩ := Prod.mk.inj e
   subst e1
   rw [← e2, if_pos (by rfl)]
   exact QeS r (n + 1) _ x ⟨n, by simp [Zr]⟩
  ·split
   ·exact Qkn r (n + 1) _ x e
   ·exact Qkn r n acc x e
theorem Qix (lo : Nat) : ∀ (names : List (Str × NameKind)) (h : Heap) (acc : List (Str × Addr)), (∀ x c, acc.lookup x = some c -> lo <= c -> h.IsCell c none) -> lo <= h.objs.size →
  ∀ x c, (cellsFrom h.objs.size names acc).lookup x = some c -> lo <= c -> (pushCells h names).IsCell c none
 | [], _, _, ha, _, x, c, e, hl => ha x c e hl
 | (nm, k) :: r, h, acc, ha, hlo, x, c, e, hl => by
  unfold cellsFrom at e
  unfold pushCells
  split at e
  ·rename_i hk
   rw [if_pos hk]
   have hs := Zaz h { cls := .type "cell", data := .cell none }
   refine Qix lo r (h.push { cls := .type "cell", data := .cell none }) ((nm, h.objs.size) :: acc) (λ x c e hl => ?_) (by rw [hs]; omega) x c (by rw [hs]; exact e) hl
   rw [Zr] at e
   cases q : x == nm with
   | true => rw [q] at e; cases e; exact ⟨_, ZG _ rfl, rfl⟩
   | false => rw [q] at e; exact (ha x c e hl).keeps λ b o e => Zq _ e
  ·rename_i hk
   rw [if_neg hk]
   exact Qix lo r h acc ha hlo x c e hl
theorem Ql0 {M : Model} {A : Around} {E : Value -> Shared -> Prop} {s : Shared} {scope : Scope} {globals builtins : Addr} {cl : List (Str × Addr)} {qual : Str} {env : Env} {Q : Env -> Shared -> Prop}
  (hQ : ∀ h' : Heap, h'.Ns s.heap.objs.size (λ _ => none) -> (∀ b o, s.heap.get? b = some o -> h'.get? b = some o) -> ((∀ x c, cl.lookup x = some c -> c < s.heap.objs.size) -> ∀ x c, (cellsFrom (s.heap.objs.size + 1) scope.names cl).lookup x = some c -> s.heap.objs.size + 1 <= c -> h'.IsCell c none) →
   Q (newEnv scope s.heap.objs.size globals (cellsFrom (s.heap.objs.size + 1) scope.names cl) qual none .none (some env) builtins) { s with heap := h' }) :
  wpAny M A (newFunctionEnv scope globals cl [] qual none .none (some env) builtins) Q E s := by
 simp only [newFunctionEnv, Option.isSome_some, if_true]
 refine wpAny_bind (wpAny_alloc ?_)
 refine wpAny_bind (wpAny_layCells _ (λ name kind cells => by cases hkc : kind == NameKind.cell <;> simp [hkc]) _ _ _ _ ?_)
 have hs := Zaz s.heap { cls := .type "dict", data := .dict #[] }
 rw [show ({ s with heap := s.heap.push { cls := .type "dict", data := .dict #[] } } : Shared).heap.objs.size = s.heap.objs.size + 1 from hs]
 refine wpAny_bind (wpAny_pure (wpAny_pure ?_))
 refine hQ _ ((Heap.Ns.new s.heap (.type "dict")).keeps (pushCells_keeps _ _)) (λ b o e => pushCells_keeps _ _ b o (Zq _ e)) λ hb x c e hl => ?_
 refine Qix (s.heap.objs.size + 1) scope.names (s.heap.push { cls := .type "dict", data := .dict #[] }) cl (λ x c e hl => ?_) (by rw [hs]; exact Zj _) x c (by rw [hs]; exact e) hl
 exact absurd (Zp (hb x c e) (ZA (ZI _) hl)) (ZN _)
section
variable {X : Cx} {tg iter elt : Expr} {ifs : List Expr} {scope : Scope} {N' : List Str} {pos : Pos}
structure QdK (X : Cx) (N' : List Str) (scope : Scope) : Prop where
 kind : scope.kind = .function
 own : ∀ y ∈ scope.names, y.2 = .cell -> scope.names.lookup y.1 = some .cell
 loc : ∀ y ∈ scope.names, y.2 = .local -> scope.names.lookup y.1 = some .local
 free : ∀ y ∈ scope.names, y.2 = .free -> X.env.kindOf y.1 = some .cell ∨ X.env.kindOf y.1 = some .free
theorem Qo0 {pins : List (Addr × Obj)} {σ σc : St} {H3 : Hp} {s3 : Shared} {fp : List Addr} {cl : List (Str × Addr)} {h' : Heap} {tk : Nat} (S : QdK X N' scope) (I : Inv X pins σ H3 s3)
  (hf : ∀ b ∈ fp, Qdo X pins H3 b) (hfl : ∀ b ∈ fp, b < s3.heap.objs.size) (hc1 : ∀ x c, cl.lookup x = some c -> X.env.cells.lookup x = some c) (hc2 : ∀ y ∈ scope.names, y.2 = .free -> ∃ c, cl.lookup y.1 = some c) (cap : QhC X N' scope σ σc)
  (hns : h'.Ns s3.heap.objs.size (λ _ => none)) (hk : ∀ b o, s3.heap.get? b = some o -> h'.get? b = some o)
  (hown : (∀ x c, cl.lookup x = some c -> c < s3.heap.objs.size) -> ∀ x c, (cellsFrom (s3.heap.objs.size + 1) scope.names cl).lookup x = some c -> s3.heap.objs.size + 1 <= c -> h'.IsCell c none) :
  Inv (cxc X N' scope (cellsFrom (s3.heap.objs.size + 1) scope.names cl) s3.heap.objs.size fp s3 H3) [] σc H3 { s3 with heap := h', toks := tk } := by
 have nold : ∀ b, b ∈ fp -> b ≠ s3.heap.objs.size := λ b hb e => absurd (hfl b hb) (by rw [e]; exact ZN _)
 have cellOld : ∀ x c, cl.lookup x = some c -> ∃ v, s3.heap.IsCell c v := λ x c e => I.cell x c (hc1 x c e)
 have cellLt : ∀ x c, cl.lookup x = some c -> c < s3.heap.objs.size := λ x c e => let ⟨v, q⟩ := cellOld x c e; q.lt
 have cellNew : ∀ c v, s3.heap.IsCell c v -> h'.IsCell c v := λ c v ⟨o, ho, hd⟩ => ⟨o, hk c o ho, hd⟩
 have hown := hown cellLt
 have look : ∀ x c, (cellsFrom (s3.heap.objs.size + 1) scope.names cl).lookup x = some c -> cl.lookup x = some c ∨ (s3.heap.objs.size + 1 <= c /\ (x, NameKind.cell) ∈ scope.names) := Qfc scope.names _ cl
 refine ⟨⟨I.ok.mod, S.kind, I.ok.glob, I.ok.blt, Zj _, Qj1 scope.names _ cl (λ x y c h1 h2 => I.ok.inj x y c (hc1 x c h1) (hc1 y c h2)) (λ x c e => ZaH (cellLt x c e)), λ x hx => ?_, λ x c e1 e2 => ?_, I.ok.hd, I.ok.frames, .inl rfl, λ b hb => ⟨nold b hb, λ x c e => ?_⟩,
  I.bs, ZA I.ok.bsz I.sz, λ b o e hb => ?_, λ b hb hs => ?_, I.stack, I.Qis⟩, rfl, I.bare, Un.kept hk, ⟨_, hns, λ j x v h1 h2 h3 => ?_⟩, λ x c e => ?_, I.hok.fresh (Zj _), λ x c e => ?_, λ p hp => absurd (show p ∈ ([] : List (Addr × Obj)) from hp) (by simp), I.hok.kept hk, cap.1⟩
 ·obtain ⟨k, hm, hk'⟩ := QdB (env := X.env) (names := scope.names) (x := x) hx
  rcases hk' with rfl | rfl
  ·exact QeS scope.names _ cl x (hc2 _ hm rfl)
  ·exact Qkn scope.names _ cl x hm
 ·have e1 : decide (scope.names.lookup x = some .cell) = true := e1
  have := QkB scope.names _ cl x c (ZU (of_decide_eq_true e1)) e2
  exact ZA (ZI _) this
 ·rcases look x c e with e | ⟨e, _⟩
  ·exact (hf b hb).2.2.2.2.1 x c (hc1 x c e)
  ·intro z
   rw [z] at e
   exact absurd (Zp (hfl b hb) (ZA (ZI _) e)) (ZN _)
 ·rcases (hf b hb).2.2.2.1 with z | z
  ·exact I.ok.noex b o e z
  ·exact absurd (Zp (Zo e) (ZA I.ok.bsz z)) (ZN _)
 ·rcases Zm.mp (I.Qej b hs) with e | z
  ·exact (hf b hb).2.1 e
  ·exact (hf b hb).2.2.1 z
 ·obtain ⟨hl, i, e1, e2, e3⟩ := cap.2 j x v h1 h2
  obtain ⟨m, hn, look'⟩ := I.loc
  obtain ⟨u, r, l⟩ := look' i x v e1 e2 (e3.elim (λ z => .inr (.inl z)) λ z => .inr (.inr z))
  refine ⟨u, r, .inr ⟨Qcl hl, ?_⟩⟩
  rcases l with ⟨k, _⟩ | ⟨_, c, ec, hcell⟩
  ·rcases e3 with z | z <;> (rw [k] at z; cases z)
  ·obtain ⟨c', ec'⟩ := QeS scope.names (s3.heap.objs.size + 1) cl x (hc2 (x, .free) (ZU hl) rfl)
   rcases look x c' ec' with q | ⟨_, q⟩
   ·have := hc1 x c' q
    rw [ec] at this; cases this
    exact ⟨c, ec', cellNew c _ hcell⟩
   ·have := S.own _ q rfl
    rw [hl] at this
    cases this
 ·rcases look x c e with q | ⟨q, _⟩
  ·obtain ⟨v, q⟩ := cellOld x c q
   exact ⟨v, cellNew c v q⟩
  ·exact ⟨none, hown x c e q⟩
 ·rcases look x c e with q | ⟨q, _⟩
  ·exact I.freeC x c (hc1 x c q)
  ·exact I.hok.fresh (by omega)
theorem Qnb {prog : Program} {w : World} {A : Around} {env : Env} {it acc : Value} {R : Result -> Shared -> Prop} {s0 : Shared} (J : Nat -> Shared -> Prop)
  (turn : ∀ n s, J n s -> wpAny (model prog w) A (pyNext it) (λ r s1 => match r with
   | none => R (.ok .next) s1
   | some v => wpAny (model prog w) A (letOwnedTupleGo tg it v) (λ _ s2 => wpAny (model prog w) A (assign tg env v) (λ _ s3 =>
     wpAny (model prog w) A (forIn ifs true λ c r => if r = true then do let ok ← isTrue c env (eval c env); pure (ForInStep.yield ok) else pure (ForInStep.yield r)) (λ ok s4 =>
      if ok = true then wpAny (model prog w) A (eval elt env) (λ x s5 => wpAny (model prog w) A (call (.builtin "list.append") [acc, x]) (λ _ s6 => ∃ m, m < n /\ J m s6) (λ _ _ => False) s5) (λ _ _ => False) s4
      else ∃ m, m < n /\ J m s4) (λ _ _ => False) s3) (λ _ _ => False) s2) (λ _ _ => False) s1) (λ _ _ => False) s)
  (n : Nat) (h : J n s0) : codeAny (model prog w) A (.compLoop (.ListComp elt [⟨tg, iter, ifs, 0⟩] scope pos) 0 it acc env) R s0 := by
 have up : ∀ {α : Type} {t : Sem α} {Q : α -> Shared -> Prop} {E : Value -> Shared -> Prop} {s : Shared}, wpAny (model prog w) A t Q (λ _ _ => False) s -> wpAny (model prog w) A t Q E s := λ h => wpAny_mono h (λ _ _ q => q) λ _ _ f => f.elim
 refine codeAny_loop (by rfl) J (λ k sk hk => ?_) n h
 show wpAny (model prog w) A ((compTurn (.ListComp elt [⟨tg, iter, ifs, 0⟩] scope pos) 0 it acc env).onRaise (λ x => do noteFrame x env; theTreesLotGoes x)) _ _ sk
 refine wpAny_noted (up ?_)
 rw [compTurn_list]
 refine wpAny_bind (wpAny_standAt (wpAny_bind (thn (turn k sk hk) λ r s1 h1 => ?_)))
 cases r with
 | none => exact wpAny_pure h1
 | some v =>
  refine wpAny_bind (thn h1 λ _ s2 h2 => wpAny_bind (thn h2 λ _ s3 h3 => wpAny_bind (thn h3 λ ok s4 h4 => ?_)))
  cases ok with
  | false => exact wpAny_pure ⟨rfl, h4⟩
  | true => exact wpAny_bind (wpAny_bind (thn h4 λ x s5 h5 => wpAny_bind (thn h5 λ _ s6 h6 => wpAny_pure (wpAny_pure ⟨rfl, h6⟩))))
theorem Qos {it D C : Addr} {fp : List Addr} {tn : Nat -> Heap -> Prop} {J : It} {cl : List (Str × Addr)} {s3 s4 : Shared} {H3 : Hp} {σc : St} {g : TG} {tc : TT} {te : TE} {Q : Hp -> Prop} (hcalm : X.calm = true)
  (T : Turn X.prog X.w X.K tg J fp it tn)
  (hg : PG (cxc X N' scope cl C fp s3 H3) tg g) (ht : PTs (cxc X N' scope cl C fp s3 H3) ifs tc) (he : PE (cxc X N' scope cl C fp s3 H3) elt te)
  (I : Inv (cxc X N' scope cl C fp s3 H3) [] σc H3 s4) (st : tn 0 s4.heap) (ff : ∀ b ∈ fp, Qdo (cxc X N' scope cl C fp s3 H3) [] H3 b)
  (W : Nat -> Nat -> List V -> Hp -> Prop) (hw : ∃ m, W 0 m [] H3)
  (turn : ∀ i m acc H2, W i m acc H2 -> (J.stop i H2 /\ Q H2) ∨
   (J.go i H2 /\ ∀ x H5, J.yld i H2 x H5 -> g x σc H5 λ σ2 H6 => (∀ (j : Nat) v, σc[j]? = some (some v) -> σ2[j]? = some (some v)) /\ tc σ2 H6 λ b H7 => if b = true then
    te σ2 H7 λ y H8 => H8 D = some (.lst acc) /\ acc.length < sizeLine /\ ∃ m', m' < m /\ W (i + 1) m' (acc ++ [y]) (upd H8 D (.lst (acc ++ [y])))
    else ∃ m', m' < m /\ W (i + 1) m' acc H7))
  {R : Result -> Shared -> Prop} (hR : ∀ H' s', Inv (cxc X N' scope cl C fp s3 H3) [] σc H' s' -> Q H' -> R (.ok .next) s') :
  codeAny (model X.prog X.w) X.A (.compStart (.ListComp elt [⟨tg, iter, ifs, 0⟩] scope pos) 0 (.ref it) (.ref D) (compEnvC scope cl C X.env)) R s4 := by
 obtain ⟨m0, w0⟩ := hw
 have stat : ∀ {H' : Hp}, (∀ b ∈ fp, H' b = none) -> ∀ b ∈ fp, Qdo (cxc X N' scope cl C fp s3 H3) [] H' b := λ hn b hb => ⟨hn b hb, (ff b hb).2⟩
 have loop : codeAny (model X.prog X.w) X.A (.compLoop (.ListComp elt [⟨tg, iter, ifs, 0⟩] scope pos) 0 (.ref it) (.ref D) (compEnvC scope cl C X.env)) R s4 := by
  refine Qnb (λ n s' => ∃ i acc H', Inv (cxc X N' scope cl C fp s3 H3) [] σc H' s' /\ tn i s'.heap /\ (∀ b ∈ fp, H' b = none) /\ W i n acc H') ?_ m0 ⟨0, [], H3, I, st, λ b hb => (ff b hb).1, w0⟩
  rintro n s5 ⟨i, acc, H5, I5, st5, fr5, w5⟩
  rcases turn i n acc H5 w5 with ⟨stop, q⟩ | ⟨go, step⟩
  ·refine thn (T.done (cxc X N' scope cl C fp s3 H3) rfl rfl rfl hcalm i [] s5 σc H5 _ I5 (stat fr5) st5 stop) λ r s6 ⟨hr, I6⟩ => ?_
   subst hr
   exact hR H5 s6 I6 q
  ·refine thn (T.item (cxc X N' scope cl C fp s3 H3) rfl rfl rfl hcalm i [] s5 σc H5 _ I5 (stat fr5) st5 go) λ r s6 ⟨u, hr, h6⟩ => ?_
   subst hr
   refine thn h6 λ _ s7 ⟨x, H7, I7, r7, y7, st7, fr7⟩ => ?_
   have I7' := I7.pinned (stat fr7) (T.obj _ _ st7)
   refine thn (hg _ s7 σc H7 x u _ I7' r7 (step x H7 y7)) λ _ s8 ⟨σ8, H8, I8, k8, q8⟩ => ?_
   refine thn (ht _ s8 σ8 H8 _ I8 q8) λ ok s9 ⟨H9, I9, q9⟩ => ?_
   have again : ∀ {H' : Hp} {s' : Shared} {acc' : List V}, Inv (cxc X N' scope cl C fp s3 H3) ([] ++ QfT fp s7.heap) σ8 H' s' -> (∃ m', m' < n /\ W (i + 1) m' acc' H') →
     ∃ m, m < n /\ ∃ i acc H', Inv (cxc X N' scope cl C fp s3 H3) [] σc H' s' /\ tn i s'.heap /\ (∀ b ∈ fp, H' b = none) /\ W i m acc H' := λ {H' s' acc'} I' ⟨m', hm, w'⟩ => by
    have pin : ∀ b ∈ fp, ∀ o, s7.heap.get? b = some o -> s'.heap.get? b = some o /\ H' b = none := λ b hb o e => by
     have z := I'.pin (b, o) (Ze _ (Ze _ (QfD hb e)))
     exact ⟨z.1, z.2.1⟩
    refine ⟨m', hm, i + 1, acc', H', ?_, T.keep _ _ _ st7 λ b hb o e => (pin b hb o e).1, λ b hb => ?_, w'⟩
    ·exact I'.QfB.weak (I.len.trans I8.len.symm) k8
    ·obtain ⟨o, e, _⟩ := T.obj _ _ st7 b hb
     exact (pin b hb o e).2
   cases ok with
   | false =>
    rw [if_neg ZK] at q9 ⊢
    exact again I9 q9
   | true =>
    rw [if_pos rfl] at q9 ⊢
    refine thn (he _ s9 σ8 H9 _ I9 q9) λ yv s10 ⟨y, H10, I10, r10, e10, l10, q10⟩ => ?_
    refine thn (Qi5 _ s10 σ8 H10 (.ref D) [y] (.ref D) [yv] (λ v H11 => H11 = upd H10 D (.lst (acc ++ [y]))) I10 rfl (.cons r10 .nil) ⟨D, acc, y, rfl, rfl, e10, l10, rfl⟩) λ _ s11 ⟨_, H11, I11, _, e11⟩ => ?_
    subst e11
    exact again I11 q10
 exact codeAny_compStart_list loop (T.self _ 0 _ _ _ st loop)
theorem QjR {wi : TI} {g : TG} {tc : TT} {te : TE} {cp : Pos} {use : Option (Value -> Sem Unit)} {pins : List (Addr × Obj)} {s : Shared} {σ : St} {H : Hp} {QV : Value -> Shared -> Prop} {Q : VK} (hcalm : X.calm = true) (S : QdK X N' scope) (hi : PI X tg iter wi)
  (hin : ∀ cl C fp s3 H3, PG (cxc X N' scope cl C fp s3 H3) tg g /\ PTs (cxc X N' scope cl C fp s3 H3) ifs tc /\ PE (cxc X N' scope cl C fp s3 H3) elt te)
  (hs : ∀ x, foldedSetIterable iter X.env x = pure x) (I : Inv X pins σ H s) (h : Qjw wi (QhC X N' scope) g tc te σ H Q)
  (fin : ∀ (D C : Addr) (H' : Hp) (s' : Shared), Inv X pins σ H' s' -> H' C = none -> C ≠ X.env.locals -> X.s₀.heap.objs.size <= C -> (∀ x c, X.env.cells.lookup x = some c -> c ≠ C) -> (∀ p ∈ X.pn ++ pins, p.1 ≠ C) -> (∃ m, s'.heap.Ns C m) -> Q (.ref D) H' →
   compPost (model X.prog X.w) X.A X.xe use QV (.ref D) C (.ok .next) s') :
  wpAny (model X.prog X.w) X.A (comprehension (.ListComp elt [⟨tg, iter, ifs, 0⟩] scope pos) scope X.env cp (newList []) false (eval iter X.env) use) QV X.xe s := by
 obtain ⟨cl, hcl, hc1, hc2⟩ := QqR (scope := scope) (env := X.env) λ y hy hf => I.ok.has y.1 (S.free y hy hf)
 refine wpAny_comprehension_free (g := ⟨tg, iter, ifs, 0⟩) (gs := []) rfl hs hcl S.kind S.loc ?_
 refine thn (hi pins s σ H _ I h) λ v s1 h1 => thn h1 λ itv s2 h2 => ?_
 obtain ⟨it, fp, tn, J, H2, e, I2, T, st2, f2, σc, cap, hw⟩ := h2
 subst e
 have hD0 : H2 s2.heap.objs.size = none := I2.hok.fresh (Zj _)
 obtain ⟨W, hW0, turn⟩ := hw _ hD0
 have fpl : ∀ b ∈ fp, b < s2.heap.objs.size := λ b hb => let ⟨o, e, _⟩ := T.obj _ _ st2 b hb; Zo e
 have hlist : ∀ D : Addr, D = s2.heap.objs.size -> ∃ x, x = D := λ D _ => ⟨D, rfl⟩
 refine wpAny_newObj_type ?_
 have I3 : Inv X pins σ (upd H2 s2.heap.objs.size (.lst [])) { s2 with heap := s2.heap.push { cls := .type "list", dict := none, data := .seq ([] : List Value).toArray } } :=
  I2.laid (t' := s2.toks) (λ b o e => Zq _ e) (Zj _) ⟨ZO _, [], 0, .nil, ZG _ rfl⟩
 generalize hs3 : ({ s2 with heap := s2.heap.push { cls := .type "list", dict := none, data := .seq ([] : List Value).toArray } } : Shared) = s3 at I3
 have hs3' : s3.heap = s2.heap.push { cls := .type "list", dict := none, data := .seq ([] : List Value).toArray } := by rw [← hs3]
 have sz3 : s3.heap.objs.size = s2.heap.objs.size + 1 := by rw [hs3', Zaz]
 have old3 : ∀ b o, s2.heap.get? b = some o -> s3.heap.get? b = some o := λ b o e => by rw [hs3']; exact Zq _ e
 have f3 : ∀ b ∈ fp, Qdo X pins (upd H2 s2.heap.objs.size (.lst [])) b := λ b hb => ⟨by rw [QE (ZH (fpl b hb))]; exact (f2 b hb).1, (f2 b hb).2⟩
 have fpl3 : ∀ b ∈ fp, b < s3.heap.objs.size := λ b hb => by rw [sz3]; exact ZaH (fpl b hb)
 refine Ql0 (λ h4 hns4' keep4 hown4 => ?_)
 have I4 := Qo0 (tk := s3.toks) S I3 f3 fpl3 hc1 hc2 cap hns4' keep4 hown4
 have hout : ∀ H' s', Inv (cxc X N' scope (cellsFrom (s3.heap.objs.size + 1) scope.names cl) s3.heap.objs.size fp s3 (upd H2 s2.heap.objs.size (.lst []))) [] σc H' s' -> Inv X pins σ H' s' := λ H' s' J' =>
  I3.QpH (ch := fp) J'.os J'.base J'.hok J'.bare λ b hb => ⟨(f3 b hb).2.2.2.1, (f3 b hb).2.1, (f3 b hb).2.2.2.2.1, (f3 b hb).2.2.2.2.2⟩
 obtain ⟨hg, ht, he⟩ := hin (cellsFrom (s3.heap.objs.size + 1) scope.names cl) s3.heap.objs.size fp s3 (upd H2 s2.heap.objs.size (.lst []))
 have fc : ∀ b ∈ fp, Qdo (cxc X N' scope (cellsFrom (s3.heap.objs.size + 1) scope.names cl) s3.heap.objs.size fp s3 (upd H2 s2.heap.objs.size (.lst []))) [] (upd H2 s2.heap.objs.size (.lst [])) b := λ b hb =>
  ⟨(f3 b hb).1, ZH (fpl3 b hb), λ hs' => (Zm.mp (I3.Qej b hs')).elim (f3 b hb).2.1 (f3 b hb).2.2.1, .inl hb, λ x c e => (by
   rcases Qfc scope.names _ cl x c e with e | ⟨e, _⟩
   ·exact (f3 b hb).2.2.2.2.1 x c (hc1 x c e)
   ·intro z
    rw [z] at e
    exact absurd (Zp (fpl3 b hb) (ZA (ZI _) e)) (ZN _)), λ p hp => absurd (show p ∈ ([] : List (Addr × Obj)) from hp) (by simp)⟩
 have hC1 : s3.heap.objs.size ≠ X.env.locals := Ne.symm (ZH I3.lt)
 refine Qos (D := s2.heap.objs.size) (C := s3.heap.objs.size) (s3 := s3) (σc := σc) (H3 := upd H2 s2.heap.objs.size (.lst [])) (W := W) (Q := λ H' => Q (.ref s2.heap.objs.size) H') hcalm T hg ht he I4 (T.keep _ _ _ st2 λ b hb o e => keep4 b o (old3 b o e)) fc hW0 turn λ H' s' J' q => ?_
 have O := hout H' s' J'
 refine fin _ _ H' s' O J'.free hC1 (ZA I3.sz (Zj _)) (λ x c e z => ?_) (λ p hp z => ?_) (let ⟨m, hn, _⟩ := J'.loc; ⟨m, hn⟩) q
 ·obtain ⟨v, o, ho, _⟩ := I3.cell x c e
  exact absurd (Zo ho) (by rw [z]; exact ZN _)
 ·exact absurd (Zo (I3.pin p hp).1) (by rw [z]; exact ZN _)
theorem Inv.QpT {pins : List (Addr × Obj)} {σ : St} {H : Hp} {s : Shared} {C : Addr} {h' : Heap} (I : Inv X pins σ H s) (hs : Heap.SameBut C s.heap h') (hn : H C = none) (hL : C ≠ X.env.locals) (h1 : X.s₀.heap.objs.size <= C)
  (h2 : ∀ x c, X.env.cells.lookup x = some c -> c ≠ C) (h3 : ∀ p ∈ X.pn ++ pins, p.1 ≠ C) : Inv X pins σ H { s with heap := h' } :=
 I.turned (t' := s.toks) (λ b o hb e => (hs.2 b hb).trans e) hn hL (.inr h1) h2 h3
theorem QlE {wi : TI} {g : TG} {tc : TT} {te : TE} (hcalm : X.calm = true) (S : QdK X N' scope) (hi : PI X tg iter wi)
  (hin : ∀ cl C fp s3 H3, PG (cxc X N' scope cl C fp s3 H3) tg g /\ PTs (cxc X N' scope cl C fp s3 H3) ifs tc /\ PE (cxc X N' scope cl C fp s3 H3) elt te)
  (hs : ∀ x, foldedSetIterable iter X.env x = pure x := by intro _; rfl) : PE X (.ListComp elt [⟨tg, iter, ifs, 0⟩] scope pos) (Qjw wi (QhC X N' scope) g tc te) := by
 intro pins s σ H Q I h
 rw [eval_ListComp]
 refine QjR (use := none) hcalm S hi hin hs I h λ D C H' s' O h1 h2 h3 h4 h5 ⟨m, hm⟩ q => ?_
 exact ⟨m, hm, λ h' hs' => ⟨.ref D, H', O.QpT hs' h1 h2 h3 h4 h5, rfl, q⟩⟩
theorem Qra {wi : TI} {g : TG} {tc : TT} {te : TE} {i : Nat} {x : Str} {pos' spos : Pos} (hN : X.N.Nodup) (hx1 : X.N[i]? = some x) (hx : Loc X.env.scope x) (hf : X.fn x = true ∨ X.env.scope.names.lookup x = some .local) (hcalm : X.calm = true) (S : QdK X N' scope) (hi : PI X tg iter wi)
  (hin : ∀ cl C fp s3 H3, PG (cxc X N' scope cl C fp s3 H3) tg g /\ PTs (cxc X N' scope cl C fp s3 H3) ifs tc /\ PE (cxc X N' scope cl C fp s3 H3) elt te)
  (hs : ∀ x, foldedSetIterable iter X.env x = pure x := by intro _; rfl) :
  PS X (.Assign [.Name x pos'] (.ListComp elt [⟨tg, iter, ifs, 0⟩] scope pos) spos) (Qj7 (Qjw wi (QhC X N' scope) g tc te) (Qgs i)) := by
 have hb : ∃ b, swapsWith (.ListComp elt [⟨tg, iter, ifs, 0⟩] scope pos) (some (.Name x pos')) spos.line X.env = pure b := ⟨_, rfl⟩
 obtain ⟨b, hb⟩ := hb
 cases b with
 | false => exact Qgc hN hx1 hx (QlE hcalm S hi hin hs) hb hf
 | true =>
  intro pins s σ H D I h
  rw [exec_Assign_Name_used _ _ _ _ hb]
  refine wpAny_bind (wpAny_standAt (wpAny_bind ?_))
  show wpAny _ X.A (do let _ ← comprehension (.ListComp elt [⟨tg, iter, ifs, 0⟩] scope pos) scope X.env _ (newList []) false (eval iter X.env) (some (assign (.Name x pos') X.env))) _ _ s
  refine wpAny_bind (thn (QjR (use := some (assign (.Name x pos') X.env)) (QV := λ _ s' => SP X pins D .next s') hcalm S hi hin hs I h λ Dl C H' s' O h1 h2 h3 h4 h5 ⟨m, hm⟩ q => ?_) λ _ s' hq => wpAny_pure (wpAny_pure hq))
  refine wpAny_assign_Name (Qjj O hN hx1 hx (v := .ref Dl) (u := .ref Dl) rfl (λ s2 I2 hsb => ?_) hf)
  obtain ⟨a, sb, ha⟩ := hsb
  have haC : C ≠ a := by
   rcases ha with rfl | ha
   ·exact h2
   ·exact Ne.symm (h4 _ _ ha)
  exact ⟨m, hm.sameBut sb haC, λ h' hs' => ⟨_, H', I2.QpT hs' h1 h2 h3 h4 h5, q⟩⟩
end
end L2
namespace L2
open PySem PySem.Spec PyProof.Rows
section
variable {X : Cx} {pins : List (Addr × Obj)} {σ : St} {H H' : Hp} {s : Shared} {h' : Heap}
theorem Inv.QpO {t' : Nat} {ch : List Addr} {T : Addr} {ts : List V} (I : Inv X pins σ H s) (hf : ∀ b ∈ ch, Qdo X pins H b) (k : ∀ b o, b ∉ ch -> s.heap.get? b = some o -> h'.get? b = some o) (hp : ∀ b ∈ ch, ∃ o, h'.get? b = some o)
  (hT : s.heap.objs.size <= T) (hnew : ts.length <= sizeLine /\ ∃ its : List Value, Qq ts its /\ IsTup h' T its.toArray) : Inv X pins σ (upd H T (.tup ts)) { s with heap := h', toks := t' } := by
 have hn : H T = none := I.hok.fresh hT
 have neT : ∀ b u, H b = some u -> b ≠ T := λ b u e => Qby e hn
 have nch : ∀ b u, H b = some u -> b ∉ ch := λ b u e hb => by rw [(hf b hb).1] at e; cases e
 have ltT : ∀ b o, s.heap.get? b = some o -> b ≠ T := λ b o e => ZH (Zp (Zo e) hT)
 refine I.step (g' := s.gens) (d' := s.drawn) (ch := ch) (λ b hb => ?_) (λ b o _ _ hc e _ => k b o hc e) (λ b o _ _ hc e _ => ⟨o.slots, k b o hc e⟩) (λ b o _ e n => by rw [QE (ltT b o e)]; exact n)
  (λ b o hc e => ⟨o, k b o hc e⟩) (λ b xs e => by rw [QE (neT b _ e)]; exact e) (λ b o u e => by rw [QE (neT b _ e)]; exact e) (λ b ps e => ⟨#[], by rw [QE (neT b _ e), e]; simp⟩) (λ m hm => ?_) (λ b u e => ?_) I.bare
 ·obtain ⟨f0, f1, f2, f3, f4, f5⟩ := hf b hb
  exact ⟨f3, f1, f4, f5⟩
 ·obtain ⟨o, es, ep, ho, r⟩ := hm
  exact ⟨o, es, ep, k _ o (λ z => (hf _ z).2.1 rfl) ho, r⟩
 ·by_cases hb : b = T
  ·subst hb
   rw [Qar] at e
   cases e
   exact hnew
  ·rw [QE hb] at e
   refine (I.hok b u e).QeF (λ c v hc q => k c v ?_ q) (λ c q => by rw [QE (neT c _ q)]; exact q) λ c xs q => by rw [QE (neT c _ q)]; exact q
   rcases hc with z | z
   ·rw [z]; exact nch b u e
   ·exact nch c _ z
theorem Inv.turns {t' : Nat} {ch : List Addr} (I : Inv X pins σ H s) (hf : ∀ b ∈ ch, Qdo X pins H b) (k : ∀ b o, b ∉ ch -> s.heap.get? b = some o -> h'.get? b = some o) : Inv X pins σ H { s with heap := h', toks := t' } := by
 have nch : ∀ b u, H b = some u -> b ∉ ch := λ b u e hb => by rw [(hf b hb).1] at e; cases e
 refine I.step (g' := s.gens) (d' := s.drawn) (ch := ch) (λ b hb => ?_) (λ b o _ _ hc e _ => k b o hc e) (λ b o _ _ hc e _ => ⟨o.slots, k b o hc e⟩) (λ b o _ e n => n)
  (λ b o hc e => ⟨o, k b o hc e⟩) (λ b xs e => e) (λ b o u e => e) (λ b ps e => ⟨#[], by rw [e]; simp⟩) (λ m hm => ?_) (λ b u e => ?_) I.bare
 ·obtain ⟨f0, f1, f2, f3, f4, f5⟩ := hf b hb
  exact ⟨f3, f1, f4, f5⟩
 ·obtain ⟨o, es, ep, ho, r⟩ := hm
  exact ⟨o, es, ep, k _ o (λ z => (hf _ z).2.1 rfl) ho, r⟩
 ·refine (I.hok b u e).QeF (λ c v hc q => k c v ?_ q) (λ c q => q) λ c xs q => q
  rcases hc with z | z
  ·rw [z]; exact nch b u e
  ·exact nch c _ z
end
noncomputable def Ite (K : PySem.W.Frag) (a : Addr) : It :=
 ⟨λ i H => ∃ xs x, SqL K H a xs /\ xs[i]? = some x, λ i H v H' => ∃ p x, v = .ref p /\ H p = none /\ H' = upd H p (.tup [.int i, x]) /\ ∀ xs, SqL K H a xs -> xs[i]? = some x, λ i H => ∃ xs, SqL K H a xs /\ xs.length <= i⟩
theorem Qnx {P : Program} {w : World} {K : PySem.W.Frag} {es : List Expr} {tk : Nat} {tpos : Pos} (a e it : Addr) (hne : e ≠ it) : Turn P w K (.Tuple es tk tpos) (Ite K a) [e, it] e (λ i h => ∃ old, IsEnum h e it (i : Int) old /\ h.IsListIter it a i) where
 mem := by simp
 obj := λ i h st b hb => by
  obtain ⟨old, he, o, ho, hc, hd⟩ := st
  have hb : b = e ∨ b = it := by simpa using hb
  rcases hb with rfl | rfl
  ·exact ⟨_, he, λ v z => by cases z⟩
  ·exact ⟨o, ho, λ v z => by rw [hd] at z; cases z⟩
 keep := λ i h h' st k => by
  obtain ⟨old, he, hi⟩ := st
  exact ⟨old, k e (by simp) _ he, hi.at λ o q => k it (by simp) o q⟩
 item := by
  intro X hP hw hK hc i pins s σ H E I hf st hg
  subst hP hw hK
  obtain ⟨old, he, hi⟩ := st
  obtain ⟨xs, x, hq, hx⟩ := hg
  obtain ⟨its, rv, p, hz⟩ := I.list hq
  obtain ⟨u, hu, ru⟩ := rv.get hx
  refine wpAny_pyNext_enum_item he hi p.isList (x := u) (by simpa using hu) hne λ h1 heo hi1 ht1 hz1 hk1 => ?_
  refine ⟨.ref s.heap.objs.size, rfl, wpAny_letOwnedTupleGo_enum heo λ h2 he2 hs2 => ?_⟩
  replace hs2 : Heap.SameBut e h1 h2 := hs2
  have helt : e < s.heap.objs.size := Zo he
  have hilt : it < s.heap.objs.size := by obtain ⟨o, ho, _⟩ := hi; exact Zo ho
  have ht2 : IsTup h2 s.heap.objs.size [Value.int i s.toks, u].toArray := ⟨_, (hs2.2 _ (Nat.ne_of_gt helt)).trans ht1, rfl, _, rfl⟩
  have hi2 : h2.IsListIter it a (i + 1) := hi1.extBut hs2.extBut (Ne.symm hne)
  have kk : ∀ b o, b ∉ [e, it] -> s.heap.get? b = some o -> h2.get? b = some o := λ b o hb q => by
   have h1 : b ≠ e := λ z => hb (by simp [z])
   have h2 : b ≠ it := λ z => hb (by simp [z])
   exact hs2.extBut b o h1 (hk1 b o h1 h2 q)
  refine ⟨.ref s.heap.objs.size, upd H s.heap.objs.size (.tup [.int i, x]), I.QpO (t' := s.toks + 1) hf kk (λ b hb => ?_) (Zj _) ⟨by show 2 <= sizeLine; decide, _, .cons ⟨_, rfl⟩ (.cons ru .nil), ht2⟩, rfl,
   ⟨_, x, rfl, I.hok.fresh (Zj _), rfl, λ ys hy => by rw [I.QfH hy hq]; exact hx⟩, ⟨u, ?_, hi2⟩, λ b hb => ?_⟩
  ·have hb : b = e ∨ b = it := by simpa using hb
   rcases hb with rfl | rfl
   ·exact ⟨_, he2⟩
   ·obtain ⟨o, ho, _⟩ := hi2; exact ⟨o, ho⟩
  ·have : ((i + 1 : Nat) : Int) = (i : Int) + 1 := by push_cast; rfl
   rw [this]; exact he2
  ·have hb' : b = e ∨ b = it := by simpa using hb
   have : b ≠ s.heap.objs.size := by
    rcases hb' with rfl | rfl
    ·exact ZH helt
    ·exact ZH hilt
   rw [QE this]; exact (hf b hb).1
 done := by
  intro X hP hw hK hc i pins s σ H E I hf st hg
  subst hP hw hK
  obtain ⟨old, he, hi⟩ := st
  obtain ⟨xs, hq, hx⟩ := hg
  obtain ⟨its, rv, p, hz⟩ := I.list hq
  have hl := rv.length
  refine wpAny_pyNext_enum_end (I.ok.hd hc) he hi p.isList (by simp; omega) λ h1 eb => ⟨rfl, ?_⟩
  exact I.turns (t' := s.toks) hf λ b o hb q => eb b o (λ z => hb (by simp [z])) q
 self := λ _ _ _ _ _ st h => by
  obtain ⟨old, he, hi⟩ := st
  exact wpAny_pyIter_enum he h
section
variable {X : Cx}
noncomputable def Qt5 (K : PySem.W.Frag) (ta : TA) : TI := λ σ H R => ta σ H λ vs H1 => ∃ a, vs = [.ref a] /\ (∃ xs, SqL K H1 a xs) /\ R (Ite K a) H1
theorem Qq7 {a : Expr} {ta : TA} {p pos : Pos} {es : List Expr} {tk : Nat} {tpos : Pos} (hg : Gl X "enumerate") (hm : X.mg "enumerate" = none) (ha : PA X [a] ta) (hs : starEach [a] X.env = [(false, eval a X.env)]) :
  PI X (.Tuple es tk tpos) (.Call (.Name "enumerate" p) [a] [] pos) (Qt5 X.K ta) := by
 intro pins s σ H R I h
 refine Call_ (Qc8 I hg hm PyProof.Rows.boot_enumerate (ZW (thn (ha pos pins s σ H _ I h) λ us s1 ⟨vs, H1, I1, r1, q1⟩ => ?_) hs rfl))
 obtain ⟨l, e, ⟨xs, hq⟩, q⟩ := q1
 subst e
 obtain ⟨u, rfl, ru⟩ := vals1 r1
 cases ru
 obtain ⟨its, rv, pl, hz⟩ := I1.list hq
 refine call_enumerate_list pl.isList λ h2 he2 hi2 hz2 hk2 => ?_
 have I2 : Inv X pins σ H1 { s1 with heap := h2 } := I1.kept (t' := s1.toks) hk2
 refine wpAny_pyIter_enum he2 ⟨_, [s1.heap.objs.size + 1, s1.heap.objs.size], _, _, H1, rfl, I2, Qnx l _ _ (Nat.succ_ne_self _), ⟨_, he2, hi2⟩, λ b hb => ?_, q⟩
 have hb : b = s1.heap.objs.size + 1 ∨ b = s1.heap.objs.size := by simpa using hb
 have hle : s1.heap.objs.size <= b := by rcases hb with rfl | rfl <;> omega
 exact I1.Qj8 hle (I1.hok.fresh hle)
end
noncomputable def Itz (K : PySem.W.Frag) (a b : Addr) : It :=
 ⟨λ i H => ∃ xs ys x y, SqL K H a xs /\ SqL K H b ys /\ xs[i]? = some x /\ ys[i]? = some y, λ i H v H' => ∃ p x y, v = .ref p /\ H p = none /\ H' = upd H p (.tup [x, y]) /\ (∀ xs, SqL K H a xs -> xs[i]? = some x) /\ ∀ ys, SqL K H b ys -> ys[i]? = some y,
  λ i H => ∃ xs ys, SqL K H a xs /\ SqL K H b ys /\ (xs.length <= i ∨ ys.length <= i)⟩
structure Qqc (z TI TO i1 i2 : Addr) : Prop where
 a : TI ≠ z
 b : TO ≠ z
 c : i1 ≠ z
 d : i2 ≠ z
 e : TI ≠ TO
 f : TI ≠ i1
 g : TI ≠ i2
 h : TO ≠ i1
 i : TO ≠ i2
 j : i1 ≠ i2
theorem QoI {P : Program} {w : World} {K : PySem.W.Frag} {es : List Expr} {tk : Nat} {tpos : Pos} (l1 l2 z TI TO i1 i2 : Addr) (D : Qqc z TI TO i1 i2) :
  Turn P w K (.Tuple es tk tpos) (Itz K l1 l2) [z, TI, TO, i1, i2] z (λ i h => IsZip h z TI TO .none /\ IsPair h TI (.ref i1) (.ref i2) /\ (∃ a b, IsPair h TO a b) /\ h.IsListIter i1 l1 i /\ h.IsListIter i2 l2 i) where
 mem := by simp
 obj := λ i h st b hb => by
  obtain ⟨hz, hTI, ⟨p, q, hTO⟩, ⟨o1, ho1, hc1, hd1⟩, ⟨o2, ho2, hc2, hd2⟩⟩ := st
  have hb : b = z ∨ b = TI ∨ b = TO ∨ b = i1 ∨ b = i2 := by simpa using hb
  rcases hb with rfl | rfl | rfl | rfl | rfl
  ·exact ⟨_, hz, λ v z => by cases z⟩
  ·exact ⟨_, hTI, λ v z => by cases z⟩
  ·exact ⟨_, hTO, λ v z => by cases z⟩
  ·exact ⟨o1, ho1, λ v z => by rw [hd1] at z; cases z⟩
  ·exact ⟨o2, ho2, λ v z => by rw [hd2] at z; cases z⟩
 keep := λ i h h' st k => by
  obtain ⟨hz, hTI, ⟨p, q, hTO⟩, h1, h2⟩ := st
  exact ⟨k z (by simp) _ hz, k TI (by simp) _ hTI, ⟨p, q, k TO (by simp) _ hTO⟩, h1.at λ o e => k i1 (by simp) o e, h2.at λ o e => k i2 (by simp) o e⟩
 item := by
  intro X hP hw hK hc i pins s σ H E I hf st hg
  subst hP hw hK
  obtain ⟨hz, hTI, ⟨a0, b0, hTO⟩, h1, h2⟩ := st
  obtain ⟨xs, ys, x, y, hq1, hq2, hx, hy⟩ := hg
  obtain ⟨its, rv, p, hzz⟩ := I.list hq1
  obtain ⟨its2, rv2, p2, hzz2⟩ := I.list hq2
  obtain ⟨u, hu, ru⟩ := rv.get hx
  obtain ⟨u2, hu2, ru2⟩ := rv2.get hy
  have free : ∀ l ys, SqL X.K H l ys -> ∀ b, b ∈ [z, TI, TO, i1, i2] -> l ≠ b := λ l ys hq b hb e => by
   subst e
   rcases hq with (hq | ⟨o, hq⟩) | ⟨o, its, n, hk, hc', _, hd', _⟩
   ·rw [(hf l hb).1] at hq; cases hq
   ·rw [(hf l hb).1] at hq; cases hq
   ·have e1 := I.kIn l o hk
    obtain ⟨o1, ho1, hcc1, hd1⟩ := id h1
    obtain ⟨o2, ho2, hcc2, hd2⟩ := id h2
    have hb : l = z ∨ l = TI ∨ l = TO ∨ l = i1 ∨ l = i2 := by simpa using hb
    rcases hb with rfl | rfl | rfl | rfl | rfl
    ·rw [hz] at e1; cases e1; simp at hc'
    ·rw [hTI] at e1; cases e1; simp at hc'
    ·rw [hTO] at e1; cases e1; simp at hc'
    ·rw [ho1] at e1; cases e1; rw [hc'] at hcc1; simp at hcc1
    ·rw [ho2] at e1; cases e1; rw [hc'] at hcc2; simp at hcc2
  have A1 := free l1 xs hq1
  have A2 := free l2 ys hq2
  have DD : ZipApart z TI TO i1 i2 l1 l2 := ⟨D.a, D.b, D.c, D.d, D.e, D.f, D.g, D.h, D.i, D.j, A1 z (by simp), A1 TO (by simp), A1 i1 (by simp), A1 i2 (by simp), A2 z (by simp), A2 TO (by simp), A2 i1 (by simp), A2 i2 (by simp)⟩
  refine wpAny_pyNext_zip_item DD hz hTI hTO h1 h2 p.isList p2.isList (x := u) (y := u2) (by simpa using hu) (by simpa using hu2) λ h3 z3 TO3 a3 b3 T3 sz3 k3 => ?_
  refine ⟨.ref s.heap.objs.size, rfl, wpAny_letOwnedTupleGo_zip z3 λ h4 z4 hs4 => ?_⟩
  replace hs4 : Heap.SameBut z h3 h4 := hs4
  have lt : ∀ {c o}, s.heap.get? c = some o -> c < s.heap.objs.size := λ e => Zo e
  have hzlt := lt hz
  have all : ∀ b ∈ [z, TI, TO, i1, i2], b < s.heap.objs.size := λ b hb => by
   have hb : b = z ∨ b = TI ∨ b = TO ∨ b = i1 ∨ b = i2 := by simpa using hb
   obtain ⟨o1, ho1, _⟩ := h1
   obtain ⟨o2, ho2, _⟩ := h2
   rcases hb with rfl | rfl | rfl | rfl | rfl
   ·exact lt hz
   ·exact lt hTI
   ·exact lt hTO
   ·exact lt ho1
   ·exact lt ho2
  have kk : ∀ b o, b ∉ [z, TI, TO, i1, i2] -> s.heap.get? b = some o -> h4.get? b = some o := λ b o hb q => by
   have n1 : b ≠ z := λ e => hb (by simp [e])
   exact hs4.extBut b o n1 (k3 b o n1 (λ e => hb (by simp [e])) (λ e => hb (by simp [e])) (λ e => hb (by simp [e])) q)
  have TI4 : IsPair h4 TI (.ref i1) (.ref i2) := hs4.extBut _ _ D.a (k3 _ _ D.a D.e D.f D.g hTI)
  have TO4 : IsPair h4 TO u u2 := hs4.extBut _ _ D.b TO3
  have a4 : h4.IsListIter i1 l1 (i + 1) := a3.extBut hs4.extBut D.c
  have b4 : h4.IsListIter i2 l2 (i + 1) := b3.extBut hs4.extBut D.d
  have T4 : IsTup h4 s.heap.objs.size [u, u2].toArray := ⟨_, (hs4.2 _ (Nat.ne_of_gt hzlt)).trans T3, rfl, _, rfl⟩
  refine ⟨.ref s.heap.objs.size, upd H s.heap.objs.size (.tup [x, y]), I.QpO (t' := s.toks) hf kk (λ b hb => ?_) (Zj _) ⟨by show 2 <= sizeLine; decide, _, .cons ru (.cons ru2 .nil), T4⟩, rfl,
   ⟨_, x, y, rfl, I.hok.fresh (Zj _), rfl, λ zs hy' => by rw [I.QfH hy' hq1]; exact hx, λ zs hy' => by rw [I.QfH hy' hq2]; exact hy⟩, ⟨z4, TI4, ⟨_, _, TO4⟩, a4, b4⟩, λ b hb => ?_⟩
  ·have hb : b = z ∨ b = TI ∨ b = TO ∨ b = i1 ∨ b = i2 := by simpa using hb
   obtain ⟨o1, ho1, _⟩ := a4
   obtain ⟨o2, ho2, _⟩ := b4
   rcases hb with rfl | rfl | rfl | rfl | rfl
   ·exact ⟨_, z4⟩
   ·exact ⟨_, TI4⟩
   ·exact ⟨_, TO4⟩
   ·exact ⟨_, ho1⟩
   ·exact ⟨_, ho2⟩
  ·rw [QE (ZH (all b hb))]; exact (hf b hb).1
 done := by
  intro X hP hw hK hc i pins s σ H E I hf st hg
  subst hP hw hK
  obtain ⟨hz, hTI, ⟨a0, b0, hTO⟩, h1, h2⟩ := st
  obtain ⟨xs, ys, hq1, hq2, hx⟩ := hg
  obtain ⟨its, rv, p, hzz⟩ := I.list hq1
  obtain ⟨its2, rv2, p2, hzz2⟩ := I.list hq2
  have free : ∀ l ys, SqL X.K H l ys -> ∀ b, b ∈ [z, TI, TO, i1, i2] -> l ≠ b := λ l ys hq b hb e => by
   subst e
   rcases hq with (hq | ⟨o, hq⟩) | ⟨o, its, n, hk, hc', _, hd', _⟩
   ·rw [(hf l hb).1] at hq; cases hq
   ·rw [(hf l hb).1] at hq; cases hq
   ·have e1 := I.kIn l o hk
    obtain ⟨o1, ho1, hcc1, hd1⟩ := id h1
    obtain ⟨o2, ho2, hcc2, hd2⟩ := id h2
    have hb : l = z ∨ l = TI ∨ l = TO ∨ l = i1 ∨ l = i2 := by simpa using hb
    rcases hb with rfl | rfl | rfl | rfl | rfl
    ·rw [hz] at e1; cases e1; simp at hc'
    ·rw [hTI] at e1; cases e1; simp at hc'
    ·rw [hTO] at e1; cases e1; simp at hc'
    ·rw [ho1] at e1; cases e1; rw [hc'] at hcc1; simp at hcc1
    ·rw [ho2] at e1; cases e1; rw [hc'] at hcc2; simp at hcc2
  have A1 := free l1 xs hq1
  have A2 := free l2 ys hq2
  have DD : ZipApart z TI TO i1 i2 l1 l2 := ⟨D.a, D.b, D.c, D.d, D.e, D.f, D.g, D.h, D.i, D.j, A1 z (by simp), A1 TO (by simp), A1 i1 (by simp), A1 i2 (by simp), A2 z (by simp), A2 TO (by simp), A2 i1 (by simp), A2 i2 (by simp)⟩
  have hl := rv.length
  have hl2 := rv2.length
  refine wpAny_pyNext_zip_end (I.ok.hd hc) DD hz hTI hTO h1 h2 p.isList p2.isList (by rcases hx with hx | hx; (left; simp; omega); (right; simp; omega)) λ h3 k3 => ⟨rfl, ?_⟩
  exact I.turns (t' := s.toks) hf λ b o hb q => k3 b o (λ e => hb (by simp [e])) (λ e => hb (by simp [e])) (λ e => hb (by simp [e])) (λ e => hb (by simp [e])) q
 self := λ _ _ _ _ _ st h => wpAny_pyIter_zip st.1 h
section
variable {X : Cx}
noncomputable def Qur (K : PySem.W.Frag) (ta : TA) : TI := λ σ H R => ta σ H λ vs H1 => ∃ a b, vs = [.ref a, .ref b] /\ (∃ xs, SqL K H1 a xs) /\ (∃ ys, SqL K H1 b ys) /\ R (Itz K a b) H1
theorem Qsi {a b : Expr} {ta : TA} {p pos : Pos} {es : List Expr} {tk : Nat} {tpos : Pos} (hg : Gl X "zip") (hm : X.mg "zip" = none) (ha : PA X [a, b] ta) (hs : starEach [a, b] X.env = [(false, eval a X.env), (false, eval b X.env)]) (hs2 : starEach [b] X.env = [(false, eval b X.env)]) :
  PI X (.Tuple es tk tpos) (.Call (.Name "zip" p) [a, b] [] pos) (Qur X.K ta) := by
 intro pins s σ H R I h
 refine Call_ (Qc8 I hg hm PyProof.Rows.boot_zip (ZW (thn (ha pos pins s σ H _ I h) λ us s1 ⟨vs, H1, I1, r1, q1⟩ => ?_) (by rw [hs, hs2]) (by rw [hs2]; rfl)))
 obtain ⟨l, l2, e, ⟨xs, hq⟩, ⟨ys, hq2⟩, q⟩ := q1
 subst e
 obtain ⟨u, u2, rfl, ru, ru2⟩ := vals2 r1
 cases ru
 cases ru2
 obtain ⟨its, rv, pl, hz⟩ := I1.list hq
 obtain ⟨its2, rv2, pl2, hz2⟩ := I1.list hq2
 refine call_zip_2 pl.isList pl2.isList λ h2 hz hTI hTO h1 h2' hsz hk2 => ?_
 have I2 : Inv X pins σ H1 { s1 with heap := h2 } := I1.kept (t' := s1.toks) hk2
 refine wpAny_pyIter_zip hz ⟨_, [s1.heap.objs.size + 4, s1.heap.objs.size + 2, s1.heap.objs.size + 3, s1.heap.objs.size, s1.heap.objs.size + 1], _, _, H1, rfl, I2, QoI l l2 _ _ _ _ _ ⟨?_, ?_, ?_, ?_, ?_, ?_, ?_, ?_, ?_, ?_⟩, ⟨hz, hTI, ⟨_, _, hTO⟩, h1, h2'⟩, λ b hb => ?_, q⟩
 iterate 10 (exact (by intro e; first | (have e' : (s1.heap.objs.size : Nat) + _ = _ := e; omega) | (have e' : (s1.heap.objs.size : Nat) = _ := e; omega)))
 have hle : s1.heap.objs.size <= b := by
  simp only [Zm, List.not_mem_nil, or_false] at hb
  rcases hb with rfl | rfl | rfl | rfl | rfl <;> first | exact Zj _ | exact Nat.le_add_right _ _
 exact I1.Qj8 hle (I1.hok.fresh hle)
end
end L2
namespace L2
open PySem PySem.Spec
section
variable {prog : Program} {w : World} {A : Around} {E : Value -> Shared -> Prop} {s : Shared}
structure Six (z TI TO i1 i2 i3 : Addr) : Prop where
 TIz : TI ≠ z
 TOz : TO ≠ z
 i1z : i1 ≠ z
 i2z : i2 ≠ z
 i3z : i3 ≠ z
 TITO : TI ≠ TO
 TIi1 : TI ≠ i1
 TIi2 : TI ≠ i2
 TIi3 : TI ≠ i3
 TOi1 : TO ≠ i1
 TOi2 : TO ≠ i2
 TOi3 : TO ≠ i3
 i12 : i1 ≠ i2
 i13 : i1 ≠ i3
 i23 : i2 ≠ i3
end
section
variable {prog : Program} {w : World} {A : Around} {E : Value -> Shared -> Prop} {s : Shared}
end
open PyProof.Rows
section
variable {X : Cx}
end
end L2
namespace HS
open PySem PySem.Spec PyProof.Rows L2
inductive D where
 | non | bl (b : Bool) | int (i : Int) | str (x : Str) | tup (xs : List D) | lst (xs : List D) | exc (x : Str)
mutual
noncomputable def D.flat : D -> Bool
 | .lst _ => false
 | .tup xs => QJ xs
 | .non => true
 | .bl _ => true
 | .int _ => true
 | .str _ => true
 | .exc _ => true
noncomputable def QJ : List D -> Bool
 | [] => true
 | d :: ds => d.flat && QJ ds
end
mutual
noncomputable def D.nl : D -> Nat
 | .lst xs => nls xs + 1
 | .tup xs => nls xs
 | .non => 0
 | .bl _ => 0
 | .int _ => 0
 | .str _ => 0
 | .exc _ => 0
noncomputable def nls : List D -> Nat
 | [] => 0
 | d :: ds => d.nl + nls ds
end
mutual
theorem Qdj : ∀ (d : D), d.flat = true -> d.nl = 0
 | .non, _ => rfl
 | .bl _, _ => rfl
 | .int _, _ => rfl
 | .str _, _ => rfl
 | .exc _, _ => rfl
 | .tup xs, h => by simp only [D.nl]; simp only [D.flat] at h; exact Qhe xs h
 | .lst xs, h => by simp [D.flat] at h
theorem Qhe : ∀ (ds : List D), QJ ds = true -> nls ds = 0
 | [], _ => rfl
 | d :: ds, h => by simp only [QJ, Zf] at h; simp only [nls, Qdj d h.1, Qhe ds h.2]
end
def Fix (K : PySem.W.Frag) (H : Hp) (a : Addr) (vs : List V) : Prop :=
 (∃ o, H a = some (.frz o (.lst vs))) ∨
  ∃ (its : List Value) (n : Nat), K.lookup a = some { cls := .type "list", data := .seq its.toArray n } /\ vs.length <= sizeLine /\ Qq vs its
def QcR (a C : Addr) (h : Heap) : Prop := ∃ o vs, h.get? a = some o /\ o.cls = .ref C /\ o.data = .fields vs
def ExcAt (K : PySem.W.Frag) (H : Hp) (a : Addr) (x : Str) : Prop := ∃ C, PySem.W.nsIn K mainGlobals x = some (some (.ref C)) /\ H a = some (.ext (QcR a C))
theorem QlR {K : PySem.W.Frag} {H H' : Hp} {a : Addr} {x : Str} (s : QD H H') (h : ExcAt K H a x) : ExcAt K H' a x := by
 obtain ⟨C, h1, h2⟩ := h
 exact ⟨C, h1, s _ _ h2⟩
theorem Qn2 {K : PySem.W.Frag} {H : Hp} {a p : Addr} {x : Str} {zs ys : List V} (hp : H p = some (.lst zs)) (h : ExcAt K H a x) : ExcAt K (upd H p (.lst ys)) a x := by
 obtain ⟨C, h1, h2⟩ := h
 exact ⟨C, h1, by rw [QE (Qjz h2 hp (by intro z; cases z))]; exact h2⟩
mutual
noncomputable def Rp (K : PySem.W.Frag) (H : Hp) : D -> V -> List Addr -> Prop
 | .non, v, F => v = .non /\ F = []
 | .bl b, v, F => v = .bl b /\ F = []
 | .int i, v, F => v = .int i /\ F = []
 | .str x, v, F => v = .str x /\ F = []
 | .exc x, v, F => (∃ a, v = .ref a /\ ExcAt K H a x) /\ F = []
 | .tup ds, v, F => ∃ a vs, v = .ref a /\ SqT K H a vs /\ Rps K H ds vs F
 | .lst ds, v, F => ds.length <= sizeLine /\ ∃ a vs, v = .ref a /\ ((∃ G, F = a :: G /\ H a = some (.lst vs) /\ Rps K H ds vs G) ∨ (Fix K H a vs /\ Rps K H ds vs F))
noncomputable def Rps (K : PySem.W.Frag) (H : Hp) : List D -> List V -> List Addr -> Prop
 | [], vs, F => vs = [] /\ F = []
 | d :: ds, vs, F => ∃ v ws F1 F2, vs = v :: ws /\ F = F1 ++ F2 /\ Rp K H d v F1 /\ Rps K H ds ws F2
end
theorem QjB {K : PySem.W.Frag} {H H' : Hp} {a : Addr} {vs : List V} (s : QD H H') (h : SqT K H a vs) : SqT K H' a vs := by
 rcases h with (h | ⟨o, h⟩) | h
 ·exact .inl (.inl (s _ _ h))
 ·exact .inl (.inr ⟨o, s _ _ h⟩)
 ·exact .inr h
theorem QjS {K : PySem.W.Frag} {H H' : Hp} {a : Addr} {vs : List V} (s : QD H H') (h : Fix K H a vs) : Fix K H' a vs := by
 rcases h with ⟨o, h⟩ | h
 ·exact .inl ⟨o, s _ _ h⟩
 ·exact .inr h
theorem Qlq {K : PySem.W.Frag} {H : Hp} {a p : Addr} {vs zs ys : List V} (hp : H p = some (.lst zs)) (h : SqT K H a vs) : SqT K (upd H p (.lst ys)) a vs := by
 rcases h with (h | ⟨o, h⟩) | h
 ·exact .inl (.inl (by rw [QE (Qjz h hp (by intro z; cases z))]; exact h))
 ·exact .inl (.inr ⟨o, by rw [QE (Qjz h hp (by intro z; cases z))]; exact h⟩)
 ·exact .inr h
theorem Qqf {K : PySem.W.Frag} {H : Hp} {a p : Addr} {vs zs ys : List V} (hp : H p = some (.lst zs)) (h : Fix K H a vs) : Fix K (upd H p (.lst ys)) a vs := by
 rcases h with ⟨o, h⟩ | h
 ·exact .inl ⟨o, by rw [QE (Qjz h hp (by intro z; cases z))]; exact h⟩
 ·exact .inr h
section
variable {K : PySem.W.Frag} {H H' : Hp}
mutual
theorem Rp.same (s : QD H H') : ∀ {d : D} {v : V} {F : List Addr}, Rp K H d v F -> Rp K H' d v F
 | .exc _, _, _, h => by
  simp only [Rp] at h ⊢
  obtain ⟨⟨a, e, q⟩, z⟩ := h
  exact ⟨⟨a, e, QlR s q⟩, z⟩
 | .non, _, _, h => h
 | .bl _, _, _, h => h
 | .int _, _, _, h => h
 | .str _, _, _, h => h
 | .tup ds, _, _, h => by
  simp only [Rp] at h ⊢
  obtain ⟨a, vs, e, q, r⟩ := h
  exact ⟨a, vs, e, QjB s q, Rps.same s r⟩
 | .lst ds, _, _, h => by
  simp only [Rp] at h ⊢
  obtain ⟨hz, a, vs, e, ⟨G, eF, q, r⟩ | ⟨q, r⟩⟩ := h
  ·exact ⟨hz, a, vs, e, .inl ⟨G, eF, s _ _ q, Rps.same s r⟩⟩
  ·exact ⟨hz, a, vs, e, .inr ⟨QjS s q, Rps.same s r⟩⟩
theorem Rps.same (s : QD H H') : ∀ {ds : List D} {vs : List V} {F : List Addr}, Rps K H ds vs F -> Rps K H' ds vs F
 | [], _, _, h => h
 | d :: ds, _, _, h => by
  simp only [Rps] at h ⊢
  obtain ⟨v, ws, F1, F2, e, eF, r, q⟩ := h
  exact ⟨v, ws, F1, F2, e, eF, Rp.same s r, Rps.same s q⟩
end
mutual
theorem Rp.upd {p : Addr} {zs ys : List V} (hp : H p = some (.lst zs)) : ∀ {d : D} {v : V} {F : List Addr}, Rp K H d v F -> p ∉ F -> Rp K (upd H p (.lst ys)) d v F
 | .exc _, _, _, h, _ => by
  simp only [Rp] at h ⊢
  obtain ⟨⟨a, e, q⟩, z⟩ := h
  exact ⟨⟨a, e, Qn2 hp q⟩, z⟩
 | .non, _, _, h, _ => h
 | .bl _, _, _, h, _ => h
 | .int _, _, _, h, _ => h
 | .str _, _, _, h, _ => h
 | .tup ds, _, _, h, hn => by
  simp only [Rp] at h ⊢
  obtain ⟨a, vs, e, q, r⟩ := h
  exact ⟨a, vs, e, Qlq hp q, Rps.upd hp r hn⟩
 | .lst ds, _, _, h, hn => by
  simp only [Rp] at h ⊢
  obtain ⟨hz, a, vs, e, ⟨G, eF, q, r⟩ | ⟨q, r⟩⟩ := h
  ·subst eF
   have h1 : a ≠ p := λ z => hn (by rw [z]; exact Zi)
   exact ⟨hz, a, vs, e, .inl ⟨G, rfl, by rw [QE h1]; exact q, Rps.upd hp r λ z => hn (Zd _ z)⟩⟩
  ·exact ⟨hz, a, vs, e, .inr ⟨Qqf hp q, Rps.upd hp r hn⟩⟩
theorem Rps.upd {p : Addr} {zs ys : List V} (hp : H p = some (.lst zs)) : ∀ {ds : List D} {vs : List V} {F : List Addr}, Rps K H ds vs F -> p ∉ F -> Rps K (upd H p (.lst ys)) ds vs F
 | [], _, _, h, _ => h
 | d :: ds, _, _, h, hn => by
  simp only [Rps] at h ⊢
  obtain ⟨v, ws, F1, F2, e, eF, r, q⟩ := h
  subst eF
  exact ⟨v, ws, F1, F2, e, rfl, Rp.upd hp r λ z => hn (Zc _ z), Rps.upd hp q λ z => hn (Ze _ z)⟩
end
mutual
theorem Rp.mem : ∀ {d : D} {v : V} {F : List Addr}, Rp K H d v F -> ∀ a ∈ F, ∃ vs, H a = some (.lst vs)
 | .non, _, _, h, a, ha => by simp only [Rp] at h; rw [h.2] at ha; simp at ha
 | .bl _, _, _, h, a, ha => by simp only [Rp] at h; rw [h.2] at ha; simp at ha
 | .int _, _, _, h, a, ha => by simp only [Rp] at h; rw [h.2] at ha; simp at ha
 | .str _, _, _, h, a, ha => by simp only [Rp] at h; rw [h.2] at ha; simp at ha
 | .exc _, _, _, h, a, ha => by simp only [Rp] at h; rw [h.2] at ha; simp at ha
 | .tup ds, _, _, h, a, ha => by
  simp only [Rp] at h
  obtain ⟨_, vs, e, q, r⟩ := h
  exact Rps.mem r a ha
 | .lst ds, _, _, h, a, ha => by
  simp only [Rp] at h
  obtain ⟨_, b, vs, e, ⟨G, eF, q, r⟩ | ⟨q, r⟩⟩ := h
  ·subst eF
   rcases Zm.mp ha with z | z
   ·exact ⟨vs, by rw [z]; exact q⟩
   ·exact Rps.mem r a z
  ·exact Rps.mem r a ha
theorem Rps.mem : ∀ {ds : List D} {vs : List V} {F : List Addr}, Rps K H ds vs F -> ∀ a ∈ F, ∃ vs, H a = some (.lst vs)
 | [], _, _, h, a, ha => by simp only [Rps] at h; rw [h.2] at ha; simp at ha
 | d :: ds, _, _, h, a, ha => by
  simp only [Rps] at h
  obtain ⟨v, ws, F1, F2, e, eF, r, q⟩ := h
  subst eF
  rcases Zn.mp ha with z | z
  ·exact Rp.mem r a z
  ·exact Rps.mem q a z
end
mutual
theorem Rp.QbE : ∀ {d : D} {v : V} {F : List Addr}, Rp K H d v F -> d.flat = true -> F = []
 | .non, _, _, h, _ => by simp only [Rp] at h; exact h.2
 | .bl _, _, _, h, _ => by simp only [Rp] at h; exact h.2
 | .int _, _, _, h, _ => by simp only [Rp] at h; exact h.2
 | .str _, _, _, h, _ => by simp only [Rp] at h; exact h.2
 | .exc _, _, _, h, _ => by simp only [Rp] at h; exact h.2
 | .tup ds, _, _, h, hf => by
  simp only [Rp] at h
  simp only [D.flat] at hf
  obtain ⟨_, vs, e, q, r⟩ := h
  exact Rps.QbE r hf
 | .lst ds, _, _, h, hf => by simp [D.flat] at hf
theorem Rps.QbE : ∀ {ds : List D} {vs : List V} {F : List Addr}, Rps K H ds vs F -> QJ ds = true -> F = []
 | [], _, _, h, _ => by simp only [Rps] at h; exact h.2
 | d :: ds, _, _, h, hf => by
  simp only [Rps] at h
  simp only [QJ, Zf] at hf
  obtain ⟨v, ws, F1, F2, e, eF, r, q⟩ := h
  rw [eF, Rp.QbE r hf.1, Rps.QbE q hf.2]; rfl
end
mutual
theorem Rp.QaB : ∀ {d : D} {v : V} {F : List Addr}, Rp K H d v F -> F.length <= d.nl
 | .non, _, _, h => by simp only [Rp] at h; rw [h.2]; exact ZO _
 | .bl _, _, _, h => by simp only [Rp] at h; rw [h.2]; exact ZO _
 | .int _, _, _, h => by simp only [Rp] at h; rw [h.2]; exact ZO _
 | .str _, _, _, h => by simp only [Rp] at h; rw [h.2]; exact ZO _
 | .exc _, _, _, h => by simp only [Rp] at h; rw [h.2]; exact ZO _
 | .tup ds, _, _, h => by
  simp only [Rp] at h
  obtain ⟨_, vs, e, q, r⟩ := h
  simp only [D.nl]
  exact Rps.QaB r
 | .lst ds, _, _, h => by
  simp only [Rp] at h
  simp only [D.nl]
  obtain ⟨_, b, vs, e, ⟨G, eF, q, r⟩ | ⟨q, r⟩⟩ := h
  ·rw [eF, ZJ]; have := Rps.QaB r; omega
  ·have := Rps.QaB r; omega
theorem Rps.QaB : ∀ {ds : List D} {vs : List V} {F : List Addr}, Rps K H ds vs F -> F.length <= nls ds
 | [], _, _, h => by simp only [Rps] at h; rw [h.2]; exact ZO _
 | d :: ds, _, _, h => by
  simp only [Rps] at h
  obtain ⟨v, ws, F1, F2, e, eF, r, q⟩ := h
  simp only [nls]
  rw [eF, Zl]
  have := Rp.QaB r
  have := Rps.QaB q
  omega
end
theorem Rps.length : ∀ {ds : List D} {vs : List V} {F : List Addr}, Rps K H ds vs F -> ds.length = vs.length
 | [], _, _, h => by simp only [Rps] at h; rw [h.1]; rfl
 | d :: ds, _, _, h => by
  simp only [Rps] at h
  obtain ⟨v, ws, F1, F2, e, eF, r, q⟩ := h
  rw [e, ZJ, ZJ, Rps.length q]
theorem Rps.append : ∀ {ds es : List D} {vs ws : List V} {F G : List Addr}, Rps K H ds vs F -> Rps K H es ws G -> Rps K H (ds ++ es) (vs ++ ws) (F ++ G)
 | [], _, _, _, _, _, h, g => by simp only [Rps] at h; rw [h.1, h.2]; exact g
 | d :: ds, _, _, _, _, _, h, g => by
  simp only [Rps, Zbi] at h ⊢
  obtain ⟨v, ws, F1, F2, e, eF, r, q⟩ := h
  subst e eF
  exact ⟨v, _, F1, _, rfl, by rw [Zaq], r, Rps.append q g⟩
theorem Rps.get : ∀ {ds : List D} {vs : List V} {F : List Addr} {i : Nat} {d : D}, Rps K H ds vs F -> ds[i]? = some d -> ∃ v F1 G F2, vs[i]? = some v /\ F = F1 ++ (G ++ F2) /\ Rp K H d v G /\ (F.length = nls ds -> G.length = d.nl)
 | [], _, _, _, _, _, e => by simp at e
 | d :: ds, _, _, 0, _, h, e => by
  simp only [Rps] at h
  obtain ⟨v, ws, F1, F2, e1, eF, r, q⟩ := h
  simp at e; subst e e1 eF
  refine ⟨v, [], F1, F2, by simp, rfl, r, λ hl => ?_⟩
  simp only [nls, Zl] at hl
  have := Rp.QaB r
  have := Rps.QaB q
  omega
 | d :: ds, _, _, i + 1, _, h, e => by
  simp only [Rps] at h
  obtain ⟨v, ws, F1, F2, e1, eF, r, q⟩ := h
  obtain ⟨v', G1, G, G2, h1, h2, h3, h4⟩ := Rps.get q (i := i) (by simpa using e)
  have l1 := Rp.QaB r
  have l2 := Rps.QaB q
  subst e1 eF
  refine ⟨v', F1 ++ G1, G, G2, by simpa using h1, by rw [h2, Zaq], h3, λ hl => h4 ?_⟩
  simp only [nls, Zl] at hl
  omega
theorem Fix.sq {K : PySem.W.Frag} {H : Hp} {a : Addr} {vs : List V} (h : Fix K H a vs) : SqL K H a vs := by
 rcases h with ⟨o, h⟩ | ⟨its, n, h, hz, r⟩
 ·exact .inl (.inr ⟨o, h⟩)
 ·exact .inr ⟨_, its.toArray, n, h, rfl, rfl, rfl, by rw [Zs, ← r.length]; exact hz, by simpa using r⟩
theorem _root_.L2.Inv.QjG {X : Cx} {pins : List (Addr × Obj)} {σ : L2.St} {H : Hp} {s : Shared} {a : Addr} {vs : List V} (I : Inv X pins σ H s) (h : H a = some (.lst vs) ∨ Fix X.K H a vs) :
  vs.length <= sizeLine /\ ∃ (its : List Value) (n : Nat), Qq vs its /\ vs.length = its.length /\ s.heap.get? a = some { cls := .type "list", data := .seq its.toArray n } := by
 rcases h with h | ⟨o, h⟩ | ⟨its, n, h, hz, r⟩
 ·exact I.Qo7 h
 ·obtain ⟨e, hz, its, n, r, e2⟩ := I.hok a _ h
  exact ⟨hz, its, n, r, r.length, e2⟩
 ·exact ⟨hz, its, n, r, r.length, I.kIn _ _ h⟩
theorem Rp.lst_inv {K : PySem.W.Frag} {H : Hp} {ds : List D} {v : V} {F : List Addr} (h : Rp K H (.lst ds) v F) :
  ∃ a vs G, v = .ref a /\ (H a = some (.lst vs) ∨ Fix K H a vs) /\ Rps K H ds vs G /\ ds.length <= sizeLine /\ (F = a :: G ∨ F = G) := by
 simp only [Rp] at h
 obtain ⟨hz, a, vs, e, ⟨G, eF, q, r⟩ | ⟨q, r⟩⟩ := h
 ·exact ⟨a, vs, G, e, .inl q, r, hz, .inl eF⟩
 ·exact ⟨a, vs, F, e, .inr q, r, hz, .inr rfl⟩
theorem Q1 {K : PySem.W.Frag} {H : Hp} {a : Addr} {vs : List V} (h : H a = some (.lst vs) ∨ Fix K H a vs) : SqL K H a vs := h.elim (λ h => SqL.of h) Fix.sq
theorem Rp.QaU {K : PySem.W.Frag} {H : Hp} {ds : List D} {v : V} {F : List Addr} (h : Rp K H (.tup ds) v F) : ∃ a vs, v = .ref a /\ SqT K H a vs /\ Rps K H ds vs F := by
 simp only [Rp] at h
 exact h
theorem Rp.QeV {K : PySem.W.Frag} {H : Hp} {ds : List D} {a : Addr} {vs : List V} {G : List Addr} (h : H a = some (.lst vs)) (r : Rps K H ds vs G) (hz : ds.length <= sizeLine) : Rp K H (.lst ds) (.ref a) (a :: G) := by
 simp only [Rp]
 exact ⟨hz, a, vs, rfl, .inl ⟨G, rfl, h, r⟩⟩
theorem Rp.QjZ {K : PySem.W.Frag} {H : Hp} {ds : List D} {a : Addr} {vs : List V} {G : List Addr} (h : H a = some (.tup vs)) (r : Rps K H ds vs G) : Rp K H (.tup ds) (.ref a) G := by
 simp only [Rp]
 exact ⟨a, vs, rfl, SqT.of h, r⟩
theorem Rp.int_inv {K : PySem.W.Frag} {H : Hp} {i : Int} {v : V} {F : List Addr} (h : Rp K H (.int i) v F) : v = .int i := by simp only [Rp] at h; exact h.1
theorem Rp.Qcx {K : PySem.W.Frag} {H : Hp} {i : Bool} {v : V} {F : List Addr} (h : Rp K H (.bl i) v F) : v = .bl i := by simp only [Rp] at h; exact h.1
theorem Rp.Qd6 {K : PySem.W.Frag} {H : Hp} {v : V} {F : List Addr} (h : Rp K H .non v F) : v = .non := by simp only [Rp] at h; exact h.1
theorem Rp.str_inv {K : PySem.W.Frag} {H : Hp} {i : Str} {v : V} {F : List Addr} (h : Rp K H (.str i) v F) : v = .str i := by simp only [Rp] at h; exact h.1
theorem Rp.int_mk {K : PySem.W.Frag} {H : Hp} {i : Int} : Rp K H (.int i) (.int i) [] := by simp [Rp]
theorem Rp.Qbl {K : PySem.W.Frag} {H : Hp} {i : Bool} : Rp K H (.bl i) (.bl i) [] := by simp [Rp]
theorem Rp.Qed {K : PySem.W.Frag} {H : Hp} : Rp K H .non .non [] := by simp [Rp]
theorem Rp.str_mk {K : PySem.W.Frag} {H : Hp} {i : Str} : Rp K H (.str i) (.str i) [] := by simp [Rp]
theorem Qcw {H : Hp} {p : Addr} {o : HO} (h : H p = none) : QD H (L2.upd H p o) := λ b u e => by rw [QE (Qby e h)]; exact e
end
end HS
namespace HS
open PySem PySem.Spec L2
noncomputable abbrev En := List (Option (D × Bool))
structure R where
 d : D
 fr : Bool
 M : List Nat
structure RA where
 ds : List D
 fr : Bool
 M : List Nat
noncomputable abbrev DE := En -> Option R
noncomputable abbrev DA := En -> Option RA
noncomputable abbrev DT := En -> Option Bool
structure Rel (K : PySem.W.Frag) (H0 : Hp) (A0 : List Addr) (hs : List (V × D × List Addr)) (ρ : En) (F : Nat -> List Addr) (σ : St) (H : Hp) : Prop where
 len : ρ.length = σ.length
 val : ∀ (i : Nat) d b, ρ[i]? = some (some (d, b)) -> ∃ v, σ[i]? = some (some v) /\ Rp K H d v (F i)
 own : ∀ (i : Nat) d, ρ[i]? = some (some (d, true)) -> (F i).length = d.nl /\ (F i).Nodup /\ (∀ a ∈ F i, H0 a = none) /\ (∀ (j : Nat) d' b', j ≠ i -> ρ[j]? = some (some (d', b')) -> ∀ a ∈ F i, a ∉ F j) /\ ∀ t ∈ hs, ∀ a ∈ F i, a ∉ t.2.2
 src : ∀ (i : Nat) d b, ρ[i]? = some (some (d, b)) -> ∀ a ∈ F i, H0 a = none ∨ a ∈ A0
 held : ∀ t ∈ hs, Rp K H t.2.1 t.1 t.2.2 /\ ∀ a ∈ t.2.2, H0 a = none ∨ a ∈ A0
 same : QD H0 H
def Src (ρ : En) (F : Nat -> List Addr) (H : Hp) (M : List Nat) (G : List Addr) : Prop :=
 ∀ a ∈ G, H a = none ∨ ∃ (i : Nat) (d : D) (b : Bool), ρ[i]? = some (some (d, b)) /\ a ∈ F i /\ (b = true -> i ∈ M)
noncomputable def nw (H : Hp) (a : Addr) : Nat := match H a with | none => 1 | some _ => 0
def Cnt (F : Nat -> List Addr) (H : Hp) (M : List Nat) (G : List Addr) : Prop :=
 ∀ a, G.count a <= nw H a + ((M.map F).flatten).count a
def Qbn (ρ : En) (M : List Nat) : Prop := ∀ i ∈ M, ∃ d, ρ[i]? = some (some (d, true))
structure QX (K : PySem.W.Frag) (ρ : En) (F : Nat -> List Addr) (H H' : Hp) (r : R) (v : V) (G : List Addr) : Prop where
 same : QD H H'
 rp : Rp K H' r.d v G
 src : Src ρ F H r.M G
 cnt : r.fr = true -> Cnt F H r.M G /\ G.length = r.d.nl
 own : Qbn ρ r.M
structure Qmq (K : PySem.W.Frag) (ρ : En) (F : Nat -> List Addr) (H H' : Hp) (r : RA) (vs : List V) (G : List Addr) : Prop where
 same : QD H H'
 rp : Rps K H' r.ds vs G
 src : Src ρ F H r.M G
 cnt : r.fr = true -> Cnt F H r.M G /\ G.length = nls r.ds
 own : Qbn ρ r.M
noncomputable def tV (K : PySem.W.Frag) (H0 : Hp) (A0 : List Addr) (f : DE) : TE := λ σ H Q => ∃ ρ hs F r, Rel K H0 A0 hs ρ F σ H /\ f ρ = some r /\ ∀ v H' G, QX K ρ F H H' r v G -> Q v H'
noncomputable def tVA (K : PySem.W.Frag) (H0 : Hp) (A0 : List Addr) (f : DA) : TA := λ σ H Q => ∃ ρ hs F r, Rel K H0 A0 hs ρ F σ H /\ f ρ = some r /\ ∀ v H' G, Qmq K ρ F H H' r v G -> Q v H'
noncomputable def tVT (K : PySem.W.Frag) (H0 : Hp) (A0 : List Addr) (f : DT) : TT := λ σ H Q => ∃ ρ hs F b, Rel K H0 A0 hs ρ F σ H /\ f ρ = some b /\ ∀ H', QD H H' -> Q b H'
def SE (X : Cx) (e : Expr) (f : DE) : Prop := ∀ H0 A0, PE X e (tV X.K H0 A0 f)
def SA (X : Cx) (es : List Expr) (f : DA) : Prop := ∀ H0 A0, PA X es (tVA X.K H0 A0 f)
def ST (X : Cx) (e : Expr) (f : DT) : Prop := ∀ H0 A0, PT X e (tVT X.K H0 A0 f)
theorem _root_.L2.PE.mono {X : Cx} {e : Expr} {t t' : TE} (h : PE X e t) (m : ∀ σ H Q, t' σ H Q -> t σ H Q) : PE X e t' := λ pins s σ H Q I q => h pins s σ H Q I (m σ H Q q)
theorem _root_.L2.PT.mono {X : Cx} {e : Expr} {t t' : TT} (h : PT X e t) (m : ∀ σ H Q, t' σ H Q -> t σ H Q) : PT X e t' := λ pins s σ H Q I q => h pins s σ H Q I (m σ H Q q)
theorem _root_.L2.PA.mono {X : Cx} {e : List Expr} {t t' : TA} (h : PA X e t) (m : ∀ σ H Q, t' σ H Q -> t σ H Q) : PA X e t' := λ pos pins s σ H Q I q => h pos pins s σ H Q I (m σ H Q q)
section
variable {K : PySem.W.Frag} {H0 H H' : Hp} {A0 : List Addr} {hs : List (V × D × List Addr)} {ρ : En} {F : Nat -> List Addr} {σ : St}
theorem Rel.ext (r : Rel K H0 A0 hs ρ F σ H) (s : QD H H') : Rel K H0 A0 hs ρ F σ H' where
 len := r.len
 val := λ i d b e => let ⟨v, h1, h2⟩ := r.val i d b e; ⟨v, h1, h2.same s⟩
 own := r.own
 src := r.src
 held := λ t ht => ⟨(r.held t ht).1.same s, (r.held t ht).2⟩
 same := r.same.trans s
theorem Rel.mem (r : Rel K H0 A0 hs ρ F σ H) {i : Nat} {d : D} {b : Bool} (e : ρ[i]? = some (some (d, b))) {a : Addr} (h : a ∈ F i) : ∃ vs, H a = some (.lst vs) :=
 let ⟨_, _, h2⟩ := r.val i d b e; h2.mem a h
theorem Qdh {a : Addr} {o : HO} (h : H a = some o) : nw H a = 0 := by simp [nw, h]
theorem Qa7 {a : Addr} (h : H a = none) : nw H a = 1 := by simp [nw, h]
theorem Rel.fl0 (r : Rel K H0 A0 hs ρ F σ H) {M : List Nat} (ow : Qbn ρ M) {a : Addr} (h : H a = none) : ((M.map F).flatten).count a = 0 := by
 rw [ZL]
 intro hm
 obtain ⟨l, hl, ha⟩ := ZaN.mp hm
 obtain ⟨i, hi, rfl⟩ := ZE.mp hl
 obtain ⟨d, e⟩ := ow i hi
 obtain ⟨vs, q⟩ := r.mem e ha
 rw [h] at q; cases q
theorem Cnt.append (r : Rel K H0 A0 hs ρ F σ H) {H1 : Hp} {M1 M2 : List Nat} {G1 G2 : List Addr} (c1 : Cnt F H M1 G1) (c2 : Cnt F H1 M2 G2) (s : QD H H1) (m1 : ∀ a ∈ G1, ∃ vs, H1 a = some (.lst vs)) : Cnt F H (M1 ++ M2) (G1 ++ G2) := λ a => by
 rw [Zaa, Zv, List.flatten_append, Zaa]
 have h1 := c1 a
 have h2 := c2 a
 cases q : H1 a with
 | some o => rw [Qdh q] at h2; omega
 | none =>
  rw [Qa7 q] at h2
  have h3 : H a = none := s.free q
  rw [Qa7 h3] at h1 ⊢
  have h4 : G1.count a = 0 := ZL.mpr λ hm => by obtain ⟨vs, z⟩ := m1 a hm; rw [q] at z; cases z
  omega
theorem Src.append {H1 : Hp} {M1 M2 : List Nat} {G1 G2 : List Addr} (c1 : Src ρ F H M1 G1) (c2 : Src ρ F H1 M2 G2) (s : QD H H1) : Src ρ F H (M1 ++ M2) (G1 ++ G2) := λ a ha => by
 rcases Zn.mp ha with h | h
 ·rcases c1 a h with z | ⟨i, d, b, e, m, w⟩
  ·exact .inl z
  ·exact .inr ⟨i, d, b, e, m, λ hb => Zc _ (w hb)⟩
 ·rcases c2 a h with z | ⟨i, d, b, e, m, w⟩
  ·exact .inl (s.free z)
  ·exact .inr ⟨i, d, b, e, m, λ hb => Ze _ (w hb)⟩
theorem Qbn.append {M1 M2 : List Nat} (h1 : Qbn ρ M1) (h2 : Qbn ρ M2) : Qbn ρ (M1 ++ M2) := λ i hi => (Zn.mp hi).elim (h1 i) (h2 i)
theorem Qbn.nil : Qbn ρ [] := λ i hi => by simp at hi
theorem Src.nil {M : List Nat} : Src ρ F H M [] := λ a ha => by simp at ha
theorem Cnt.nil {M : List Nat} : Cnt F H M [] := λ a => by simp
theorem QX.flat {d : D} {v : V} (s : QD H H') (r : Rp K H' d v []) (hf : d.flat = true := by rfl) : QX K ρ F H H' ⟨d, true, []⟩ v [] := ⟨s, r, Src.nil, λ _ => ⟨Cnt.nil, (Qdj d hf).symm⟩, Qbn.nil⟩
theorem QX.sub {r : R} {v u : V} {d : D} {G G' : List Addr} {H1 : Hp} (p : QX K ρ F H H1 r v G) (rp : Rp K H1 d u G') (hs : ∀ a, G'.count a <= G.count a) (hn : G.length = r.d.nl -> G'.length = d.nl) : QX K ρ F H H1 ⟨d, r.fr, r.M⟩ u G' where
 same := p.same
 rp := rp
 src := λ a ha => p.src a (by
  have := hs a
  have h1 : 0 < G'.count a := Zag.mpr ha
  exact Zag.mp (by omega))
 cnt := λ h => ⟨λ a => ZA (hs a) ((p.cnt h).1 a), hn (p.cnt h).2⟩
 own := p.own
noncomputable def R.norm (r : R) : R := if r.d.flat then ⟨r.d, true, []⟩ else r
theorem R.QcY (r : R) : r.norm.d = r.d := by unfold R.norm; split <;> rfl
theorem QX.norm {r : R} {v : V} {G : List Addr} (p : QX K ρ F H H' r v G) : QX K ρ F H H' r.norm v G := by
 unfold R.norm
 split
 ·rename_i h
  have := p.rp.QbE h
  subst this
  exact .flat p.same p.rp h
 ·exact p
end
noncomputable def Qa (i : Nat) : DE := λ ρ => match ρ[i]? with
 | some (some (d, b)) => if d.flat then some ⟨d, true, []⟩ else if b then some ⟨d, true, [i]⟩ else some ⟨d, false, []⟩
 | _ => none
noncomputable def dC (d : D) : DE := λ _ => some ⟨d, true, []⟩
section
variable {X : Cx}
theorem Qnm {i : Nat} {x : Str} {pos : Pos} (h : PE X (.Name x pos) (Qmo i)) : SE X (.Name x pos) (Qa i) := λ H0 A0 => h.mono λ σ H Q ⟨ρ, hs, F, r, rel, e, q⟩ => by
 unfold Qa at e
 split at e
 ·rename_i d b q1
  obtain ⟨v, h1, h2⟩ := rel.val i d b q1
  refine ⟨v, h1, q v H (F i) ?_⟩
  split at e
  ·rename_i hf
   cases e
   have := h2.QbE hf
   rw [this] at h2 ⊢
   exact .flat (QD.refl _) h2 hf
  ·split at e
   ·rename_i hb
    cases e
    subst hb
    exact ⟨QD.refl _, h2, λ a ha => .inr ⟨i, d, true, q1, ha, λ _ => by simp⟩, λ _ => ⟨λ a => (by simp), (rel.own i d q1).1⟩, λ j hj => by simp at hj; subst hj; exact ⟨d, q1⟩⟩
   ·rename_i hb
    cases e
    simp at hb
    subst hb
    exact ⟨QD.refl _, h2, λ a ha => .inr ⟨i, d, false, q1, ha, λ z => by cases z⟩, λ z => (by cases z), Qbn.nil⟩
 ·cases e
theorem Qg6 {e : Expr} {d : D} {v : V} (h : PE X e (tC v)) (r : ∀ K H, Rp K H d v []) (hf : d.flat = true) : SE X e (dC d) := λ H0 A0 => h.mono λ σ H Q ⟨ρ, hs, F, r', rel, e, q⟩ => by
 cases e
 exact q v H [] (.flat (QD.refl _) (r _ _) hf)
theorem two {K : PySem.W.Frag} {H0 : Hp} {A0 : List Addr} {fa fb : DE} {σ : St} {H : Hp} {hs : List (V × D × List Addr)} {ρ : En} {F : Nat -> List Addr} {ra rb : R} {Rr : V -> V -> Hp -> Prop} (rel : Rel K H0 A0 hs ρ F σ H) (ea : fa ρ = some ra) (eb : fb ρ = some rb)
  (k : ∀ x y H1 H2 G1 G2, QX K ρ F H H1 ra x G1 -> QX K ρ F H1 H2 rb y G2 -> Rr x y H2) : tV K H0 A0 fa σ H λ x H1 => tV K H0 A0 fb σ H1 λ y H2 => Rr x y H2 :=
 ⟨ρ, hs, F, ra, rel, ea, λ x H1 G1 p1 => ⟨ρ, hs, F, rb, rel.ext p1.same, eb, λ y H2 G2 p2 => k x y H1 H2 G1 G2 p1 p2⟩⟩
noncomputable def dOp (g : D -> D -> Option D) (fa fb : DE) : DE := λ ρ => (fa ρ).bind λ ra => (fb ρ).bind λ rb => (g ra.d rb.d).map λ d => ⟨d, true, []⟩
theorem QiK {g : D -> D -> Option D} {fa fb : DE} {ρ : En} {r : R} (e : dOp g fa fb ρ = some r) : ∃ ra rb d, fa ρ = some ra /\ fb ρ = some rb /\ g ra.d rb.d = some d /\ r = ⟨d, true, []⟩ := by
 unfold dOp at e
 cases h1 : fa ρ with
 | none => rw [h1] at e; cases e
 | some ra =>
  cases h2 : fb ρ with
  | none => rw [h1, h2] at e; cases e
  | some rb =>
   rw [h1, h2] at e
   cases h3 : g ra.d rb.d with
   | none => simp [h3] at e
   | some d => simp [h3] at e; exact ⟨ra, rb, d, rfl, rfl, h3, e.symm⟩
def Qb4 (K : PySem.W.Frag) (g : D -> D -> Option D) (r : R2) : Prop := ∀ a b d, g a b = some d -> d.flat = true /\ ∀ H x y F G (Q : VK), Rp K H a x F -> Rp K H b y G -> (∀ v, (∀ H', Rp K H' d v []) -> Q v H) -> r x y H Q
theorem Qmr {a b : Expr} {op : Operator} {pos : Pos} {fa fb : DE} {g : D -> D -> Option D} {r : R2} (ho : OpR X (binaryOp op) r) (hg : Qb4 X.K g r) (ha : SE X a fa) (hb : SE X b fb) : SE X (.BinOp a op b pos) (dOp g fa fb) := λ H0 A0 =>
 (Qmv ho (ha H0 A0) (hb H0 A0)).mono λ σ H Q ⟨ρ, hs, F, r', rel, e, q⟩ => by
  obtain ⟨ra, rb, d, ea, eb, eg, rfl⟩ := QiK e
  refine two rel ea eb λ x y H1 H2 G1 G2 p1 p2 => (hg _ _ _ eg).2 H2 x y G1 G2 Q (p1.rp.same p2.same) p2.rp λ v hv => ?_
  exact q v H2 [] (.flat (p1.same.trans p2.same) (hv H2) (hg _ _ _ eg).1)
theorem QjD {a b : Expr} {op : CmpOp} {pos : Pos} {fa fb : DE} {g : D -> D -> Option D} {r : R2} (ho : OpR X (compareOp op) r) (hg : Qb4 X.K g r) (ha : SE X a fa) (hb : SE X b fb) (hm : behindInMarks op b = false) : SE X (.Compare a [op] [b] pos) (dOp g fa fb) := λ H0 A0 =>
 (Qqa ho (ha H0 A0) (hb H0 A0) hm).mono λ σ H Q ⟨ρ, hs, F, r', rel, e, q⟩ => by
  obtain ⟨ra, rb, d, ea, eb, eg, rfl⟩ := QiK e
  refine two rel ea eb λ x y H1 H2 G1 G2 p1 p2 => (hg _ _ _ eg).2 H2 x y G1 G2 Q (p1.rp.same p2.same) p2.rp λ v hv => ?_
  exact q v H2 [] (.flat (p1.same.trans p2.same) (hv H2) (hg _ _ _ eg).1)
end
end HS
namespace HS
open PySem PySem.Spec L2
noncomputable def Qf2 (i j : Int) : Int := if 0 <= j then i / j else i.fdiv j
noncomputable def QfQ (i j : Int) : Int := if 0 <= j then i % j else i.fmod j
theorem QqU (i j : Int) : Qf2 i j = i.fdiv j := by
 unfold Qf2; split
 ·rw [Int.fdiv_eq_ediv_of_nonneg _ (by assumption)]
 ·rfl
theorem Qrs (i j : Int) : QfQ i j = i.fmod j := by
 unfold QfQ; split
 ·rw [Int.fmod_eq_emod_of_nonneg _ (by assumption)]
 ·rfl
noncomputable def Qd0 (i j : Int) : Bool := decide (i.natAbs < 2 ^ 64) || decide (j.natAbs < 2 ^ 64) || (decide (Builtin.Int.intBits i <= 2 ^ 20) && decide (Builtin.Int.intBits j <= 2 ^ 20))
noncomputable def Qfk (j : Int) : Bool := decide (j ≠ 0) && decide (j.natAbs < 2 ^ 8000)
noncomputable def gI (f : Int -> Int -> Option D) (a b : D) : Option D := match a, b with
 | .int i, .int j => f i j
 | _, _ => none
noncomputable def QbA := gI λ i j => some (.int (i - j))
noncomputable def Qct := gI λ i j => if Qfk j then some (.int (Qf2 i j)) else none
noncomputable def QK := gI λ i j => if j ≠ 0 then some (.int (QfQ i j)) else none
noncomputable def gLt := gI λ i j => some (.bl (decide (i < j)))
noncomputable def gLe := gI λ i j => some (.bl (decide (i <= j)))
noncomputable def gGt := gI λ i j => some (.bl (decide (j < i)))
noncomputable def gGe := gI λ i j => some (.bl (decide (j <= i)))
theorem Qng {f : Int -> Int -> Option D} {a b d : D} (h : gI f a b = some d) : ∃ i j, a = .int i /\ b = .int j /\ f i j = some d := by
 unfold gI at h
 split at h
 ·exact ⟨_, _, rfl, rfl, h⟩
 ·cases h
section
variable {K : PySem.W.Frag} {X : Cx}
theorem Qf6 {f : Int -> Int -> Option D} {r : R2} (hf : ∀ i j d, f i j = some d -> d.flat = true) (h : ∀ i j d, f i j = some d -> ∀ H (Q : VK), (∀ v, (∀ H', Rp K H' d v []) -> Q v H) -> r (.int i) (.int j) H Q) : Qb4 K (gI f) r := λ a b d e => by
 obtain ⟨i, j, rfl, rfl, ef⟩ := Qng e
 refine ⟨hf i j d ef, λ H x y F G Q ha hb q => ?_⟩
 rw [ha.int_inv, hb.int_inv]
 exact h i j d ef H Q q
theorem Qm1 : Qb4 K QbA (rI0 λ i j => .int (i - j)) := Qf6 (λ i j d e => by cases e; rfl) λ i j d e H Q q => by cases e; exact ⟨i, j, rfl, rfl, q _ λ _ => .int_mk⟩
theorem Qps {i j : Int} (h : Qd0 i j = true) : IntMulOk i j := by
 have small : ∀ k : Int, k.natAbs < 2 ^ 64 -> Builtin.Int.intBits k <= 64 := λ k hk => by
  unfold Builtin.Int.intBits
  split
  ·omega
  ·rename_i h0; have h0' : k.natAbs ≠ 0 := λ z => by simp_all
   have := (Nat.log2_lt h0').mpr hk; omega
 unfold Qd0 at h
 simp only [Zby, Zf, decide_eq_true_eq] at h
 rcases h with (h | h) | ⟨h1, h2⟩
 ·exact .of_left (small i h)
 ·exact .of_right (small j h)
 ·exact .of_bits h1 h2
theorem Qp6 : OpR X (binaryOp .Mult) (rI (λ i j => Qd0 i j = true) λ i j => .int (i * j)) := opI λ _ _ _ _ _ _ _ hc q => PyProof.Rows.mul_int q (Qps hc)
theorem QqI : OpR X (binaryOp .FloorDiv) (rI (λ i j => Qfk j = true) λ i j => .int (Qf2 i j)) := opI λ i j _ _ _ _ _ hc q => by
 unfold Qfk at hc
 simp only [Zf, decide_eq_true_eq] at hc
 rw [QqU] at q
 refine PyProof.Rows.floordiv_int hc.1 q (.inl (PyProof.noPylong_of_log2 ?_))
 have h0 : j.natAbs ≠ 0 := by omega
 exact Nat.lt_trans ((Nat.log2_lt h0).mpr hc.2) (by decide)
theorem QqK : OpR X (binaryOp .Mod) (rI (λ i j => j ≠ 0) λ i j => .int (QfQ i j)) := opI λ i j _ _ _ _ _ hc q => by
 rw [Qrs] at q
 exact PyProof.Rows.mod_int' hc q
theorem Qsg : Qb4 K Qct (rI (λ i j => Qfk j = true) λ i j => .int (Qf2 i j)) := Qf6 (λ i j d e => by split at e <;> cases e; rfl) λ i j d e H Q q => by
 split at e
 ·cases e; exact ⟨i, j, rfl, rfl, by assumption, q _ λ _ => .int_mk⟩
 ·cases e
theorem QrT : Qb4 K QK (rI (λ i j => j ≠ 0) λ i j => .int (QfQ i j)) := Qf6 (λ i j d e => by split at e <;> cases e; rfl) λ i j d e H Q q => by
 split at e
 ·cases e; exact ⟨i, j, rfl, rfl, by assumption, q _ λ _ => .int_mk⟩
 ·cases e
theorem Qub : Qb4 K gLt (rI0 λ i j => .bl (decide (i < j))) := Qf6 (λ i j d e => by cases e; rfl) λ i j d e H Q q => by cases e; exact ⟨i, j, rfl, rfl, q _ λ _ => .Qbl⟩
theorem Qtw : Qb4 K gLe (rI0 λ i j => .bl (decide (i <= j))) := Qf6 (λ i j d e => by cases e; rfl) λ i j d e H Q q => by cases e; exact ⟨i, j, rfl, rfl, q _ λ _ => .Qbl⟩
theorem Qtv : Qb4 K gGt (rI0 λ i j => .bl (decide (j < i))) := Qf6 (λ i j d e => by cases e; rfl) λ i j d e H Q q => by cases e; exact ⟨i, j, rfl, rfl, q _ λ _ => .Qbl⟩
theorem QtJ : Qb4 K gGe (rI0 λ i j => .bl (decide (j <= i))) := Qf6 (λ i j d e => by cases e; rfl) λ i j d e H Q q => by cases e; exact ⟨i, j, rfl, rfl, q _ λ _ => .Qbl⟩
end
theorem Qeq : ∀ (xs ys : List D), QJ (xs ++ ys) = (QJ xs && QJ ys)
 | [], ys => by simp [QJ]
 | x :: xs, ys => by simp [QJ, Qeq xs ys, Bool.and_assoc]
noncomputable def Qau (ds : List D) (M : List Nat) : R := if QJ ds then ⟨.lst ds, true, []⟩ else ⟨.lst ds, false, M⟩
section
variable {K : PySem.W.Frag} {H0 H H' : Hp} {A0 : List Addr} {hs : List (V × D × List Addr)} {ρ : En} {F : Nat -> List Addr} {σ : L2.St}
theorem QX.Qau {ds : List D} {M : List Nat} {vs : List V} {G : List Addr} {H1 : Hp} {p : Addr} (s : QD H H1) (hp : H1 p = none) (r : Rps K H1 ds vs G) (hz : ds.length <= sizeLine) (src : Src ρ F H M G) (ow : Qbn ρ M) :
  QX K ρ F H (upd H1 p (.lst vs)) (Qau ds M) (.ref p) (p :: G) := by
 have s2 : QD H1 (upd H1 p (.lst vs)) := Qcw hp
 have rp : Rp K (upd H1 p (.lst vs)) (.lst ds) (.ref p) (p :: G) := Rp.QeV Qar (r.same s2) hz
 have hH : H p = none := s.free hp
 unfold HS.Qau
 split
 ·rename_i hf
  have := r.QbE hf
  subst this
  refine ⟨s.trans s2, rp, λ a ha => ?_, λ _ => ⟨λ a => ?_, by simp only [D.nl, Qhe ds hf]; rfl⟩, Qbn.nil⟩
  ·have : a = p := by simpa using ha
   subst this; exact .inl hH
  ·rw [List.count_singleton]
   split
   ·rename_i e; have e' : p = a := by simpa using e
    subst e'; rw [Qa7 hH]; omega
   ·omega
 ·refine ⟨s.trans s2, rp, λ a ha => ?_, λ z => (by cases z), ow⟩
  rcases Zm.mp ha with rfl | h
  ·exact .inl hH
  ·exact src a h
end
noncomputable def Qu (fa fb : DE) : DE := λ ρ => (fa ρ).bind λ ra => (fb ρ).bind λ rb => match ra.d, rb.d with
 | .int i, .int j => some ⟨.int (i + j), true, []⟩
 | .lst xs, .lst ys => if xs.length + ys.length <= sizeLine then some (Qau (xs ++ ys) (ra.M ++ rb.M)) else none
 | _, _ => none
noncomputable def Qai (fa fb : DE) : DE := λ ρ => (fa ρ).bind λ ra => (fb ρ).bind λ rb => match ra.d, rb.d with
 | .int i, .int j => if Qd0 i j then some ⟨.int (i * j), true, []⟩ else none
 | .lst xs, .int j => if xs.length * j.toNat <= sizeLine /\ -(2 ^ 63) <= j /\ j < 2 ^ 63 /\ QJ xs = true then some ⟨.lst (List.replicate j.toNat xs).flatten, true, []⟩ else none
 | _, _ => none
theorem Qmh {fa fb : DE} {ρ : En} {k : R -> R -> Option R} {r : R} (e : ((fa ρ).bind λ ra => (fb ρ).bind λ rb => k ra rb) = some r) : ∃ ra rb, fa ρ = some ra /\ fb ρ = some rb /\ k ra rb = some r := by
 cases h1 : fa ρ with
 | none => rw [h1] at e; cases e
 | some ra =>
  cases h2 : fb ρ with
  | none => rw [h1, h2] at e; cases e
  | some rb => rw [h1, h2] at e; exact ⟨ra, rb, rfl, rfl, e⟩
theorem bind1 {α β : Type} {x : Option α} {k : α -> Option β} {r : β} (e : x.bind k = some r) : ∃ a, x = some a /\ k a = some r := by
 cases x with
 | none => cases e
 | some a => exact ⟨a, rfl, e⟩
section
variable {X : Cx} {a b : Expr} {fa fb : DE} {pos : Pos}
noncomputable def QtB (K : PySem.W.Frag) : R2 := λ x y H Q => ∃ l c xs zs, x = .ref l /\ y = .ref c /\ (H l = some (.lst xs) ∨ Fix K H l xs) /\ (H c = some (.lst zs) ∨ Fix K H c zs) /\ xs.length + zs.length <= sizeLine /\ ∀ p, H p = none -> Q (.ref p) (upd H p (.lst (xs ++ zs)))
theorem Qrm : OpR X (binaryOp .Add) (QtB X.K) := by
 intro pins s σ H x y v u Q I rx ry h
 obtain ⟨l, c, xs, zs, rfl, rfl, hH, hB, hz, q⟩ := h
 cases rx
 cases ry
 obtain ⟨z, its, n, r, hl, e⟩ := I.QjG hH
 obtain ⟨z2, its2, n2, r2, hl2, e2⟩ := I.QjG hB
 refine PySem.P.add_list e e2 ?_ (by rw [Zs, Zs]; omega)
 have ea : its.toArray ++ its2.toArray = (its ++ its2).toArray := by simp
 rw [ea]
 exact ⟨.ref _, _, I.QsQ (t' := s.toks) (r.append r2) (by rw [Zl]; omega), rfl, q _ I.fresh⟩
theorem Qsb (ha : SE X a fa) (hb : SE X b fb) : SE X (.BinOp a .Add b pos) (Qu fa fb) := λ H0 A0 =>
 (Qmv (Qsz.or Qrm) (ha H0 A0) (hb H0 A0)).mono λ σ H Q ⟨ρ, hs, F, r', rel, e, q⟩ => by
  obtain ⟨ra, rb, ea, eb, ek⟩ := Qmh e
  refine two rel ea eb λ x y H1 H2 G1 G2 p1 p2 => ?_
  have p1' := p1.rp.same p2.same
  have p2' := p2.rp
  have c1 := p1.src.append p2.src p1.same
  have o1 := p1.own.append p2.own
  revert ek
  revert p1' p2'
  cases ra.d <;> cases rb.d <;> intro p1' p2' ek <;> first | (cases ek; done) | skip
  ·cases ek
   rw [p1'.int_inv, p2'.int_inv]
   exact .inl ⟨_, _, rfl, rfl, q _ H2 [] (.flat (p1.same.trans p2.same) .int_mk)⟩
  ·rename_i xs ys
   dsimp only at ek
   split at ek
   ·rename_i hz
    cases ek
    obtain ⟨l, vs, L1, rfl, hl, rl, zl, el⟩ := p1'.lst_inv
    obtain ⟨c, ws, L2', rfl, hc, rc, zc, ec⟩ := p2'.lst_inv
    have n1 := rl.length
    have n2 := rc.length
    refine .inr ⟨l, c, vs, ws, rfl, rfl, hl, hc, by omega, λ p hp => ?_⟩
    refine q _ _ (p :: (L1 ++ L2')) (QX.Qau (p1.same.trans p2.same) hp (rl.append rc) (by rw [Zl]; exact hz) (λ a ha => c1 a ?_) o1)
    rcases Zn.mp ha with h | h
    ·refine Zc _ ?_
     rcases el with rfl | rfl
     ·exact Zd _ h
     ·exact h
    ·refine Ze _ ?_
     rcases ec with rfl | rfl
     ·exact Zd _ h
     ·exact h
   ·cases ek
noncomputable def QtQ (K : PySem.W.Frag) : R2 := λ x y H Q => ∃ l k xs, x = .ref l /\ y = .int k /\ (H l = some (.lst xs) ∨ Fix K H l xs) /\ -(2 ^ 63) <= k /\ k < 2 ^ 63 /\ xs.length * k.toNat <= sizeLine ∧
 ∀ p, H p = none -> Q (.ref p) (upd H p (.lst (List.replicate k.toNat xs).flatten))
theorem Qqj : OpR X (binaryOp .Mult) (QtQ X.K) := by
 intro pins s σ H x y v u Q I rx ry h
 obtain ⟨l, k, xs, rfl, rfl, hH, h1, h2, hz, q⟩ := h
 cases rx
 obtain ⟨t, rfl⟩ := ry
 obtain ⟨z, its, n, r, hl, e⟩ := I.QjG hH
 have hlen : its.toArray.size * k.toNat <= sizeLine := by rw [Zs, ← hl]; exact hz
 have hcap : ¬ its.toArray.size * k.toNat > (2 ^ 63 - 1) / 8 := by
  have : (sizeLine : Nat) <= (2 ^ 63 - 1) / 8 := by decide
  omega
 have hfit : ¬ (!Builtin.List.listFitsIndex k) = true := by
  rw [fitsIndex_both h1 h2]
  exact ZK
 have hlong : ¬ Builtin.List.listTooLong (its.toArray.size * k.toNat) = true := by
  rw [QoG hlen]
  exact ZK
 have hnew : List.foldl (λ x1 x2 => x1 ++ x2) #[] (List.replicate (if its.toArray.isEmpty = true then 0 else k.toNat) its.toArray) = (List.replicate k.toNat its).flatten.toArray := by
  have f0 : ∀ m : Nat, List.foldl (λ x1 x2 => x1 ++ x2) #[] (List.replicate m its.toArray) = (List.replicate m its).flatten.toArray := λ m => by
   have := foldl_rep its m []
   rw [List.nil_append] at this
   exact this
  rw [f0]
  cases its with
  | nil => simp
  | cons a r' => rw [if_neg (by simp)]
 open PyProof.Rows in
 refine wpAny_binaryOp_repeat_ref (T := "list") (U := "int") (by decide) ⟨_, e, rfl⟩ (λ s' => typeIs_int s' k t) noFill_list_mul F.fills_int_mul F.slot_int_rmul repeat_list F.slot_int_index.lookup
  (call_meets F.slot_int_rmul (typeIs_int s k t) F.entry_int_rmul (F.args_int_rmul_2 _ _) (int___rmul___int_list k t l its.toArray n)
   ⟨e, rfl, ⟨_, e, rfl⟩, call_meets F.slot_list_mul ⟨_, e, rfl⟩ F.entry_list_mul (F.args_list_mul_2 _ _) (AutoListH.list___mul___list_int_3 l its.toArray n k t hfit hcap hlong) ⟨e, ?_⟩⟩)
 rw [hnew]
 exact ⟨.ref _, _, I.QsQ (t' := s.toks) (r.rep k.toNat) (by rw [len_rep, Nat.mul_comm]; exact hz), rfl, q _ I.fresh⟩
theorem Qjg {xs : List D} (h : QJ xs = true) : ∀ n : Nat, QJ (List.replicate n xs).flatten = true
 | 0 => by simp [QJ]
 | n + 1 => by rw [ZP, ZZ, Qeq, h, Qjg h n]; rfl
theorem Rps.rep {K : PySem.W.Frag} {H : Hp} {ds : List D} {vs : List V} (h : Rps K H ds vs []) : ∀ n : Nat, Rps K H (List.replicate n ds).flatten (List.replicate n vs).flatten []
 | 0 => by simp [Rps]
 | n + 1 => by rw [ZP, ZZ, ZP, ZZ]; exact h.append (Rps.rep h n)
theorem Qr5 (ha : SE X a fa) (hb : SE X b fb) : SE X (.BinOp a .Mult b pos) (Qai fa fb) := λ H0 A0 =>
 (Qmv (Qp6.or Qqj) (ha H0 A0) (hb H0 A0)).mono λ σ H Q ⟨ρ, hs, F, r', rel, e, q⟩ => by
  obtain ⟨ra, rb, ea, eb, ek⟩ := Qmh e
  refine two rel ea eb λ x y H1 H2 G1 G2 p1 p2 => ?_
  have p1' := p1.rp.same p2.same
  have p2' := p2.rp
  revert ek
  revert p1' p2'
  cases ra.d <;> cases rb.d <;> intro p1' p2' ek <;> first | (cases ek; done) | skip
  ·dsimp only at ek
   split at ek
   ·rename_i hm
    cases ek
    rw [p1'.int_inv, p2'.int_inv]
    exact .inl ⟨_, _, rfl, rfl, hm, q _ H2 [] (.flat (p1.same.trans p2.same) .int_mk)⟩
   ·cases ek
  ·rename_i xs j
   dsimp only at ek
   split at ek
   ·rename_i hz
    cases ek
    obtain ⟨hz1, hz2, hz3, hf⟩ := hz
    obtain ⟨l, vs, L1, rfl, hl, rl, zl, el⟩ := p1'.lst_inv
    have n1 := rl.length
    have e0 := rl.QbE hf
    subst e0
    rw [p2'.int_inv]
    refine .inr ⟨l, j, vs, rfl, rfl, hl, hz2, hz3, by rw [← n1]; exact hz1, λ p hp => ?_⟩
    have w : HS.Qau (List.replicate j.toNat xs).flatten [] = ⟨.lst (List.replicate j.toNat xs).flatten, true, []⟩ := by
     unfold HS.Qau; rw [if_pos (Qjg hf _)]
    rw [← w] at q
    exact q _ _ (p :: []) (QX.Qau (p1.same.trans p2.same) hp (rl.rep _) (by rw [len_rep, Nat.mul_comm]; exact hz1) Src.nil Qbn.nil)
   ·cases ek
end
end HS
namespace HS
open PySem PySem.Spec L2
noncomputable def Qd : DA := λ _ => some ⟨[], true, []⟩
noncomputable def Qb (fa : DE) (fr : DA) : DA := λ ρ => (fa ρ).bind λ r => (fr ρ).bind λ rs => some ⟨r.d :: rs.ds, r.fr && rs.fr, r.M ++ rs.M⟩
noncomputable def QI (fa : DA) : DE := λ ρ => (fa ρ).bind λ r => if r.ds.length <= 64 then some ⟨.tup r.ds, r.fr, r.M⟩ else none
noncomputable def QH (fa : DA) : DE := λ ρ => (fa ρ).bind λ r => if r.ds.length <= 64 then some ⟨.lst r.ds, r.fr, r.M⟩ else none
section
variable {X : Cx} {a b e : Expr} {es : List Expr} {fa fb : DE} {fs : DA} {pos : Pos}
theorem QhI : SA X [] Qd := λ H0 A0 => QcL.mono λ σ H Q ⟨ρ, hs, F, r', rel, e, q⟩ => by
 cases e
 exact q [] H [] ⟨QD.refl _, by simp [Rps], Src.nil, λ _ => ⟨Cnt.nil, rfl⟩, Qbn.nil⟩
theorem QeY (ha : SE X e fa) (hr : SA X es fs) (hs : starEach (e :: es) X.env = (false, eval e X.env) :: starEach es X.env) : SA X (e :: es) (Qb fa fs) := λ H0 A0 =>
 (QaV (ha H0 A0) (hr H0 A0) hs).mono λ σ H Q ⟨ρ, hs, F, r', rel, e, q⟩ => by
  obtain ⟨r, e1, e⟩ := bind1 e
  obtain ⟨rs, e2, e⟩ := bind1 e
  cases e
  refine ⟨ρ, hs, F, r, rel, e1, λ x H1 G1 p1 => ⟨ρ, hs, F, rs, rel.ext p1.same, e2, λ xs H2 G2 p2 => ?_⟩⟩
  refine q _ H2 (G1 ++ G2) ⟨p1.same.trans p2.same, ?_, p1.src.append p2.src p1.same, λ h => ?_, p1.own.append p2.own⟩
  ·simp only [Rps]
   exact ⟨x, xs, G1, G2, rfl, rfl, p1.rp.same p2.same, p2.rp⟩
  ·simp only [Zf] at h
   exact ⟨(p1.cnt h.1).1.append rel (p2.cnt h.2).1 p1.same p1.rp.mem, by simp only [nls, Zl, (p1.cnt h.1).2, (p2.cnt h.2).2]⟩
theorem QfG {n : Nat} (h : n <= 64) : n <= sizeLine := ZA h (by decide)
theorem Qsa {k : Nat} (ha : SA X es fs) : SE X (.Tuple es k pos) (QI fs) := λ H0 A0 =>
 (Qm5 (ha H0 A0)).mono λ σ H Q ⟨ρ, hs, F, r', rel, e, q⟩ => by
  obtain ⟨r, e1, e⟩ := bind1 e
  split at e
  ·rename_i hz
   cases e
   refine ⟨ρ, hs, F, r, rel, e1, λ xs H1 G p => ⟨by rw [← p.rp.length]; exact QfG hz, λ c hc => q _ _ G ⟨p.same.trans (Qcw hc), Rp.QjZ Qar (p.rp.same (Qcw hc)), p.src, λ h => ⟨(p.cnt h).1, by simp only [D.nl]; exact (p.cnt h).2⟩, p.own⟩⟩⟩
  ·cases e
theorem QnV (ha : SA X es fs) : SE X (.List es pos) (QH fs) := λ H0 A0 =>
 (QsP (ha H0 A0)).mono λ σ H Q ⟨ρ, hs, F, r', rel, e, q⟩ => by
  obtain ⟨r, e1, e⟩ := bind1 e
  split at e
  ·rename_i hz
   cases e
   refine ⟨ρ, hs, F, r, rel, e1, λ xs H1 G p => ⟨by rw [← p.rp.length]; exact QfG hz, λ c hc => ?_⟩⟩
   have hH : H c = none := p.same.free hc
   refine q _ _ (c :: G) ⟨p.same.trans (Qcw hc), Rp.QeV Qar (p.rp.same (Qcw hc)) (QfG hz), λ z hz' => ?_, λ h => ⟨λ z => ?_, by simp only [D.nl, ZJ, (p.cnt h).2]⟩, p.own⟩
   ·rcases Zm.mp hz' with rfl | h
    ·exact .inl hH
    ·exact p.src z h
   ·rw [Zao]
    have := (p.cnt h).1 z
    split
    ·rename_i e'
     have e' : c = z := by simpa using e'
     subst e'
     have h0 : G.count c = 0 := ZL.mpr λ hm => by obtain ⟨vs, w⟩ := p.rp.mem c hm; rw [hc] at w; cases w
     rw [Qa7 hH]; omega
    ·exact this
  ·cases e
noncomputable def D.items : D -> Option (List D)
 | .lst xs => some xs
 | .tup xs => some xs
 | _ => none
noncomputable def Ql (fa fb : DE) : DE := λ ρ => (fa ρ).bind λ ra => (fb ρ).bind λ rb => match rb.d with
 | .int i => (ra.d.items).bind λ xs => (atI xs i).map λ d => (R.norm ⟨d, ra.fr, ra.M⟩)
 | _ => none
theorem QrK {α β : Type} {xs : List α} {i : Int} {d : α} (h : atI xs i = some d) : ∃ j : Nat, xs[j]? = some d /\ ∀ (ys : List β), ys.length = xs.length -> ∀ y, ys[j]? = some y -> atI ys i = some y := by
 unfold atI at h
 cases e : ixN xs.length i with
 | none => rw [e] at h; cases h
 | some j =>
  rw [e] at h
  refine ⟨j, h, λ ys hl y hy => ?_⟩
  unfold atI
  rw [hl, e]
  exact hy
theorem Qsq (ha : SE X a fa) (hb : SE X b fb) (hs : Qgn b) : SE X (.Subscript a b pos) (Ql fa fb) := λ H0 A0 =>
 (QpL (Qls.or QnE) (ha H0 A0) (hb H0 A0) hs).mono λ σ H Q ⟨ρ, hs, F, r', rel, e, q⟩ => by
  obtain ⟨ra, rb, ea, eb, ek⟩ := Qmh e
  refine two rel ea eb λ x y H1 H2 G1 G2 p1 p2 => ?_
  have p1' := p1.rp.same p2.same
  have p2' := p2.rp
  have pp : QX X.K ρ F H H2 ra x G1 := ⟨p1.same.trans p2.same, p1', p1.src, p1.cnt, p1.own⟩
  cases hb' : rb.d with
  | int i =>
   rw [hb'] at ek p2'
   rw [p2'.int_inv]
   obtain ⟨xs, ex, ek⟩ := bind1 ek
   obtain ⟨d, ed, ek⟩ := Zb.mp ek
   subst ek
   obtain ⟨j, hj, hm⟩ := QrK (β := V) ed
   have fin : ∀ (L : List Addr) (vs : List V), Rps X.K H2 xs vs L -> (∀ z, L.count z <= G1.count z) -> (G1.length = ra.d.nl -> L.length = nls xs) -> ∃ v, atI vs i = some v /\ Q v H2 := λ L vs rl hc hn => by
    obtain ⟨v, F1, G, F2, hv, eF, rv, hx⟩ := rl.get hj
    refine ⟨v, hm vs rl.length.symm v hv, q v H2 G (QX.norm (QX.sub pp rv (λ z => ZA ?_ (hc z)) λ z => hx (hn z)))⟩
    rw [eF, Zaa, Zaa]; omega
   cases hra : ra.d with
   | lst ys =>
    rw [hra] at ex p1'
    cases ex
    obtain ⟨l, vs, L, rfl, hl, rl, zl, el⟩ := p1'.lst_inv
    have hn : G1.length = ra.d.nl -> L.length = nls xs := λ hz => by
     have := rl.QaB
     simp only [hra, D.nl] at hz
     rcases el with rfl | rfl
     ·rw [ZJ] at hz; omega
     ·omega
    have hc : ∀ z, L.count z <= G1.count z := λ z => by
     rcases el with rfl | rfl
     ·rw [Zao]; omega
     ·exact Zj _
    obtain ⟨v, h1, h2⟩ := fin L vs rl hc hn
    exact .inl ⟨l, vs, i, v, rfl, rfl, Q1 hl, h1, h2⟩
   | tup ys =>
    rw [hra] at ex p1'
    cases ex
    obtain ⟨l, vs, rfl, hl, rl⟩ := p1'.QaU
    obtain ⟨v, h1, h2⟩ := fin G1 vs rl (λ z => Zj _) λ z => (by simpa only [hra, D.nl] using z)
    exact .inr ⟨l, vs, i, v, rfl, rfl, hl, h1, h2⟩
   | _ => rw [hra] at ex; cases ex
  | _ => rw [hb'] at ek; cases ek
noncomputable abbrev DO := En -> Option (Option Int)
noncomputable def QbH : DO := λ _ => some none
noncomputable def Qad (f : DE) : DO := λ ρ => (f ρ).bind λ r => match r.d with
 | .int i => some (some i)
 | _ => none
noncomputable def tVO (K : PySem.W.Frag) (H0 : Hp) (A0 : List Addr) (f : DO) : TO := λ σ H Q => ∃ ρ hs F o, Rel K H0 A0 hs ρ F σ H /\ f ρ = some o /\ ∀ H', QD H H' -> Q o H'
def SO (X : Cx) (e : Option Expr) (f : DO) : Prop := ∀ H0 A0, PO X e (tVO X.K H0 A0 f)
theorem _root_.L2.PO.mono {X : Cx} {e : Option Expr} {t t' : TO} (h : PO X e t) (m : ∀ σ H Q, t' σ H Q -> t σ H Q) : PO X e t' := by
 intro pins s σ H Q I q
 exact h pins s σ H Q I (m σ H Q q)
theorem Qrz : SO X none QbH := λ H0 A0 => QrE.mono λ σ H Q ⟨ρ, hs, F, o, rel, e, q⟩ => by
 cases e
 exact q H (QD.refl _)
theorem Qq5 (h : SE X a fa) : SO X (some a) (Qad fa) := λ H0 A0 => (Qrf (h H0 A0)).mono λ σ H Q ⟨ρ, hs, F, o, rel, e, q⟩ => by
 obtain ⟨r, e1, e⟩ := bind1 e
 refine ⟨ρ, hs, F, r, rel, e1, λ v H1 G p => ?_⟩
 have rp := p.rp
 cases hr : r.d with
 | int i =>
  rw [hr] at e rp
  cases e
  exact ⟨i, rp.int_inv, q H1 p.same⟩
 | _ => rw [hr] at e; cases e
noncomputable def cutD (xs : List D) (lo hi : Option Int) : List D := (xs.drop (HT.sIx xs.length 0 lo)).take (HT.sIx xs.length xs.length hi - HT.sIx xs.length 0 lo)
noncomputable def QbN (fa : DE) (lo hi : DO) : DE := λ ρ => (fa ρ).bind λ ra => (lo ρ).bind λ l => (hi ρ).bind λ h => match ra.d with
 | .lst xs => some (Qau (cutD xs l h) ra.M)
 | _ => none
theorem Rps.drop : ∀ {ds : List D} {vs : List V} {F : List Addr} {K : PySem.W.Frag} {H : Hp} (n : Nat), Rps K H ds vs F -> ∃ G, Rps K H (ds.drop n) (vs.drop n) G /\ ∀ a ∈ G, a ∈ F
 | [], vs, F, K, H, n, h => by simp only [Rps] at h; rw [h.1, h.2]; exact ⟨[], by simp [Rps], λ _ h => h⟩
 | d :: ds, vs, F, K, H, 0, h => ⟨F, by simpa using h, λ _ h => h⟩
 | d :: ds, vs, F, K, H, n + 1, h => by
  simp only [Rps] at h
  obtain ⟨v, ws, F1, F2, e, eF, r, q⟩ := h
  subst e eF
  obtain ⟨G, h1, h2⟩ := Rps.drop n q
  exact ⟨G, by simpa using h1, λ a ha => Ze _ (h2 a ha)⟩
theorem Rps.take : ∀ {ds : List D} {vs : List V} {F : List Addr} {K : PySem.W.Frag} {H : Hp} (n : Nat), Rps K H ds vs F -> ∃ G, Rps K H (ds.take n) (vs.take n) G /\ ∀ a ∈ G, a ∈ F
 | [], vs, F, K, H, n, h => by simp only [Rps] at h; rw [h.1, h.2]; exact ⟨[], by simp [Rps], λ _ h => h⟩
 | d :: ds, vs, F, K, H, 0, h => ⟨[], by simp [Rps], λ _ h => by simp at h⟩
 | d :: ds, vs, F, K, H, n + 1, h => by
  simp only [Rps] at h
  obtain ⟨v, ws, F1, F2, e, eF, r, q⟩ := h
  subst e eF
  obtain ⟨G, h1, h2⟩ := Rps.take n q
  refine ⟨F1 ++ G, ?_, λ a ha => ?_⟩
  ·simp only [ZaV, Rps]
   exact ⟨v, _, F1, G, rfl, rfl, r, h1⟩
  ·rcases Zn.mp ha with h | h
   ·exact Zc _ h
   ·exact Ze _ (h2 a h)
theorem Qss {lo hi : Option Expr} {fl fh : DO} {p2 : Pos} (ha : SE X a fa) (hl : SO X lo fl) (hh : SO X hi fh) : SE X (.Subscript a (.Slice lo hi none p2) pos) (QbN fa fl fh) := λ H0 A0 =>
 (Qpt QrI (ha H0 A0) (hl H0 A0) (hh H0 A0)).mono λ σ H Q ⟨ρ, hs, F, r', rel, e, q⟩ => by
  obtain ⟨ra, e1, e⟩ := bind1 e
  obtain ⟨l, e2, e⟩ := bind1 e
  obtain ⟨h, e3, e⟩ := bind1 e
  refine ⟨ρ, hs, F, ra, rel, e1, λ x H1 G1 p1 => ⟨ρ, hs, F, l, rel.ext p1.same, e2, λ H2 s2 => ⟨ρ, hs, F, h, (rel.ext p1.same).ext s2, e3, λ H3 s3 => ?_⟩⟩⟩
  have rp := p1.rp.same (s2.trans s3)
  cases hra : ra.d with
  | lst xs =>
   rw [hra] at e rp
   cases e
   obtain ⟨c, vs, L, rfl, hc, rl, zl, el⟩ := rp.lst_inv
   refine ⟨c, vs, rfl, Q1 hc, λ p hp => ?_⟩
   obtain ⟨G2, h2, m2⟩ := rl.drop (HT.sIx xs.length 0 l)
   obtain ⟨G3, h3, m3⟩ := h2.take (HT.sIx xs.length xs.length h - HT.sIx xs.length 0 l)
   have n1 := rl.length
   rw [show QiO vs l h = (vs.drop (HT.sIx xs.length 0 l)).take (HT.sIx xs.length xs.length h - HT.sIx xs.length 0 l) by unfold QiO; rw [n1]]
   refine q _ _ (p :: G3) (QX.Qau (p1.same.trans (s2.trans s3)) hp h3 ?_ (λ z hz => p1.src z ?_) p1.own)
   ·unfold cutD; rw [ZaM, Zbh]; omega
   ·have := m2 z (m3 z hz)
    rcases el with rfl | rfl
    ·exact Zd _ this
    ·exact this
  | _ => rw [hra] at e; cases e
noncomputable def dBf (g : List D -> Option D) (fs : DA) : DE := λ ρ => (fs ρ).bind λ r => (g r.ds).map λ d => ⟨d, true, []⟩
def Qem (K : PySem.W.Frag) (g : List D -> Option D) (r : List V -> Hp -> VK -> Prop) : Prop := ∀ ds d, g ds = some d -> d.flat = true /\ ∀ H vs F (Q : VK), Rps K H ds vs F -> (∀ v, (∀ H', Rp K H' d v []) -> Q v H) -> r vs H Q
theorem Qjs {x : Str} {id : String} {g : List D -> Option D} {r : List V -> Hp -> VK -> Prop} {p : Pos} (hc : QbD X (.builtin id) r) (hk : Qem X.K g r) (hg : Gl X x) (hm : X.mg x = none) (hv : bootBuiltins x = some (.builtin id)) (ha : SA X (e :: es) fs) (hn : x ≠ "__name__") (hdb : (x == ("__debug__" : Str)) = false)
  (he : starEach (e :: es) X.env = (false, eval e X.env) :: starEach es X.env) (hpl : (backTo pos (starEach es X.env)).any (·.1) = false) : SE X (.Call (.Name x p) (e :: es) [] pos) (dBf g fs) := λ H0 A0 =>
 (Qft hc hg hm hv (ha H0 A0) hn hdb he hpl).mono λ σ H Q ⟨ρ, hs, F, r', rel, e, q⟩ => by
  obtain ⟨ra, e1, e⟩ := bind1 e
  obtain ⟨d, ed, e⟩ := Zb.mp e
  subst e
  exact ⟨ρ, hs, F, ra, rel, e1, λ vs H1 G p1 => (hk _ _ ed).2 H1 vs G Q p1.rp λ v hv => q v H1 [] (.flat p1.same (hv _) (hk _ _ ed).1)⟩
theorem Rps.one {K : PySem.W.Frag} {H : Hp} {d : D} {vs : List V} {F : List Addr} (h : Rps K H [d] vs F) : ∃ v, vs = [v] /\ Rp K H d v F := by
 simp only [Rps] at h
 obtain ⟨v, ws, F1, F2, rfl, rfl, r, rfl, rfl⟩ := h
 exact ⟨v, rfl, by simpa using r⟩
theorem Rps.two {K : PySem.W.Frag} {H : Hp} {d e : D} {vs : List V} {F : List Addr} (h : Rps K H [d, e] vs F) : ∃ v w F1 F2, vs = [v, w] /\ Rp K H d v F1 /\ Rp K H e w F2 := by
 simp only [Rps] at h
 obtain ⟨v, ws, F1, F2, rfl, rfl, r, w, ws', F3, F4, rfl, rfl, r2, rfl, rfl⟩ := h
 exact ⟨v, w, F1, F3, rfl, r, r2⟩
noncomputable def QaF : List D -> Option D
 | [.lst xs] => some (.int xs.length)
 | [.tup xs] => some (.int xs.length)
 | _ => none
theorem Qti {K : PySem.W.Frag} : Qem K QaF (λ xs H Q => ∃ p ys, xs = [.ref p] /\ (SqL K H p ys ∨ SqT K H p ys) /\ Q (.int ys.length) H) := λ ds d e => by
 unfold QaF at e
 split at e
 ·cases e
  refine ⟨rfl, λ H vs F Q r q => ?_⟩
  obtain ⟨v, rfl, rp⟩ := r.one
  obtain ⟨l, ws, L, rfl, hl, rl, zl, el⟩ := rp.lst_inv
  exact ⟨l, ws, rfl, .inl (Q1 hl), by rw [← rl.length]; exact q _ λ _ => .int_mk⟩
 ·cases e
  refine ⟨rfl, λ H vs F Q r q => ?_⟩
  obtain ⟨v, rfl, rp⟩ := r.one
  obtain ⟨l, ws, rfl, hl, rl⟩ := rp.QaU
  exact ⟨l, ws, rfl, .inr hl, by rw [← rl.length]; exact q _ λ _ => .int_mk⟩
 ·cases e
noncomputable def Qbi : List D -> Option D
 | [.int i, .int j] => some (.int (if j < i then j else i))
 | _ => none
noncomputable def Qbj : List D -> Option D
 | [.int i, .int j] => some (.int (if j > i then j else i))
 | _ => none
theorem QqM {K : PySem.W.Frag} : Qem K Qbi (λ xs H Q => ∃ i j, xs = [.int i, .int j] /\ Q (.int (if j < i then j else i)) H) := λ ds d e => by
 unfold Qbi at e
 split at e
 ·cases e
  refine ⟨rfl, λ H vs F Q r q => ?_⟩
  obtain ⟨v, w, F1, F2, rfl, r1, r2⟩ := r.two
  exact ⟨_, _, by rw [r1.int_inv, r2.int_inv], q _ λ _ => .int_mk⟩
 ·cases e
theorem Qqt {K : PySem.W.Frag} : Qem K Qbj (λ xs H Q => ∃ i j, xs = [.int i, .int j] /\ Q (.int (if j > i then j else i)) H) := λ ds d e => by
 unfold Qbj at e
 split at e
 ·cases e
  refine ⟨rfl, λ H vs F Q r q => ?_⟩
  obtain ⟨v, w, F1, F2, rfl, r1, r2⟩ := r.two
  exact ⟨_, _, by rw [r1.int_inv, r2.int_inv], q _ λ _ => .int_mk⟩
 ·cases e
noncomputable def dList (fs : DA) : DE := λ ρ => (fs ρ).bind λ r => match r.ds with
 | [.lst xs] => some (Qau xs r.M)
 | [.tup xs] => if xs.length <= sizeLine then some (Qau xs r.M) else none
 | _ => none
theorem Qqi {p : Pos} (hg : Gl X "list") (hm : X.mg "list" = none) (ha : SA X (e :: es) fs) (he : starEach (e :: es) X.env = (false, eval e X.env) :: starEach es X.env) (hpl : (backTo pos (starEach es X.env)).any (·.1) = false) :
  SE X (.Call (.Name "list" p) (e :: es) [] pos) (dList fs) := λ H0 A0 =>
 (Qjh QkH hg hm Zbq (ha H0 A0) (by decide) (by decide) he hpl).mono λ σ H Q ⟨ρ, hs, F, r', rel, e, q⟩ => by
  obtain ⟨ra, e1, e⟩ := bind1 e
  refine ⟨ρ, hs, F, ra, rel, e1, λ vs H1 G p1 => ?_⟩
  have rp := p1.rp
  have src := p1.src
  split at e
  ·rename_i xs hds
   cases e
   rw [hds] at rp
   obtain ⟨v, rfl, rq⟩ := rp.one
   obtain ⟨l, ws, L, rfl, hl, rl, zl, el⟩ := rq.lst_inv
   refine ⟨l, ws, rfl, .inl (Q1 hl), λ c hc => q _ _ (c :: L) (QX.Qau p1.same hc rl zl (λ z hz => src z ?_) p1.own)⟩
   rcases el with rfl | rfl
   ·exact Zd _ hz
   ·exact hz
  ·rename_i xs hds
   split at e
   ·rename_i hz
    cases e
    rw [hds] at rp
    obtain ⟨v, rfl, rq⟩ := rp.one
    obtain ⟨l, ws, rfl, hl, rl⟩ := rq.QaU
    exact ⟨l, ws, rfl, .inr hl, λ c hc => q _ _ (c :: G) (QX.Qau p1.same hc rl hz src p1.own)⟩
   ·cases e
  ·cases e
end
end HS
namespace HS
open PySem PySem.Spec L2
mutual
noncomputable def D.py : D -> PyData
 | .non => .none
 | .bl b => .bool b
 | .int i => .int i
 | .str x => .str x
 | .tup xs => .tuple (pys xs)
 | .lst xs => .list (pys xs)
 | .exc _ => .none
noncomputable def pys : List D -> List PyData
 | [] => []
 | d :: ds => d.py :: pys ds
end
theorem QlO : ∀ ds : List D, pys ds = ds.map D.py
 | [] => rfl
 | d :: ds => by simp [pys, QlO ds]
noncomputable def D.sim : Nat -> D -> Bool
 | _, .non => true
 | _, .bl _ => true
 | _, .int _ => true
 | _, .str x => PyData.canLay0 (.str x)
 | 0, .tup xs => xs.isEmpty
 | 0, .lst xs => xs.isEmpty
 | n + 1, .tup xs => xs.all (D.sim n)
 | n + 1, .lst xs => xs.all (D.sim n)
 | _, .exc _ => false
theorem Qee : ∀ {ds : List D}, (∀ d ∈ ds, d.py.canLay0 = true) -> PyData.canLayAll0 (pys ds) = true
 | [], _ => rfl
 | d :: ds, h => by
  simp only [pys, PyData.canLayAll0, Zf]
  exact ⟨h d Zi, Qee λ e he => h e (Zd _ he)⟩
theorem QeQ {n : Nat} : ∀ {ds : List D}, (∀ d ∈ ds, d.py.depth <= n) -> PyData.depthAll (pys ds) <= n
 | [], _ => ZO _
 | d :: ds, h => by
  simp only [pys, PyData.depthAll]
  exact Nat.max_le.mpr ⟨h d Zi, QeQ λ e he => h e (Zd _ he)⟩
theorem QbV : ∀ (n : Nat) (d : D), d.sim n = true -> d.py.canLay0 = true /\ d.py.depth <= n + 1
 | n, .exc _, h => by cases n <;> cases h
 | n, .non, _ => by simp [D.py, PyData.canLay0, PyData.depth]
 | n, .bl _, _ => by simp [D.py, PyData.canLay0, PyData.depth]
 | n, .int _, _ => by simp [D.py, PyData.canLay0, PyData.depth]
 | n, .str x, h => by
  simp only [D.py, PyData.depth]
  refine ⟨?_, ZO _⟩
  cases n <;> exact h
 | 0, .tup xs, h => by
  have : xs = [] := by simpa [D.sim] using h
  subst this
  simp [D.py, pys, PyData.canLay0, PyData.canLayAll0, PyData.depth, PyData.depthAll]
 | 0, .lst xs, h => by
  have : xs = [] := by simpa [D.sim] using h
  subst this
  simp [D.py, pys, PyData.canLay0, PyData.canLayAll0, PyData.depth, PyData.depthAll]
 | n + 1, .tup xs, h => by
  simp only [D.sim, ZS] at h
  simp only [D.py, PyData.canLay0, PyData.depth]
  exact ⟨Qee λ d hd => (QbV n d (h d hd)).1, ZaR (QeQ λ d hd => (QbV n d (h d hd)).2) 1⟩
 | n + 1, .lst xs, h => by
  simp only [D.sim, ZS] at h
  simp only [D.py, PyData.canLay0, PyData.depth]
  exact ⟨Qee λ d hd => (QbV n d (h d hd)).1, ZaR (QeQ λ d hd => (QbV n d (h d hd)).2) 1⟩
noncomputable def deq (a b : D) : Bool := PyData.eqv a.py b.py
theorem Qo4 {n : Nat} {d : D} (h : d.sim n = true) : deq d d = true := SeqAt.eqv_refl _ (QbV n d h).1
mutual
noncomputable def D.noX : D -> Bool
 | .exc _ => false
 | .tup xs => QgZ xs
 | .lst xs => QgZ xs
 | .non => true
 | .bl _ => true
 | .int _ => true
 | .str _ => true
noncomputable def QgZ : List D -> Bool
 | [] => true
 | d :: ds => d.noX && QgZ ds
end
theorem Qig : ∀ {ds : List D}, (∀ d ∈ ds, d.noX = true) -> QgZ ds = true
 | [], _ => rfl
 | d :: ds, h => by
  simp only [QgZ, Zf]
  exact ⟨h d Zi, Qig λ e he => h e (Zd _ he)⟩
theorem Qcf : ∀ (n : Nat) (d : D), d.sim n = true -> d.noX = true
 | n, .exc _, h => by cases n <;> cases h
 | n, .non, _ => rfl
 | n, .bl _, _ => rfl
 | n, .int _, _ => rfl
 | n, .str x, _ => rfl
 | 0, .tup xs, h => by
  have : xs = [] := by simpa [D.sim] using h
  subst this; rfl
 | 0, .lst xs, h => by
  have : xs = [] := by simpa [D.sim] using h
  subst this; rfl
 | n + 1, .tup xs, h => by
  simp only [D.sim, ZS] at h
  simp only [D.noX]
  exact Qig λ d hd => Qcf n d (h d hd)
 | n + 1, .lst xs, h => by
  simp only [D.sim, ZS] at h
  simp only [D.noX]
  exact Qig λ d hd => Qcf n d (h d hd)
section
variable {X : Cx} {pins : List (Addr × Obj)} {σ : L2.St} {H : Hp} {s : Shared}
mutual
theorem Rp.reads (I : Inv X pins σ H s) : ∀ {d : D} {v : V} {F : List Addr} {u : Value}, d.noX = true -> Rp X.K H d v F -> RelV v u -> ∃ as, Reads s.heap u d.py as
 | .exc _, v, _, u, hx, h, r => by cases hx
 | .non, v, _, u, hx, h, r => by
  rw [h.Qd6] at r
  cases (show u = Value.none from r)
  exact ⟨_, .none⟩
 | .bl b, v, _, u, hx, h, r => by
  rw [h.Qcx] at r
  cases (show u = Value.bool b from r)
  exact ⟨_, .bool b⟩
 | .int i, v, _, u, hx, h, r => by
  rw [h.int_inv] at r
  obtain ⟨t, rfl⟩ := (show ∃ t, u = Value.int i t from r)
  exact ⟨_, .int i t⟩
 | .str i, v, _, u, hx, h, r => by
  rw [h.str_inv] at r
  obtain ⟨t, rfl⟩ := (show ∃ t, u = Value.str i t from r)
  exact ⟨_, .str i t⟩
 | .tup ds, v, _, u, hx, h, r => by
  obtain ⟨a, vs, rfl, hq, rs⟩ := h.QaU
  cases (show u = Value.ref a from r)
  obtain ⟨its, rv, ⟨o, h1, h2, n, h3⟩, _⟩ := I.tuple hq
  obtain ⟨as, ra⟩ := Rps.reads I (by simpa only [D.noX] using hx) rs rv
  exact ⟨_, .tuple h1 h2 h3 (by simpa using ra)⟩
 | .lst ds, v, _, u, hx, h, r => by
  simp only [Rp] at h
  obtain ⟨hz, a, vs, rfl, h⟩ := h
  have key : ∃ G, (H a = some (.lst vs) ∨ Fix X.K H a vs) /\ Rps X.K H ds vs G := by
   rcases h with ⟨G, _, q, rs⟩ | ⟨q, rs⟩
   ·exact ⟨G, .inl q, rs⟩
   ·exact ⟨_, .inr q, rs⟩
  obtain ⟨G, hq, rs⟩ := key
  cases (show u = Value.ref a from r)
  obtain ⟨_, its, n, rv, _, e⟩ := I.QjG hq
  obtain ⟨as, ra⟩ := Rps.reads I (by simpa only [D.noX] using hx) rs rv
  exact ⟨_, .list e rfl rfl (by simpa using ra)⟩
theorem Rps.reads (I : Inv X pins σ H s) : ∀ {ds : List D} {vs : List V} {F : List Addr} {us : List Value}, QgZ ds = true -> Rps X.K H ds vs F -> Qq vs us -> ∃ as, ReadsAll s.heap us (pys ds) as
 | [], vs, _, us, _, h, r => by
  simp only [Rps] at h
  rw [h.1] at r
  cases r
  exact ⟨_, .nil⟩
 | d :: ds, vs, _, us, hx, h, r => by
  simp only [QgZ, Zf] at hx
  simp only [Rps] at h
  obtain ⟨v, ws, F1, F2, rfl, rfl, h1, h2⟩ := h
  cases r with
  | cons r rr =>
   obtain ⟨as, ra⟩ := Rp.reads I hx.1 h1 r
   obtain ⟨bs, rb⟩ := Rps.reads I hx.2 h2 rr
   exact ⟨_, .cons ra rb⟩
end
end
noncomputable def gEq (a b : D) : Option D := if a.sim 8 && b.sim 8 then some (.bl (deq a b)) else none
noncomputable def gNe (a b : D) : Option D := if a.sim 8 && b.sim 8 then some (.bl (!deq a b)) else none
noncomputable def gIn (neg : Bool) (a b : D) : Option D := match b with
 | .lst xs => if a.sim 8 && b.sim 8 then some (.bl (if neg then !(xs.any λ y => deq y a) else xs.any λ y => deq y a)) else none
 | .tup xs => if a.sim 8 && b.sim 8 then some (.bl (if neg then !(xs.any λ y => deq y a) else xs.any λ y => deq y a)) else none
 | _ => none
noncomputable def QsN (K : PySem.W.Frag) : R2 := λ x y H Q => ∃ a b F G, Rp K H a x F /\ Rp K H b y G /\ a.sim 8 = true /\ b.sim 8 = true /\ Q (.bl (deq a b)) H
noncomputable def QsC (K : PySem.W.Frag) : R2 := λ x y H Q => ∃ a b F G, Rp K H a x F /\ Rp K H b y G /\ a.sim 8 = true /\ b.sim 8 = true /\ Q (.bl (!deq a b)) H
section
variable {X : Cx}
theorem QnI (hu : X.A.units + 64 < cLine) : OpR X (compareOp .Eq) (QsN X.K) := by
 intro pins s σ H x y v u Q I rx ry h
 obtain ⟨a, b, F, G, ha, hb, sa, sb, q⟩ := h
 obtain ⟨as, ra⟩ := Rp.reads I (Qcf 8 _ sa) ha rx
 obtain ⟨bs, rb⟩ := Rp.reads I (Qcf 8 _ sb) hb ry
 have h1 := QbV 8 a sa
 have h2 := QbV 8 b sb
 exact SeqAt.compareEq_reads ra rb h1.1 h2.1 (by have := Nat.min_le_left a.py.depth b.py.depth; omega) ⟨.bl _, H, I, rfl, q⟩
theorem QnO (hu : X.A.units + 64 < cLine) : OpR X (compareOp .NotEq) (QsC X.K) := by
 intro pins s σ H x y v u Q I rx ry h
 obtain ⟨a, b, F, G, ha, hb, sa, sb, q⟩ := h
 obtain ⟨as, ra⟩ := Rp.reads I (Qcf 8 _ sa) ha rx
 obtain ⟨bs, rb⟩ := Rp.reads I (Qcf 8 _ sb) hb ry
 have h1 := QbV 8 a sa
 have h2 := QbV 8 b sb
 exact SeqAt.compareNe_reads ra rb h1.1 h2.1 (by have := Nat.min_le_left a.py.depth b.py.depth; omega) ⟨.bl _, H, I, rfl, q⟩
theorem QpF {K : PySem.W.Frag} : Qb4 K gEq (QsN K) := λ a b d e => by
 unfold gEq at e
 split at e
 ·rename_i h
  simp only [Zf] at h
  cases e
  exact ⟨rfl, λ H x y F G Q ha hb q => ⟨a, b, F, G, ha, hb, h.1, h.2, q _ λ _ => .Qbl⟩⟩
 ·cases e
theorem QpK {K : PySem.W.Frag} : Qb4 K gNe (QsC K) := λ a b d e => by
 unfold gNe at e
 split at e
 ·rename_i h
  simp only [Zf] at h
  cases e
  exact ⟨rfl, λ H x y F G Q ha hb q => ⟨a, b, F, G, ha, hb, h.1, h.2, q _ λ _ => .Qbl⟩⟩
 ·cases e
noncomputable def Qn8 (K : PySem.W.Frag) (neg : Bool) : R2 := λ x y H Q => ∃ a b F G xs, Rp K H a x F /\ Rp K H b y G /\ a.sim 8 = true /\ b.sim 8 = true /\ (b = .lst xs ∨ b = .tup xs) /\ Q (.bl (if neg then !(xs.any λ y => deq y a) else xs.any λ y => deq y a)) H
theorem Qnr (xs : List D) (a : D) : ((pys xs).any λ y => PyData.eqv y a.py) = xs.any λ y => deq y a := by
 rw [QlO, List.any_map]; rfl
theorem QsH (hu : X.A.units + 64 < cLine) : OpR X (compareOp .In) (Qn8 X.K false) := by
 intro pins s σ H x y v u Q I rx ry h
 obtain ⟨a, b, F, G, xs, ha, hb, sa, sb, hk, q⟩ := h
 obtain ⟨as, ra⟩ := Rp.reads I (Qcf 8 _ sa) ha rx
 obtain ⟨bs, rb⟩ := Rp.reads I (Qcf 8 _ sb) hb ry
 have h1 := QbV 8 a sa
 have h2 := QbV 8 b sb
 have q' : Q (.bl ((pys xs).any λ y => PyData.eqv y a.py)) H := by rw [Qnr]; exact q
 rcases hk with rfl | rfl
 ·exact SeqAt.in_list_reads rb ra h2.1 h1.1 (by have := ZaO (PyData.depthAll (pys xs)) a.py.depth; omega) ⟨.bl _, H, I, rfl, q'⟩
 ·exact SeqAt.in_tuple_reads rb ra h2.1 h1.1 (by have := ZaO (PyData.depthAll (pys xs)) a.py.depth; omega) ⟨.bl _, H, I, rfl, q'⟩
theorem QmL (hu : X.A.units + 64 < cLine) : OpR X (compareOp .NotIn) (Qn8 X.K true) := by
 intro pins s σ H x y v u Q I rx ry h
 obtain ⟨a, b, F, G, xs, ha, hb, sa, sb, hk, q⟩ := h
 obtain ⟨as, ra⟩ := Rp.reads I (Qcf 8 _ sa) ha rx
 obtain ⟨bs, rb⟩ := Rp.reads I (Qcf 8 _ sb) hb ry
 have h1 := QbV 8 a sa
 have h2 := QbV 8 b sb
 have q' : Q (.bl (!(pys xs).any λ y => PyData.eqv y a.py)) H := by rw [Qnr]; exact q
 rcases hk with rfl | rfl
 ·exact SeqAt.notIn_list_reads rb ra h2.1 h1.1 (by have := ZaO (PyData.depthAll (pys xs)) a.py.depth; omega) ⟨.bl _, H, I, rfl, q'⟩
 ·exact SeqAt.notIn_tuple_reads rb ra h2.1 h1.1 (by have := ZaO (PyData.depthAll (pys xs)) a.py.depth; omega) ⟨.bl _, H, I, rfl, q'⟩
theorem QpQ {K : PySem.W.Frag} {neg : Bool} : Qb4 K (gIn neg) (Qn8 K neg) := λ a b d e => by
 unfold gIn at e
 split at e
 ·split at e
  ·rename_i h
   simp only [Zf] at h
   cases e
   exact ⟨rfl, λ H x y F G Q ha hb q => ⟨a, _, F, G, _, ha, hb, h.1, h.2, .inl rfl, q _ λ _ => .Qbl⟩⟩
  ·cases e
 ·split at e
  ·rename_i h
   simp only [Zf] at h
   cases e
   exact ⟨rfl, λ H x y F G Q ha hb q => ⟨a, _, F, G, _, ha, hb, h.1, h.2, .inr rfl, q _ λ _ => .Qbl⟩⟩
  ·cases e
 ·cases e
noncomputable def D.Qme : D -> Bool
 | .non => true
 | _ => false
theorem QlM {K : PySem.W.Frag} {H : Hp} {d : D} {v : V} {F : List Addr} (h : Rp K H d v F) : decide (v = .non) = d.Qme := by
 cases d with
 | non => rw [h.Qd6]; rfl
 | bl b => rw [h.Qcx]; rfl
 | int b => rw [h.int_inv]; rfl
 | str b => rw [h.str_inv]; rfl
 | tup b => obtain ⟨a, vs, rfl, _⟩ := h.QaU; rfl
 | lst b => obtain ⟨a, vs, G, rfl, _⟩ := h.lst_inv; rfl
 | exc b => simp only [Rp] at h; obtain ⟨⟨a, rfl, _⟩, _⟩ := h; rfl
noncomputable def D.tyN : D -> String
 | .non => "NoneType" | .bl _ => "bool" | .int _ => "int" | .str _ => "str" | .tup _ => "tuple" | .lst _ => "list" | .exc _ => "?"
noncomputable def D.isE : D -> Bool
 | .exc _ => true
 | _ => false
noncomputable def D.isa (T : String) (d : D) : Option Bool := if (T == "int" || T == "bool" || T == "list" || T == "tuple" || T == "str") && !d.isE then some (d.tyN == T || (d.tyN == "bool" && T == "int")) else none
theorem QsD {pins : List (Addr × Obj)} {σ : L2.St} {H : Hp} {s : Shared} {A : Around} {E Q : Value -> Shared -> Prop} {d : D} {v : V} {F : List Addr} {u : Value} {T : String} {b : Bool} (I : Inv X pins σ H s) (rp : Rp X.K H d v F) (rx : RelV v u) (e : d.isa T = some b) (h : ∀ tk, Q (.bool b) { s with toks := tk }) :
  wpAny (model X.prog X.w) A (call (.builtin "isinstance") [u, .type T]) Q E s := by
 have kit : PySem.W.kitOne X.K (.type d.tyN) (.type T) = some b := by
  unfold D.isa at e
  split at e
  ·rename_i hT
   cases e
   simp only [Zf, Zby, beq_iff_eq] at hT
   obtain ⟨hT, hE⟩ := hT
   rcases hT with (((rfl | rfl) | rfl) | rfl) | rfl <;> cases d <;> first | rfl | (cases hE)
  ·cases e
 cases d with
 | exc x => unfold D.isa at e; split at e; (rename_i hT; exfalso; simp only [Zf] at hT; exact nomatch hT.2); cases e
 | non => rw [rp.Qd6] at rx; cases (show u = Value.none from rx); exact Zap PySem.W.kitx_none I.kIn True.intro kit (λ z => nomatch z) h
 | bl y => rw [rp.Qcx] at rx; cases (show u = Value.bool y from rx); exact Zap PySem.W.kitx_bool I.kIn True.intro kit (λ z => nomatch z) h
 | int i => rw [rp.int_inv] at rx; obtain ⟨t, q⟩ := (show ∃ t, u = Value.int i t from rx); cases q; exact Zap PySem.W.kitx_int I.kIn True.intro kit (λ z => nomatch z) h
 | str y => rw [rp.str_inv] at rx; obtain ⟨t, q⟩ := (show ∃ t, u = Value.str y t from rx); cases q; exact Zap PySem.W.kitx_str I.kIn True.intro kit (λ z => nomatch z) h
 | tup ds =>
  obtain ⟨a, vs, rfl, hq, _⟩ := rp.QaU
  cases (show u = Value.ref a from rx)
  obtain ⟨its, rv, ⟨o, h1, h2, n, h3⟩, _⟩ := I.tuple hq
  exact Zap PySem.W.kitx_tuple I.kIn ⟨o, h1, h2⟩ kit (λ z => nomatch z) h
 | lst ds =>
  obtain ⟨a, vs, G, rfl, hq, _⟩ := rp.lst_inv
  cases (show u = Value.ref a from rx)
  obtain ⟨_, its, n, rv, _, e1⟩ := I.QjG hq
  exact Zap PySem.W.kitx_list I.kIn ⟨_, e1, rfl⟩ kit (λ z => nomatch z) h
noncomputable def Quw (K : PySem.W.Frag) : List V -> Hp -> VK -> Prop := λ xs H Q => ∃ x T d F b, xs = [x, .ty T] /\ Rp K H d x F /\ d.isa T = some b /\ Q (.bl b) H
theorem Qow : QbD X (.builtin "isinstance") (Quw X.K) := by
 intro pins s σ H xs us Q I r h
 obtain ⟨x, T, d, F, b, rfl, rp, e, q⟩ := h
 obtain ⟨u, w, rfl, ru, rw'⟩ := vals2 r
 cases (show w = Value.type T from rw')
 exact QsD I rp ru e λ tk => ⟨.bl b, H, I.tok _, rfl, q⟩
noncomputable def Qgb (T : String) (fa : DE) : DE := λ ρ => (fa ρ).bind λ r => (r.d.isa T).map λ b => ⟨.bl b, true, []⟩
theorem QsV {a : Expr} {fa : DE} {T : String} {x : Str} {p p2 pos : Pos} (hg : Gl X "isinstance") (hm : X.mg "isinstance" = none) (ha : SE X a fa) (hT : PE X (.Name x p2) (tC (.ty T)))
  (he : starEach [a, .Name x p2] X.env = (false, eval a X.env) :: starEach [.Name x p2] X.env) : SE X (.Call (.Name "isinstance" p) [a, .Name x p2] [] pos) (Qgb T fa) := λ H0 A0 =>
 (Qft Qow hg hm Zav (QaV (ha H0 A0) (QaV hT QcL) he) (by decide) (by decide) he (by rfl)).mono λ σ H Q ⟨ρ, hs, F, r', rel, e, q⟩ => by
  obtain ⟨r, e1, e⟩ := bind1 e
  obtain ⟨b, eb, e⟩ := Zb.mp e
  subst e
  exact ⟨ρ, hs, F, r, rel, e1, λ v H1 G p => ⟨v, T, r.d, G, b, rfl, p.rp, eb, q _ H1 [] (.flat p.same .Qbl)⟩⟩
noncomputable def D.tru : D -> Option Bool
 | .non => some false
 | .bl b => some b
 | .int i => some (i != 0)
 | .lst xs => some (!xs.isEmpty)
 | .tup xs => some (!xs.isEmpty)
 | .str _ => none
 | .exc _ => none
theorem Qjx {K : PySem.W.Frag} {H : Hp} {d : D} {v : V} {F : List Addr} {b : Bool} (h : Rp K H d v F) (e : d.tru = some b) : QoM K v H b := by
 have emp : ∀ {ds : List D} {vs : List V} {G : List Addr}, Rps K H ds vs G -> (!ds.isEmpty) = !vs.isEmpty := λ {ds vs G} r => by
  have := r.length
  cases ds <;> cases vs <;> simp_all
 cases d with
 | non => rw [h.Qd6]; cases e; exact rfl
 | bl c => rw [h.Qcx]; cases e; exact rfl
 | int i => rw [h.int_inv]; cases e; exact rfl
 | str i => cases e
 | exc i => cases e
 | tup ds => cases e; obtain ⟨a, vs, rfl, hq, r⟩ := h.QaU; exact .inr (.inl ⟨vs, hq, emp r⟩)
 | lst ds => cases e; obtain ⟨a, vs, G, rfl, hq, r, _⟩ := h.lst_inv; exact .inl ⟨vs, Q1 hq, emp r⟩
noncomputable def Qj (fa : DE) : DT := λ ρ => (fa ρ).bind λ r => r.d.tru
noncomputable def Qc6 (f g : DT) : DT := λ ρ => (f ρ).bind λ b => if b = true then g ρ else some false
noncomputable def bOr (f g : DT) : DT := λ ρ => (f ρ).bind λ b => if b = true then some true else g ρ
noncomputable def Qbg (f : DT) : DT := λ ρ => (f ρ).bind λ b => some (!b)
def SW (X : Cx) (e : Expr) (f : DT) : Prop := ∀ H0 A0, PW X e (tVT X.K H0 A0 f)
theorem _root_.L2.PW.mono {X : Cx} {e : Expr} {t t' : TT} (h : PW X e t) (m : ∀ σ H Q, t' σ H Q -> t σ H Q) : PW X e t' := λ wh pins s σ H Q I q => h wh pins s σ H Q I (m σ H Q q)
variable {a b e : Expr} {fa fb : DE} {ga gb gc : DT} {pos : Pos} {rest : List Expr}
theorem Qs8 (ha : SE X a fa) (he : ∀ whole, isTrue a X.env whole = (do let v ← whole; standAt a.pos; holding [v] (truthy v))) : ST X a (Qj fa) := λ H0 A0 =>
 (Qom (ha H0 A0) he).mono λ σ H Q ⟨ρ, hs, F, b, rel, e, q⟩ => by
  obtain ⟨r, e1, e⟩ := bind1 e
  exact ⟨ρ, hs, F, r, rel, e1, λ v H1 G p => ⟨b, Qjx p.rp e, q H1 p.same⟩⟩
theorem Qr4 {op : CmpOp} {g : D -> D -> Option D} {r : R2} (ho : OpR X (compareOp op) r) (hg : Qb4 X.K g r) (hbl : ∀ a b d, g a b = some d -> ∃ k, d = .bl k) (ha : SE X a fa) (hb : SE X b fb) (hm : behindInMarks op b = false) : ST X (.Compare a [op] [b] pos) (Qj (dOp g fa fb)) := λ H0 A0 =>
 (Qqr ho (ha H0 A0) (hb H0 A0) hm).mono λ σ H Q ⟨ρ, hs, F, k, rel, e, q⟩ => by
  obtain ⟨r', e0, e⟩ := bind1 e
  obtain ⟨ra, rb, d, ea, eb, eg, rfl⟩ := QiK e0
  obtain ⟨k', rfl⟩ := hbl _ _ _ eg
  cases e
  refine two rel ea eb λ x y H1 H2 G1 G2 p1 p2 => (hg _ _ _ eg).2 H2 x y G1 G2 _ (p1.rp.same p2.same) p2.rp λ v hv => ?_
  exact ⟨_, (hv H2).Qcx, q H2 (p1.same.trans p2.same)⟩
theorem QsS (ha : ST X a ga) : ST X (.UnaryOp .Not a pos) (Qbg ga) := λ H0 A0 =>
 (Qsp (ha H0 A0)).mono λ σ H Q ⟨ρ, hs, F, b, rel, e, q⟩ => by
  obtain ⟨c, e1, e⟩ := bind1 e
  cases e
  exact ⟨ρ, hs, F, c, rel, e1, λ H1 s1 => q H1 s1⟩
theorem Qqn (ha : ST X a ga) : SW X (.BoolOp .And [a] pos) ga := λ H0 A0 => QrC (ha H0 A0)
theorem QsY (ha : ST X a ga) : SW X (.BoolOp .Or [a] pos) ga := λ H0 A0 => QrR (ha H0 A0)
theorem QrW (ha : ST X a ga) (hb : SW X (.BoolOp .And (b :: rest) pos) gb) : SW X (.BoolOp .And (a :: b :: rest) pos) (Qc6 ga gb) := λ H0 A0 =>
 (QsB (ha H0 A0) (hb H0 A0)).mono λ σ H Q ⟨ρ, hs, F, c, rel, e, q⟩ => by
  obtain ⟨d, e1, e⟩ := bind1 e
  refine ⟨ρ, hs, F, d, rel, e1, λ H1 s1 => ?_⟩
  cases d with
  | true => exact ⟨ρ, hs, F, c, rel.ext s1, e, λ H2 s2 => q H2 (s1.trans s2)⟩
  | false => cases e; exact q H1 s1
theorem Qt4 (ha : ST X a ga) (hb : SW X (.BoolOp .Or (b :: rest) pos) gb) : SW X (.BoolOp .Or (a :: b :: rest) pos) (bOr ga gb) := λ H0 A0 =>
 (Qt9 (ha H0 A0) (hb H0 A0)).mono λ σ H Q ⟨ρ, hs, F, c, rel, e, q⟩ => by
  obtain ⟨d, e1, e⟩ := bind1 e
  refine ⟨ρ, hs, F, d, rel, e1, λ H1 s1 => ?_⟩
  cases d with
  | true => cases e; exact q H1 s1
  | false => exact ⟨ρ, hs, F, c, rel.ext s1, e, λ H2 s2 => q H2 (s1.trans s2)⟩
theorem SW.st (h : SW X e ga) : ST X e ga := λ H0 A0 => (h H0 A0).pt
noncomputable def Qb2 (fa fb : DE) : DE := λ ρ => (fa ρ).bind λ ra => (ra.d.tru).bind λ b => if b = true then fb ρ else some ra
noncomputable def dOr (fa fb : DE) : DE := λ ρ => (fa ρ).bind λ ra => (ra.d.tru).bind λ b => if b = true then some ra else fb ρ
noncomputable def Qg9 (fa : DE) : DE := λ ρ => (fa ρ).bind λ ra => (ra.d.tru).bind λ b => some ⟨.bl (!b), true, []⟩
theorem Qh5 {op} (h : SE X a fa) : SE X (.BoolOp op [a] pos) fa := λ H0 A0 => Qr2 (h H0 A0)
theorem QX.ext {K : PySem.W.Frag} {ρ : En} {F : Nat -> List Addr} {H H1 H2 : Hp} {r : R} {v : V} {G : List Addr} (s : QD H H1) (p : QX K ρ F H1 H2 r v G) {H0 : Hp} {A0 : List Addr} {hs : List (V × D × List Addr)} {σ : L2.St} (rel : Rel K H0 A0 hs ρ F σ H) : QX K ρ F H H2 r v G where
 same := s.trans p.same
 rp := p.rp
 src := λ a ha => (p.src a ha).elim (λ z => .inl (s.free z)) .inr
 cnt := λ h => ⟨λ a => ZA ((p.cnt h).1 a) (ZaR (by
  cases q : H1 a with
  | none => rw [Qa7 q, Qa7 (s.free q)]; exact Zj _
  | some o => rw [Qdh q]; exact ZO _) _), (p.cnt h).2⟩
 own := p.own
theorem Qnw (ha : SE X a fa) (hb : SE X (.BoolOp .And (b :: rest) pos) fb) : SE X (.BoolOp .And (a :: b :: rest) pos) (Qb2 fa fb) := λ H0 A0 => by
 intro pins s σ H Q I ⟨ρ, hs, F, r, rel, e, q⟩
 obtain ⟨ra, e1, e⟩ := bind1 e
 obtain ⟨c, e2, e⟩ := bind1 e
 refine PyProof.Rows.BoolOp_and (thn (ha H0 A0 pins s σ H _ I ⟨ρ, hs, F, ra, rel, e1, λ v H' G p => (⟨G, p⟩ : ∃ G, QX X.K ρ F H H' ra v G)⟩) λ v s1 ⟨x, H1, I1, r1, G, p⟩ => ?_)
 refine thn (QhR pins s1 σ H1 x v (λ k H2 => k = c /\ H2 = H1) I1 r1 ⟨c, Qjx p.rp e2, rfl, rfl⟩) λ k s2 ⟨H2, I2, e3, e4⟩ => ?_
 subst e3 e4
 cases k with
 | true => exact hb H0 A0 pins s2 σ _ Q I2 ⟨ρ, hs, F, r, rel.ext p.same, e, λ w H3 G3 p3 => q w H3 G3 (p3.ext p.same rel)⟩
 | false => cases e; exact ⟨x, _, I2, r1, q x _ G p⟩
theorem Qp3 (ha : SE X a fa) (hb : SE X (.BoolOp .Or (b :: rest) pos) fb) : SE X (.BoolOp .Or (a :: b :: rest) pos) (dOr fa fb) := λ H0 A0 => by
 intro pins s σ H Q I ⟨ρ, hs, F, r, rel, e, q⟩
 obtain ⟨ra, e1, e⟩ := bind1 e
 obtain ⟨c, e2, e⟩ := bind1 e
 refine PyProof.Rows.BoolOp_or (thn (ha H0 A0 pins s σ H _ I ⟨ρ, hs, F, ra, rel, e1, λ v H' G p => (⟨G, p⟩ : ∃ G, QX X.K ρ F H H' ra v G)⟩) λ v s1 ⟨x, H1, I1, r1, G, p⟩ => ?_)
 refine thn (QhR pins s1 σ H1 x v (λ k H2 => k = c /\ H2 = H1) I1 r1 ⟨c, Qjx p.rp e2, rfl, rfl⟩) λ k s2 ⟨H2, I2, e3, e4⟩ => ?_
 subst e3 e4
 cases k with
 | false => exact hb H0 A0 pins s2 σ _ Q I2 ⟨ρ, hs, F, r, rel.ext p.same, e, λ w H3 G3 p3 => q w H3 G3 (p3.ext p.same rel)⟩
 | true => cases e; exact ⟨x, _, I2, r1, q x _ G p⟩
theorem Qni (ha : SE X a fa) : SE X (.UnaryOp .Not a pos) (Qg9 fa) := λ H0 A0 => by
 intro pins s σ H Q I ⟨ρ, hs, F, r, rel, e, q⟩
 obtain ⟨ra, e1, e⟩ := bind1 e
 obtain ⟨c, e2, e⟩ := bind1 e
 cases e
 refine PyProof.Rows.UnaryOp_ (thn (ha H0 A0 pins s σ H _ I ⟨ρ, hs, F, ra, rel, e1, λ v H' G p => (⟨G, p⟩ : ∃ G, QX X.K ρ F H H' ra v G)⟩) λ v s1 ⟨x, H1, I1, r1, G, p⟩ => ?_)
 refine PyProof.Rows.not_of (thn (QhR pins s1 σ H1 x v (λ k H2 => k = c /\ H2 = H1) I1 r1 ⟨c, Qjx p.rp e2, rfl, rfl⟩) λ k s2 ⟨H2, I2, e3, e4⟩ => ?_)
 subst e3 e4
 exact ⟨.bl (!k), _, I2, rfl, q _ _ [] (.flat p.same .Qbl)⟩
noncomputable def QiE (fa : DE) : DE := λ ρ => (fa ρ).bind λ ra => match ra.d with
 | .int i => some ⟨.int (-i), true, []⟩
 | _ => none
theorem Qs1 (ha : SE X a fa) : SE X (.UnaryOp .USub a pos) (QiE fa) := λ H0 A0 =>
 (QtZ QsM (ha H0 A0)).mono λ σ H Q ⟨ρ, hs, F, r, rel, e, q⟩ => by
  obtain ⟨ra, e1, e⟩ := bind1 e
  refine ⟨ρ, hs, F, ra, rel, e1, λ v H1 G p => ?_⟩
  have rp := p.rp
  cases hr : ra.d with
  | int i =>
   rw [hr] at e rp
   cases e
   exact ⟨i, rp.int_inv, q _ H1 [] (.flat p.same .int_mk)⟩
  | _ => rw [hr] at e; cases e
end
end HS
namespace HS
open PySem PySem.Spec L2
section
variable {K : PySem.W.Frag} {H0 H H' : Hp} {A0 : List Addr} {hs : List (V × D × List Addr)} {ρ ρ' : En} {F : Nat -> List Addr} {σ : L2.St}
def Qcu (ρ ρ' : En) : Prop := ρ'.length = ρ.length /\ ∀ (i : Nat) d b, ρ'[i]? = some (some (d, b)) -> ∃ b', ρ[i]? = some (some (d, b')) /\ (b = true -> b' = true)
theorem Qcu.refl : Qcu ρ ρ := ⟨rfl, λ i d b h => ⟨b, h, id⟩⟩
theorem Qcu.trans {ρ'' : En} (a : Qcu ρ ρ') (b : Qcu ρ' ρ'') : Qcu ρ ρ'' := ⟨b.1.trans a.1, λ i d c h => by
 obtain ⟨c', h1, h2⟩ := b.2 i d c h
 obtain ⟨c'', h3, h4⟩ := a.2 i d c' h1
 exact ⟨c'', h3, λ z => h4 (h2 z)⟩⟩
theorem Rel.weak (r : Rel K H0 A0 hs ρ F σ H) (w : Qcu ρ ρ') : Rel K H0 A0 hs ρ' F σ H where
 len := w.1.trans r.len
 val := λ i d b e => let ⟨b', h, _⟩ := w.2 i d b e; r.val i d b' h
 own := λ i d e => by
  obtain ⟨b', h, hb⟩ := w.2 i d true e
  have : b' = true := hb rfl
  subst this
  obtain ⟨h1, h2, h3, h4, h5⟩ := r.own i d h
  exact ⟨h1, h2, h3, λ j d' b' hj e' => let ⟨b'', h', _⟩ := w.2 j d' b' e'; h4 j d' b'' hj h', h5⟩
 src := λ i d b e => let ⟨b', h, _⟩ := w.2 i d b e; r.src i d b' h
 held := r.held
 same := r.same
noncomputable def kill : List Nat -> En -> En
 | [], ρ => ρ
 | i :: M, ρ => kill M (ρ.set i none)
noncomputable def QaX : List Nat -> En -> En
 | [], ρ => ρ
 | i :: M, ρ => QaX M (match ρ[i]? with
  | some (some (d, _)) => ρ.set i (some (d, false))
  | _ => ρ)
theorem Qi0 (i : Nat) : Qcu ρ (ρ.set i none) := ⟨by simp, λ j d b h => by
 by_cases hj : i = j
 ·subst hj
  by_cases hl : i < ρ.length
  ·rw [Zt hl] at h; cases h
  ·rw [ZC (by simp; omega)] at h; cases h
 ·rw [Zk hj] at h
  exact ⟨b, h, id⟩⟩
theorem Qcr : ∀ (M : List Nat) (ρ : En), Qcu ρ (kill M ρ)
 | [], ρ => .refl
 | i :: M, ρ => (Qi0 i).trans (Qcr M _)
theorem Qf5 : ∀ (M : List Nat) (ρ : En) (i : Nat) (d : D) (b : Bool), i ∈ M -> (kill M ρ)[i]? = some (some (d, b)) -> False
 | [], ρ, i, d, b, h, _ => by simp at h
 | j :: M, ρ, i, d, b, h, e => by
  rcases Zm.mp h with rfl | h
  ·obtain ⟨b', e', _⟩ := (Qcr M (ρ.set i none)).2 i d b e
   by_cases hl : i < ρ.length
   ·rw [Zt hl] at e'; cases e'
   ·rw [ZC (by simp; omega)] at e'; cases e'
  ·exact Qf5 M _ i d b h e
theorem QoW (i : Nat) : Qcu ρ (match ρ[i]? with
  | some (some (d, _)) => ρ.set i (some (d, false))
  | _ => ρ) := by
 split
 ·rename_i d b e
  refine ⟨by simp, λ j d' b' h => ?_⟩
  by_cases hj : i = j
  ·subst hj
   have hl : i < ρ.length := (Zg.mp e).1
   rw [Zt hl] at h
   cases h
   exact ⟨b, e, λ z => by cases z⟩
  ·rw [Zk hj] at h
   exact ⟨b', h, id⟩
 ·exact .refl
theorem QbB : ∀ (M : List Nat) (ρ : En), Qcu ρ (QaX M ρ)
 | [], ρ => .refl
 | i :: M, ρ => (QoW i).trans (QbB M _)
theorem Qh2 : ∀ (M : List Nat) (ρ : En) (i : Nat) (d : D), i ∈ M -> (QaX M ρ)[i]? = some (some (d, true)) -> False
 | [], ρ, i, d, h, _ => by simp at h
 | j :: M, ρ, i, d, h, e => by
  rcases Zm.mp h with rfl | h
  ·obtain ⟨b', e', hb⟩ := (QbB M _).2 i d true e
   have : b' = true := hb rfl
   subst this
   split at e'
   ·rename_i d' b e1
    have hl : i < ρ.length := (Zg.mp e1).1
    rw [Zt hl] at e'
    cases e'
   ·rename_i h1
    exact h1 d true e'
  ·exact Qh2 M _ i d h e
def Shr (H0 : Hp) (A0 : List Addr) (ρ : En) (F : Nat -> List Addr) (G : List Addr) : Prop :=
 ∀ a ∈ G, (H0 a = none ∨ a ∈ A0) /\ ∀ (i : Nat) d, ρ[i]? = some (some (d, true)) -> a ∉ F i
theorem Shr.of (r : Rel K H0 A0 hs ρ F σ H) {M : List Nat} {G : List Addr} (s : Src ρ F H M G) : Shr H0 A0 (QaX M ρ) F G := λ a ha => by
 have w := QbB M ρ
 rcases s a ha with h | ⟨i, d, b, e, m, hm⟩
 ·refine ⟨.inl (r.same.free h), λ j d' e' hj => ?_⟩
  obtain ⟨b', e2, _⟩ := w.2 j d' true e'
  obtain ⟨vs, q⟩ := r.mem e2 hj
  rw [h] at q; cases q
 ·refine ⟨r.src i d b e a m, λ j d' e' hj => ?_⟩
  obtain ⟨b', e2, hb⟩ := w.2 j d' true e'
  have : b' = true := hb rfl
  subst this
  by_cases hij : i = j
  ·subst hij
   rw [e] at e2
   cases e2
   exact Qh2 M ρ i _ (hm rfl) e'
  ·exact (r.own j d' e2).2.2.2.1 i d b hij e a hj m
theorem Rel.QlS (r : Rel K H0 A0 hs ρ F σ H) {i : Nat} {d : D} {v : V} {G : List Addr} (rp : Rp K H d v G) (sh : Shr H0 A0 ρ F G) :
  Rel K H0 A0 hs (ρ.set i (some (d, d.flat))) (λ j => if j = i then G else F j) (σ.set i (some v)) H where
 len := by simp [r.len]
 val := λ j d' b e => by
  by_cases hj : j = i
  ·subst hj
   have hl : j < ρ.length := by
    by_cases hl : j < ρ.length
    ·exact hl
    ·rw [ZC (by simp; omega)] at e; cases e
   rw [Zt hl] at e
   cases e
   exact ⟨v, by rw [Zt (by rw [← r.len]; exact hl)], by rw [if_pos rfl]; exact rp⟩
  ·rw [Zk (Ne.symm hj)] at e
   obtain ⟨w, h1, h2⟩ := r.val j d' b e
   exact ⟨w, by rw [Zk (Ne.symm hj)]; exact h1, by rw [if_neg hj]; exact h2⟩
 own := λ j d' e => by
  by_cases hj : j = i
  ·subst hj
   have hl : j < ρ.length := by
    by_cases hl : j < ρ.length
    ·exact hl
    ·rw [ZC (by simp; omega)] at e; cases e
   rw [Zt hl] at e
   have e1 := Option.some.inj (Option.some.inj e)
   have ed : d = d' := congrArg Prod.fst e1
   have ef : d.flat = true := congrArg Prod.snd e1
   subst ed
   have := rp.QbE ef
   subst this
   rw [if_pos rfl]
   exact ⟨(Qdj d ef).symm, Zah, λ a ha => by simp at ha, λ _ _ _ _ _ a ha => by simp at ha, λ _ _ a ha => by simp at ha⟩
  ·rw [Zk (Ne.symm hj)] at e
   obtain ⟨h1, h2, h3, h4, h5⟩ := r.own j d' e
   rw [if_neg hj]
   refine ⟨h1, h2, h3, λ k d'' b hk ek a ha => ?_, h5⟩
   by_cases hki : k = i
   ·subst hki
    rw [if_pos rfl]
    exact λ hG => (sh a hG).2 j d' e ha
   ·rw [Zk (Ne.symm hki)] at ek
    rw [if_neg hki]
    exact h4 k d'' b hk ek a ha
 src := λ j d' b e a ha => by
  by_cases hj : j = i
  ·subst hj
   rw [if_pos rfl] at ha
   exact (sh a ha).1
  ·rw [Zk (Ne.symm hj)] at e
   rw [if_neg hj] at ha
   exact r.src j d' b e a ha
 held := r.held
 same := r.same
theorem Qtt (r : Rel K H0 A0 hs ρ F σ H) {M : List Nat} (ow : Qbn ρ M) (nd : M.Nodup) (a : Addr) : ((M.map F).flatten).count a <= 1 := by
 induction M with
 | nil => simp
 | cons i M ih =>
  rw [Zu, ZZ, Zaa]
  obtain ⟨h1, h2⟩ := Zaj.mp nd
  have ih' := ih (λ j hj => ow j (Zd _ hj)) h2
  obtain ⟨d, e⟩ := ow i Zi
  obtain ⟨_, nd1, _, apart, _⟩ := r.own i d e
  by_cases ha : a ∈ F i
  ·have c1 : (F i).count a <= 1 := Zai.mp nd1 a
   have c2 : ((M.map F).flatten).count a = 0 := ZL.mpr λ hm => by
    obtain ⟨l, hl, hal⟩ := ZaN.mp hm
    obtain ⟨j, hj, rfl⟩ := ZE.mp hl
    obtain ⟨d', e'⟩ := ow j (Zd _ hj)
    exact apart j d' true (λ z => h1 (z ▸ hj)) e' a ha hal
   omega
  ·have : (F i).count a = 0 := ZL.mpr ha
   omega
theorem QX.fresh (r : Rel K H0 A0 hs ρ F σ H) {rr : R} {v : V} {G : List Addr} (p : QX K ρ F H H' rr v G) (hf : rr.fr = true) (nd : rr.M.Nodup) :
  G.Nodup /\ ∀ a ∈ G, H0 a = none /\ (H a = none ∨ ∃ i d, i ∈ rr.M /\ ρ[i]? = some (some (d, true)) /\ a ∈ F i) := by
 obtain ⟨c, _⟩ := p.cnt hf
 refine ⟨Zai.mpr λ a => ?_, λ a ha => ?_⟩
 ·have h1 := c a
  have h2 := Qtt r p.own nd a
  cases q : H a with
  | none => rw [Qa7 q, r.fl0 p.own q] at h1; omega
  | some o => rw [Qdh q] at h1; omega
 ·cases q : H a with
  | none => exact ⟨r.same.free q, .inl rfl⟩
  | some o =>
   have h1 := c a
   rw [Qdh q] at h1
   have h2 : 0 < G.count a := Zag.mpr ha
   obtain ⟨l, hl, hal⟩ := ZaN.mp (Zag.mp (by omega : 0 < ((rr.M.map F).flatten).count a))
   obtain ⟨i, hi, rfl⟩ := ZE.mp hl
   obtain ⟨d, e⟩ := p.own i hi
   exact ⟨(r.own i d e).2.2.1 a hal, .inr ⟨i, d, hi, e, hal⟩⟩
theorem Rel.Quy (r : Rel K H0 A0 hs ρ F σ H) {i : Nat} {rr : R} {v : V} {G : List Addr} (p : QX K ρ F H H' rr v G) (hf : rr.fr = true) (nd : rr.M.Nodup) :
  Rel K H0 A0 hs ((kill rr.M ρ).set i (some (rr.d, true))) (λ j => if j = i then G else F j) (σ.set i (some v)) H' := by
 have r1 := (r.ext p.same).weak (Qcr rr.M ρ)
 obtain ⟨gn, gs⟩ := p.fresh r hf nd
 have gl := (p.cnt hf).2
 have apart : ∀ (j : Nat) d b, (kill rr.M ρ)[j]? = some (some (d, b)) -> ∀ a ∈ G, a ∉ F j := λ j d b e a ha hj => by
  obtain ⟨b', e', _⟩ := (Qcr rr.M ρ).2 j d b e
  rcases (gs a ha).2 with q | ⟨k, d', hk, ek, hak⟩
  ·obtain ⟨vs, w⟩ := r.mem e' hj
   rw [q] at w; cases w
  ·have hjk : j ≠ k := λ z => by subst z; exact Qf5 rr.M ρ j d b hk e
   exact (r.own k d' ek).2.2.2.1 j d b' hjk e' a hak hj
 have apartH : ∀ t ∈ hs, ∀ a ∈ G, a ∉ t.2.2 := λ t ht a ha hj => by
  rcases (gs a ha).2 with q | ⟨k, d', hk, ek, hak⟩
  ·obtain ⟨vs, w⟩ := (r.held t ht).1.mem a hj
   rw [q] at w; cases w
  ·exact (r.own k d' ek).2.2.2.2 t ht a hak hj
 have lt : ∀ {j : Nat} {x : Option (D × Bool)} {y : D × Bool}, ((kill rr.M ρ).set j x)[j]? = some (some y) -> j < (kill rr.M ρ).length := λ {j x y} e => by
  by_cases hl : j < (kill rr.M ρ).length
  ·exact hl
  ·rw [ZC (by simp; omega)] at e; cases e
 refine ⟨by simp [r1.len], λ j d b e => ?_, λ j d e => ?_, λ j d b e a ha => ?_, r1.held, r1.same⟩
 ·by_cases hj : j = i
  ·subst hj
   have hl := lt e
   rw [Zt hl] at e
   cases e
   exact ⟨v, by rw [Zt (by rw [← r1.len]; exact hl)], by rw [if_pos rfl]; exact p.rp⟩
  ·rw [Zk (Ne.symm hj)] at e
   obtain ⟨w, h1, h2⟩ := r1.val j d b e
   exact ⟨w, by rw [Zk (Ne.symm hj)]; exact h1, by rw [if_neg hj]; exact h2⟩
 ·by_cases hj : j = i
  ·subst hj
   have hl := lt e
   rw [Zt hl] at e
   cases e
   rw [if_pos rfl]
   refine ⟨gl, gn, λ a ha => (gs a ha).1, λ k d' b hk ek a ha => ?_, apartH⟩
   rw [Zk (Ne.symm hk)] at ek
   rw [if_neg hk]
   exact apart k d' b ek a ha
  ·rw [Zk (Ne.symm hj)] at e
   obtain ⟨h1, h2, h3, h4, h5⟩ := r1.own j d e
   rw [if_neg hj]
   refine ⟨h1, h2, h3, λ k d' b hk ek a ha => ?_, h5⟩
   by_cases hki : k = i
   ·subst hki
    rw [if_pos rfl]
    exact λ hG => apart j d true e a hG ha
   ·rw [Zk (Ne.symm hki)] at ek
    rw [if_neg hki]
    exact h4 k d' b hk ek a ha
 ·by_cases hj : j = i
  ·subst hj
   rw [if_pos rfl] at ha
   exact .inl (gs a ha).1
  ·rw [Zk (Ne.symm hj)] at e
   rw [if_neg hj] at ha
   exact r1.src j d b e a ha
noncomputable def asg (i : Nat) (r : R) (ρ : En) : En :=
 if r.norm.fr && decide r.norm.M.Nodup then (kill r.norm.M ρ).set i (some (r.d, true)) else (QaX r.norm.M ρ).set i (some (r.d, r.d.flat))
theorem Rel.asg (r : Rel K H0 A0 hs ρ F σ H) {i : Nat} {rr : R} {v : V} {G : List Addr} (p : QX K ρ F H H' rr v G) : ∃ F', Rel K H0 A0 hs (asg i rr ρ) F' (σ.set i (some v)) H' := by
 have p' := p.norm
 unfold HS.asg
 split
 ·rename_i h
  simp only [Zf, decide_eq_true_eq] at h
  have := r.Quy (i := i) p' h.1 h.2
  rw [rr.QcY] at this
  exact ⟨_, this⟩
 ·have r1 := (r.ext p'.same).weak (QbB rr.norm.M ρ)
  have rp := p'.rp
  rw [rr.QcY] at rp
  have sh := Shr.of r p'.src
  exact ⟨_, r1.QlS rp sh⟩
theorem Rel.hold (r : Rel K H0 A0 hs ρ F σ H) {ts : List (V × D × List Addr)} (h : ∀ t ∈ ts, Rp K H t.2.1 t.1 t.2.2 /\ Shr H0 A0 ρ F t.2.2) : Rel K H0 A0 (ts ++ hs) ρ F σ H where
 len := r.len
 val := r.val
 own := λ i d e => by
  obtain ⟨h1, h2, h3, h4, h5⟩ := r.own i d e
  refine ⟨h1, h2, h3, h4, λ t ht a ha hm => ?_⟩
  rcases Zn.mp ht with z | z
  ·exact ((h t z).2 a hm).2 i d e ha
  ·exact h5 t z a ha hm
 src := r.src
 held := λ t ht => by
  rcases Zn.mp ht with z | z
  ·exact ⟨(h t z).1, λ a ha => ((h t z).2 a ha).1⟩
  ·exact r.held t z
 same := r.same
theorem Rel.QjJ {ts : List (V × D × List Addr)} (r : Rel K H0 A0 (ts ++ hs) ρ F σ H) : Rel K H0 A0 hs ρ F σ H where
 len := r.len
 val := r.val
 own := λ i d e => let ⟨h1, h2, h3, h4, h5⟩ := r.own i d e; ⟨h1, h2, h3, h4, λ t ht => h5 t (Ze _ ht)⟩
 src := r.src
 held := λ t ht => r.held t (Ze _ ht)
 same := r.same
end
end HS
namespace HS
open PySem PySem.Spec L2
structure Ret (K : PySem.W.Frag) (H0 : Hp) (A0 : List Addr) (d : D) (fr : Bool) (v : V) (H' : Hp) (G : List Addr) : Prop where
 same : QD H0 H'
 rp : Rp K H' d v G
 src : ∀ a ∈ G, H0 a = none ∨ a ∈ A0
 cnt : fr = true -> G.Nodup /\ G.length = d.nl /\ ∀ a ∈ G, H0 a = none
noncomputable abbrev Den := List D -> Option (D × Bool)
noncomputable def spV (K : PySem.W.Frag) (n : Nat) (den : Den) : Sp := λ vs H Q _ => ∃ ds F d fr, Rps K H ds vs F /\ ds.length = n /\ den ds = some (d, fr) /\ ∀ v H' G, Ret K H F d fr v H' G -> Q v H'
theorem Qiq {K : PySem.W.Frag} {n : Nat} {den : Den} {ps : List Str} (hn : ps.length = n) : ∀ vs H Q E, spV K n den vs H Q E -> vs.length = ps.length := λ vs H Q E ⟨ds, F, d, fr, r, hl, _⟩ => by rw [hn, ← hl, r.length]
noncomputable def Qn (n : Nat) (den : Den) (dfl : List D) (fs : DA) : DE := λ ρ => (fs ρ).bind λ r => if r.ds.length + dfl.length = n then (den (r.ds ++ dfl)).map λ q => if q.2 = true then ⟨q.1, true, []⟩ else R.norm ⟨q.1, false, r.M⟩ else none
section
variable {X : Cx} {e : Expr} {es : List Expr} {fs : DA} {pos p : Pos} {x : Str} {n k : Nat} {f : Addr} {fd : FuncData} {ps : List Str} {den : Den} {dfl : List D} {dvs : List V} {ds : List Value}
theorem QfN {σ : L2.St} {H H0 : Hp} {A0 : List Addr} {Q : VK} (hdf : ∀ H, Rps X.K H dfl dvs []) : tV X.K H0 A0 (Qn n den dfl fs) σ H Q -> Qmj (spV X.K n den) dvs E0 (tVA X.K H0 A0 fs) σ H Q := λ ⟨ρ, hs, F, r, rel, e, q⟩ => by
 obtain ⟨ra, e1, e⟩ := bind1 e
 split at e
 ·rename_i hl
  obtain ⟨⟨d, fr⟩, e2, e⟩ := Zb.mp e
  refine ⟨ρ, hs, F, ra, rel, e1, λ vs H1 G p1 => ⟨ra.ds ++ dfl, G ++ [], d, fr, p1.rp.append (hdf H1), by rw [Zl]; exact hl, e2, λ v H2 G2 rt => ?_⟩⟩
  subst e
  have src : Src ρ F H ra.M G2 := λ a ha => by
   rcases rt.src a ha with z | z
   ·exact .inl (p1.same.free z)
   ·rw [Zab] at z
    exact p1.src a z
  split at q
  ·rename_i hf
   have hf : fr = true := hf
   obtain ⟨nd, hn, fresh⟩ := rt.cnt hf
   have hH : ∀ a ∈ G2, H a = none := λ a ha => p1.same.free (fresh a ha)
   refine q v H2 G2 ⟨p1.same.trans rt.same, rt.rp, λ a ha => .inl (hH a ha), λ _ => ⟨λ a => ?_, hn⟩, Qbn.nil⟩
   by_cases ha : a ∈ G2
   ·rw [Qa7 (hH a ha)]; have := Zai.mp nd a; omega
   ·rw [ZL.mpr ha]; exact ZO _
  ·refine q v H2 G2 (QX.norm ⟨p1.same.trans rt.same, rt.rp, src, λ z => (by cases z), p1.own⟩)
 ·cases e
theorem Qrt (Fk : Qbe X.prog X.w X.K X.mg X.base CX0 k f fd ps (spV X.K n den)) (hr : Qaj k X.A) (hg : Gl X x) (hm : X.mg x = some (.ref f)) (hk : PySem.W.keepIn X.K (.ref f) = true) (hb : Binds X.K fd ps ds) (hd : Qq dvs ds) (hdf : ∀ H, Rps X.K H dfl dvs [])
  (ha : SA X (e :: es) fs) (hdb : (x == ("__debug__" : Str)) = false) (he : starEach (e :: es) X.env = (false, eval e X.env) :: starEach es X.env) (hpl : (backTo pos (starEach es X.env)).any (·.1) = false) :
  SE X (.Call (.Name x p) (e :: es) [] pos) (Qn n den dfl fs) := λ H0 A0 =>
 (Qqm Fk hr hg hm hk hb hd Qms (ha H0 A0) hdb he hpl).mono λ σ H Q h => QfN hdf h
theorem QoF (Fk : Qbe X.prog X.w X.K X.mg X.base CX0 k f fd ps (spV X.K n den)) (hr : Qaj k X.A) (hg : Gl X x) (hm : X.mg x = some (.ref f)) (hk : PySem.W.keepIn X.K (.ref f) = true) (hb : Binds X.K fd ps ds) (hd : Qq dvs ds) (hdf : ∀ H, Rps X.K H dfl dvs [])
  (hdb : (x == ("__debug__" : Str)) = false) : SE X (.Call (.Name x p) [] [] pos) (Qn n den dfl Qd) := λ H0 A0 =>
 (QoT Fk hr hg hm hk hb hd Qms hdb).mono λ σ H Q h => by
  have h' := QfN (X := X) (H0 := H0) (A0 := A0) hdf h
  obtain ⟨ρ, hs, F, r, rel, e, q⟩ := h'
  cases e
  exact q [] H [] ⟨QD.refl _, by simp [Rps], Src.nil, λ _ => ⟨Cnt.nil, rfl⟩, Qbn.nil⟩
end
structure IR where
 items : List D
 M : List Nat
noncomputable abbrev DI := En -> Option IR
def Qh7 (K : PySem.W.Frag) (H : Hp) (ts : List (V × D × List Addr)) : Prop := ∀ t ∈ ts, Rp K H t.2.1 t.1 t.2.2
structure Walk (K : PySem.W.Frag) (J : It) (ts : List (V × D × List Addr)) (ds : List D) : Prop where
 stop : ∀ H, Qh7 K H ts -> J.stop ds.length H
 go : ∀ i H, i < ds.length -> Qh7 K H ts -> J.go i H
 yld : ∀ (i : Nat) d H x H', ds[i]? = some d -> Qh7 K H ts -> J.yld i H x H' -> QD H H' /\ ∃ G, Rp K H' d x G /\ ∀ a ∈ G, ∃ t ∈ ts, a ∈ t.2.2
noncomputable def tI (K : PySem.W.Frag) (H0 : Hp) (A0 : List Addr) (f : DI) : TI := λ σ H Rr => ∃ ρ hs F ir, Rel K H0 A0 hs ρ F σ H /\ f ρ = some ir ∧
 ∀ J H1 ts, QD H H1 -> Walk K J ts ir.items -> (∀ t ∈ ts, Rp K H1 t.2.1 t.1 t.2.2 /\ Src ρ F H ir.M t.2.2) -> Qbn ρ ir.M -> ir.items.length <= sizeLine -> Rr J H1
def SI (X : Cx) (tg e : Expr) (f : DI) : Prop := ∀ H0 A0, PI X tg e (tI X.K H0 A0 f)
theorem _root_.L2.PI.mono {X : Cx} {tg e : Expr} {t t' : TI} (h : PI X tg e t) (m : ∀ σ H Q, t' σ H Q -> t σ H Q) : PI X tg e t' := λ pins s σ H Q I q => h pins s σ H Q I (m σ H Q q)
section
variable {X : Cx} {tg a b : Expr} {fa fb : DE} {fs : DA} {pos p : Pos}
theorem Rps.nth {K : PySem.W.Frag} {H : Hp} {ds : List D} {vs : List V} {F : List Addr} {i : Nat} {d : D} (h : Rps K H ds vs F) (e : ds[i]? = some d) : ∃ v G, vs[i]? = some v /\ Rp K H d v G /\ ∀ a ∈ G, a ∈ F := by
 obtain ⟨v, F1, G, F2, h1, h2, h3, _⟩ := h.get e
 exact ⟨v, G, h1, h3, λ a ha => by rw [h2]; exact Ze _ (Zc _ ha)⟩
noncomputable def Quz (K : PySem.W.Frag) (tl : TE) : TI := λ σ H Rr => tl σ H λ x H1 => (∃ a, x = .ref a /\ (∃ xs, SqL K H1 a xs) /\ Rr (Itl K a) H1) ∨ (∃ a, x = .ref a /\ (∃ xs, SqT K H1 a xs) /\ Rr (Itt K a) H1)
theorem Qte {l : Expr} {tl : TE} (hl : PE X l tl) : PI X tg l (Quz X.K tl) := by
 intro pins s σ H Rr I h
 refine thn (hl pins s σ H _ I h) λ v s1 ⟨x, H1, I1, r1, q1⟩ => ?_
 rcases q1 with ⟨a, e, ⟨xs, hq⟩, q⟩ | ⟨a, e, ⟨xs, hq⟩, q⟩
 ·subst e
  cases r1
  obtain ⟨its, rv, pl, hz⟩ := I1.list hq
  refine wpAny_pyIter_list pl.isList ⟨s1.heap.objs.size, [s1.heap.objs.size], _, _, H1, rfl, I1.kept (t' := s1.toks) λ b o e => Zq _ e, Qn0 a _, ⟨_, ZG _ rfl, rfl, rfl⟩, λ b hb => ?_, q⟩
  have e : b = s1.heap.objs.size := by simpa using hb
  subst e
  exact I1.Qj8 (Zj _) (I1.hok.fresh (Zj _))
 ·subst e
  cases r1
  obtain ⟨its, rv, pl, hz⟩ := I1.tuple hq
  refine wpAny_pyIter_tuple (show s1.heap.IsTuple a its.toArray from pl) ⟨s1.heap.objs.size, [s1.heap.objs.size], _, _, H1, rfl, I1.kept (t' := s1.toks) λ b o e => Zq _ e, Qmw a _, ⟨_, ZG _ rfl, rfl, rfl⟩, λ b hb => ?_, q⟩
  have e : b = s1.heap.objs.size := by simpa using hb
  subst e
  exact I1.Qj8 (Zj _) (I1.hok.fresh (Zj _))
noncomputable def QR (fa : DE) : DI := λ ρ => (fa ρ).bind λ r => match r.d with
 | .lst xs => some ⟨xs, r.M⟩
 | .tup xs => if xs.length <= sizeLine then some ⟨xs, r.M⟩ else none
 | _ => none
theorem Qn5 {K : PySem.W.Frag} {c : Addr} {ds : List D} {G : List Addr} : Walk K (Itl K c) [(.ref c, .lst ds, G)] ds where
 stop := λ H h => by
  obtain ⟨l, vs, L, e, hl, rl, zl, el⟩ := (h _ (ZD.mpr rfl)).lst_inv
  cases e
  exact ⟨vs, Q1 hl, by rw [rl.length]; exact Zj _⟩
 go := λ i H hi h => by
  obtain ⟨l, vs, L, e, hl, rl, zl, el⟩ := (h _ (ZD.mpr rfl)).lst_inv
  cases e
  have : i < vs.length := by rw [← rl.length]; exact hi
  exact ⟨vs, vs[i], Q1 hl, by simp [this]⟩
 yld := λ i d H x H' e h y => by
  obtain ⟨l, vs, L, e1, hl, rl, zl, el⟩ := (h _ (ZD.mpr rfl)).lst_inv
  cases e1
  obtain ⟨rfl, y⟩ := y
  obtain ⟨v, G', h1, h2, h3⟩ := rl.nth e
  have := y vs (Q1 hl)
  rw [h1] at this
  cases this
  refine ⟨QD.refl _, G', h2, λ z hz => ⟨_, ZD.mpr rfl, ?_⟩⟩
  have := h3 z hz
  rcases el with rfl | rfl
  ·exact Zd _ this
  ·exact this
theorem Qpq {K : PySem.W.Frag} {c : Addr} {ds : List D} {G : List Addr} : Walk K (Itt K c) [(.ref c, .tup ds, G)] ds where
 stop := λ H h => by
  obtain ⟨l, vs, e, hl, rl⟩ := (h _ (ZD.mpr rfl)).QaU
  cases e
  exact ⟨vs, hl, by rw [rl.length]; exact Zj _⟩
 go := λ i H hi h => by
  obtain ⟨l, vs, e, hl, rl⟩ := (h _ (ZD.mpr rfl)).QaU
  cases e
  have : i < vs.length := by rw [← rl.length]; exact hi
  exact ⟨vs, vs[i], hl, by simp [this]⟩
 yld := λ i d H x H' e h y => by
  obtain ⟨l, vs, e1, hl, rl⟩ := (h _ (ZD.mpr rfl)).QaU
  cases e1
  obtain ⟨rfl, y⟩ := y
  obtain ⟨v, G', h1, h2, h3⟩ := rl.nth e
  have := y vs hl
  rw [h1] at this
  cases this
  exact ⟨QD.refl _, G', h2, λ z hz => ⟨_, ZD.mpr rfl, h3 z hz⟩⟩
theorem Qsw (ha : SE X a fa) : SI X tg a (QR fa) := λ H0 A0 => (Qte (ha H0 A0)).mono λ σ H Rr ⟨ρ, hs, F, ir, rel, e, q⟩ => by
 obtain ⟨r, e1, e⟩ := bind1 e
 refine ⟨ρ, hs, F, r, rel, e1, λ v H1 G p => ?_⟩
 have rp := p.rp
 cases hr : r.d with
 | lst xs =>
  rw [hr] at e rp
  cases e
  obtain ⟨c, vs, L, rfl, hl, rl, zl, el⟩ := rp.lst_inv
  refine .inl ⟨c, rfl, ⟨vs, Q1 hl⟩, q _ H1 [(.ref c, .lst xs, G)] p.same Qn5 (λ t ht => ?_) p.own zl⟩
  rw [ZD.mp ht]
  exact ⟨rp, p.src⟩
 | tup xs =>
  rw [hr] at e rp
  dsimp only at e
  split at e
  ·rename_i hz
   cases e
   obtain ⟨c, vs, rfl, hl, rl⟩ := rp.QaU
   refine .inr ⟨c, rfl, ⟨vs, hl⟩, q _ H1 [(.ref c, .tup xs, G)] p.same Qpq (λ t ht => ?_) p.own hz⟩
   rw [ZD.mp ht]
   exact ⟨rp, p.src⟩
  ·cases e
 | _ => rw [hr] at e; cases e
noncomputable def Qg3 (lo : Int) (n : Nat) : List D := (List.range n).map λ (k : Nat) => .int (lo + (k : Int))
theorem Qg0 {lo : Int} {n : Nat} : (Qg3 lo n).length = n := by simp [Qg3]
theorem QoV {lo : Int} {n i : Nat} {d : D} (h : (Qg3 lo n)[i]? = some d) : i < n /\ d = .int (lo + i) := by
 unfold Qg3 at h
 rw [Zz] at h
 cases q : (List.range n)[i]? with
 | none => rw [q] at h; cases h
 | some k =>
  rw [q] at h
  obtain ⟨h1, h2⟩ := Zg.mp q
  simp at h1 h2
  subst h2
  exact ⟨h1, (Option.some.inj h).symm⟩
theorem Qmf {K : PySem.W.Frag} {lo : Int} {n : Nat} : Walk K (Itr lo n) [] (Qg3 lo n) where
 stop := λ H _ => by rw [Qg0]; exact Zj _
 go := λ i H hi _ => by rw [Qg0] at hi; exact hi
 yld := λ i d H x H' e _ y => by
  obtain ⟨h1, rfl⟩ := QoV e
  obtain ⟨rfl, rfl⟩ := y
  exact ⟨QD.refl _, [], .int_mk, λ z hz => by simp at hz⟩
noncomputable def Qcj (fa : DE) : DI := λ ρ => (fa ρ).bind λ r => match r.d with
 | .int j => if j <= 16777216 /\ -(2 ^ 62) <= j then some ⟨Qg3 0 j.toNat, []⟩ else none
 | _ => none
theorem QiC : (sizeLine : Nat) = 16777216 := sizeLine_eq
theorem QnM (hg : Gl X "range") (hm : X.mg "range" = none) (ha : SE X a fa) (hs : starEach [a] X.env = [(false, eval a X.env)]) : SI X tg (.Call (.Name "range" p) [a] [] pos) (Qcj fa) := λ H0 A0 =>
 (QmX hg hm (QaV (ha H0 A0) QcL hs) hs).mono λ σ H Rr ⟨ρ, hs, F, ir, rel, e, q⟩ => by
  obtain ⟨r, e1, e⟩ := bind1 e
  refine ⟨ρ, hs, F, r, rel, e1, λ v H1 G pp => ?_⟩
  have rp := pp.rp
  cases hr : r.d with
  | int j =>
   rw [hr] at e rp
   dsimp only at e
   split at e
   ·rename_i hz
    cases e
    rw [rp.int_inv]
    refine ⟨j, rfl, hz.2, by omega, q _ H1 [] pp.same Qmf (λ t ht => by simp at ht) Qbn.nil ?_⟩
    rw [Qg0, QiC]; omega
   ·cases e
  | _ => rw [hr] at e; cases e
noncomputable def Qd1 (ds : List D) : List D := ds.zipIdx.map λ q => .tup [.int q.2, q.1]
theorem QfK {ds : List D} : (Qd1 ds).length = ds.length := by simp [Qd1]
theorem Qnv {ds : List D} {i : Nat} {d : D} (h : (Qd1 ds)[i]? = some d) : ∃ e, ds[i]? = some e /\ d = .tup [.int i, e] := by
 unfold Qd1 at h
 rw [Zz, List.getElem?_zipIdx] at h
 cases q : ds[i]? with
 | none => rw [q] at h; cases h
 | some e => rw [q] at h; simp at h; exact ⟨e, rfl, h.symm⟩
theorem QnP {K : PySem.W.Frag} {c : Addr} {ds : List D} {G : List Addr} : Walk K (Ite K c) [(.ref c, .lst ds, G)] (Qd1 ds) where
 stop := λ H h => by
  obtain ⟨l, vs, L, e, hl, rl, zl, el⟩ := (h _ (ZD.mpr rfl)).lst_inv
  cases e
  exact ⟨vs, Q1 hl, by rw [QfK, rl.length]; exact Zj _⟩
 go := λ i H hi h => by
  obtain ⟨l, vs, L, e, hl, rl, zl, el⟩ := (h _ (ZD.mpr rfl)).lst_inv
  cases e
  rw [QfK] at hi
  have : i < vs.length := by rw [← rl.length]; exact hi
  exact ⟨vs, vs[i], Q1 hl, by simp [this]⟩
 yld := λ i d H x H' e h y => by
  obtain ⟨l, vs, L, e1, hl, rl, zl, el⟩ := (h _ (ZD.mpr rfl)).lst_inv
  cases e1
  obtain ⟨d', e', rfl⟩ := Qnv e
  obtain ⟨pp, u, rfl, hp, rfl, y⟩ := y
  obtain ⟨v, G', h1, h2, h3⟩ := rl.nth e'
  have := y vs (Q1 hl)
  rw [h1] at this
  cases this
  have s := Qcw (o := .tup [.int i, u]) hp
  refine ⟨s, G', Rp.QjZ Qar ?_, λ z hz => ⟨_, ZD.mpr rfl, ?_⟩⟩
  ·simp only [Rps]
   exact ⟨.int i, [u], [], G', rfl, rfl, .int_mk, u, [], G', [], rfl, by simp, h2.same s, rfl, rfl⟩
  ·have := h3 z hz
   rcases el with rfl | rfl
   ·exact Zd _ this
   ·exact this
noncomputable def Qhu (fa : DE) : DI := λ ρ => (fa ρ).bind λ r => match r.d with
 | .lst xs => some ⟨Qd1 xs, r.M⟩
 | _ => none
theorem Qqx {es : List Expr} {tk : Nat} {tpos : Pos} (hg : Gl X "enumerate") (hm : X.mg "enumerate" = none) (ha : SE X a fa) (hs : starEach [a] X.env = [(false, eval a X.env)]) : SI X (.Tuple es tk tpos) (.Call (.Name "enumerate" p) [a] [] pos) (Qhu fa) := λ H0 A0 =>
 (Qq7 hg hm (QaV (ha H0 A0) QcL hs) hs).mono λ σ H Rr ⟨ρ, hs, F, ir, rel, e, q⟩ => by
  obtain ⟨r, e1, e⟩ := bind1 e
  refine ⟨ρ, hs, F, r, rel, e1, λ v H1 G pp => ?_⟩
  have rp := pp.rp
  cases hr : r.d with
  | lst xs =>
   rw [hr] at e rp
   cases e
   obtain ⟨c, vs, L, rfl, hl, rl, zl, el⟩ := rp.lst_inv
   refine ⟨c, rfl, ⟨vs, Q1 hl⟩, q _ H1 [(.ref c, .lst xs, G)] pp.same QnP (λ t ht => ?_) pp.own (by rw [QfK]; exact zl)⟩
   rw [ZD.mp ht]
   exact ⟨rp, pp.src⟩
  | _ => rw [hr] at e; cases e
noncomputable def Qfy (xs ys : List D) : List D := (xs.zip ys).map λ q => .tup [q.1, q.2]
theorem Qhj {xs ys : List D} : (Qfy xs ys).length = min xs.length ys.length := by simp [Qfy]
theorem Qoo {xs ys : List D} {i : Nat} {d : D} (h : (Qfy xs ys)[i]? = some d) : ∃ e f, xs[i]? = some e /\ ys[i]? = some f /\ d = .tup [e, f] := by
 unfold Qfy at h
 rw [Zz] at h
 cases q : (xs.zip ys)[i]? with
 | none => rw [q] at h; cases h
 | some e =>
  rw [q] at h
  obtain ⟨h1, h2⟩ := List.getElem?_zip_eq_some.mp q
  exact ⟨e.1, e.2, h1, h2, (Option.some.inj h).symm⟩
theorem Qpo {K : PySem.W.Frag} {c c' : Addr} {xs ys : List D} {G G' : List Addr} : Walk K (Itz K c c') [(.ref c, .lst xs, G), (.ref c', .lst ys, G')] (Qfy xs ys) where
 stop := λ H h => by
  obtain ⟨l, vs, L, e, hl, rl, zl, el⟩ := (h _ (Zi)).lst_inv
  obtain ⟨l', vs', L', e', hl', rl', zl', el'⟩ := (h _ (Zd _ Zi)).lst_inv
  cases e
  cases e'
  refine ⟨vs, vs', Q1 hl, Q1 hl', ?_⟩
  rw [Qhj, ← rl.length, ← rl'.length]; omega
 go := λ i H hi h => by
  obtain ⟨l, vs, L, e, hl, rl, zl, el⟩ := (h _ (Zi)).lst_inv
  obtain ⟨l', vs', L', e', hl', rl', zl', el'⟩ := (h _ (Zd _ Zi)).lst_inv
  cases e
  cases e'
  rw [Qhj] at hi
  have h1 : i < vs.length := by rw [← rl.length]; omega
  have h2 : i < vs'.length := by rw [← rl'.length]; omega
  exact ⟨vs, vs', vs[i], vs'[i], Q1 hl, Q1 hl', by simp [h1], by simp [h2]⟩
 yld := λ i d H x H' e h y => by
  obtain ⟨l, vs, L, e1, hl, rl, zl, el⟩ := (h _ (Zi)).lst_inv
  obtain ⟨l', vs', L', e1', hl', rl', zl', el'⟩ := (h _ (Zd _ Zi)).lst_inv
  cases e1
  cases e1'
  obtain ⟨d1, d2, ea, eb, rfl⟩ := Qoo e
  obtain ⟨pp, u, u', rfl, hp, rfl, y, y'⟩ := y
  obtain ⟨v, G1, h1, h2, h3⟩ := rl.nth ea
  obtain ⟨v', G2, h1', h2', h3'⟩ := rl'.nth eb
  have := y vs (Q1 hl)
  rw [h1] at this
  cases this
  have := y' vs' (Q1 hl')
  rw [h1'] at this
  cases this
  have s := Qcw (o := .tup [u, u']) hp
  refine ⟨s, G1 ++ G2, Rp.QjZ Qar ?_, λ z hz => ?_⟩
  ·simp only [Rps]
   exact ⟨u, [u'], G1, G2, rfl, rfl, h2.same s, u', [], G2, [], rfl, by simp, h2'.same s, rfl, rfl⟩
  ·rcases Zn.mp hz with hz | hz
   ·refine ⟨_, Zi, ?_⟩
    have := h3 z hz
    rcases el with rfl | rfl
    ·exact Zd _ this
    ·exact this
   ·refine ⟨_, Zd _ Zi, ?_⟩
    have := h3' z hz
    rcases el' with rfl | rfl
    ·exact Zd _ this
    ·exact this
noncomputable def Ql6 (fa fb : DE) : DI := λ ρ => (fa ρ).bind λ r => (fb ρ).bind λ r' => match r.d, r'.d with
 | .lst xs, .lst ys => some ⟨Qfy xs ys, r.M ++ r'.M⟩
 | _, _ => none
theorem Qsv {es : List Expr} {tk : Nat} {tpos : Pos} (hg : Gl X "zip") (hm : X.mg "zip" = none) (ha : SE X a fa) (hb : SE X b fb) (hs : starEach [a, b] X.env = [(false, eval a X.env), (false, eval b X.env)]) (hs2 : starEach [b] X.env = [(false, eval b X.env)]) :
  SI X (.Tuple es tk tpos) (.Call (.Name "zip" p) [a, b] [] pos) (Ql6 fa fb) := λ H0 A0 =>
 (Qsi hg hm (QaV (ha H0 A0) (QaV (hb H0 A0) QcL hs2) (by rw [hs, hs2])) hs hs2).mono λ σ H Rr ⟨ρ, hs, F, ir, rel, e, q⟩ => by
  obtain ⟨r, e1, e⟩ := bind1 e
  obtain ⟨r', e2, e⟩ := bind1 e
  refine ⟨ρ, hs, F, r, rel, e1, λ v H1 G pp => ⟨ρ, hs, F, r', rel.ext pp.same, e2, λ v' H2 G' pp' => ?_⟩⟩
  have rp := pp.rp.same pp'.same
  have rp' := pp'.rp
  cases hr : r.d with
  | lst xs =>
   cases hr' : r'.d with
   | lst ys =>
    rw [hr, hr'] at e
    rw [hr] at rp
    rw [hr'] at rp'
    cases e
    obtain ⟨c, vs, L, rfl, hl, rl, zl, el⟩ := rp.lst_inv
    obtain ⟨c', vs', L', rfl, hl', rl', zl', el'⟩ := rp'.lst_inv
    refine ⟨c, c', rfl, ⟨vs, Q1 hl⟩, ⟨vs', Q1 hl'⟩, q _ H2 [(.ref c, .lst xs, G), (.ref c', .lst ys, G')] (pp.same.trans pp'.same) Qpo (λ t ht => ?_) (pp.own.append pp'.own) (by rw [Qhj]; omega)⟩
    have sa := pp.src.append pp'.src pp.same
    rcases Zm.mp ht with rfl | ht
    ·exact ⟨rp, λ z hz => sa z (Zc _ hz)⟩
    ·rw [ZD.mp ht]
     exact ⟨rp', λ z hz => sa z (Ze _ hz)⟩
   | _ => rw [hr, hr'] at e; cases e
  | _ => rw [hr] at e; cases e
end
end HS
namespace HS
open PySem L2
section
variable {X : Cx} {a b c : Expr} {fa fb fc : DE} {pos p : Pos}
end
end HS
namespace HS
open PySem PySem.Spec L2
inductive Tg where
 | nm (i : Nat)
 | tp (is : List Nat)
noncomputable def Tg.slots : Tg -> List Nat
 | .nm i => [i]
 | .tp is => is
noncomputable def QcX : List Nat -> List D -> En -> En
 | i :: is, d :: ds, ρ => QcX is ds (ρ.set i (some (d, d.flat)))
 | _, _, ρ => ρ
noncomputable def QaW : Tg -> D -> En -> Option En
 | .nm i, d, ρ => some (ρ.set i (some (d, d.flat)))
 | .tp is, .tup xs, ρ => if xs.length = is.length then some (QcX is xs ρ) else none
 | .tp is, .lst xs, ρ => if xs.length = is.length then some (QcX is xs ρ) else none
 | .tp _, _, _ => none
noncomputable def tG (K : PySem.W.Frag) (H0 : Hp) (A0 : List Addr) (t : Tg) : TG := λ v σ H Q => ∃ ρ hs F d G ρ', Rel K H0 A0 hs ρ F σ H /\ Rp K H d v G /\ Shr H0 A0 ρ F G /\ QaW t d ρ = some ρ' ∧
 ∀ σ' F', Rel K H0 A0 hs ρ' F' σ' H -> (∀ j, j ∉ t.slots -> σ'[j]? = σ[j]?) -> (∀ j a, a ∈ F' j -> a ∈ F j ∨ a ∈ G) -> Q σ' H
def SG (X : Cx) (tg : Expr) (t : Tg) : Prop := ∀ H0 A0, PG X tg (tG X.K H0 A0 t)
theorem _root_.L2.PG.mono {X : Cx} {tg : Expr} {t t' : TG} (h : PG X tg t) (m : ∀ v σ H Q, t' v σ H Q -> t v σ H Q) : PG X tg t' := λ pins s σ H v u Q I r q => h pins s σ H v u Q I r (m v σ H Q q)
noncomputable def QhE : List Nat -> TGs
 | [] => QsU
 | i :: is => QpW (Qgs i) (QhE is)
theorem Shr.set {H0 : Hp} {A0 : List Addr} {ρ : En} {F : Nat -> List Addr} {G G1 : List Addr} {i : Nat} {d : D} (h : Shr H0 A0 ρ F G) (hf : d.flat = true -> G1 = []) : Shr H0 A0 (ρ.set i (some (d, d.flat))) (λ j => if j = i then G1 else F j) G := λ a ha => by
 refine ⟨(h a ha).1, λ j d' e => ?_⟩
 by_cases hj : j = i
 ·subst hj
  show ¬ a ∈ (if j = j then G1 else F j)
  rw [if_pos rfl]
  have hl : j < ρ.length := by
   by_cases hl : j < ρ.length
   ·exact hl
   ·rw [ZC (by simp; omega)] at e; cases e
  rw [Zt hl] at e
  have e1 := Option.some.inj (Option.some.inj e)
  rw [hf (congrArg Prod.snd e1)]
  simp
 ·rw [Zk (Ne.symm hj)] at e
  show ¬ a ∈ (if j = i then G1 else F j)
  rw [if_neg hj]
  exact (h a ha).2 j d' e
theorem Qhc {K : PySem.W.Frag} {H0 : Hp} {A0 : List Addr} {hs : List (V × D × List Addr)} : ∀ (is : List Nat) (ds : List D) (vs : List V) (ρ : En) (F : Nat -> List Addr) (σ : L2.St) (H : Hp) (G : List Addr) (Q : L2.St -> Hp -> Prop),
  Rel K H0 A0 hs ρ F σ H -> Rps K H ds vs G -> Shr H0 A0 ρ F G -> ds.length = is.length →
  (∀ σ' F', Rel K H0 A0 hs (QcX is ds ρ) F' σ' H -> (∀ j, j ∉ is -> σ'[j]? = σ[j]?) -> (∀ j a, a ∈ F' j -> a ∈ F j ∨ a ∈ G) -> Q σ' H) -> QhE is vs σ H Q
 | [], ds, vs, ρ, F, σ, H, G, Q, rel, rp, sh, hl, q => by
  have : ds = [] := by simpa using hl
  subst this
  simp only [Rps] at rp
  exact ⟨rp.1, q σ F rel (λ _ _ => rfl) λ _ _ h => .inl h⟩
 | i :: is, [], vs, ρ, F, σ, H, G, Q, rel, rp, sh, hl, q => by simp at hl
 | i :: is, d :: ds, vs, ρ, F, σ, H, G, Q, rel, rp, sh, hl, q => by
  simp only [Rps] at rp
  obtain ⟨v, ws, G1, G2, rfl, rfl, r1, r2⟩ := rp
  refine ⟨v, ws, rfl, ?_⟩
  have sh1 : Shr H0 A0 ρ F G1 := λ a ha => sh a (Zc _ ha)
  have sh2 : Shr H0 A0 ρ F G2 := λ a ha => sh a (Ze _ ha)
  refine Qhc is ds ws _ _ _ H G2 Q (rel.QlS (i := i) r1 sh1) r2 (sh2.set r1.QbE) (by simpa using hl) λ σ' F' rel' k m => q σ' F' rel' (λ j hj => ?_) λ j a ha => ?_
  ·have h1 : j ≠ i := λ z => hj (by rw [z]; exact Zi)
   rw [k j λ z => hj (Zd _ z), Zk (Ne.symm h1)]
  ·rcases m j a ha with z | z
   ·by_cases hj : j = i
    ·rw [if_pos hj] at z; exact .inr (Zc _ z)
    ·rw [if_neg hj] at z; exact .inl z
   ·exact .inr (Ze _ z)
section
variable {X : Cx} {tg : Expr} {pos : Pos}
theorem Qre {i : Nat} {x : Str} (h : PG X (.Name x pos) (Qgs i)) : SG X (.Name x pos) (.nm i) := λ H0 A0 => h.mono λ v σ H Q ⟨ρ, hs, F, d, G, ρ', rel, rp, sh, e, q⟩ => by
 cases e
 refine q _ _ (rel.QlS (i := i) rp sh) (λ j hj => ?_) λ j a ha => ?_
 ·have : j ≠ i := λ z => hj (by simp [Tg.slots, z])
  rw [Zk (Ne.symm this)]
 ·by_cases hj : j = i
  ·rw [if_pos hj] at ha; exact .inr ha
  ·rw [if_neg hj] at ha; exact .inl ha
theorem QqZ {es : List Expr} {k : Nat} {t : TGs} {n : Nat} (hc : X.calm = true) (h : PGs X es t)
  (hn : (assignEach es X.env).length = n) (hst : (assignEach es X.env).findIdx? (·.1) = none) : PG X (.Tuple es k pos) (λ v σ H Q => ∃ a xs, v = .ref a /\ SqL X.K H a xs /\ xs.length = n /\ t xs σ H Q) := by
 intro pins s σ H v u Q I r hw
 obtain ⟨a, xs, e1, hq, hl, hw⟩ := hw
 subst e1
 cases r
 obtain ⟨its, rv, ht, hz⟩ := I.list hq
 rw [PyProof.Rows.assign_Tuple]
 refine wpAny_bind (wpAny_standAt ?_)
 unfold unpack
 rw [hn, hst, show n = its.toArray.size by simp [← hl, rv.length]]
 refine wpAny_bind (wpAny_holding (PySem.W.kun_itemsOf (I.ok.hd hc) ht.isList λ h' hx => ?_))
 have I1 : Inv X pins σ H { s with heap := h' } := I.kept (t' := s.toks) λ b o e => hx b o (ZH (Zo e)) e
 exact h pins _ σ H xs _ Q I1 (by simpa using rv) hw
theorem Qsn {es : List Expr} {k : Nat} {is : List Nat} (hc : X.calm = true) (h : PGs X es (QhE is)) (hn : (assignEach es X.env).length = is.length) (hst : (assignEach es X.env).findIdx? (·.1) = none) : SG X (.Tuple es k pos) (.tp is) := λ H0 A0 =>
 λ pins s σ H v u Q I r ⟨ρ, hs, F, d, G, ρ', rel, rp, sh, e, q⟩ => by
  cases d with
  | tup xs =>
   simp only [QaW] at e
   split at e
   ·rename_i hl
    cases e
    obtain ⟨a, vs, rfl, hq, rs⟩ := rp.QaU
    exact Qtn hc h hn hst pins s σ H _ u Q I r ⟨a, vs, rfl, hq, by rw [← rs.length]; exact hl, Qhc is xs vs ρ F σ H G Q rel rs sh hl q⟩
   ·cases e
  | lst xs =>
   simp only [QaW] at e
   split at e
   ·rename_i hl
    cases e
    obtain ⟨a, vs, L, rfl, hq, rs, _, eG⟩ := rp.lst_inv
    have sub : ∀ b ∈ L, b ∈ G := λ b hb => by
     rcases eG with rfl | rfl
     ·exact Zd _ hb
     ·exact hb
    exact QqZ hc h hn hst pins s σ H _ u Q I r ⟨a, vs, rfl, Q1 hq, by rw [← rs.length]; exact hl, Qhc is xs vs ρ F σ H L Q rel rs (λ b hb => sh b (sub b hb)) hl λ σ' F' rel' k m => q σ' F' rel' k λ j b hb => (m j b hb).imp id (sub b)⟩
   ·cases e
  | _ => simp only [QaW] at e; cases e
end
noncomputable def QdY (cap : List (Option Nat)) (ρ : En) : En := cap.map λ o => o.bind λ i => match ρ[i]? with
 | some (some (d, _)) => some (d, d.flat)
 | _ => none
noncomputable def QlP (cap : List (Option Nat)) (ρ : En) : List Nat := cap.filterMap λ o => o.bind λ i => match ρ[i]? with
 | some (some (d, b)) => if b && !d.flat then some i else none
 | _ => none
noncomputable def Qez (t : Tg) (ft : DT) (fe : DE) (ρc : En) (acc : List D × Bool) (d : D) : Option (List D × Bool) :=
 (QaW t d ρc).bind λ ρ1 => (ft ρ1).bind λ c => if c = true then (fe ρ1).map λ r => (acc.1 ++ [r.d], acc.2 && r.norm.fr) else some acc
noncomputable def Qaa (fi : DI) (t : Tg) (cap : List (Option Nat)) (ft : DT) (fe : DE) : DE := λ ρ => (fi ρ).bind λ ir =>
 (ir.items.foldlM (Qez t ft fe (QdY cap ρ)) ([], true)).map λ q => if q.2 = true then ⟨.lst q.1, true, []⟩ else ⟨.lst q.1, false, ir.M ++ QlP cap ρ⟩
def QcD (ρ : En) : Prop := ∀ (j : Nat) d, ρ[j]? = some (some (d, true)) -> d.flat = true
theorem QcD.set {ρ : En} (h : QcD ρ) (i : Nat) (d : D) : QcD (ρ.set i (some (d, d.flat))) := λ j d' e => by
 by_cases hj : j = i
 ·subst hj
  have hl : j < ρ.length := by
   by_cases hl : j < ρ.length
   ·exact hl
   ·rw [ZC (by simp; omega)] at e; cases e
  rw [Zt hl] at e
  have e1 := Option.some.inj (Option.some.inj e)
  have h1 : d = d' := congrArg Prod.fst e1
  have h2 : d.flat = true := congrArg Prod.snd e1
  rw [← h1]; exact h2
 ·rw [Zk (Ne.symm hj)] at e
  exact h j d' e
theorem QcD.QcX : ∀ (is : List Nat) (ds : List D) {ρ : En}, QcD ρ -> QcD (QcX is ds ρ)
 | [], _, _, h => h
 | _ :: _, [], _, h => h
 | i :: is, d :: ds, _, h => QcD.QcX is ds (h.set i d)
theorem QcD.bind {t : Tg} {d : D} {ρ ρ' : En} (h : QcD ρ) (e : QaW t d ρ = some ρ') : QcD ρ' := by
 cases t with
 | nm i => cases e; exact h.set i d
 | tp is =>
  cases d with
  | tup xs =>
   simp only [QaW] at e
   split at e
   ·cases e; exact h.QcX is xs
   ·cases e
  | lst xs =>
   simp only [QaW] at e
   split at e
   ·cases e; exact h.QcX is xs
   ·cases e
  | _ => simp only [QaW] at e; cases e
theorem Qhh (cap : List (Option Nat)) (ρ : En) : QcD (QdY cap ρ) := λ j d e => by
 unfold QdY at e
 rw [Zz] at e
 cases q : cap[j]? with
 | none => rw [q] at e; cases e
 | some o =>
  rw [q] at e
  cases o with
  | none => cases e
  | some i =>
   simp only [ZY, Za, Option.some.injEq] at e
   split at e
   ·have e1 := Option.some.inj e
    have h1 := congrArg Prod.fst e1
    have h2 := congrArg Prod.snd e1
    dsimp only at h1 h2
    rw [← h1]; exact h2
   ·cases e
theorem QiW {cap : List (Option Nat)} {ρ : En} {j : Nat} {d : D} {b : Bool} (e : (QdY cap ρ)[j]? = some (some (d, b))) : ∃ i b', cap[j]? = some (some i) /\ ρ[i]? = some (some (d, b')) := by
 unfold QdY at e
 rw [Zz] at e
 cases q : cap[j]? with
 | none => rw [q] at e; cases e
 | some o =>
  rw [q] at e
  cases o with
  | none => cases e
  | some i =>
   simp only [ZY, Za, Option.some.injEq] at e
   split at e
   ·rename_i d' b' hi
    have e1 := Option.some.inj e
    have h1 : d' = d := congrArg Prod.fst e1
    subst h1
    exact ⟨i, b', rfl, hi⟩
   ·cases e
def QjC (X : Cx) (ifs : List Expr) (f : DT) : Prop := ∀ H0 A0, PTs X ifs (tVT X.K H0 A0 f)
noncomputable def QbG : DT := λ _ => some true
theorem Qpy {X : Cx} : QjC X [] QbG := λ H0 A0 pins s σ H Q I ⟨ρ, hs, F, b, rel, e, q⟩ => by
 cases e
 exact QqF pins s σ H Q I (q H (QD.refl _))
theorem Qpp {X : Cx} {c : Expr} {f : DT} (h : ST X c f) : QjC X [c] f := λ H0 A0 => Qqy (h H0 A0)
structure Qjp (X : Cx) (N' : List Str) (scope : Scope) (cap : List (Option Nat)) (tgs : List Nat) : Prop where
 len : cap.length = N'.length
 get : ∀ (j i : Nat), cap[j]? = some (some i) -> ∃ x, N'[j]? = some x /\ scope.names.lookup x = some .free /\ X.N[i]? = some x /\ (X.env.kindOf x = some .cell ∨ X.env.kindOf x = some .free)
 apart : ∀ (j i : Nat), cap[j]? = some (some i) -> j ∉ tgs
theorem join_some {α : Type} {o : Option (Option α)} {v : α} (h : o.join = some v) : o = some (some v) := by
 cases o with
 | none => cases h
 | some p => cases p with
  | none => cases h
  | some x => exact h ▸ rfl
theorem Qja {X : Cx} {N' : List Str} {scope : Scope} {fi : DI} {t : Tg} {cap : List (Option Nat)} {ft : DT} {fe : DE} {H0 : Hp} {A0 : List Addr} {σ : L2.St} {H : Hp} {Q : VK} (hc : Qjp X N' scope cap t.slots) :
  tV X.K H0 A0 (Qaa fi t cap ft fe) σ H Q -> Qjw (tI X.K H0 A0 fi) (QhC X N' scope) (tG X.K (λ _ => none) [] t) (tVT X.K (λ _ => none) [] ft) (tV X.K (λ _ => none) [] fe) σ H Q := λ ⟨ρ, hs, F, r, rel, e, q⟩ => by
 obtain ⟨ir, e1, e⟩ := bind1 e
 obtain ⟨⟨xs, f⟩, ef, e⟩ := Zb.mp e
 subst e
 refine ⟨ρ, hs, F, ir, rel, e1, λ J H1 ts s1 wk hts ow hz => ?_⟩
 refine ⟨cap.map λ o => o.bind λ i => σ[i]?.join, ⟨by simp [hc.len], λ j x v hN hv => ?_⟩, λ Dl hD => ?_⟩
 ·rw [Zz] at hv
  cases qc : cap[j]? with
  | none => rw [qc] at hv; cases hv
  | some o =>
   rw [qc] at hv
   cases o with
   | none => cases hv
   | some i =>
    simp only [ZY, Za, Option.some.injEq] at hv
    obtain ⟨y, h1, h2, h3, h4⟩ := hc.get j i qc
    rw [hN] at h1; cases h1
    exact ⟨h2, i, h3, join_some hv, h4⟩
 generalize hσc : (cap.map λ o => o.bind λ i => σ[i]?.join) = σc
 generalize hρc : QdY cap ρ = ρc at ef
 have hF0 : ∃ Fc : Nat -> List Addr, Fc = λ j => match cap[j]? with
  | some (some i) => (match ρ[i]? with
   | some (some _) => F i
   | _ => [])
  | _ => [] := ⟨_, rfl⟩
 obtain ⟨Fc, hFc⟩ := hF0
 have rel1 := rel.ext s1
 have relC : ∀ H2, QD H1 H2 -> Rel X.K (λ _ => none) [] [] ρc Fc σc H2 := λ H2 s2 => by
  refine ⟨by rw [← hρc, ← hσc]; simp [QdY], λ j d b e => ?_, λ j d e => ?_, λ j d b e a ha => .inl rfl, λ t ht => (by simp at ht), λ b o z => (by cases z)⟩
  ·rw [← hρc] at e
   obtain ⟨i, b', h1, h2⟩ := QiW e
   obtain ⟨v, h3, h4⟩ := (rel1.ext s2).val i d b' h2
   refine ⟨v, ?_, ?_⟩
   ·rw [← hσc, Zz, h1]
    simp only [ZY, Za, h3, Option.join_some]
   ·rw [hFc]; simp only [h1, h2]; exact h4
  ·have hf : d.flat = true := Qhh cap ρ j d (by rw [hρc]; exact e)
   have : Fc j = [] := by
    rw [← hρc] at e
    obtain ⟨i, b', h1, h2⟩ := QiW e
    obtain ⟨v, h3, h4⟩ := rel1.val i d b' h2
    rw [hFc]; simp only [h1, h2]; exact h4.QbE hf
   rw [this]
   exact ⟨(Qdj d hf).symm, Zah, λ a ha => (by simp at ha), λ _ _ _ _ _ a ha => (by simp at ha), λ t ht => (by simp at ht)⟩
 have shC : ∀ G, Shr (λ _ => none) [] ρc Fc G := λ G a ha => ⟨.inl rfl, λ j d e hj => by
  have h0 := (relC H1 (QD.refl _)).own j d e
  have hf : d.flat = true := Qhh cap ρ j d (by rw [hρc]; exact e)
  have : (Fc j).length = 0 := by rw [h0.1, Qdj d hf]
  rw [Zat this] at hj
  simp at hj⟩
 have hSh : QcD ρc := by rw [← hρc]; exact Qhh cap ρ
 have heldOf : ∀ H2, QD H1 H2 -> Qh7 X.K H2 ts := λ H2 s2 t ht => (hts t ht).1.same s2
 have oldOf : ∀ a, ((∃ t ∈ ts, a ∈ t.2.2) ∨ ∃ j, a ∈ Fc j) -> (∃ vs, H1 a = some (.lst vs)) /\ (H a = none ∨ ∃ (i : Nat) (d : D) (b : Bool), ρ[i]? = some (some (d, b)) /\ a ∈ F i /\ (b = true -> i ∈ ir.M ++ QlP cap ρ)) := λ a ha => by
  rcases ha with ⟨t, ht, ha⟩ | ⟨j, ha⟩
  ·refine ⟨(hts t ht).1.mem a ha, ?_⟩
   rcases (hts t ht).2 a ha with z | ⟨i, d, b, e, m, w⟩
   ·exact .inl z
   ·exact .inr ⟨i, d, b, e, m, λ hb => Zc _ (w hb)⟩
  ·have ha0 := ha
   rw [hFc] at ha
   dsimp only at ha
   split at ha
   ·rename_i i hi
    split at ha
    ·rename_i db hdb
     obtain ⟨d, b⟩ := db
     obtain ⟨v, h3, h4⟩ := rel1.val i d b hdb
     refine ⟨h4.mem a ha, .inr ⟨i, d, b, hdb, ha, λ hb => Ze _ ?_⟩⟩
     unfold QlP
     refine Zau.mpr ⟨some i, Zac hi, ?_⟩
     simp only [Za, hdb]
     have hnf : d.flat = false := by
      cases hf : d.flat with
      | false => rfl
      | true => rw [h4.QbE hf] at ha; simp at ha
     rw [hb, hnf]; rfl
    ·simp at ha
   ·simp at ha
 have fresh5 : ∀ H2, QD H1 H2 -> ∀ a, H2 a = none -> H1 a = none := λ H2 s2 a h => s2.free h
 refine ⟨λ i m acc H2 => m = ir.items.length - i /\ i <= ir.items.length /\ QD H1 H2 /\ H2 Dl = some (.lst acc) /\ ∃ (ys : List D) (g : Bool) (G : List Addr), (ir.items.drop i).foldlM (Qez t ft fe ρc) (ys, g) = some (xs, f) /\ Rps X.K H2 ys acc G /\ ys.length <= i ∧
  (∀ a ∈ G, a ≠ Dl /\ (H1 a = none ∨ (∃ t ∈ ts, a ∈ t.2.2) ∨ ∃ j, a ∈ Fc j)) /\ (g = true -> G.length = nls ys /\ ∀ a, G.count a <= nw H1 a), ⟨ir.items.length, rfl, ZO _, Qcw hD, Qar, [], true, [], by simpa using ef, by simp [Rps], Zj _, λ a ha => (by simp at ha), λ _ => ⟨rfl, λ a => by simp⟩⟩, ?_⟩
 rintro i m acc H2 ⟨rfl, hi, s2, eD, ys, g, G, hfold, rps, hlen, hG, hcnt⟩
 by_cases hlt : i < ir.items.length
 ·refine .inr ⟨wk.go i H2 hlt (heldOf H2 s2), λ x H3 hy => ?_⟩
  obtain ⟨s3, G0, rp0, hG0⟩ := wk.yld i ir.items[i] H2 x H3 (by simp [hlt]) (heldOf H2 s2) hy
  rw [ZM hlt, Zbj] at hfold
  obtain ⟨acc1, hstep, hrest⟩ := bind1 hfold
  unfold Qez at hstep
  obtain ⟨ρ1, eb, hstep⟩ := bind1 hstep
  obtain ⟨c, ec, hstep⟩ := bind1 hstep
  have sh1 : QcD ρ1 := hSh.bind eb
  refine ⟨ρc, [], Fc, ir.items[i], G0, ρ1, relC H3 (s2.trans s3), rp0, shC G0, eb, λ σ2 F2 rel2 keep mem2 => ⟨λ j v hv => ?_, ρ1, [], F2, c, rel2, ec, λ H5 s5 => ?_⟩⟩
  ·have hj : j ∉ t.slots := λ hj => by
    rw [← hσc, Zz] at hv
    cases qc : cap[j]? with
    | none => rw [qc] at hv; cases hv
    | some o =>
     cases o with
     | none => rw [qc] at hv; cases hv
     | some k => exact hc.apart j k qc hj
   rw [keep j hj]; exact hv
  have s15 : QD H1 H5 := (s2.trans s3).trans s5
  have eD5 : H5 Dl = some (.lst acc) := s5 _ _ (s3 _ _ eD)
  cases c with
  | false =>
   rw [if_neg ZK] at hstep
   refine QoA ?_
   cases hstep
   exact ⟨_, by omega, rfl, hlt, s15, eD5, ys, g, G, hrest, rps.same (s3.trans s5), by omega, hG, hcnt⟩
  | true =>
   rw [if_pos rfl] at hstep
   refine Qob ?_
   obtain ⟨rr, er, hstep⟩ := Zb.mp hstep
   subst hstep
   refine ⟨ρ1, [], F2, rr, rel2.ext s5, er, λ y H6 Ge pe => ?_⟩
   have eD6 : H6 Dl = some (.lst acc) := pe.same _ _ eD5
   have s16 := s15.trans pe.same
   refine ⟨eD6, ?_, _, by omega, rfl, hlt, ?_⟩
   ·rw [← rps.length]; exact Nat.lt_of_le_of_lt hlen (Zp hlt hz)
   have hGe : ∀ a ∈ Ge, a ≠ Dl /\ (H1 a = none ∨ (∃ t ∈ ts, a ∈ t.2.2) ∨ ∃ j, a ∈ Fc j) := λ a ha => by
    rcases pe.src a ha with z | ⟨j, d, b, ej, hj, _⟩
    ·exact ⟨λ w => (by rw [w, eD5] at z; cases z), .inl (s15.free z)⟩
    ·have h1 : (∃ t ∈ ts, a ∈ t.2.2) ∨ ∃ j, a ∈ Fc j := by
      rcases mem2 j a hj with w | w
      ·exact .inr ⟨j, w⟩
      ·exact .inl (hG0 a w)
     obtain ⟨⟨vs, w⟩, _⟩ := oldOf a h1
     exact ⟨λ w' => (by rw [w', hD] at w; cases w), .inr h1⟩
   have nD : Dl ∉ G := λ h => (hG _ h).1 rfl
   have nDe : Dl ∉ Ge := λ h => (hGe _ h).1 rfl
   have sU : QD H1 (L2.upd H6 Dl (.lst (acc ++ [y]))) := λ b o hb => by rw [QE (Qby hb hD)]; exact s16 b o hb
   refine ⟨sU, Qar, ys ++ [rr.d], g && rr.norm.fr, G ++ Ge, hrest, ?_, by rw [Zl, Zaw]; omega, λ a ha => ?_, λ hg => ?_⟩
   ·refine Rps.append ((rps.same ((s3.trans s5).trans pe.same)).upd eD6 nD) ?_
    simp only [Rps]
    exact ⟨y, [], Ge, [], rfl, by simp, pe.rp.upd eD6 nDe, rfl, rfl⟩
   ·rcases Zn.mp ha with h | h
    ·exact hG a h
    ·exact hGe a h
   ·simp only [Zf] at hg
    obtain ⟨l1, c1⟩ := hcnt hg.1
    have pn := pe.norm
    obtain ⟨c2, l2⟩ := pn.cnt hg.2
    rw [rr.QcY] at l2
    have nlapp : ∀ (as bs : List D), nls (as ++ bs) = nls as + nls bs := λ as bs => by
     induction as with
     | nil => simp [nls]
     | cons a as ih => simp only [Zbi, nls, ih]; omega
    refine ⟨by rw [Zl, l1, l2, nlapp]; simp [nls], λ a => ?_⟩
    have fl : ((rr.norm.M.map F2).flatten).count a = 0 := by
     rw [ZL]
     intro hm
     obtain ⟨l, hl, hal⟩ := ZaN.mp hm
     obtain ⟨j, hj, rfl⟩ := ZE.mp hl
     obtain ⟨d, ej⟩ := pn.own j hj
     have hf := sh1 j d ej
     obtain ⟨v, _, rv⟩ := rel2.val j d true ej
     rw [rv.QbE hf] at hal
     simp at hal
    have h1 := c1 a
    have h2 := c2 a
    rw [fl] at h2
    rw [Zaa]
    cases q5 : H5 a with
    | some o => rw [Qdh q5] at h2; omega
    | none =>
     rw [Qa7 q5] at h2
     have h0 : G.count a = 0 := ZL.mpr λ hm => by
      obtain ⟨vs, w⟩ := rps.mem a hm
      rw [s5 _ _ (s3 _ _ w)] at q5; cases q5
     rw [Qa7 (s15.free q5)]
     omega
 ·have hn : i = ir.items.length := by omega
  subst hn
  refine .inl ⟨wk.stop H2 (heldOf H2 s2), ?_⟩
  rw [Zbk] at hfold
  have : (ys, g) = (xs, f) := Option.some.inj hfold
  cases this
  have rp : Rp X.K H2 (.lst xs) (.ref Dl) (Dl :: G) := Rp.QeV eD rps (ZA hlen hz)
  have hHD : H Dl = none := s1.free hD
  split at q
  ·rename_i hg
   have hg : f = true := hg
   obtain ⟨l1, c1⟩ := hcnt hg
   have hn : ∀ a ∈ G, H1 a = none := λ a ha => by
    have := c1 a
    have h2 : 0 < G.count a := Zag.mpr ha
    cases w : H1 a with
    | none => rfl
    | some o => rw [Qdh w] at this; omega
   refine q _ H2 (Dl :: G) ⟨s1.trans s2, rp, λ a ha => ?_, λ _ => ⟨λ a => ?_, by simp only [D.nl, ZJ, l1]⟩, Qbn.nil⟩
   ·rcases Zm.mp ha with rfl | h
    ·exact .inl hHD
    ·exact .inl (s1.free (hn a h))
   ·rw [Zao]
    have h1 := c1 a
    split
    ·rename_i w
     have w : Dl = a := by simpa using w
     subst w
     have h0 : G.count Dl = 0 := ZL.mpr λ h => (hG _ h).1 rfl
     rw [Qa7 hHD]; omega
    ·cases w : H1 a with
     | none => rw [Qa7 w] at h1; rw [Qa7 (s1.free w)]; omega
     | some o => rw [Qdh w] at h1; omega
  ·refine q _ H2 (Dl :: G) ⟨s1.trans s2, rp, λ a ha => ?_, λ z => (by cases z), ?_⟩
   ·rcases Zm.mp ha with rfl | h
    ·exact .inl hHD
    ·rcases (hG a h).2 with z | z
     ·exact .inl (s1.free z)
     ·exact (oldOf a z).2
   ·refine ow.append λ i hi => ?_
    unfold QlP at hi
    obtain ⟨o, _, ho⟩ := Zau.mp hi
    cases o with
    | none => cases ho
    | some k =>
     simp only [Za] at ho
     split at ho
     ·rename_i d b hk
      split at ho
      ·rename_i hb
       cases ho
       simp only [Zf] at hb
       rw [hb.1] at hk
       exact ⟨d, hk⟩
      ·cases ho
     ·cases ho
section
variable {X : Cx} {tg iter elt : Expr} {ifs : List Expr} {scope : Scope} {N' : List Str} {pos : Pos} {fi : DI} {t : Tg} {cap : List (Option Nat)} {ft : DT} {fe : DE}
theorem Qqu (hcalm : X.calm = true) (S : QdK X N' scope) (hi : SI X tg iter fi) (hcap : Qjp X N' scope cap t.slots)
  (hin : ∀ cl C fp s3 H3, SG (cxc X N' scope cl C fp s3 H3) tg t /\ QjC (cxc X N' scope cl C fp s3 H3) ifs ft /\ SE (cxc X N' scope cl C fp s3 H3) elt fe) (hs : ∀ x, foldedSetIterable iter X.env x = pure x) :
  SE X (.ListComp elt [⟨tg, iter, ifs, 0⟩] scope pos) (Qaa fi t cap ft fe) := λ H0 A0 =>
 (QlE hcalm S (hi H0 A0) (λ cl C fp s3 H3 => ⟨(hin cl C fp s3 H3).1 _ _, (hin cl C fp s3 H3).2.1 _ _, (hin cl C fp s3 H3).2.2 _ _⟩) hs).mono λ σ H Q h => Qja hcap h
end
end HS
namespace HS
open PySem PySem.Spec L2
inductive Out where
 | nx (ρ : En)
 | bk (ρ : En)
 | ct (ρ : En)
 | rt (d : D) (fr : Bool)
noncomputable abbrev DS := En -> Option Out
noncomputable def Fits (K : PySem.W.Frag) (H0 : Hp) (A0 : List Addr) (hs : List (V × D × List Addr)) (E : Ends) : Out -> Prop
 | .nx ρ => ∀ σ H F, Rel K H0 A0 hs ρ F σ H -> E.nx σ H
 | .bk ρ => ∀ σ H F, Rel K H0 A0 hs ρ F σ H -> E.bk σ H
 | .ct ρ => ∀ σ H F, Rel K H0 A0 hs ρ F σ H -> E.ct σ H
 | .rt d fr => ∀ v H G, Ret K H0 A0 d fr v H G -> E.rt v H
noncomputable def tS (K : PySem.W.Frag) (H0 : Hp) (A0 : List Addr) (f : DS) : TS := λ E σ H => ∃ ρ hs F o, Rel K H0 A0 hs ρ F σ H /\ f ρ = some o /\ Fits K H0 A0 hs E o
def S1 (X : Cx) (st : Stmt) (f : DS) : Prop := ∀ H0 A0, PS X st (tS X.K H0 A0 f)
def SS (X : Cx) (sts : List Stmt) (f : DS) : Prop := ∀ H0 A0, PSs X sts (tS X.K H0 A0 f)
theorem _root_.L2.PS.mono {X : Cx} {st : Stmt} {t t' : TS} (h : PS X st t) (m : ∀ D σ H, t' D σ H -> t D σ H) : PS X st t' := λ pins s σ H D I q => h pins s σ H D I (m D σ H q)
theorem _root_.L2.PSs.mono {X : Cx} {st : List Stmt} {t t' : TS} (h : PSs X st t) (m : ∀ D σ H, t' D σ H -> t D σ H) : PSs X st t' := λ pins s σ H D I q => h pins s σ H D I (m D σ H q)
noncomputable def Qg : DS := λ ρ => some (.nx ρ)
noncomputable def Qe (f g : DS) : DS := λ ρ => (f ρ).bind λ o => match o with
 | .nx ρ' => g ρ'
 | .bk ρ' => some (.bk ρ')
 | .ct ρ' => some (.ct ρ')
 | .rt d fr => some (.rt d fr)
noncomputable def Qpf : DS := λ ρ => some (.bk ρ)
noncomputable def Qoc : DS := λ ρ => some (.ct ρ)
noncomputable def Qx (i : Nat) (fa : DE) : DS := λ ρ => (fa ρ).bind λ r => some (.nx (asg i r ρ))
noncomputable def QcM (fa : DE) : DE := λ ρ => (fa ρ).map λ r => ⟨r.d, false, r.M⟩
noncomputable def QO (fa : DE) : DS := λ ρ => (fa ρ).bind λ r => some (.rt r.d (r.norm.fr && decide r.norm.M.Nodup))
noncomputable def Qgo : DS := λ _ => some (.rt .non true)
noncomputable def Qbk (fa : DE) : DS := λ ρ => (fa ρ).bind λ _ => some (.nx ρ)
noncomputable def sIf (g : DT) (f1 f2 : DS) : DS := λ ρ => (g ρ).bind λ b => if b = true then f1 ρ else f2 ρ
noncomputable def QcC (t : Tg) (fb : DS) : List D -> DS
 | [], ρ => some (.nx ρ)
 | d :: ds, ρ => (QaW t d ρ).bind λ ρ1 => (fb ρ1).bind λ o => match o with
  | .nx ρ2 => QcC t fb ds ρ2
  | .ct ρ2 => QcC t fb ds ρ2
  | .bk ρ2 => some (.nx ρ2)
  | .rt d fr => some (.rt d fr)
noncomputable def QaM (fi : DI) (t : Tg) (fb : DS) : DS := λ ρ => (fi ρ).bind λ ir => QcC t fb ir.items (QaX ir.M ρ)
section
variable {X : Cx} {st : Stmt} {sts : List Stmt} {e : Expr} {fa : DE} {f g : DS} {gc : DT} {pos : Pos}
theorem Qm7 : SS X [] Qg := λ H0 A0 => Qq6.mono λ E σ H ⟨ρ, hs, F, o, rel, e, q⟩ => by
 cases e
 exact q σ H F rel
theorem QiH (h1 : S1 X st f) (h2 : SS X sts g) : SS X (st :: sts) (Qe f g) := λ H0 A0 => (Qj2 (h1 H0 A0) (h2 H0 A0)).mono λ E σ H ⟨ρ, hs, F, o, rel, e, q⟩ => by
 obtain ⟨o1, e1, e⟩ := bind1 e
 refine ⟨ρ, hs, F, o1, rel, e1, ?_⟩
 cases o1 with
 | nx ρ' => exact λ σ' H' F' rel' => ⟨ρ', hs, F', o, rel', e, q⟩
 | bk ρ' => cases e; exact q
 | ct ρ' => cases e; exact q
 | rt d fr => cases e; exact q
theorem QqB : S1 X (.Pass pos) Qg := λ H0 A0 => QrJ.mono λ E σ H ⟨ρ, hs, F, o, rel, e, q⟩ => by
 cases e
 exact q σ H F rel
theorem Qo8 : S1 X (.Break pos) Qpf := λ H0 A0 => QoS.mono λ E σ H ⟨ρ, hs, F, o, rel, e, q⟩ => by
 cases e
 exact q σ H F rel
theorem QrH : S1 X (.Continue pos) Qoc := λ H0 A0 => Qla.mono λ E σ H ⟨ρ, hs, F, o, rel, e, q⟩ => by
 cases e
 exact q σ H F rel
theorem Qok (h : SE X e fa) : SE X e (QcM fa) := λ H0 A0 => (h H0 A0).mono λ σ H Q ⟨ρ, hs, F, r, rel, e, q⟩ => by
 obtain ⟨r', e1, rfl⟩ := Zb.mp e
 exact ⟨ρ, hs, F, r', rel, e1, λ v H' G p => q v H' G ⟨p.same, p.rp, p.src, λ z => (by cases z), p.own⟩⟩
theorem Qhv {i : Nat} (h : ∀ H0 A0, PS X st (Qj7 (tV X.K H0 A0 fa) (Qgs i))) : S1 X st (Qx i fa) := λ H0 A0 => (h H0 A0).mono λ E σ H ⟨ρ, hs, F, o, rel, e, q⟩ => by
 obtain ⟨r, e1, e⟩ := bind1 e
 cases e
 refine ⟨ρ, hs, F, r, rel, e1, λ v H' G p => ?_⟩
 obtain ⟨F', rel'⟩ := rel.asg (i := i) p
 exact q _ _ F' rel'
theorem Qrv (h : PS X st (Qjy (tV X.K H0 A0 fa))) : PS X st (tS X.K H0 A0 (Qbk fa)) := h.mono λ E σ H ⟨ρ, hs, F, o, rel, e, q⟩ => by
 obtain ⟨r, e1, e⟩ := bind1 e
 cases e
 exact ⟨ρ, hs, F, r, rel, e1, λ v H' G p => q σ H' F (rel.ext p.same)⟩
theorem Rel.ret {K : PySem.W.Frag} {H0 H H' : Hp} {A0 : List Addr} {hs : List (V × D × List Addr)} {ρ : En} {F : Nat -> List Addr} {σ : L2.St} (rel : Rel K H0 A0 hs ρ F σ H) {r : R} {v : V} {G : List Addr} (p : QX K ρ F H H' r v G) : Ret K H0 A0 r.d (r.norm.fr && decide r.norm.M.Nodup) v H' G where
 same := rel.same.trans p.same
 rp := p.rp
 src := λ a ha => by
  rcases p.src a ha with z | ⟨i, d, b, e, m, _⟩
  ·exact .inl (rel.same.free z)
  ·exact rel.src i d b e a m
 cnt := λ h => by
  simp only [Zf, decide_eq_true_eq] at h
  have p' := p.norm
  obtain ⟨h1, h2⟩ := p'.fresh rel h.1 h.2
  have h3 := (p'.cnt h.1).2
  rw [r.QcY] at h3
  exact ⟨h1, h3, λ a ha => (h2 a ha).1⟩
theorem QnW (he : SE X e fa) : S1 X (.Return (some e) pos) (QO fa) := λ H0 A0 => (QmZ (he H0 A0)).mono λ E σ H ⟨ρ, hs, F, o, rel, e, q⟩ => by
 obtain ⟨r, e1, e⟩ := bind1 e
 cases e
 exact ⟨ρ, hs, F, r, rel, e1, λ v H' G p => q v H' G (rel.ret p)⟩
theorem Qry : S1 X (.Return none pos) Qgo := λ H0 A0 => QqT.mono λ E σ H ⟨ρ, hs, F, o, rel, e, q⟩ => by
 cases e
 exact q .non H [] ⟨rel.same, .Qed, λ a ha => (by simp at ha), λ _ => ⟨Zah, rfl, λ a ha => (by simp at ha)⟩⟩
theorem Qt7 {c : Expr} {a b : List Stmt} (hc : ST X c gc) (ha : SS X a f) (hb : SS X b g) : S1 X (.If c a b pos) (sIf gc f g) := λ H0 A0 => (QpG (hc H0 A0) (ha H0 A0) (hb H0 A0)).mono λ E σ H ⟨ρ, hs, F, o, rel, e, q⟩ => by
 obtain ⟨c, e1, e⟩ := bind1 e
 refine ⟨ρ, hs, F, c, rel, e1, λ H1 s1 => ?_⟩
 cases c with
 | true => exact Qob ⟨ρ, hs, F, o, rel.ext s1, e, q⟩
 | false => exact QoA ⟨ρ, hs, F, o, rel.ext s1, e, q⟩
theorem QrP {tg iter : Expr} {body : List Stmt} {fi : DI} {t : Tg} (hp : PassesOwn (model X.prog X.w) X.A X.env X.xe) (hc : X.calm = true) (hi : SI X tg iter fi) (hg : SG X tg t) (hb : SS X body f) (hs : ∀ x, foldedSetIterable iter X.env x = pure x) :
  S1 X (.For tg iter body [] pos) (QaM fi t f) := λ H0 A0 => (QnD hp hc (hi H0 A0) (hg H0 A0) (hb H0 A0) hs).mono λ E σ H ⟨ρ, hs, F, o, rel, e, q⟩ => by
 obtain ⟨ir, e1, e⟩ := bind1 e
 refine ⟨ρ, hs, F, ir, rel, e1, λ J H1 ts s1 wk hts ow hz => ?_⟩
 have rel1 : Rel X.K H0 A0 (ts ++ hs) (QaX ir.M ρ) F σ H1 := ((rel.ext s1).weak (QbB ir.M ρ)).hold λ t ht => ⟨(hts t ht).1, Shr.of rel (hts t ht).2⟩
 refine ⟨λ i m σ' H' => m = ir.items.length - i /\ i <= ir.items.length /\ ∃ ρi Fi, Rel X.K H0 A0 (ts ++ hs) ρi Fi σ' H' /\ QcC t f (ir.items.drop i) ρi = some o, ⟨_, rfl, ZO _, _, F, rel1, by simpa using e⟩, ?_⟩
 rintro i m σ' H' ⟨rfl, hi', ρi, Fi, reli, ei⟩
 have held : Qh7 X.K H' ts := λ t ht => (reli.held t (Zc _ ht)).1
 by_cases hlt : i < ir.items.length
 ·rw [ZM hlt] at ei
  unfold QcC at ei
  obtain ⟨ρ1, eb, ei⟩ := bind1 ei
  obtain ⟨o1, eo, ei⟩ := bind1 ei
  refine .inr ⟨wk.go i H' hlt held, λ σ2 H2 => ∃ ρ2 F2, Rel X.K H0 A0 (ts ++ hs) ρ2 F2 σ2 H2 /\ QcC t f (ir.items.drop (i + 1)) ρ2 = some o, λ σ2 H2 ⟨ρ2, F2, rel2, e2⟩ => ⟨_, by omega, rfl, hlt, ρ2, F2, rel2, e2⟩, λ x H2 hy => ?_⟩
  obtain ⟨s2, G0, rp0, hG0⟩ := wk.yld i ir.items[i] H' x H2 (by simp [hlt]) held hy
  have shr : Shr H0 A0 ρi Fi G0 := λ a ha => by
   obtain ⟨t, ht, hat⟩ := hG0 a ha
   exact ⟨(reli.held t (Zc _ ht)).2 a hat, λ j d ej hj => (reli.own j d ej).2.2.2.2 t (Zc _ ht) a hj hat⟩
  refine ⟨ρi, ts ++ hs, Fi, ir.items[i], G0, ρ1, reli.ext s2, rp0, shr, eb, λ σ3 F3 rel3 _ _ => ⟨ρ1, ts ++ hs, F3, o1, rel3, eo, ?_⟩⟩
  cases o1 with
  | nx ρ2 => exact λ σ4 H4 F4 rel4 => ⟨ρ2, F4, rel4, ei⟩
  | ct ρ2 => exact λ σ4 H4 F4 rel4 => ⟨ρ2, F4, rel4, ei⟩
  | bk ρ2 => cases ei; exact λ σ4 H4 F4 rel4 => q σ4 H4 F4 rel4.QjJ
  | rt d fr => cases ei; exact q
 ·have hn : i = ir.items.length := by omega
  subst hn
  rw [Zbk] at ei
  cases ei
  exact .inl ⟨wk.stop H' held, q σ' H' Fi reli.QjJ⟩
theorem Rel.Quh {K : PySem.W.Frag} {H0 H : Hp} {A0 : List Addr} {hs : List (V × D × List Addr)} {ρ : En} {F : Nat -> List Addr} {σ : L2.St} (rel : Rel K H0 A0 hs ρ F σ H) {i : Nat} {d : D} {v : V} (rp : Rp K H d v []) (hf : d.flat = true) :
  ∃ F', Rel K H0 A0 hs (ρ.set i (some (d, true))) F' (σ.set i (some v)) H := by
 have := rel.QlS (i := i) rp (λ a ha => by simp at ha)
 rw [hf] at this
 exact ⟨_, this⟩
end
end HS
namespace HS
open PySem PySem.Spec L2
section
variable {K : PySem.W.Frag} {H H' : Hp}
theorem Rps.split : ∀ {ds : List D} {vs : List V} {F : List Addr} {j : Nat} {d : D}, Rps K H ds vs F -> ds[j]? = some d →
  ∃ F1 G F2 v, F = F1 ++ (G ++ F2) /\ vs[j]? = some v /\ Rps K H (ds.take j) (vs.take j) F1 /\ Rp K H d v G /\ Rps K H (ds.drop (j + 1)) (vs.drop (j + 1)) F2
 | [], _, _, _, _, _, e => by simp at e
 | d :: ds, _, _, 0, _, h, e => by
  simp only [Rps] at h
  obtain ⟨v, ws, F1, F2, rfl, rfl, r, q⟩ := h
  simp at e; subst e
  exact ⟨[], F1, F2, v, rfl, by simp, by simp [Rps], r, by simpa using q⟩
 | d :: ds, _, _, j + 1, _, h, e => by
  simp only [Rps] at h
  obtain ⟨v, ws, F1, F2, rfl, rfl, r, q⟩ := h
  obtain ⟨G1, G, G2, v', h1, h2, h3, h4, h5⟩ := Rps.split q (j := j) (by simpa using e)
  refine ⟨F1 ++ G1, G, G2, v', by rw [h1, Zaq], by simpa using h2, ?_, h4, by simpa using h5⟩
  simp only [ZaV, Rps]
  exact ⟨v, _, F1, G1, rfl, rfl, r, h3⟩
theorem Rps.join {ds : List D} {vs : List V} {F1 G F2 : List Addr} {j : Nat} {d : D} {v : V} (h1 : Rps K H (ds.take j) (vs.take j) F1) (hd : Rp K H d v G) (h2 : Rps K H (ds.drop (j + 1)) (vs.drop (j + 1)) F2) (hj : j < ds.length) (hv : vs[j]? = some v) :
  Rps K H (ds.set j d) vs (F1 ++ (G ++ F2)) := by
 have e1 : ds.set j d = ds.take j ++ d :: ds.drop (j + 1) := Zan .. |>.trans (by rw [if_pos hj])
 have hjv : j < vs.length := (Zg.mp hv).1
 have hve : vs[j] = v := (Zg.mp hv).2
 have e2 : vs = vs.take j ++ v :: vs.drop (j + 1) := by
  rw [← hve, ← ZM hjv, ZaL]
 rw [e1, e2]
 refine h1.append ?_
 simp only [Rps]
 refine ⟨v, _, G, F2, rfl, rfl, hd, h2⟩
theorem Rps.Qtu {ds : List D} {vs : List V} {F1 G F2 : List Addr} {j : Nat} {d : D} {v : V} (h1 : Rps K H (ds.take j) (vs.take j) F1) (hd : Rp K H d v G) (h2 : Rps K H (ds.drop (j + 1)) (vs.drop (j + 1)) F2) (hj : j < ds.length) (hv : j < vs.length) :
  Rps K H (ds.set j d) (vs.set j v) (F1 ++ (G ++ F2)) := by
 have e1 : ds.set j d = ds.take j ++ d :: ds.drop (j + 1) := Zan .. |>.trans (by rw [if_pos hj])
 have e2 : vs.set j v = vs.take j ++ v :: vs.drop (j + 1) := Zan .. |>.trans (by rw [if_pos hv])
 rw [e1, e2]
 refine h1.append ?_
 simp only [Rps]
 exact ⟨v, _, G, F2, rfl, rfl, hd, h2⟩
noncomputable def Focus (K : PySem.W.Frag) (H : Hp) : List Int -> D -> V -> List Addr -> D -> V -> List Addr -> Prop
 | [], d, v, F, dm, w, Gm => dm = d /\ w = v /\ Gm = F /\ Rp K H d v F
 | i :: is, d, v, F, dm, w, Gm => ∃ (ds : List D) (a : Addr) (vs : List V) (j : Nat) (F1 G F2 : List Addr) (d' : D) (v' : V), v = .ref a /\ ixN ds.length i = some j ∧
   ((d = .lst ds /\ ds.length <= sizeLine /\ ((F = a :: (F1 ++ (G ++ F2)) /\ H a = some (.lst vs)) ∨ (F = F1 ++ (G ++ F2) /\ Fix K H a vs))) ∨ (d = .tup ds /\ F = F1 ++ (G ++ F2) /\ SqT K H a vs)) ∧
   Rps K H (ds.take j) (vs.take j) F1 /\ Rps K H (ds.drop (j + 1)) (vs.drop (j + 1)) F2 /\ ds[j]? = some d' /\ vs[j]? = some v' /\ ds.length = vs.length /\ Focus K H is d' v' G dm w Gm
theorem Focus.same (s : QD H H') : ∀ {is : List Int} {d : D} {v : V} {F : List Addr} {dm : D} {w : V} {Gm : List Addr}, Focus K H is d v F dm w Gm -> Focus K H' is d v F dm w Gm
 | [], _, _, _, _, _, _, h => ⟨h.1, h.2.1, h.2.2.1, h.2.2.2.same s⟩
 | i :: is, _, _, _, _, _, _, h => by
  obtain ⟨ds, a, vs, j, F1, G, F2, d', v', h1, h2, h3, h4, h5, h6, h7, h8, h9⟩ := h
  refine ⟨ds, a, vs, j, F1, G, F2, d', v', h1, h2, ?_, h4.same s, h5.same s, h6, h7, h8, h9.same s⟩
  rcases h3 with ⟨e, z, q⟩ | ⟨e, eF, q⟩
  ·refine .inl ⟨e, z, ?_⟩
   rcases q with ⟨eF, q⟩ | ⟨eF, q⟩
   ·exact .inl ⟨eF, s _ _ q⟩
   ·exact .inr ⟨eF, QjS s q⟩
  ·exact .inr ⟨e, eF, QjB s q⟩
theorem Focus.rp : ∀ {is : List Int} {d : D} {v : V} {F : List Addr} {dm : D} {w : V} {Gm : List Addr}, Focus K H is d v F dm w Gm -> Rp K H dm w Gm
 | [], _, _, _, _, _, _, h => by
  obtain ⟨rfl, rfl, rfl, r⟩ := h
  exact r
 | i :: is, _, _, _, _, _, _, h => by
  obtain ⟨ds, a, vs, j, F1, G, F2, d', v', h1, h2, h3, h4, h5, h6, h7, h8, h9⟩ := h
  exact h9.rp
theorem Focus.QnK : ∀ {is : List Int} {d : D} {v : V} {F : List Addr} {dm : D} {w : V} {Gm : List Addr}, Focus K H is d v F dm w Gm -> Rp K H d v F
 | [], _, _, _, _, _, _, h => h.2.2.2
 | i :: is, _, _, _, _, _, _, h => by
  obtain ⟨ds, a, vs, j, F1, G, F2, d', v', rfl, h2, h3, h4, h5, h6, h7, h8, h9⟩ := h
  have hjl : j < ds.length := (Zg.mp h6).1
  have hdj : ds[j] = d' := (Zg.mp h6).2
  have j1 := Rps.join h4 h9.QnK h5 hjl h7
  rw [show ds.set j d' = ds by rw [← hdj]; exact List.set_getElem_self hjl] at j1
  rcases h3 with ⟨rfl, hz, ⟨rfl, q⟩ | ⟨rfl, q⟩⟩ | ⟨rfl, rfl, q⟩
  ·exact Rp.QeV q j1 hz
  ·simp only [Rp]
   exact ⟨hz, a, vs, rfl, .inr ⟨q, j1⟩⟩
  ·simp only [Rp]
   exact ⟨a, vs, rfl, q, j1⟩
theorem Focus.one {d : D} {v : V} {F : List Addr} {ds : List D} {i : Int} {d' : D} (r : Rp K H d v F) (hd : d.items = some ds) (hi : atI ds i = some d') :
  ∃ a vs v' G, v = .ref a /\ ((d = .lst ds /\ SqL K H a vs) ∨ (d = .tup ds /\ SqT K H a vs)) /\ atI vs i = some v' /\ Focus K H [i] d v F d' v' G := by
 unfold atI at hi
 cases hj : ixN ds.length i with
 | none => rw [hj] at hi; cases hi
 | some j =>
  rw [hj] at hi
  have hdj : ds[j]? = some d' := hi
  have fin : ∀ (vs : List V) (L : List Addr), Rps K H ds vs L -> ∃ v' G F1 F2, L = F1 ++ (G ++ F2) /\ vs[j]? = some v' /\ atI vs i = some v' /\ Rps K H (ds.take j) (vs.take j) F1 /\ Rp K H d' v' G /\ Rps K H (ds.drop (j + 1)) (vs.drop (j + 1)) F2 /\ ds.length = vs.length := λ vs L rl => by
   obtain ⟨F1, G, F2, v', h1, h2, h3, h4, h5⟩ := rl.split hdj
   refine ⟨v', G, F1, F2, h1, h2, ?_, h3, h4, h5, rl.length⟩
   unfold atI
   rw [← rl.length, hj]
   exact h2
  cases d with
  | lst xs =>
   cases hd
   simp only [Rp] at r
   obtain ⟨hz, a, vs, rfl, ⟨L, rfl, q, rl⟩ | ⟨q, rl⟩⟩ := r
   ·obtain ⟨v', G, F1, F2, h1, h2, h3, h4, h5, h6, h7⟩ := fin vs L rl
    exact ⟨a, vs, v', G, rfl, .inl ⟨rfl, SqL.of q⟩, h3, ds, a, vs, j, F1, G, F2, d', v', rfl, hj, .inl ⟨rfl, hz, .inl ⟨by rw [h1], q⟩⟩, h4, h6, hdj, h2, h7, rfl, rfl, rfl, h5⟩
   ·obtain ⟨v', G, F1, F2, h1, h2, h3, h4, h5, h6, h7⟩ := fin vs _ rl
    exact ⟨a, vs, v', G, rfl, .inl ⟨rfl, q.sq⟩, h3, ds, a, vs, j, F1, G, F2, d', v', rfl, hj, .inl ⟨rfl, hz, .inr ⟨h1, q⟩⟩, h4, h6, hdj, h2, h7, rfl, rfl, rfl, h5⟩
  | tup xs =>
   cases hd
   obtain ⟨a, vs, rfl, q, rl⟩ := r.QaU
   obtain ⟨v', G, F1, F2, h1, h2, h3, h4, h5, h6, h7⟩ := fin vs _ rl
   exact ⟨a, vs, v', G, rfl, .inr ⟨rfl, q⟩, h3, ds, a, vs, j, F1, G, F2, d', v', rfl, hj, .inr ⟨rfl, h1, q⟩, h4, h6, hdj, h2, h7, rfl, rfl, rfl, h5⟩
  | _ => cases hd
theorem Focus.snoc : ∀ {is : List Int} {d : D} {v : V} {F : List Addr} {dm : D} {w : V} {Gm : List Addr} {i : Int} {d' : D} {v' : V} {G : List Addr}, Focus K H is d v F dm w Gm -> Focus K H [i] dm w Gm d' v' G -> Focus K H (is ++ [i]) d v F d' v' G
 | [], _, _, _, _, _, _, _, _, _, _, h, g => by
  obtain ⟨rfl, rfl, rfl, r⟩ := h
  exact g
 | k :: is, _, _, _, _, _, _, _, _, _, _, h, g => by
  obtain ⟨ds, a, vs, j, F1, G, F2, d', v', h1, h2, h3, h4, h5, h6, h7, h8, h9⟩ := h
  exact ⟨ds, a, vs, j, F1, G, F2, d', v', h1, h2, h3, h4, h5, h6, h7, h8, h9.snoc g⟩
noncomputable def Qbv : D -> List Int -> Option D
 | d, [] => some d
 | d, i :: is => (d.items).bind λ ds => (atI ds i).bind λ d' => Qbv d' is
theorem QhV : ∀ {is : List Int} {d : D} {i : Int} {d' : D}, Qbv d (is ++ [i]) = some d' -> ∃ dm ds, Qbv d is = some dm /\ dm.items = some ds /\ atI ds i = some d'
 | [], d, i, d', h => by
  obtain ⟨ds, h1, h⟩ := bind1 h
  obtain ⟨d'', h2, h⟩ := bind1 h
  cases h
  exact ⟨d, ds, rfl, h1, h2⟩
 | k :: is, d, i, d', h => by
  obtain ⟨ds, h1, h⟩ := bind1 h
  obtain ⟨d'', h2, h⟩ := bind1 h
  obtain ⟨dm, es, h3, h4, h5⟩ := QhV h
  refine ⟨dm, es, ?_, h4, h5⟩
  simp only [Qbv, h1, h2, Za, h3]
noncomputable def QaS : List Int -> D -> D -> D
 | [], _, new => new
 | i :: is, .lst ds, new => match ixN ds.length i with
  | some j => .lst (ds.set j (QaS is (ds.getD j .non) new))
  | none => .lst ds
 | i :: is, .tup ds, new => match ixN ds.length i with
  | some j => .tup (ds.set j (QaS is (ds.getD j .non) new))
  | none => .tup ds
 | _ :: _, d, _ => d
theorem Qgl : ∀ {ds : List D} {j : Nat} {d e : D}, ds[j]? = some d -> nls (ds.set j e) + d.nl = nls ds + e.nl
 | [], _, _, _, h => by simp at h
 | x :: ds, 0, d, e, h => by simp at h; subst h; simp only [List.set_cons_zero, nls]; omega
 | x :: ds, j + 1, d, e, h => by
  have := Qgl (ds := ds) (j := j) (e := e) (by simpa using h)
  simp only [List.set_cons_succ, nls]; omega
theorem QdV : ∀ (as bs : List D), nls (as ++ bs) = nls as + nls bs
 | [], bs => by simp [nls]
 | a :: as, bs => by simp only [Zbi, nls, QdV as bs]; omega
theorem Focus.mut {p : Addr} {dsm ds' : List D} {vs' : List V} {G' : List Addr} : ∀ {is : List Int} {d : D} {v : V} {F : List Addr} {Gm : List Addr}, Focus K H is d v F (.lst dsm) (.ref p) Gm -> F.Nodup -> F.length = d.nl →
  ∃ vsm Gp, H p = some (.lst vsm) /\ Gm = p :: Gp /\ Rps K H dsm vsm Gp /\ Gp.length = nls dsm /\ p ∈ F /\ (∀ a ∈ Gp, a ∈ F) /\ p ∉ Gp ∧
   (Rps K (upd H p (.lst vs')) ds' vs' G' -> ds'.length <= sizeLine -> G'.length = nls ds' →
    ∃ F', Rp K (upd H p (.lst vs')) (QaS is d (.lst ds')) v F' /\ F'.length = (QaS is d (.lst ds')).nl /\ ∀ a, F'.count a + Gp.count a = F.count a + G'.count a)
 | [], d, v, F, Gm, h, nd, hl => by
  obtain ⟨rfl, rfl, rfl, r⟩ := h
  simp only [Rp] at r
  obtain ⟨hz, a, vs, e, h⟩ := r
  cases e
  rcases h with ⟨L, rfl, q, rl⟩ | ⟨q, rl⟩
  ·obtain ⟨n1, n2⟩ := Zaj.mp nd
   have hl' : L.length = nls dsm := by simp only [D.nl, ZJ] at hl; omega
   refine ⟨vs, L, q, rfl, rl, hl', Zi, λ a ha => Zd _ ha, n1, λ r' hz' hl2 => ⟨p :: G', Rp.QeV Qar r' hz', ?_, λ a => ?_⟩⟩
   ·simp only [QaS, D.nl, ZJ, hl2]
   ·rw [Zao, Zao]; omega
  ·have := rl.QaB
   simp only [D.nl] at hl
   omega
 | i :: is, d, v, F, Gm, h, nd, hl => by
  obtain ⟨ds, a, vs, j, F1, G, F2, d', v', rfl, hj, h3, h4, h5, h6, h7, h8, h9⟩ := h
  have hjl : j < ds.length := (Zg.mp h6).1
  have gd : ds.getD j .non = d' := by rw [Zad, h6]; rfl
  have l1 := h4.QaB
  have l2 := h5.QaB
  have l3 := h9.QnK.QaB
  have nlsplit : nls (ds.take j) + (d'.nl + nls (ds.drop (j + 1))) = nls ds := by
   have e1 : ds = ds.take j ++ d' :: ds.drop (j + 1) := by
    have : ds[j] = d' := (Zg.mp h6).2
    rw [← this, ← ZM hjl, ZaL]
   have e2 := congrArg nls e1
   rw [QdV] at e2
   simp only [nls] at e2
   exact e2.symm
  have core : (F1 ++ (G ++ F2)).Nodup -> (F1 ++ (G ++ F2)).length = nls ds -> _ := λ nd' hl' => by
   simp only [Zl] at hl'
   have hG : G.length = d'.nl := by omega
   have ndG : G.Nodup := (ZaI.mp (ZaI.mp nd').2.1).1
   exact (h9.mut (vs' := vs') (ds' := ds') (G' := G') ndG hG)
  have apart : (F1 ++ (G ++ F2)).Nodup -> p ∈ G -> p ∉ F1 /\ p ∉ F2 := λ nd' hp => by
   have n1 := ZaI.mp nd'
   have n2 := ZaI.mp n1.2.1
   exact ⟨λ h => n1.2.2 p h p (Zc _ hp) rfl, λ h => n2.2.2 p hp p h rfl⟩
  have cnt : ∀ (G'' Gp : List Addr), (∀ a, G''.count a + Gp.count a = G.count a + G'.count a) -> ∀ a, (F1 ++ (G'' ++ F2)).count a + Gp.count a = (F1 ++ (G ++ F2)).count a + G'.count a := λ G'' Gp hc a => by
   have := hc a
   simp only [Zaa]; omega
  rcases h3 with ⟨rfl, hz, ⟨rfl, q⟩ | ⟨rfl, q⟩⟩ | ⟨rfl, rfl, q⟩
  ·
   obtain ⟨n1, n2⟩ := Zaj.mp nd
   have hl' : (F1 ++ (G ++ F2)).length = nls ds := by simp only [D.nl, ZJ] at hl; omega
   obtain ⟨vsm, Gp, e1, e2, e3, e4, e5, e6, e7, e8⟩ := core n2 hl'
   have ap := apart n2 e5
   have hap : a ≠ p := λ z => n1 (by rw [z]; exact Ze _ (Zc _ e5))
   refine ⟨vsm, Gp, e1, e2, e3, e4, Zd _ (Ze _ (Zc _ e5)), λ b hb => Zd _ (Ze _ (Zc _ (e6 b hb))), e7, λ r' hz' hl2 => ?_⟩
   obtain ⟨G'', f1, f2, f3⟩ := e8 r' hz' hl2
   have j1 := Rps.join (h4.upd (ys := vs') e1 ap.1) f1 (h5.upd (ys := vs') e1 ap.2) hjl h7
   refine ⟨a :: (F1 ++ (G'' ++ F2)), ?_, ?_, λ b => ?_⟩
   ·simp only [QaS, hj, gd]
    exact Rp.QeV (by rw [QE hap]; exact q) j1 (by rw [ZaS]; exact hz)
   ·have := Qgl (ds := ds) (j := j) (e := QaS is d' (.lst ds')) h6
    simp only [QaS, hj, gd, D.nl, ZJ, Zl, f2] at hl' ⊢
    omega
   ·have := cnt G'' Gp f3 b
    rw [Zao, Zao]; omega
  ·have : (F1 ++ (G ++ F2)).length <= nls ds := by simp only [Zl]; omega
   simp only [D.nl] at hl
   omega
  ·
   have hl' : (F1 ++ (G ++ F2)).length = nls ds := by simpa only [D.nl] using hl
   obtain ⟨vsm, Gp, e1, e2, e3, e4, e5, e6, e7, e8⟩ := core nd hl'
   have ap := apart nd e5
   refine ⟨vsm, Gp, e1, e2, e3, e4, Ze _ (Zc _ e5), λ b hb => Ze _ (Zc _ (e6 b hb)), e7, λ r' hz' hl2 => ?_⟩
   obtain ⟨G'', f1, f2, f3⟩ := e8 r' hz' hl2
   have j1 := Rps.join (h4.upd (ys := vs') e1 ap.1) f1 (h5.upd (ys := vs') e1 ap.2) hjl h7
   refine ⟨F1 ++ (G'' ++ F2), ?_, ?_, cnt G'' Gp f3⟩
   ·simp only [QaS, hj, gd, Rp]
    exact ⟨a, vs, rfl, Qlq e1 q, j1⟩
   ·have := Qgl (ds := ds) (j := j) (e := QaS is d' (.lst ds')) h6
    simp only [QaS, hj, gd, D.nl, Zl, f2] at hl' ⊢
    omega
end
end HS
namespace HS
open PySem PySem.Spec L2
section
variable {K : PySem.W.Frag} {H0 H H1 H2 : Hp} {A0 : List Addr} {hs : List (V × D × List Addr)} {ρ : En} {F : Nat -> List Addr} {σ : L2.St}
theorem Rel.mut (rel : Rel K H0 A0 hs ρ F σ H) {r : R} {vn : V} {Gn : List Addr} (p : QX K ρ F H H1 r vn Gn) (hf : r.fr = true) (nd : r.M.Nodup) (s12 : QD H1 H2) {x : Nat} {d : D} (hx : ρ[x]? = some (some (d, true))) (hxM : x ∉ r.M) {v0 : V} (hv0 : σ[x]? = some (some v0))
  {dnew : D} {q : Addr} {F' : List Addr} {vsm vs' : List V} (e1 : H2 q = some (.lst vsm)) (e5 : q ∈ F x) (f1 : Rp K (upd H2 q (.lst vs')) dnew v0 F') (f2 : F'.length = dnew.nl) (cF : ∀ a, F'.count a <= (F x).count a + Gn.count a) :
  ∃ F', Rel K H0 A0 hs ((kill r.M ρ).set x (some (dnew, true))) F' σ (upd H2 q (.lst vs')) := by
 obtain ⟨ol, on, o0, oap, oh⟩ := rel.own x d hx
 obtain ⟨gn, gs⟩ := p.fresh rel hf nd
 have rel2 := (rel.ext p.same).ext s12
 have relk := rel2.weak (Qcr r.M ρ)
 have apn : ∀ a ∈ Gn, a ∉ F x := λ a ha hax => by
  rcases (gs a ha).2 with z | ⟨k, d', hk, ek, hak⟩
  ·obtain ⟨vs, w⟩ := rel.mem hx hax
   rw [z] at w; cases w
  ·have : k ≠ x := λ z => hxM (z ▸ hk)
   exact oap k d' true this ek a hax hak
 have memF : ∀ a ∈ F', a ∈ F x ∨ a ∈ Gn := λ a ha => by
  have h1 := cF a
  have h2 : 0 < F'.count a := Zag.mpr ha
  by_cases h : a ∈ F x
  ·exact .inl h
  ·rw [ZL.mpr h] at h1
   exact .inr (Zag.mp (by omega))
 have apart : ∀ (j : Nat) d' b, j ≠ x -> (kill r.M ρ)[j]? = some (some (d', b)) -> ∀ a ∈ F', a ∉ F j := λ j d' b hj e a ha haj => by
  obtain ⟨b', e', _⟩ := (Qcr r.M ρ).2 j d' b e
  rcases memF a ha with h | h
  ·exact oap j d' b' hj e' a h haj
  ·rcases (gs a h).2 with z | ⟨k, d'', hk, ek, hak⟩
   ·obtain ⟨vs, w⟩ := rel.mem e' haj
    rw [z] at w; cases w
   ·have hjk : j ≠ k := λ z => by subst z; exact Qf5 r.M ρ j d' b hk e
    exact (rel.own k d'' ek).2.2.2.1 j d' b' hjk e' a hak haj
 have apartH : ∀ t ∈ hs, ∀ a ∈ F', a ∉ t.2.2 := λ t ht a ha hat => by
  rcases memF a ha with h | h
  ·exact oh t ht a h hat
  ·rcases (gs a h).2 with z | ⟨k, d'', hk, ek, hak⟩
   ·obtain ⟨vs, w⟩ := (rel.held t ht).1.mem a hat
    rw [z] at w; cases w
   ·exact (rel.own k d'' ek).2.2.2.2 t ht a hak hat
 have nqj : ∀ (j : Nat) d' b, j ≠ x -> ρ[j]? = some (some (d', b)) -> q ∉ F j := λ j d' b hj e h => oap j d' b hj e q e5 h
 have nF' : F'.Nodup := Zai.mpr λ a => by
  have h1 := cF a
  have h2 := Zai.mp on a
  have h3 := Zai.mp gn a
  by_cases h : a ∈ Gn
  ·rw [ZL.mpr (apn a h)] at h1; omega
  ·rw [ZL.mpr h] at h1; omega
 have lt : ∀ {j : Nat} {z : Option (D × Bool)} {y : D × Bool}, ((kill r.M ρ).set j z)[j]? = some (some y) -> j < (kill r.M ρ).length := λ {j z y} e => by
  by_cases hl : j < (kill r.M ρ).length
  ·exact hl
  ·rw [ZC (by simp; omega)] at e; cases e
 refine ⟨λ j => if j = x then F' else F j, by simp [relk.len], λ j d' b e => ?_, λ j d' e => ?_, λ j d' b e a ha => ?_, λ t ht => ⟨(relk.held t ht).1.upd e1 λ h => oh t ht q e5 h, (relk.held t ht).2⟩, λ b o hb => ?_⟩
 ·by_cases hj : j = x
  ·subst hj
   have hl := lt e
   rw [Zt hl] at e
   cases e
   exact ⟨v0, hv0, by rw [if_pos rfl]; exact f1⟩
  ·rw [Zk (Ne.symm hj)] at e
   obtain ⟨w, h1, h2⟩ := relk.val j d' b e
   obtain ⟨b', e', _⟩ := (Qcr r.M ρ).2 j d' b e
   exact ⟨w, h1, by rw [if_neg hj]; exact h2.upd e1 (nqj j d' b' hj e')⟩
 ·by_cases hj : j = x
  ·subst hj
   have hl := lt e
   rw [Zt hl] at e
   cases e
   rw [if_pos rfl]
   refine ⟨f2, nF', λ a ha => ?_, λ k d'' b hk ek a ha => ?_, apartH⟩
   ·rcases memF a ha with h | h
    ·exact o0 a h
    ·exact (gs a h).1
   ·rw [Zk (Ne.symm hk)] at ek
    rw [if_neg hk]
    exact apart k d'' b hk ek a ha
  ·rw [Zk (Ne.symm hj)] at e
   obtain ⟨h1, h2, h3, h4, h5⟩ := relk.own j d' e
   rw [if_neg hj]
   refine ⟨h1, h2, h3, λ k d'' b hk ek a ha => ?_, h5⟩
   by_cases hki : k = x
   ·subst hki
    rw [if_pos rfl]
    exact λ hG => apart j d' true hj e a hG ha
   ·rw [Zk (Ne.symm hki)] at ek
    rw [if_neg hki]
    exact h4 k d'' b hk ek a ha
 ·by_cases hj : j = x
  ·subst hj
   rw [if_pos rfl] at ha
   rcases memF a ha with h | h
   ·exact .inl (o0 a h)
   ·exact .inl (gs a h).1
  ·rw [Zk (Ne.symm hj)] at e
   rw [if_neg hj] at ha
   exact relk.src j d' b e a ha
 ·have hbq : b ≠ q := λ z => by rw [z, o0 q e5] at hb; cases hb
  rw [QE hbq]
  exact relk.same b o hb
end
noncomputable abbrev DP := En -> Option (List Int)
noncomputable def Qap : DP := λ _ => some []
noncomputable def QbY (p : DP) (fb : DE) : DP := λ ρ => (p ρ).bind λ is => (fb ρ).bind λ r => match r.d with
 | .int i => some (is ++ [i])
 | _ => none
noncomputable def tP (K : PySem.W.Frag) (H0 : Hp) (A0 : List Addr) (x : Nat) (pf : DP) : TE := λ σ H Q => ∃ ρ hs F d b is dm, Rel K H0 A0 hs ρ F σ H /\ ρ[x]? = some (some (d, b)) /\ pf ρ = some is /\ Qbv d is = some dm ∧
 ∀ v0 v H' Gm, QD H H' -> σ[x]? = some (some v0) -> Focus K H' is d v0 (F x) dm v Gm -> Q v H'
def SPa (X : Cx) (e : Expr) (x : Nat) (pf : DP) : Prop := ∀ H0 A0, PE X e (tP X.K H0 A0 x pf)
section
variable {X : Cx} {a b e : Expr} {fa fb : DE} {pf : DP} {x : Nat} {pos : Pos}
theorem QoZ {y : Str} (h : PE X (.Name y pos) (Qmo x)) : SPa X (.Name y pos) x Qap := λ H0 A0 => h.mono λ σ H Q ⟨ρ, hs, F, d, b, is, dm, rel, hx, hp, hd, q⟩ => by
 cases hp
 cases hd
 obtain ⟨v, h1, h2⟩ := rel.val x d b hx
 exact ⟨v, h1, q v v H (F x) (QD.refl _) h1 ⟨rfl, rfl, rfl, h2⟩⟩
theorem Qq4 (ha : SPa X a x pf) (hb : SE X b fb) (hs : Qgn b) : SPa X (.Subscript a b pos) x (QbY pf fb) := λ H0 A0 =>
 (QpL (Qls.or QnE) (ha H0 A0) (hb H0 A0) hs).mono λ σ H Q ⟨ρ, hs, F, d, b', is, dm, rel, hx, hp, hd, q⟩ => by
  obtain ⟨is', e1, hp⟩ := bind1 hp
  obtain ⟨r, e2, hp⟩ := bind1 hp
  cases hr : r.d with
  | int i =>
   rw [hr] at hp
   cases hp
   obtain ⟨dn, ds, g1, g2, g3⟩ := QhV hd
   refine ⟨ρ, hs, F, d, b', is', dn, rel, hx, e1, g1, λ v0 w H1 Gm s1 hv fo => ⟨ρ, hs, F, r, rel.ext s1, e2, λ u H2 G p2 => ?_⟩⟩
   have rp := p2.rp
   rw [hr] at rp
   rw [rp.int_inv]
   have fo2 := fo.same p2.same
   obtain ⟨c, vs, v', G', rfl, hc, h3, h4⟩ := Focus.one fo2.rp g2 g3
   have fin := q v0 v' H2 G' (s1.trans p2.same) hv (fo2.snoc h4)
   rcases hc with ⟨_, hc⟩ | ⟨_, hc⟩
   ·exact .inl ⟨c, vs, i, v', rfl, rfl, hc, h3, fin⟩
   ·exact .inr ⟨c, vs, i, v', rfl, rfl, hc, h3, fin⟩
  | _ => rw [hr] at hp; cases hp
noncomputable def Qdt (x : Nat) (pf : DP) (fi fa : DE) : DS := λ ρ => (fa ρ).bind λ r0 => match ρ[x]? with
 | some (some (d, true)) => (pf ρ).bind λ is => (fi ρ).bind λ ri => match ri.d, Qbv d is with
  | .int k, some (.lst ds) => (ixN ds.length k).bind λ j => if r0.norm.fr && decide r0.norm.M.Nodup && !r0.norm.M.contains x then some (.nx ((kill r0.norm.M ρ).set x (some (QaS is d (.lst (ds.set j r0.d)), true)))) else
   none
  | _, _ => none
 | _ => none
theorem set_mk {K : PySem.W.Frag} {H2 : Hp} {q : Addr} {dsm : List D} {vsm : List V} {Gp Gn : List Addr} {j : Nat} {dn : D} {vn : V} (hq : H2 q = some (.lst vsm)) (rs : Rps K H2 dsm vsm Gp) (hl : Gp.length = nls dsm) (nq : q ∉ Gp) (nqn : q ∉ Gn) (hn : Rp K H2 dn vn Gn) (hnl : Gn.length = dn.nl) (hj : j < dsm.length) :
  ∃ G', Rps K (upd H2 q (.lst (vsm.set j vn))) (dsm.set j dn) (vsm.set j vn) G' /\ G'.length = nls (dsm.set j dn) /\ ∀ a, G'.count a <= Gp.count a + Gn.count a := by
 obtain ⟨F1, G, F2, v, e1, e2, h1, h2, h3⟩ := rs.split (j := j) (d := dsm[j]) (by simp [hj])
 subst e1
 have hjv : j < vsm.length := by rw [← rs.length]; exact hj
 have n1 : q ∉ F1 := λ h => nq (Zc _ h)
 have n2 : q ∉ F2 := λ h => nq (Ze _ (Ze _ h))
 refine ⟨F1 ++ (Gn ++ F2), Rps.Qtu (h1.upd hq n1) (hn.upd hq nqn) (h3.upd hq n2) hj hjv, ?_, λ a => ?_⟩
 ·have := Qgl (ds := dsm) (j := j) (d := dsm[j]) (e := dn) (by simp [hj])
  have l1 := h1.QaB
  have l2 := h2.QaB
  have l3 := h3.QaB
  have e1 : nls (dsm.take j) + ((dsm[j]).nl + nls (dsm.drop (j + 1))) = nls dsm := by
   have e2 := congrArg nls (ZaL j dsm)
   rw [QdV, ZM hj] at e2
   simpa only [nls] using e2
  simp only [Zl] at hl ⊢
  omega
 ·simp only [Zaa]; omega
theorem QX.Qp2 {K : PySem.W.Frag} {ρ : En} {F : Nat -> List Addr} {H H1 H2 : Hp} {r : R} {v : V} {G : List Addr} (p : QX K ρ F H H1 r v G) (s : QD H1 H2) : QX K ρ F H H2 r v G := ⟨p.same.trans s, p.rp.same s, p.src, p.cnt, p.own⟩
theorem Qth {i : Expr} {pos' : Pos} {fi : DE} (hv : SE X e fa) (ho : SPa X a x pf) (hi : SE X i fi)
  (h : ∀ te to ti, PE X e te -> PE X a to -> PE X i ti -> PS X (.Assign [.Subscript a i pos'] e pos) (Qj7 te (L2.QbA to ti QpJ))) : S1 X (.Assign [.Subscript a i pos'] e pos) (Qdt x pf fi fa) := λ H0 A0 =>
 (h _ _ _ (hv H0 A0) (ho H0 A0) (hi H0 A0)).mono λ E σ H ⟨ρ, hs, F, o, rel, e, q⟩ => by
  obtain ⟨r0, e1, e⟩ := bind1 e
  split at e
  ·rename_i d hx
   obtain ⟨is, e2, e⟩ := bind1 e
   obtain ⟨ri, e3, e⟩ := bind1 e
   split at e
   ·rename_i k ds hk hp
    obtain ⟨j, e4, e⟩ := bind1 e
    split at e
    ·rename_i hc
     cases e
     simp only [Zf, decide_eq_true_eq, ZQ] at hc
     obtain ⟨⟨c1, c2⟩, c3⟩ := hc
     have c3 : x ∉ r0.norm.M := λ h => by rw [Zaf.mpr h] at c3; cases c3
     refine ⟨ρ, hs, F, r0, rel, e1, λ vn H1 Gn p => ⟨ρ, hs, F, d, true, is, .lst ds, rel.ext p.same, hx, e2, hp, λ v0 w H2 Gm s2 hv0 fo => ⟨ρ, hs, F, ri, (rel.ext p.same).ext s2, e3, λ u H3 Gi pi => ?_⟩⟩⟩
     have p' := (p.norm.Qp2 s2).Qp2 pi.same
     have fo3 := fo.same pi.same
     have rpi := pi.rp
     rw [hk] at rpi
     rw [rpi.int_inv]
     obtain ⟨l, ws, L, rfl, _⟩ := fo3.rp.lst_inv
     obtain ⟨ol, on, _, oap, _⟩ := rel.own x d hx
     have hjl := (Qgp e4).2.1
     obtain ⟨gn, gs⟩ := p'.fresh rel c1 c2
     have rn := p'.rp
     rw [r0.QcY] at rn
     have hnl := (p'.cnt c1).2
     rw [r0.QcY] at hnl
     obtain ⟨vsm, _, f1, _⟩ := fo3.mut (vs' := []) (ds' := []) (G' := []) on ol
     obtain ⟨_, _, _, _, _, _, zl, _⟩ := fo3.rp.lst_inv
     have key : ∃ F', Rp X.K (upd H3 l (.lst (vsm.set j vn))) (QaS is d (.lst (ds.set j r0.d))) v0 F' /\ F'.length = (QaS is d (.lst (ds.set j r0.d))).nl /\ l ∈ F x /\ ds.length = vsm.length /\ ∀ a, F'.count a <= (F x).count a + Gn.count a := by
      have own5 : ∀ G', _ := λ G' => fo3.mut (vs' := vsm.set j vn) (ds' := ds.set j r0.d) (G' := G') on ol
      obtain ⟨vs1, Gp, g1, g2, g3, g4, g5, g6, g7, _⟩ := own5 []
      rw [f1] at g1; cases g1
      have hq : l ∉ Gn := λ h => by
       rcases (gs l h).2 with z | ⟨k', d', hk', ek, hak⟩
       ·obtain ⟨vs, w⟩ := rel.mem hx g5
        rw [z] at w; cases w
       ·exact oap k' d' true (λ z => c3 (z ▸ hk')) ek l g5 hak
      obtain ⟨G', m1, m2, m3⟩ := set_mk f1 g3 g4 g7 hq rn hnl hjl
      obtain ⟨vs2, Gp2, k1, k2, k3, k4, k5, k6, k7, k8⟩ := own5 G'
      have eG : Gp2 = Gp := by rw [g2] at k2; exact (List.cons.inj k2).2.symm
      subst eG
      obtain ⟨F', h1, h2, h3⟩ := k8 m1 (by rw [ZaS]; exact zl) m2
      exact ⟨F', h1, h2, g5, g3.length, λ a => by have := h3 a; have := m3 a; omega⟩
     obtain ⟨F', k1, k2, k3, k4, k5⟩ := key
     refine ⟨l, vsm, k, j, rfl, rfl, f1, by rw [← k4]; exact e4, ?_⟩
     obtain ⟨F'', rel'⟩ := rel.mut p' c1 c2 (QD.refl _) hx c3 hv0 f1 k3 k1 k2 k5
     exact q _ _ F'' rel'
    ·
      cases e
   ·cases e
  ·cases e
end
end HS
namespace HS
open PySem PySem.Spec L2
section
variable {K : PySem.W.Frag} {H0 H H1 H2 H3 : Hp} {A0 : List Addr} {hs : List (V × D × List Addr)} {ρ : En} {F : Nat -> List Addr} {σ : L2.St}
theorem Rel.write (rel : Rel K H0 A0 hs ρ F σ H) {r : R} {vn : V} {Gn : List Addr} (p : QX K ρ F H H3 r vn Gn) (hf : r.fr = true) (nd : r.M.Nodup) {x : Nat} {d : D} (hx : ρ[x]? = some (some (d, true))) (hxM : x ∉ r.M) {v0 w : V} (hv0 : σ[x]? = some (some v0))
  {is : List Int} {ds : List D} {Gm : List Addr} (fo : Focus K H3 is d v0 (F x) (.lst ds) w Gm) :
  ∃ l vsm Gp, w = .ref l /\ H3 l = some (.lst vsm) /\ Rps K H3 ds vsm Gp /\ Gp.length = nls ds /\ l ∉ Gp /\ l ∉ Gn /\ ds.length <= sizeLine ∧
   ∀ ds' vs' G', Rps K (upd H3 l (.lst vs')) ds' vs' G' -> ds'.length <= sizeLine -> G'.length = nls ds' -> (∀ a, G'.count a <= Gp.count a + Gn.count a) →
    ∃ F', Rel K H0 A0 hs ((kill r.M ρ).set x (some (QaS is d (.lst ds'), true))) F' σ (upd H3 l (.lst vs')) := by
 obtain ⟨l, ws, L, rfl, _, _, zl, _⟩ := fo.rp.lst_inv
 obtain ⟨ol, on, _, oap, _⟩ := rel.own x d hx
 obtain ⟨gn, gs⟩ := p.fresh rel hf nd
 obtain ⟨vsm, Gp, g1, g2, g3, g4, g5, g6, g7, _⟩ := fo.mut (vs' := []) (ds' := []) (G' := []) on ol
 have hq : l ∉ Gn := λ h => by
  rcases (gs l h).2 with z | ⟨k', d', hk', ek, hak⟩
  ·obtain ⟨vs, w⟩ := rel.mem hx g5
   rw [z] at w; cases w
  ·exact oap k' d' true (λ z => hxM (z ▸ hk')) ek l g5 hak
 refine ⟨l, vsm, Gp, rfl, g1, g3, g4, g7, hq, zl, λ ds' vs' G' m1 m2 m3 m4 => ?_⟩
 obtain ⟨vs2, Gp2, k1, k2, k3, k4, k5, k6, k7, k8⟩ := fo.mut (vs' := vs') (ds' := ds') (G' := G') on ol
 have eG : Gp2 = Gp := by rw [g2] at k2; exact (List.cons.inj k2).2.symm
 subst eG
 obtain ⟨F', h1, h2, h3⟩ := k8 m1 m2 m3
 exact rel.mut p hf nd (QD.refl _) hx hxM hv0 g1 g5 h1 h2 λ a => by have := h3 a; have := m4 a; omega
end
section
variable {X : Cx} {a b e : Expr} {fa fb : DE} {pf : DP} {x : Nat} {pos apos : Pos}
noncomputable def Qfp (r : R) (x : Nat) : Bool := r.norm.fr && decide r.norm.M.Nodup && !r.norm.M.contains x
theorem Qmz {r : R} {x : Nat} (h : Qfp r x = true) : r.norm.fr = true /\ r.norm.M.Nodup /\ x ∉ r.norm.M := by
 unfold Qfp at h
 simp only [Zf, decide_eq_true_eq, ZQ] at h
 exact ⟨h.1.1, h.1.2, λ z => by rw [Zaf.mpr z] at h; cases h.2⟩
noncomputable def QbQ (x : Nat) (pf : DP) (fa : DE) : DS := λ ρ => match ρ[x]? with
 | some (some (d, true)) => (pf ρ).bind λ is => (fa ρ).bind λ r0 => match Qbv d is with
  | some (.lst ds) => if Qfp r0 x && decide (ds.length < sizeLine) then some (.nx ((kill r0.norm.M ρ).set x (some (QaS is d (.lst (ds ++ [r0.d])), true)))) else none
  | _ => none
 | _ => none
theorem Qoj {H0 : Hp} {A0 : List Addr} {E : Ends} {σ : L2.St} {H : Hp} : tS X.K H0 A0 (QbQ x pf fa) E σ H -> Qjy (tBM X.K "list" Qll (tP X.K H0 A0 x pf) (QlV (tV X.K H0 A0 fa) QlQ)) E σ H := λ ⟨ρ, hs, F, o, rel, e, q⟩ => by
 unfold QbQ at e
 split at e
 ·rename_i d hx
  obtain ⟨is, e2, e⟩ := bind1 e
  obtain ⟨r0, e1, e⟩ := bind1 e
  split at e
  ·rename_i ds hp
   split at e
   ·rename_i hc
    simp only [Zf, decide_eq_true_eq] at hc
    obtain ⟨c1, c2, c3⟩ := Qmz hc.1
    cases e
    refine ⟨ρ, hs, F, d, true, is, .lst ds, rel, hx, e2, hp, λ v0 w H2 Gm s2 hv0 fo => ?_⟩
    have ty : tyV X.K "list" w H2 := by
     obtain ⟨l, ws, L, rfl, hl, _⟩ := fo.rp.lst_inv
     exact .inl ⟨rfl, ws, Q1 hl⟩
    refine ⟨ty, ρ, hs, F, r0, rel.ext s2, e1, λ vn H3 Gn p => ?_⟩
    have p' := p.norm
    obtain ⟨l, vsm, Gp, rfl, g1, g2, g3, g4, g5, g6, g7⟩ := (rel.ext s2).write p' c1 c2 hx c3 hv0 (fo.same p.same)
    refine ⟨l, vsm, vn, rfl, rfl, g1, by rw [← g2.length]; exact hc.2, ?_⟩
    have rn := p'.rp
    rw [r0.QcY] at rn
    have hnl := (p'.cnt c1).2
    rw [r0.QcY] at hnl
    have rw1 : Rps X.K (upd H3 l (.lst (vsm ++ [vn]))) [r0.d] [vn] Gn := by
     simp only [Rps]
     exact ⟨vn, [], Gn, [], rfl, by simp, rn.upd g1 g5, rfl, rfl⟩
    obtain ⟨F', rel'⟩ := g7 (ds ++ [r0.d]) (vsm ++ [vn]) (Gp ++ Gn) ((g2.upd g1 g4).append rw1) (by rw [Zl, Zaw]; omega) (by rw [Zl, QdV, g3, hnl]; simp [nls]) (λ a => by rw [Zaa]; omega)
    exact q _ _ F' rel'
   ·cases e
  ·cases e
 ·cases e
open PyProof.Rows in
theorem QmN : Qs0 X (Qsd X.K) := by
 intro pins s σ H o i ov iv Q I ro ri h
 obtain ⟨p, xs, k, v, rfl, rfl, hq, ha, q⟩ := h
 cases ro
 obtain ⟨t, rfl⟩ := ri
 obtain ⟨its, r, pl, hz⟩ := I.list hq
 obtain ⟨j, h1, h2, h3, h4, h5⟩ := Qir ha
 obtain ⟨w, ew, rw'⟩ := r.get h2
 have hl := r.length
 have hn := Qe4
 by_cases h0 : 0 <= k
 ·refine wpAny_getItem_list pl.isList h0 (by omega) (x := w) ?_ ⟨v, H, I, rw', q⟩
  have : k.toNat = j := by
   rw [seqIndex_of h0 h5] at h1
   exact Option.some.inj h1
  rw [this]; simpa using ew
 ·refine wpAny_getItem_list_neg pl.isList (by omega) (by rw [Zs] <;> omega) (by omega) (x := w) ?_ ⟨v, H, I, rw', q⟩
  have hj : (k + (its.toArray.size : Int)).toNat = j := by
   rw [seqIndex_neg (by omega) h4] at h1
   rw [Zs, ← hl]
   exact Option.some.inj h1
  rw [hj]; simpa using ew
noncomputable def Qey (g : D -> D -> Option D) (x : Nat) (pf : DP) (fi fa : DE) : DS := λ ρ => match ρ[x]? with
 | some (some (d, true)) => (pf ρ).bind λ is => (fi ρ).bind λ ri => match ri.d, Qbv d is with
  | .int k, some (.lst ds) => (ixN ds.length k).bind λ j => (ds[j]?).bind λ old => (fa ρ).bind λ r => (g old r.d).map λ new => .nx (ρ.set x (some (QaS is d (.lst (ds.set j new)), true)))
  | _, _ => none
 | _ => none
theorem Qqs {op : Operator} {i : Expr} {pos' : Pos} {fi : DE} {g : D -> D -> Option D} {r : R2} (ho : OpR X (inplaceOp op) r) (hg : Qb4 X.K g r) (hv : SE X e fa) (hp : SPa X a x pf) (hi : SE X i fi)
  (ha : ∀ ov iv new, augStore i ov iv new = (do holding [new, ov, iv] (setItem ov iv new); release [new, ov, iv] []; pure .next)) : S1 X (.AugAssign (.Subscript a i pos') op e pos) (Qey g x pf fi fa) := λ H0 A0 =>
 (Qqv (hp H0 A0) (hi H0 A0) QmN (hv H0 A0) (λ pins s σ H x y v u Q I rx ry q => Quu ho I rx ry q) set_list ha).mono λ E σ H ⟨ρ, hs, F, o, rel, e, q⟩ => by
  unfold Qey at e
  split at e
  ·rename_i d hx
   obtain ⟨is, e2, e⟩ := bind1 e
   obtain ⟨ri, e3, e⟩ := bind1 e
   split at e
   ·rename_i k ds hk hp'
    obtain ⟨j, e4, e⟩ := bind1 e
    obtain ⟨old, e5, e⟩ := bind1 e
    obtain ⟨rv, e6, e⟩ := bind1 e
    obtain ⟨new, e7, e⟩ := Zb.mp e
    subst e
    have hjl := (Qgp e4).2.1
    refine ⟨ρ, hs, F, d, true, is, .lst ds, rel, hx, e2, hp', λ v0 w H2 Gm s2 hv0 fo => ⟨ρ, hs, F, ri, rel.ext s2, e3, λ u H3 Gi pi => ?_⟩⟩
    have fo3 := fo.same pi.same
    have rpi := pi.rp
    rw [hk] at rpi
    rw [rpi.int_inv]
    have at3 : atI ds k = some old := by unfold atI; rw [e4]; exact e5
    obtain ⟨l, vs, v', Go, rfl, hc, h3, h4⟩ := Focus.one fo3.rp rfl at3
    have hc : SqL X.K H3 l vs := by
     rcases hc with ⟨_, hc⟩ | ⟨hc, _⟩
     ·exact hc
     ·cases hc
    refine ⟨l, vs, k, v', rfl, rfl, hc, h3, ρ, hs, F, rv, (rel.ext s2).ext pi.same, e6, λ y H4 G4 p4 => ?_⟩
    have fo4 := fo3.same p4.same
    have ro := h4.rp.same p4.same
    refine (hg _ _ _ e7).2 H4 v' y Go G4 _ ro p4.rp λ z hz => ?_
    have rel4 := ((rel.ext s2).ext pi.same).ext p4.same
    have pz : QX X.K ρ F H4 H4 ⟨new, true, []⟩ z [] := .flat (QD.refl _) (hz H4) (hg _ _ _ e7).1
    obtain ⟨l', vsm, Gp, el, g1, g2, g3, g4, g5, g6, g7⟩ := rel4.write pz rfl Zah hx (by simp) hv0 fo4
    cases el
    refine ⟨l, vsm, k, j, rfl, rfl, g1, by rw [← g2.length]; exact e4, ?_⟩
    obtain ⟨G', m1, m2, m3⟩ := set_mk g1 g2 g3 g4 g5 (hz H4) (Qdj new (hg _ _ _ e7).1).symm hjl
    obtain ⟨F', rel'⟩ := g7 _ _ G' m1 (by rw [ZaS]; exact g6) m2 m3
    exact q _ _ F' rel'
   ·cases e
  ·cases e
end
end HS
namespace HS
open PySem PySem.Spec L2 PyProof.Rows
noncomputable def D.QpM : D -> Option Int
 | .int i => some i
 | _ => none
noncomputable def Qfz : List D -> Option (List Int)
 | [] => some []
 | d :: ds => (d.QpM).bind λ i => (Qfz ds).map λ r => i :: r
theorem Qf3 : ∀ {ds : List D} {ns : List Int}, Qfz ds = some ns -> ds = ns.map .int
 | [], _, h => by cases h; rfl
 | d :: ds, ns, h => by
  unfold Qfz at h
  obtain ⟨i, h1, h⟩ := bind1 h
  obtain ⟨r, h2, rfl⟩ := Zb.mp h
  cases d with
  | int j => cases h1; rw [Qf3 h2]; rfl
  | _ => cases h1
theorem Qkl : ∀ (ns : List Int), Qfz (ns.map D.int) = some ns
 | [] => rfl
 | n :: ns => by simp [Qfz, Qkl ns, D.QpM]
theorem Rps.ints {K : PySem.W.Frag} {H : Hp} : ∀ {ns : List Int} {vs : List V} {F : List Addr}, Rps K H (ns.map .int) vs F -> vs = ns.map .int
 | [], _, _, h => by simp only [List.map_nil, Rps] at h; rw [h.1]; rfl
 | n :: ns, _, _, h => by
  simp only [Zu, Rps] at h
  obtain ⟨v, ws, F1, F2, rfl, rfl, r, q⟩ := h
  rw [r.int_inv, Rps.ints q]; rfl
theorem QdL {ns : List Int} {us : List Value} (h : Qq (ns.map V.int) us) : IntsAre us ns := intsAre_of h
section
variable {X : Cx} {a b e : Expr} {es : List Expr} {fa fb : DE} {fs : DA} {pos p2 : Pos}
theorem QsT {k : Expr} {te tk : TE} (he : PE X e te) (hk : PE X k tk) : PE X (.Subscript e (.Slice none none (some k) p2) pos)
  (λ σ H Q => te σ H λ x H1 => tk σ H1 λ y H2 => ∃ a xs, x = .ref a /\ y = .int (-1) /\ SqL X.K H2 a xs /\ ∀ p, H2 p = none -> Q (.ref p) (upd H2 p (.lst xs.reverse))) := by
 intro pins s σ H Q I h
 refine PyProof.Rows.Subscript_ (thn (he pins s σ H _ I h) λ v s1 ⟨x, H1, I1, r1, q1⟩ => ?_)
 refine wpAny_Slice ?_
 rw [evalPart_none]
 refine wpAny_pure (wpAny_pure ?_)
 rw [evalPart_some]
 refine thn (hk pins s1 σ H1 _ I1 q1) λ vk s3 ⟨y, H3, I3, r3, q3⟩ => ?_
 obtain ⟨c, xs, rfl, rfl, hq, q⟩ := q3
 cases r1
 obtain ⟨t, rfl⟩ := r3
 have I4 : Inv X pins σ H3 { s3 with heap := s3.heap.push { cls := .type "slice", data := .fields #[.none, .none, .int (-1) t] } } := I3.kept (t' := s3.toks) λ b ob q => Zq _ q
 obtain ⟨its, r, ht, hz⟩ := I4.list hq
 have hlen := r.length
 refine tail_any (ops := [.ref c, .ref s3.heap.objs.size]) ht.isList.typeIs slot_list_getitem.lookup ?_ (by with_unfolding_all rfl)
 refine wpAny_getItem_list_slice ht.isList (Heap.IsSliceOf.new ..) .none .none (.int (-1) t) (by simp) ?_ (by rw [Zs] <;> omega)
 rw [PySem.W.krv_pick]
 refine ⟨.ref _, _, I4.laid (t' := s3.toks) (o := .lst xs.reverse) (λ b ob q => Zq _ q) (Zj _) ?_, rfl, q _ (I4.hok.fresh (Zj _))⟩
 exact ⟨by rw [ZaW]; exact hz, its.reverse, 0, r.reverse, ZG _ rfl⟩
theorem Rps.rev {K : PySem.W.Frag} {H : Hp} : ∀ {ds : List D} {vs : List V} {F : List Addr}, Rps K H ds vs F -> ∃ G, Rps K H ds.reverse vs.reverse G /\ ∀ a ∈ G, a ∈ F
 | [], _, _, h => by simp only [Rps] at h; rw [h.1, h.2]; exact ⟨[], by simp [Rps], λ _ h => h⟩
 | d :: ds, _, _, h => by
  simp only [Rps] at h
  obtain ⟨v, ws, F1, F2, rfl, rfl, r, q⟩ := h
  obtain ⟨G, h1, h2⟩ := Rps.rev q
  refine ⟨G ++ F1, ?_, λ a ha => ?_⟩
  ·rw [Zay, Zay]
   refine h1.append ?_
   simp only [Rps]
   exact ⟨v, [], F1, [], rfl, by simp, r, rfl, rfl⟩
  ·rcases Zn.mp ha with z | z
   ·exact Ze _ (h2 a z)
   ·exact Zc _ z
noncomputable def Qks (fa fk : DE) : DE := λ ρ => (fa ρ).bind λ ra => (fk ρ).bind λ rk => match ra.d, rk.d with
 | .lst xs, .int (-1) => some (Qau xs.reverse ra.M)
 | _, _ => none
theorem QsL {k : Expr} {fk : DE} (ha : SE X a fa) (hk : SE X k fk) : SE X (.Subscript a (.Slice none none (some k) p2) pos) (Qks fa fk) := λ H0 A0 =>
 (QsT (ha H0 A0) (hk H0 A0)).mono λ σ H Q ⟨ρ, hs, F, r', rel, e, q⟩ => by
  obtain ⟨ra, e1, e⟩ := bind1 e
  obtain ⟨rk, e2, e⟩ := bind1 e
  refine two rel e1 e2 λ x y H1 H2 G1 G2 p1 p2 => ?_
  split at e
  ·rename_i xs hra hrk
   cases e
   have rp := p1.rp.same p2.same
   have rk' := p2.rp
   rw [hra] at rp
   rw [hrk] at rk'
   obtain ⟨c, vs, L, rfl, hc, rl, zl, el⟩ := rp.lst_inv
   refine ⟨c, vs, rfl, rk'.int_inv, Q1 hc, λ p hp => ?_⟩
   obtain ⟨G, h1, h2⟩ := rl.rev
   refine q _ _ (p :: G) (QX.Qau (p1.same.trans p2.same) hp h1 (by rw [ZaW]; exact zl) (λ z hz => p1.src z ?_) p1.own)
   rcases el with rfl | rfl
   ·exact Zd _ (h2 z hz)
   ·exact h2 z hz
  ·cases e
noncomputable def QsR (K : PySem.W.Frag) (C : List Int -> Int -> Prop) : List V -> Hp -> VK -> Prop := λ xs H Q => ∃ (p : Addr) (ns : List Int), xs = [.ref p] /\ (SqL K H p (ns.map V.int) ∨ SqT K H p (ns.map V.int)) /\ ns ≠ [] /\ ∀ M, C ns M -> Q (.int M) H
def Qhr (ns : List Int) (M : Int) : Prop := M ∈ ns /\ ∀ a ∈ ns, M <= a
theorem QhP {us : List Value} {ns : List Int} (hi : IntsAre us ns) : ∃ xs : Array (Int × Tok), us.toArray = intItems xs /\ ns = xs.toList.map (·.1) := by
 obtain ⟨xs, e⟩ := hi.allInts.items
 exact ⟨xs, e, by rw [← hi.numsOf, ← nums_intItems, ← e]⟩
theorem QkJ {prog : Program} {w : World} {A : Around} {E : Value -> Shared -> Prop} {s : Shared} {l : Addr} {xs : Array (Int × Tok)} {Q : Value -> Shared -> Prop} (hh : A.handled = none) (hl : s.heap.IsTuple l (intItems xs)) (hne : 0 < xs.size)
  (h : ∀ v h' tk, (intItems xs)[argBest (λ i j => decide (numAt xs i < numAt xs j)) (xs.size - 1)]? = some v -> (∀ b o, s.heap.get? b = some o -> h'.get? b = some o) -> Q v { s with heap := h', toks := tk }) :
  wpAny (model prog w) A (call (.builtin "min") [.ref l]) Q E s := by
 have hlt : l < s.heap.objs.size := by obtain ⟨_, e, _⟩ := hl; exact Zo e
 refine call_min_walk (wpAny_pyIter_tuple hl ?_)
 refine ⟨_, [_, l], [_], _, _, _, _, rfl, Walks.tuple (A := A.in1) hh _ l (ZH hlt) (intItems xs), ⟨⟨_, ZG _ rfl, rfl, rfl⟩, hl.push _⟩, λ b hb => ?_, by simpa [intItems] using hne, CmpOf.ints_lt (numAt xs) (λ _ _ => intItems_at), λ v h' tk hP hk => ?_⟩
 ·show b < (s.heap.push _).objs.size
  rw [Zaz]
  rcases Zm.mp hb with rfl | hb
  ·exact Zbf _
  ·rcases Zm.mp hb with rfl | hb
   ·exact ZaH hlt
   ·cases hb
 ·refine h v h' tk (by simpa [intItems] using hP) λ b o e => ?_
  refine hk b o (λ hm => ?_) (Zq _ e)
  rcases Zm.mp hm with e1 | hm
  ·exact absurd (e1 ▸ Zo e) (ZN _)
  ·cases hm
theorem Qm2 (hc : X.calm = true) : QbD X (.builtin "min") (QsR X.K Qhr) := by
 intro pins s σ H xs us Q I r h
 obtain ⟨p, ns, rfl, hq, hne, q⟩ := h
 obtain ⟨u, rfl, rx⟩ := vals1 r
 cases rx
 rcases hq with hq | hq
 ·obtain ⟨its, r', pl, hz⟩ := I.list hq
  obtain ⟨ys, e, hns⟩ := QhP (QdL r')
  have hl := pl.isList
  rw [e] at hl
  have hsz : 0 < ys.size := by
   rcases Nat.eq_zero_or_pos ys.size with z | z
   ·exact absurd (by rw [hns, List.map_eq_nil_iff]; exact Zat (by simpa using z)) hne
   ·exact z
  refine min_intList (I.ok.hd hc) hl hsz λ v h' tk hv hk => ?_
  obtain ⟨t, rfl⟩ := intItems_at hv
  obtain ⟨h1, h2⟩ := argBest_lt (numAt ys) (ys.size - 1)
  refine ⟨.int _, H, I.kept hk, ⟨t, rfl⟩, q _ ⟨?_, λ a ha => ?_⟩⟩
  ·rw [hns, numAt_eq]; exact getD_mem (by rw [Zh, Zal]; omega)
  ·rw [hns] at ha
   obtain ⟨j, hj, rfl⟩ := mem_getD ha
   rw [Zh, Zal] at hj
   rw [← numAt_eq]; exact h2 j (by omega)
 ·obtain ⟨its, r', pl, hz⟩ := I.tuple hq
  obtain ⟨ys, e, hns⟩ := QhP (QdL r')
  have hl := pl
  rw [e] at hl
  have hsz : 0 < ys.size := by
   rcases Nat.eq_zero_or_pos ys.size with z | z
   ·exact absurd (by rw [hns, List.map_eq_nil_iff]; exact Zat (by simpa using z)) hne
   ·exact z
  refine QkJ (I.ok.hd hc) hl hsz λ v h' tk hv hk => ?_
  obtain ⟨t, rfl⟩ := intItems_at hv
  obtain ⟨h1, h2⟩ := argBest_lt (numAt ys) (ys.size - 1)
  refine ⟨.int _, H, I.kept hk, ⟨t, rfl⟩, q _ ⟨?_, λ a ha => ?_⟩⟩
  ·rw [hns, numAt_eq]; exact getD_mem (by rw [Zh, Zal]; omega)
  ·rw [hns] at ha
   obtain ⟨j, hj, rfl⟩ := mem_getD ha
   rw [Zh, Zal] at hj
   rw [← numAt_eq]; exact h2 j (by omega)
noncomputable def QiR : List Int -> Option Int
 | [] => none
 | [n] => some n
 | n :: r => (QiR r).map λ m => if m < n then m else n
theorem QiP : ∀ {ns : List Int} {m : Int}, QiR ns = some m -> Qhr ns m
 | [], _, h => by cases h
 | [n], _, h => by cases h; exact ⟨by simp, λ a ha => by simp at ha; omega⟩
 | n :: k :: r, m, h => by
  simp only [QiR] at h
  obtain ⟨m', h1, rfl⟩ := Zb.mp h
  obtain ⟨h2, h3⟩ := QiP h1
  constructor
  ·split
   ·exact Zd _ h2
   ·exact Zi
  ·intro a ha
   rcases Zm.mp ha with rfl | ha
   ·split <;> omega
   ·have := h3 a ha; split <;> omega
theorem Qjd {ns : List Int} {a b : Int} (h : Qhr ns a) (g : Qhr ns b) : a = b := by have := h.2 b g.1; have := g.2 a h.1; omega
noncomputable def Qgu : List D -> Option D
 | [.lst xs] => (Qfz xs).bind λ ns => (QiR ns).map .int
 | [.tup xs] => (Qfz xs).bind λ ns => (QiR ns).map .int
 | _ => none
theorem Qrc {K : PySem.W.Frag} : Qem K Qgu (QsR K Qhr) := λ ds d e => by
 unfold Qgu at e
 split at e
 ·obtain ⟨ns, h1, e⟩ := bind1 e
  obtain ⟨m, h2, rfl⟩ := Zb.mp e
  refine ⟨rfl, λ H vs F Q r q => ?_⟩
  obtain ⟨v, rfl, rp⟩ := r.one
  obtain ⟨l, ws, L, rfl, hl, rl, zl, el⟩ := rp.lst_inv
  rw [Qf3 h1] at rl
  rw [rl.ints] at hl
  exact ⟨l, ns, rfl, .inl (Q1 hl), λ z => (by rw [z] at h2; cases h2), λ M hM => by rw [Qjd hM (QiP h2)]; exact q _ λ _ => .int_mk⟩
 ·obtain ⟨ns, h1, e⟩ := bind1 e
  obtain ⟨m, h2, rfl⟩ := Zb.mp e
  refine ⟨rfl, λ H vs F Q r q => ?_⟩
  obtain ⟨v, rfl, rp⟩ := r.one
  obtain ⟨l, ws, rfl, hl, rl⟩ := rp.QaU
  rw [Qf3 h1] at rl
  rw [rl.ints] at hl
  exact ⟨l, ns, rfl, .inr hl, λ z => (by rw [z] at h2; cases h2), λ M hM => by rw [Qjd hM (QiP h2)]; exact q _ λ _ => .int_mk⟩
 ·cases e
noncomputable def QeJ (neg : Bool) (a b : D) : Option D := match a, b with
 | a, .non => some (.bl (if neg then !a.Qme else a.Qme))
 | .bl x, .bl y => some (.bl (if neg then !(x == y) else x == y))
 | _, _ => none
theorem Qst : OpR X (compareOp .Is) (λ x y H Q => ∃ c d, x = .bl c /\ y = .bl d /\ Q (.bl (c == d)) H) := by
 intro pins s σ H x y v u Q I rx ry h
 obtain ⟨c, d, rfl, rfl, q⟩ := h
 cases rx
 cases ry
 exact PyProof.Rows.is_bool (Qhz I q rfl)
theorem QrN : OpR X (compareOp .IsNot) (λ x y H Q => ∃ c d, x = .bl c /\ y = .bl d /\ Q (.bl (!(c == d))) H) := by
 intro pins s σ H x y v u Q I rx ry h
 obtain ⟨c, d, rfl, rfl, q⟩ := h
 cases rx
 cases ry
 exact PyProof.Rows.isnot_bool (Qhz I q rfl)
theorem QsA {K : PySem.W.Frag} : Qb4 K (QeJ false) (λ x y H Q => (y = .non /\ Q (.bl (decide (x = .non))) H) ∨ ∃ c d, x = .bl c /\ y = .bl d /\ Q (.bl (c == d)) H) := λ a b d e => by
 unfold QeJ at e
 split at e
 ·cases e
  exact ⟨rfl, λ H x y F G Q ha hb q => .inl ⟨hb.Qd6, by rw [QlM ha]; exact q _ λ _ => .Qbl⟩⟩
 ·cases e
  exact ⟨rfl, λ H x y F G Q ha hb q => .inr ⟨_, _, ha.Qcx, hb.Qcx, q _ λ _ => .Qbl⟩⟩
 ·cases e
theorem QnS {K : PySem.W.Frag} : Qb4 K (QeJ true) (λ x y H Q => (y = .non /\ Q (.bl (!decide (x = .non))) H) ∨ ∃ c d, x = .bl c /\ y = .bl d /\ Q (.bl (!(c == d))) H) := λ a b d e => by
 unfold QeJ at e
 split at e
 ·cases e
  exact ⟨rfl, λ H x y F G Q ha hb q => .inl ⟨hb.Qd6, by rw [QlM ha]; exact q _ λ _ => .Qbl⟩⟩
 ·cases e
  exact ⟨rfl, λ H x y F G Q ha hb q => .inr ⟨_, _, ha.Qcx, hb.Qcx, q _ λ _ => .Qbl⟩⟩
 ·cases e
theorem Qlj {neg : Bool} : ∀ a b d, QeJ neg a b = some d -> ∃ k, d = .bl k := λ a b d h => by
 unfold QeJ at h
 split at h <;> cases h <;> exact ⟨_, rfl⟩
noncomputable def QiA : List D -> Option D
 | [.int i] => some (.int i)
 | [.bl k] => some (.int (if k then 1 else 0))
 | _ => none
theorem Qs2 {K : PySem.W.Frag} : Qem K QiA (λ xs H Q => (∃ i, xs = [.int i] /\ Q (.int i) H) ∨ ∃ k, xs = [.bl k] /\ Q (.int (if k then 1 else 0)) H) := λ ds d e => by
 unfold QiA at e
 split at e
 ·cases e
  refine ⟨rfl, λ H vs F Q r q => ?_⟩
  obtain ⟨v, rfl, rp⟩ := r.one
  exact .inl ⟨_, by rw [rp.int_inv], q _ λ _ => .int_mk⟩
 ·cases e
  refine ⟨rfl, λ H vs F Q r q => ?_⟩
  obtain ⟨v, rfl, rp⟩ := r.one
  exact .inr ⟨_, by rw [rp.Qcx], q _ λ _ => .int_mk⟩
 ·cases e
theorem Qsu {x : Str} {T : String} {g : List D -> Option D} {r : List V -> Hp -> VK -> Prop} {p : Pos} (hc : QbD X (.type T) r) (hk : Qem X.K g r) (hg : Gl X x) (hm : X.mg x = none) (hv : bootBuiltins x = some (.type T)) (ha : SA X (e :: es) fs) (hn : x ≠ "__name__") (hdb : (x == ("__debug__" : Str)) = false)
  (he : starEach (e :: es) X.env = (false, eval e X.env) :: starEach es X.env) (hpl : (backTo pos (starEach es X.env)).any (·.1) = false) : SE X (.Call (.Name x p) (e :: es) [] pos) (dBf g fs) := λ H0 A0 =>
 (Qjh hc hg hm hv (ha H0 A0) hn hdb he hpl).mono λ σ H Q ⟨ρ, hs, F, r', rel, e, q⟩ => by
  obtain ⟨ra, e1, e⟩ := bind1 e
  obtain ⟨d, ed, e⟩ := Zb.mp e
  subst e
  exact ⟨ρ, hs, F, ra, rel, e1, λ vs H1 G p1 => (hk _ _ ed).2 H1 vs G Q p1.rp λ v hv => q v H1 [] (.flat p1.same (hv _) (hk _ _ ed).1)⟩
end
end HS
namespace HS
open PySem PySem.Spec L2 PyProof.Rows
theorem QgI : ∀ {vs : List V} {us : List Value}, us.length = vs.length -> (∀ (k : Nat) (v : V), vs[k]? = some v -> ∃ u, us[k]? = some u /\ RelV v u) -> Qq vs us
 | [], [], _, _ => .nil
 | [], _ :: _, h, _ => by simp at h
 | _ :: _, [], h, _ => by simp at h
 | v :: vs, u :: us, h, g => by
  obtain ⟨u', e, r⟩ := g 0 v rfl
  cases e
  exact .cons r (QgI (by simpa using h) λ k v hk => g (k + 1) v hk)
section
variable {X : Cx} {a b c e tg : Expr} {es : List Expr} {fa fb fc : DE} {fs : DA} {pos p2 : Pos}
theorem QnC {pins : List (Addr × Obj)} {σ : L2.St} {H : Hp} {s : Shared} {Q : VK} {E : Value -> Shared -> Prop} {j : Int} {t u v : Tok} {tk : Nat} (I : Inv X pins σ H s) (hc : X.calm = true) (h0 : 0 <= j) (h1 : j <= 1000000)
  (q : ∀ l, H l = none -> Q (.ref l) (upd H l (.lst ((List.range j.toNat).map λ (k : Nat) => V.int (k : Int))))) :
  wpAny (model X.prog X.w) X.A (call (.type "list") [.ref s.heap.objs.size]) (EP X pins σ Q) E { s with heap := s.heap.push { cls := .type "range", data := .fields #[.int 0 t, .int j u, .int 1 v] }, toks := tk } := by
 have I2 : Inv X pins σ H { s with heap := s.heap.push { cls := .type "range", data := .fields #[.int 0 t, .int j u, .int 1 v] }, toks := tk } := I.kept λ b o e => Zq _ e
 refine call_list_range (n := j.toNat) (I.ok.hd hc) (IsRange.new ..) (small_one (by omega) (by omega) (by omega) (by omega)) (by rw [rangeSize_one]; split <;> omega) (by omega) λ h' tk' acc' c' hk hS hacc => ?_
 have hv : Qq ((List.range j.toNat).map λ (k : Nat) => V.int (k : Int)) acc'.toList := by
  have hl := hacc.1
  refine QgI (by simp [hl]) λ k v hk => ?_
  rw [Zz] at hk
  have hkl : k < j.toNat := by
   by_cases z : k < j.toNat
   ·exact z
   ·rw [ZC (by simp; omega)] at hk; cases hk
  rw [ZV hkl] at hk
  cases hk
  obtain ⟨w, hw⟩ : ∃ w, acc'[k]? = some w := ⟨acc'[k]'(by omega), by rw [Array.getElem?_eq_getElem (by omega)]⟩
  obtain ⟨t', rfl⟩ := hacc.2 k w hw
  exact ⟨_, by rw [Array.getElem?_toList]; exact hw, ⟨t', by simp⟩⟩
 refine ⟨.ref _, _, I2.laid hk (Zj _) (show Qbz X.prog X.w _ h' _ (.lst _) from ⟨by simp [QiC]; omega, acc'.toList, c', hv, by simpa using hS⟩), rfl, q _ (I2.hok.fresh (Zj _))⟩
theorem QnR {p p' pos' : Pos} {ta : TA} (hg : Gl X "list") (hm : X.mg "list" = none) (hg' : Gl X "range") (hm' : X.mg "range" = none) (hc : X.calm = true) (ha : PA X [a] ta) (hs : starEach [a] X.env = [(false, eval a X.env)]) :
  PE X (.Call (.Name "list" p) [.Call (.Name "range" p') [a] [] pos'] [] pos) (λ σ H Q => ta σ H λ vs H1 => ∃ j : Int, vs = [.int j] /\ 0 <= j /\ j <= 1000000 /\ ∀ l, H1 l = none -> Q (.ref l) (upd H1 l (.lst ((List.range j.toNat).map λ (k : Nat) => V.int (k : Int))))) := by
 intro pins s σ H Q I h
 refine wpAny_Call_Name_kw (Qc8 I hg hm boot_list ?_ (by decide) (by decide))
 refine ZW (Calls.spliced_cons ?_) rfl rfl
 refine Call_ (Qc8 I hg' hm' boot_range (ZW (thn (ha pos' pins s σ H _ I h) λ us s1 ⟨vs, H1, I1, r1, q1⟩ => ?_) hs rfl))
 obtain ⟨j, e, q1, q2, q⟩ := q1
 subst e
 cases r1 with
 | cons r rr =>
  cases rr
  obtain ⟨t, rfl⟩ := r
  exact call_range_1 (Calls.spliced_nil (QnC I1 hc q1 q2 q))
noncomputable def QlX (fa : DE) : DE := λ ρ => (fa ρ).bind λ r => match r.d with
 | .int j => if 0 <= j /\ j <= 1000000 then some ⟨.lst ((List.range j.toNat).map λ (k : Nat) => .int (k : Int)), true, []⟩ else none
 | _ => none
theorem Rps.ofInts {K : PySem.W.Frag} {H : Hp} : ∀ ns : List Int, Rps K H (ns.map .int) (ns.map .int) []
 | [] => by simp [Rps]
 | n :: ns => by simp only [Zu, Rps]; exact ⟨_, _, [], [], rfl, rfl, .int_mk, Rps.ofInts ns⟩
theorem QmM : ∀ ns : List Int, QJ (ns.map .int) = true
 | [] => rfl
 | n :: ns => by simp [QJ, D.flat, QmM ns]
theorem Qqd {p p' pos' : Pos} (hg : Gl X "list") (hm : X.mg "list" = none) (hg' : Gl X "range") (hm' : X.mg "range" = none) (hc : X.calm = true) (ha : SE X a fa) (hs : starEach [a] X.env = [(false, eval a X.env)]) :
  SE X (.Call (.Name "list" p) [.Call (.Name "range" p') [a] [] pos'] [] pos) (QlX fa) := λ H0 A0 =>
 (QnR hg hm hg' hm' hc (QaV (ha H0 A0) QcL hs) hs).mono λ σ H Q ⟨ρ, hs, F, r', rel, e, q⟩ => by
  obtain ⟨ra, e1, e⟩ := bind1 e
  refine ⟨ρ, hs, F, ra, rel, e1, λ v H1 G p1 => ?_⟩
  cases hd : ra.d with
  | int j =>
   rw [hd] at e
   dsimp only at e
   split at e
   ·rename_i hj
    cases e
    have rp := p1.rp
    rw [hd] at rp
    refine ⟨j, by rw [rp.int_inv], hj.1, hj.2, λ l hl => ?_⟩
    have e2 : ((List.range j.toNat).map λ (k : Nat) => D.int (k : Int)) = ((List.range j.toNat).map λ (k : Nat) => (k : Int)).map D.int := by rw [Zar]; rfl
    have e3 : ((List.range j.toNat).map λ (k : Nat) => V.int (k : Int)) = ((List.range j.toNat).map λ (k : Nat) => (k : Int)).map V.int := by rw [Zar]; rfl
    have := QX.Qau (M := []) (ρ := ρ) (F := F) p1.same hl (Rps.ofInts (K := X.K) (H := H1) ((List.range j.toNat).map λ (k : Nat) => (k : Int))) (by simp [QiC]; omega) Src.nil Qbn.nil
    rw [← e2, ← e3] at this
    unfold Qau at this
    rw [if_pos (by rw [e2]; exact QmM _)] at this
    exact q _ _ _ this
   ·cases e
  | _ => rw [hd] at e; cases e
end
end HS
namespace HS
open PySem PySem.Spec PyProof.Rows L2
section
variable {X : Cx} {a b c : Expr} {fa fb fc : DE} {pos : Pos}
end
end HS
namespace HS
open PySem PySem.Spec L2
structure FnR where
 n : Nat
 dfl : List D
 den : Den
structure Th where
 N : List Str
 sc : List (Str × NameKind)
 Γ : List (Str × FnR)
 cs : List (Str × Int)
 tr : Stmt -> Option DS := λ _ => none
noncomputable def posOf (x : Str) : List Str -> Option Nat
 | [] => none
 | y :: ys => if x = y then some 0 else (posOf x ys).map (· + 1)
theorem QeA : ∀ {x : Str} {ys : List Str} {i : Nat}, posOf x ys = some i -> ys[i]? = some x
 | x, [], i, h => by cases h
 | x, y :: ys, i, h => by
  unfold posOf at h
  split at h
  ·rename_i e; cases h; subst e; rfl
  ·obtain ⟨j, hj, rfl⟩ := Zb.mp h
   simpa using QeA hj
noncomputable def look {α : Type} (x : Str) : List (Str × α) -> Option α
 | [] => none
 | (y, a) :: r => if x = y then some a else look x r
theorem Qbr {α : Type} : ∀ {x : Str} {l : List (Str × α)}, look x l = l.lookup x
 | x, [] => rfl
 | x, (y, a) :: r => by
  unfold look
  rw [Zr]
  by_cases h : x = y
  ·subst h; simp
  ·rw [if_neg h, Qbr]
   have : (x == y) = false := by simpa using h
   rw [this]
noncomputable def QpS : NameKind -> Bool
 | .local => true | .cell => true | .free => true | _ => false
noncomputable def QpB : NameKind -> Bool
 | .local => true | .cell => true | _ => false
noncomputable def Qux : NameKind -> Bool
 | .globalImplicit => true | _ => false
noncomputable def isFree : NameKind -> Bool
 | .free => true | _ => false
noncomputable def odd (x : Str) : Bool := decide (x = "__debug__") || decide (x = "__classdict__") || decide (x = "__name__")
noncomputable def Th.slot (Θ : Th) (x : Str) : Option Nat := if ((look x Θ.sc).map QpS).getD false && !odd x then posOf x Θ.N else none
noncomputable def Th.QcN (Θ : Th) (x : Str) : Option Nat := if ((look x Θ.sc).map QpB).getD false && !odd x then posOf x Θ.N else none
noncomputable def Th.gl (Θ : Th) (x : Str) : Bool := ((look x Θ.sc).map Qux).getD false && !odd x
def Qrd (X : Cx) (x : Str) (r : FnR) : Prop := ∃ k f fd ps, Qbe X.prog X.w X.K X.mg X.base CX0 k f fd ps (spV X.K r.n r.den) /\ Qaj k X.A /\ X.mg x = some (.ref f) /\ PySem.W.keepIn X.K (.ref f) = true ∧
 ∀ m, m <= r.dfl.length -> ∃ ds dvs, Binds X.K fd ps ds /\ Qq dvs ds /\ ∀ H, Rps X.K H (r.dfl.drop (r.dfl.length - m)) dvs []
noncomputable def Qj9 : List Str := ["range", "enumerate", "zip", "len", "list", "min", "max", "sum", "abs", "isinstance", "int", "bool", "tuple", "str", "divmod", "sorted", "any", "all"]
structure CtxB (X : Cx) (Θ : Th) : Prop where
 N : X.N = Θ.N
 nd : Θ.N.Nodup
 lc : ∀ x, look x Θ.sc = some .local -> X.env.scope.names.lookup x = some .local
 ce : ∀ x, look x Θ.sc = some .cell -> X.env.scope.names.lookup x = some .cell /\ X.fn x = true
 fe : ∀ x, look x Θ.sc = some .free -> X.env.scope.names.lookup x = some .cell ∨ X.env.scope.names.lookup x = some .free
 gl : ∀ x, look x Θ.sc = some .globalImplicit -> X.env.scope.names.lookup x = some .globalImplicit
 units : X.A.units + 64 < cLine
 mg : ∀ x ∈ Qj9, X.mg x = none
 cs : ∀ x i, look x Θ.cs = some i -> ∃ t, X.mg x = some (.int i t)
structure QS (X : Cx) (Θ : Th) : Prop extends CtxB X Θ where
 calm : X.calm = true
 pass : PassesOwn (model X.prog X.w) X.A X.env X.xe
 fns : ∀ x r, look x Θ.Γ = some r -> Qrd X x r
 tr : ∀ st f, Θ.tr st = some f -> S1 X st f
section
variable {X : Cx} {Θ : Th}
theorem Qly {x : Str} (h : odd x = false) : (x == ("__debug__" : Str)) = false /\ (x == ("__classdict__" : Str)) = false /\ x ≠ "__name__" := by
 unfold odd at h
 simp only [Bool.or_eq_false_iff, decide_eq_false_iff_not] at h
 exact ⟨by simpa using h.1.1, by simpa using h.1.2, h.2⟩
theorem Qih (ok : CtxB X Θ) {x : Str} {i : Nat} {pos : Pos} (h : Θ.slot x = some i) : PE X (.Name x pos) (Qmo i) := by
 unfold Th.slot at h
 split at h
 ·rename_i hc
  simp only [Zf, ZQ] at hc
  obtain ⟨h1, h2, _⟩ := Qly hc.2
  refine Qr8 (by rw [ok.N]; exact QeA h) ?_ h1 h2
  cases q : look x Θ.sc with
  | none => rw [q] at hc; cases hc.1
  | some k =>
   rw [q] at hc
   cases k with
   | «local» => exact .inl (ok.lc x q)
   | cell => exact .inr (.inl (ok.ce x q).1)
   | free => exact .inr (ok.fe x q)
   | _ => cases hc.1
 ·cases h
theorem QcQ (ok : CtxB X Θ) {x : Str} {i : Nat} (h : Θ.QcN x = some i) : X.N[i]? = some x /\ Loc X.env.scope x /\ (X.fn x = true ∨ X.env.scope.names.lookup x = some .local) := by
 unfold Th.QcN at h
 split at h
 ·rename_i hc
  simp only [Zf, ZQ] at hc
  refine ⟨by rw [ok.N]; exact QeA h, ?_⟩
  cases q : look x Θ.sc with
  | none => rw [q] at hc; cases hc.1
  | some k =>
   rw [q] at hc
   cases k with
   | «local» => exact ⟨.inl (ok.lc x q), .inr (ok.lc x q)⟩
   | cell => exact ⟨.inr (ok.ce x q).1, .inl (ok.ce x q).2⟩
   | _ => cases hc.1
 ·cases h
theorem Qb1 (ok : CtxB X Θ) {x : Str} (h : Θ.gl x = true) : Gl X x /\ (x == ("__debug__" : Str)) = false /\ x ≠ "__name__" := by
 unfold Th.gl at h
 simp only [Zf, ZQ] at h
 obtain ⟨h1, h2, h3⟩ := Qly h.2
 refine ⟨?_, h1, h3⟩
 cases q : look x Θ.sc with
 | none => rw [q] at h; cases h.1
 | some k =>
  rw [q] at h
  cases k with
  | globalImplicit => exact ok.gl x q
  | _ => cases h.1
end
noncomputable def isTup : Expr -> Bool
 | .Tuple .. => true
 | _ => false
noncomputable def Qec : Expr -> Option Str
 | .Name x _ => some x
 | _ => none
noncomputable def Qeo (Θ : Th) : Expr -> Option Tg
 | .Name x _ => (Θ.QcN x).map .nm
 | .Tuple es _ _ => ((es.mapM Qec).bind λ xs => xs.mapM Θ.QcN).map .tp
 | _ => none
noncomputable def Qmp : CmpOp -> Option (D -> D -> Option D)
 | .Eq => some gEq | .NotEq => some gNe | .Lt => some gLt | .LtE => some gLe | .Gt => some gGt | .GtE => some gGe
 | .Is => some (QeJ false) | .IsNot => some (QeJ true)
 | .In => some (gIn false) | .NotIn => some (gIn true)
noncomputable def Qo5 (x : Str) : Option String :=
 if x = "int" then some "int" else if x = "bool" then some "bool" else if x = "list" then some "list" else if x = "tuple" then some "tuple" else if x = "str" then some "str" else none
noncomputable def inner (Θ : Th) (scope : Scope) : Th := { N := (scope.names.filter λ y => QpS y.2).map (·.1), sc := scope.names, Γ := Θ.Γ, cs := Θ.cs }
noncomputable def Qgq (Θ : Th) (scope : Scope) : List (Option Nat) := (inner Θ scope).N.map λ x => if ((look x scope.names).map isFree).getD false then posOf x Θ.N else none
noncomputable def Qh3 (Θ : Th) (scope : Scope) (t : Tg) : Bool := (scope.kind == .function) && decide (inner Θ scope).N.Nodup &&
 (scope.names.all λ y => match y.2 with
  | .cell => decide (look y.1 scope.names = some .cell)
  | .local => decide (look y.1 scope.names = some .local)
  | .free => match look y.1 Θ.sc with
   | some .cell => true
   | some .free => true
   | _ => false
  | _ => true) &&
 t.slots.all λ j => match (Qgq Θ scope)[j]? with
  | some (some _) => false
  | _ => true
noncomputable def Qhb (Θ : Th) (x : Str) (a : Expr) : Option Expr := match a with
 | .Call (.Name y _) [b] [] _ => if x = "list" /\ y = "range" /\ Θ.gl y = true /\ (look y Θ.Γ).isNone = true then some b else none
 | _ => none
noncomputable def Quc : List Expr -> Bool
 | [] => true | [_] => true | _ => false
noncomputable def bf1 (x : Str) (fa : DE) : Option DE :=
 if x = "len" then some (dBf QaF (Qb fa Qd)) else
 if x = "list" then some (dList (Qb fa Qd)) else
 if x = "min" then some (dBf Qgu (Qb fa Qd)) else
 if x = "int" then some (dBf QiA (Qb fa Qd)) else
 none
noncomputable def bf2 (x : Str) (fa fb : DE) : Option DE :=
 if x = "min" then some (dBf Qbi (Qb fa (Qb fb Qd))) else
 if x = "max" then some (dBf Qbj (Qb fa (Qb fb Qd))) else
 none
mutual
noncomputable def Qo (n : Nat) (Θ : Th) (e : Expr) : Option DE := match n with
 | 0 => none
 | n + 1 => match e with
  | .Name x _ => match Θ.slot x with
   | some i => some (Qa i)
   | none => if Θ.gl x then (look x Θ.cs).map λ i => dC (.int i) else none
  | .Constant (.int i) _ _ => some (dC (.int i))
  | .Constant (.bool b) _ _ => some (dC (.bl b))
  | .Constant .none _ _ => some (dC .non)
  | .Constant (.str x) _ _ => some (dC (.str x))
  | .BinOp a op b _ => (Qo n Θ a).bind λ fa => (Qo n Θ b).bind λ fb => match op with
   | .Add => some (Qu fa fb)
   | .Mult => some (Qai fa fb)
   | .Sub => some (dOp QbA fa fb)
   | .FloorDiv => some (dOp Qct fa fb)
   | .Mod => some (dOp QK fa fb)
   | _ => none
  | .UnaryOp .USub a _ => (Qo n Θ a).map QiE
  | .UnaryOp .Not a _ => (Qo n Θ a).map Qg9
  | .BoolOp .And [a] _ => Qo n Θ a
  | .BoolOp .And (a :: b :: r) p => (Qo n Θ a).bind λ fa => (Qo n Θ (.BoolOp .And (b :: r) p)).map λ fb => Qb2 fa fb
  | .BoolOp .Or [a] _ => Qo n Θ a
  | .BoolOp .Or (a :: b :: r) p => (Qo n Θ a).bind λ fa => (Qo n Θ (.BoolOp .Or (b :: r) p)).map λ fb => dOr fa fb
  | .Compare a [op] [b] _ => (Qo n Θ a).bind λ fa => (Qo n Θ b).bind λ fb => (Qmp op).map λ g => dOp g fa fb
  | .Tuple es _ _ => (QaY n Θ es).map QI
  | .List es _ => (QaY n Θ es).map QH
  | .Subscript a (.Slice lo hi none _) _ => (Qo n Θ a).bind λ fa => (Qgm n Θ lo).bind λ fl => (Qgm n Θ hi).map λ fh => QbN fa fl fh
  | .Subscript a (.Slice none none (some k) _) _ => (Qo n Θ a).bind λ fa => (Qo n Θ k).map λ fk => Qks fa fk
  | .Subscript a b _ => (Qo n Θ a).bind λ fa => (Qo n Θ b).map λ fb => Ql fa fb
  | .Call (.Name x _) args [] _ => if Θ.gl x then (match look x Θ.Γ with
    | some r => if r.n <= args.length + r.dfl.length /\ args.length <= r.n then (QaY n Θ args).map λ fs => Qn r.n r.den (r.dfl.drop (r.dfl.length - (r.n - args.length))) fs else none
    | none => QhF n Θ x args) else none
  | .ListComp elt [⟨tg, iter, ifs, 0⟩] scope _ => (Qeo (inner Θ scope) tg).bind λ t => if Qh3 Θ scope t && Quc ifs then
    (QdZ n Θ tg iter).bind λ fi => (Qef n (inner Θ scope) ifs).bind λ ft => (Qo n (inner Θ scope) elt).map λ fe => Qaa fi t (Qgq Θ scope) ft fe else none
  | _ => none
noncomputable def QhF (n : Nat) (Θ : Th) (x : Str) (args : List Expr) : Option DE := match n with
  | 0 => none
  | n + 1 => match args with
    | [a] => match Qhb Θ x a with
     | some b => (Qo n Θ b).map QlX
     | none => (Qo n Θ a).bind λ fa => bf1 x fa
    | [a, b] => if x = "isinstance" then (Qo n Θ a).bind λ fa => match b with
        | .Name y _ => if Θ.gl y then (Qo5 y).map λ T => Qgb T fa else none
        | _ => none
      else (Qo n Θ a).bind λ fa => (Qo n Θ b).bind λ fb => bf2 x fa fb
    | _ => none
noncomputable def QaZ (n : Nat) (Θ : Th) (e : Expr) : Option DT := match n with
 | 0 => none
 | n + 1 => match e with
  | .UnaryOp .Not a _ => (QaZ n Θ a).map Qbg
  | .BoolOp .And [a] _ => QaZ n Θ a
  | .BoolOp .And (a :: b :: r) p => (QaZ n Θ a).bind λ fa => (QaZ n Θ (.BoolOp .And (b :: r) p)).map λ fb => Qc6 fa fb
  | .BoolOp .Or [a] _ => QaZ n Θ a
  | .BoolOp .Or (a :: b :: r) p => (QaZ n Θ a).bind λ fa => (QaZ n Θ (.BoolOp .Or (b :: r) p)).map λ fb => bOr fa fb
  | .Compare a [op] [b] _ => (Qo n Θ a).bind λ fa => (Qo n Θ b).bind λ fb => (Qmp op).map λ g => Qj (dOp g fa fb)
  | .BoolOp _ _ _ => none
  | .IfExp _ _ _ _ => none
  | .Compare _ _ _ _ => none
  | e => (Qo n Θ e).map Qj
noncomputable def Qef (n : Nat) (Θ : Th) (es : List Expr) : Option DT := match n with
 | 0 => none
 | n + 1 => match es with
  | [] => some QbG
  | [c] => QaZ n Θ c
  | _ => none
noncomputable def QaY (n : Nat) (Θ : Th) (es : List Expr) : Option DA := match n with
 | 0 => none
 | n + 1 => match es with
  | [] => some Qd
  | e :: es => (Qo n Θ e).bind λ fa => (QaY n Θ es).map λ fs => Qb fa fs
noncomputable def Qgm (n : Nat) (Θ : Th) (e : Option Expr) : Option DO := match n with
 | 0 => none
 | n + 1 => match e with
  | none => some QbH
  | some e => (Qo n Θ e).map Qad
noncomputable def QdZ (n : Nat) (Θ : Th) (tg e : Expr) : Option DI := match n with
 | 0 => none
 | n + 1 => match e with
  | .Call (.Name x _) args [] _ => if Θ.gl x && (look x Θ.Γ).isNone then (match args with
    | [a] => if x = "range" then (Qo n Θ a).map Qcj else
     if x = "enumerate" then (if isTup tg then (Qo n Θ a).map Qhu else none) else
     (Qo n Θ e).map QR
    | [a, b, c] =>
     (Qo n Θ e).map QR
    | [a, b] =>
     if x = "zip" then (if isTup tg then (Qo n Θ a).bind λ fa => (Qo n Θ b).map λ fb => Ql6 fa fb else none) else
     (Qo n Θ e).map QR
    | _ => (Qo n Θ e).map QR) else (Qo n Θ e).map QR
  | e => (Qo n Θ e).map QR
end
end HS
namespace HS
open PySem PySem.Spec L2
theorem QN {α β γ : Type} {x : Option α} {y : α -> Option β} {k : α -> β -> γ} {r : γ} (e : (x.bind λ a => (y a).map λ b => k a b) = some r) : ∃ a b, x = some a /\ y a = some b /\ k a b = r := by
 obtain ⟨a, h1, e⟩ := bind1 e
 obtain ⟨b, h2, e⟩ := Zb.mp e
 exact ⟨a, b, h1, h2, e⟩
theorem QbI {n : Nat} {Θ : Th} {e : Expr} {f : DE} (h : Qo n Θ e = some f) (es : List Expr) (env : Env) : starEach (e :: es) env = (false, eval e env) :: starEach es env := by
 cases n with
 | zero => exact nomatch (show (none : Option DE) = some _ from h)
 | succ n => cases e <;> first | rfl | (exact nomatch (show (none : Option DE) = some _ from h))
theorem Qlz : ∀ {n : Nat} {Θ : Th} {es : List Expr} {f : DA}, QaY n Θ es = some f -> ∀ (pos : Pos) (env : Env), (backTo pos (starEach es env)).any (·.1) = false
 | 0, _, _, _, h, _, _ => by simp [QaY] at h
 | n + 1, _, [], _, h, _, _ => rfl
 | n + 1, _, e :: es, _, h, pos, env => by
  simp only [QaY] at h
  obtain ⟨fa, fs, h1, h2, _⟩ := QN h
  rw [QbI h1]
  have := Qlz h2 pos env
  simpa [backTo] using this
theorem Qlw {n : Nat} {Θ : Th} {b : Expr} {f : DE} (h : Qo n Θ b = some f) : Qgn b := by
 cases n with
 | zero => exact nomatch (show (none : Option DE) = some _ from h)
 | succ n => cases b <;> first | (intro o i; rfl) | (exact nomatch (show (none : Option DE) = some _ from h))
theorem Qs9 {n : Nat} {Θ : Th} {e : Expr} {f : DE} (h : Qo n Θ e = some f) (env : Env) : ∀ x, foldedSetIterable e env x = pure x := by
 cases n with
 | zero => exact nomatch (show (none : Option DE) = some _ from h)
 | succ n => cases e <;> first | (intro x; rfl) | (exact nomatch (show (none : Option DE) = some _ from h))
theorem QmO {n : Nat} {Θ : Th} {e : Expr} {f : DE} (h : Qo n Θ e = some f) (op : CmpOp) : behindInMarks op e = false := by
 cases n with
 | zero => exact nomatch (show (none : Option DE) = some _ from h)
 | succ n => cases e <;> first | rfl | (exact nomatch (show (none : Option DE) = some _ from h))
theorem Qc9 {env : Env} : ∀ {names : List (Str × NameKind)} {x : Str}, names.lookup x = some .cell →
  (names.map λ (n, k) => if (k == NameKind.free && env.scope.kind == .function && env.kindOf n == some .cell) then (n, NameKind.cell) else (n, k)).lookup x = some .cell
 | [], _, h => by simp at h
 | (n, k) :: r, x, h => by
  have ih := @Qc9 env r x
  rw [Zu]
  cases hx : x == n with
  | true =>
   simp only [Zr, hx] at h
   cases h
   dsimp only
   split <;> simp [Zr, hx]
  | false =>
   simp only [Zr, hx] at h
   dsimp only
   split <;> (simp only [Zr, hx]; exact ih h)
theorem Qkf {X : Cx} {Θ : Th} {scope : Scope} {t : Tg} (ok : QS X Θ) (h : Qh3 Θ scope t = true) : QdK X (inner Θ scope).N scope /\ Qjp X (inner Θ scope).N scope (Qgq Θ scope) t.slots /\ ∀ cl C fp s3 H3, QS (cxc X (inner Θ scope).N scope cl C fp s3 H3) (inner Θ scope) := by
 unfold Qh3 at h
 simp only [Zf, decide_eq_true_eq] at h
 obtain ⟨⟨⟨h1, h2⟩, h3⟩, h4⟩ := h
 have hk : scope.kind = .function := by simpa using h1
 have each : ∀ y ∈ scope.names, (y.2 = .cell -> scope.names.lookup y.1 = some .cell) /\ (y.2 = .local -> scope.names.lookup y.1 = some .local) /\ (y.2 = .free -> X.env.kindOf y.1 = some .cell ∨ X.env.kindOf y.1 = some .free) := λ y hy => by
  have := ZS.mp h3 y hy
  obtain ⟨y, k⟩ := y
  cases k with
  | cell => exact ⟨λ _ => (by rw [← Qbr]; simpa using this), λ z => (by cases z), λ z => (by cases z)⟩
  | «local» => exact ⟨λ z => (by cases z), λ _ => by rw [← Qbr]; simpa using this, λ z => by cases z⟩
  | free =>
   refine ⟨λ z => (by cases z), λ z => (by cases z), λ _ => ?_⟩
   dsimp only at this
   split at this
   ·rename_i q; exact .inl (ok.ce _ q).1
   ·rename_i q; exact ok.fe _ q
   ·cases this
  | _ => exact ⟨λ z => (by cases z), λ z => (by cases z), λ z => (by cases z)⟩
 have S : QdK X (inner Θ scope).N scope := ⟨hk, λ y hy => (each y hy).1, λ y hy => (each y hy).2.1, λ y hy => (each y hy).2.2⟩
 refine ⟨S, ⟨by unfold Qgq; simp, λ j i e => ?_, λ j i e hj => ?_⟩, λ cl C fp s3 H3 => ⟨⟨rfl, h2, λ x e => ?_, λ x e => ?_, λ x e => ?_, λ x e => ?_, ok.units, ok.mg, ok.cs⟩, ok.calm, PassesOwn.never, ok.fns, λ _ _ e => nomatch e⟩⟩
 ·unfold Qgq at e
  rw [Zz] at e
  cases q : (inner Θ scope).N[j]? with
  | none => rw [q] at e; cases e
  | some x =>
   rw [q] at e
   simp only [ZY, Option.some.injEq] at e
   split at e
   ·rename_i hf
    cases hl : look x scope.names with
    | none => rw [hl] at hf; cases hf
    | some k =>
     rw [hl] at hf
     cases k with
     | free =>
      rw [Qbr] at hl
      exact ⟨x, rfl, hl, by rw [ok.N]; exact QeA e, (each (x, .free) (ZU hl)).2.2 rfl⟩
     | _ => cases hf
   ·cases e
 ·have := ZS.mp h4 j hj
  rw [e] at this
  cases this
 ·have e' : scope.names.lookup x = some .local := by rw [← Qbr]; exact e
  exact lookup_relabel_local e'
 ·have e' : scope.names.lookup x = some .cell := by rw [← Qbr]; exact e
  exact ⟨Qc9 e', decide_eq_true e'⟩
 ·have e' : scope.names.lookup x = some .free := by rw [← Qbr]; exact e
  exact Qcl e'
 ·have e' : scope.names.lookup x = some .globalImplicit := by rw [← Qbr]; exact e
  show (relabel scope X.env).names.lookup x = some .globalImplicit
  unfold relabel
  have gen : ∀ {names : List (Str × NameKind)}, names.lookup x = some .globalImplicit →
    (names.map λ (n, k) => if (k == NameKind.free && X.env.scope.kind == .function && X.env.kindOf n == some .cell) then (n, NameKind.cell) else (n, k)).lookup x = some .globalImplicit := by
   intro names
   induction names with
   | nil => intro z; simp at z
   | cons y r ih =>
    intro z
    obtain ⟨n, k⟩ := y
    rw [Zu]
    cases hx : x == n with
    | true =>
     simp only [Zr, hx] at z
     cases z
     simp [Zr, hx]
    | false =>
     simp only [Zr, hx] at z
     dsimp only
     split <;> (simp only [Zr, hx]; exact ih z)
  exact gen e'
theorem QhG {X : Cx} {Θ : Th} (ok : QS X Θ) {tg : Expr} {t : Tg} (h : Qeo Θ tg = some t) : SG X tg t := by
 have hN : X.N.Nodup := by rw [ok.N]; exact ok.nd
 cases tg with
 | Name x pos =>
  simp only [Qeo] at h
  obtain ⟨i, hi, rfl⟩ := Zb.mp h
  obtain ⟨h1, h2, h3⟩ := QcQ ok.toCtxB hi
  exact Qre (QlB hN h1 h2 h3)
 | Tuple es k pos =>
  simp only [Qeo] at h
  obtain ⟨is, hi, rfl⟩ := Zb.mp h
  obtain ⟨xs, h1, h2⟩ := bind1 hi
  have key : ∀ (es : List Expr) (xs : List Str) (is : List Nat), es.mapM Qec = some xs -> xs.mapM Θ.QcN = some is -> PGs X es (QhE is) /\ (assignEach es X.env).length = is.length /\ (assignEach es X.env).findIdx? (·.1) = none := by
   intro es
   induction es with
   | nil =>
    intro xs is h1 h2
    cases h1
    cases h2
    exact ⟨QqE, rfl, rfl⟩
   | cons e es ih =>
    intro xs is h1 h2
    rw [Zbz] at h1
    obtain ⟨x, hx, h1⟩ := bind1 h1
    obtain ⟨ys, hy, h1⟩ := bind1 h1
    cases h1
    rw [Zbz] at h2
    obtain ⟨i, hi, h2⟩ := bind1 h2
    obtain ⟨js, hj, h2⟩ := bind1 h2
    cases h2
    obtain ⟨a1, a2, a3⟩ := ih ys js hy hj
    cases e with
    | Name y p =>
     cases hx
     obtain ⟨g1, g2, g3⟩ := QcQ ok.toCtxB hi
     refine ⟨QoR (QlB hN g1 g2 g3) a1 rfl, ?_, ?_⟩
     ·show (assignEach es X.env).length + 1 = _
      rw [a2]; rfl
     ·show List.findIdx? (·.1) ((false, assign (.Name x p) X.env) :: assignEach es X.env) = none
      rw [List.findIdx?_cons]
      simp only [a3]; rfl
    | _ => cases hx
  obtain ⟨a1, a2, a3⟩ := key es xs is h1 h2
  exact Qsn ok.calm a1 a2 a3
 | _ => simp only [Qeo] at h; cases h
theorem QlZ {f : Int -> Int -> Bool} : ∀ a b d, gI (λ i j => some (.bl (f i j))) a b = some d -> ∃ k, d = .bl k := λ a b d h => by
 obtain ⟨i, j, _, _, e⟩ := Qng h
 cases e
 exact ⟨_, rfl⟩
theorem Qnq {X : Cx} {Θ : Th} (ok : QS X Θ) {op : CmpOp} {g : D -> D -> Option D} (h : Qmp op = some g) : ∃ r, OpR X (compareOp op) r /\ Qb4 X.K g r /\ ∀ a b d, g a b = some d -> ∃ k, d = .bl k := by
 cases op <;> cases h
 ·exact ⟨_, QnI ok.units, QpF, λ a b d h => by unfold gEq at h; split at h <;> cases h; exact ⟨_, rfl⟩⟩
 ·exact ⟨_, QnO ok.units, QpK, λ a b d h => by unfold gNe at h; split at h <;> cases h; exact ⟨_, rfl⟩⟩
 ·exact ⟨_, QtL, Qub, QlZ⟩
 ·exact ⟨_, Qtz, Qtw, QlZ⟩
 ·exact ⟨_, QtT, Qtv, QlZ⟩
 ·exact ⟨_, QtY, QtJ, QlZ⟩
 ·exact ⟨_, QrY.or Qst, QsA, Qlj⟩
 ·exact ⟨_, Qp7.or QrN, QnS, Qlj⟩
 ·exact ⟨_, QsH ok.units, QpQ, λ a b d h => by unfold gIn at h; split at h <;> first | (split at h <;> cases h; exact ⟨_, rfl⟩) | cases h⟩
 ·exact ⟨_, QmL ok.units, QpQ, λ a b d h => by unfold gIn at h; split at h <;> first | (split at h <;> cases h; exact ⟨_, rfl⟩) | cases h⟩
structure QhS (n : Nat) : Prop where
 E : ∀ X Θ e f, QS X Θ -> Qo n Θ e = some f -> SE X e f
 B : ∀ X Θ x args f p pos, QS X Θ -> Θ.gl x = true -> QhF n Θ x args = some f -> SE X (.Call (.Name x p) args [] pos) f
 T : ∀ X Θ e f, QS X Θ -> QaZ n Θ e = some f -> ST X e f
 Ts : ∀ X Θ e f, QS X Θ -> Qef n Θ e = some f -> QjC X e f
 A : ∀ X Θ e f, QS X Θ -> QaY n Θ e = some f -> SA X e f
 O : ∀ X Θ e f, QS X Θ -> Qgm n Θ e = some f -> SO X e f
 I : ∀ X Θ tg e f, QS X Θ -> QdZ n Θ tg e = some f -> SI X tg e f /\ ∀ x, foldedSetIterable e X.env x = pure x
theorem callArgs {X : Cx} {n : Nat} {Θ : Th} {es : List Expr} {fs : DA} (h : QaY n Θ es = some fs) {e : Expr} {es' : List Expr} (he : es = e :: es') (pos : Pos) : starEach (e :: es') X.env = (false, eval e X.env) :: starEach es' X.env /\ (backTo pos (starEach es' X.env)).any (·.1) = false := by
 subst he
 cases n with
 | zero => simp [QaY] at h
 | succ n =>
  simp only [QaY] at h
  obtain ⟨fa, fs', h1, h2, _⟩ := QN h
  exact ⟨QbI h1 es' X.env, Qlz h2 pos X.env⟩
theorem Qtx {n : Nat} (ih : QhS n) : ∀ X Θ e f, QS X Θ -> Qo (n + 1) Θ e = some f -> SE X e f := by
  intro X Θ e f ok h
  cases e with
  | Name x pos =>
    (conv at h => lhs; whnf)
    cases q : Θ.slot x with
    | some i => rw [q] at h; cases h; exact Qnm (Qih ok.toCtxB q)
    | none =>
      rw [q] at h
      dsimp only at h
      split at h
      · rename_i hg
        obtain ⟨i, hi, rfl⟩ := Zb.mp h
        obtain ⟨g1, g2, g3⟩ := Qb1 ok.toCtxB hg
        obtain ⟨t, hm⟩ := ok.cs x i hi
        exact Qg6 (v := .int i) (QrO g1 hm ⟨t, rfl⟩ g2) (λ _ _ => .int_mk) rfl
      · cases h
  | Constant c k pos =>
    cases c with
    | int i => (conv at h => lhs; whnf); cases h; exact Qg6 Qtl (λ _ _ => .int_mk) rfl
    | bool b => (conv at h => lhs; whnf); cases h; exact Qg6 QpP (λ _ _ => .Qbl) rfl
    | none => (conv at h => lhs; whnf); cases h; exact Qg6 Qr1 (λ _ _ => .Qed) rfl
    | str x => (conv at h => lhs; whnf); cases h; exact Qg6 QnQ (λ _ _ => .str_mk) rfl
    | _ => exact nomatch (show (none : Option DE) = some _ from h)
  | BinOp a op b pos =>
    (conv at h => lhs; whnf)
    obtain ⟨fa, h1, h⟩ := bind1 h
    obtain ⟨fb, h2, h⟩ := bind1 h
    have ha := ih.E X Θ a fa ok h1
    have hb := ih.E X Θ b fb ok h2
    cases op with
    | Add => cases h; exact Qsb ha hb
    | Mult => cases h; exact Qr5 ha hb
    | Sub => cases h; exact Qmr QsK Qm1 ha hb
    | FloorDiv => cases h; exact Qmr QqI Qsg ha hb
    | Mod => cases h; exact Qmr QqK QrT ha hb
    | _ => cases h
  | UnaryOp op a pos =>
    cases op with
    | USub =>
      (conv at h => lhs; whnf)
      obtain ⟨fa, h1, rfl⟩ := Zb.mp h
      exact Qs1 (ih.E X Θ a fa ok h1)
    | Not =>
      (conv at h => lhs; whnf)
      obtain ⟨fa, h1, rfl⟩ := Zb.mp h
      exact Qni (ih.E X Θ a fa ok h1)
    | _ => exact nomatch (show (none : Option DE) = some _ from h)
  | BoolOp op es pos =>
    cases op with
    | And =>
      match es, h with
      | [], h => exact nomatch (show (none : Option DE) = some _ from h)
      | [a], h => (conv at h => lhs; whnf); exact Qh5 (ih.E X Θ a f ok h)
      | a :: b :: r, h =>
        (conv at h => lhs; whnf)
        obtain ⟨fa, fb, h1, h2, rfl⟩ := QN h
        exact Qnw (ih.E X Θ a fa ok h1) (ih.E X Θ _ fb ok h2)
    | Or =>
      match es, h with
      | [], h => exact nomatch (show (none : Option DE) = some _ from h)
      | [a], h => (conv at h => lhs; whnf); exact Qh5 (ih.E X Θ a f ok h)
      | a :: b :: r, h =>
        (conv at h => lhs; whnf)
        obtain ⟨fa, fb, h1, h2, rfl⟩ := QN h
        exact Qp3 (ih.E X Θ a fa ok h1) (ih.E X Θ _ fb ok h2)
  | Compare a ops bs pos =>
    match ops, bs, h with
    | [op], [b], h =>
      (conv at h => lhs; whnf)
      obtain ⟨fa, h1, h⟩ := bind1 h
      obtain ⟨fb, g, h2, h3, rfl⟩ := QN h
      obtain ⟨r, o1, o2, _⟩ := Qnq ok h3
      exact QjD o1 o2 (ih.E X Θ a fa ok h1) (ih.E X Θ b fb ok h2) (QmO h2 op)
    | [], _, h => exact nomatch (show (none : Option DE) = some _ from h)
    | [_], [], h => exact nomatch (show (none : Option DE) = some _ from h)
    | [_], _ :: _ :: _, h => exact nomatch (show (none : Option DE) = some _ from h)
    | _ :: _ :: _, _, h => exact nomatch (show (none : Option DE) = some _ from h)
  | Tuple es k pos =>
    (conv at h => lhs; whnf)
    obtain ⟨fs, h1, rfl⟩ := Zb.mp h
    exact Qsa (ih.A X Θ es fs ok h1)
  | List es pos =>
    (conv at h => lhs; whnf)
    obtain ⟨fs, h1, rfl⟩ := Zb.mp h
    exact QnV (ih.A X Θ es fs ok h1)
  | Subscript a b pos =>
    by_cases hb : ∃ lo hi p2, b = .Slice lo hi none p2
    · obtain ⟨lo, hi, p2, rfl⟩ := hb
      (conv at h => lhs; whnf)
      obtain ⟨fa, h1, h⟩ := bind1 h
      obtain ⟨fl, fh, h2, h3, rfl⟩ := QN h
      exact Qss (ih.E X Θ a fa ok h1) (ih.O X Θ lo fl ok h2) (ih.O X Θ hi fh ok h3)
    · by_cases hk : ∃ k p2, b = .Slice none none (some k) p2
      · obtain ⟨k, p2, rfl⟩ := hk
        (conv at h => lhs; whnf)
        obtain ⟨fa, fk, h1, h2, rfl⟩ := QN h
        exact QsL (ih.E X Θ a fa ok h1) (ih.E X Θ k fk ok h2)
      · have h' : ((Qo n Θ a).bind λ fa => (Qo n Θ b).map λ fb => Ql fa fb) = some f := by
          cases b <;> first
            | (exact h)
            | (rename_i lo hi st p2; cases lo <;> cases hi <;> cases st <;> first | (exact absurd ⟨_, _, _, rfl⟩ hb) | (exact absurd ⟨_, _, rfl⟩ hk) | (exact h))
        obtain ⟨fa, fb, h1, h2, rfl⟩ := QN h'
        exact Qsq (ih.E X Θ a fa ok h1) (ih.E X Θ b fb ok h2) (Qlw h2)
  | Call fn args kws pos =>
    cases fn with
    | Name x p =>
     cases kws with
     | cons k ks => exact nomatch (show (none : Option DE) = some _ from h)
     | nil =>
      have h : (if Θ.gl x then (match look x Θ.Γ with | some r => if r.n <= args.length + r.dfl.length /\ args.length <= r.n then (QaY n Θ args).map λ fs => Qn r.n r.den (r.dfl.drop (r.dfl.length - (r.n - args.length))) fs else none | none => QhF n Θ x args) else none) = some f := h
      split at h
      · rename_i hg
        obtain ⟨g1, g2, g3⟩ := Qb1 ok.toCtxB hg
        split at h
        · rename_i r hr
          split at h
          · rename_i hn
            obtain ⟨fs, h1, rfl⟩ := Zb.mp h
            obtain ⟨k, fa, fd, ps, F1, F2, F3, F4, F5⟩ := ok.fns x r hr
            obtain ⟨ds, dvs, b1, b2, b3⟩ := F5 (r.n - args.length) (by omega)
            cases args with
            | nil =>
              cases n with
              | zero => simp [QaY] at h1
              | succ n =>
                simp only [QaY] at h1
                cases h1
                exact QoF F1 F2 g1 F3 F4 b1 b2 b3 g2
            | cons e es =>
              obtain ⟨s1, s2⟩ := callArgs (X := X) h1 rfl pos
              exact Qrt F1 F2 g1 F3 F4 b1 b2 b3 (ih.A X Θ _ fs ok h1) g2 s1 s2
          · cases h
        · exact ih.B X Θ x args f p pos ok hg h
      · cases h
    | _ => exact nomatch (show (none : Option DE) = some _ from h)
  | ListComp elt gens scope pos =>
    match gens, h with
    | [⟨tg, iter, ifs, k⟩], h =>
      by_cases hk : k = 0
      · subst hk
        (conv at h => lhs; whnf)
        obtain ⟨t, ht, h⟩ := bind1 h
        split at h
        · rename_i hc
          simp only [Zf] at hc
          obtain ⟨fi, h1, h⟩ := bind1 h
          obtain ⟨ft, fe, h2, h3, rfl⟩ := QN h
          obtain ⟨S, cap, inn⟩ := Qkf ok hc.1
          obtain ⟨i1, i2⟩ := ih.I X Θ tg iter fi ok h1
          exact Qqu ok.calm S i1 cap (λ cl C fp s3 H3 => ⟨QhG (inn cl C fp s3 H3) ht, ih.Ts _ _ ifs ft (inn cl C fp s3 H3) h2, ih.E _ _ elt fe (inn cl C fp s3 H3) h3⟩) i2
        · cases h
      · exfalso
        cases k with
        | ofNat k =>
          cases k with
          | zero => exact hk rfl
          | succ k => exact nomatch (show (none : Option DE) = some _ from h)
        | negSucc k => exact nomatch (show (none : Option DE) = some _ from h)
    | [], h => exact nomatch (show (none : Option DE) = some _ from h)
    | ⟨_, _, _, .ofNat 0⟩ :: _ :: _, h => exact nomatch (show (none : Option DE) = some _ from h)
    | ⟨_, _, _, .ofNat (k + 1)⟩ :: _ :: _, h => exact nomatch (show (none : Option DE) = some _ from h)
    | ⟨_, _, _, .negSucc k⟩ :: _ :: _, h => exact nomatch (show (none : Option DE) = some _ from h)
  | _ => exact nomatch (show (none : Option DE) = some _ from h)
theorem Qtf {X : Cx} {Θ : Th} {x : Str} {a : Expr} {fa f : DE} {p pos : Pos} (ok : QS X Θ) (g1 : Gl X x) (sa : SA X [a] (Qb fa Qd)) (st : starEach [a] X.env = (false, eval a X.env) :: starEach [] X.env) (h : bf1 x fa = some f) : SE X (.Call (.Name x p) [a] [] pos) f := by
 unfold bf1 at h
 by_cases e : x = "len"
 ·rw [if_pos e] at h; cases h; subst e; have hm := ok.mg "len" (by decide +kernel)
  exact Qjs QjF Qti g1 hm PySem.boot_len sa (by decide) (by decide) st rfl
 rw [if_neg e] at h; clear e
 by_cases e : x = "list"
 ·rw [if_pos e] at h; cases h; subst e; have hm := ok.mg "list" (by decide +kernel)
  exact Qqi g1 hm sa st rfl
 rw [if_neg e] at h; clear e
 by_cases e : x = "min"
 ·rw [if_pos e] at h; cases h; subst e; have hm := ok.mg "min" (by decide +kernel)
  exact Qjs (Qm2 ok.calm) Qrc g1 hm PyProof.Rows.boot_min sa (by decide) (by decide) st rfl
 rw [if_neg e] at h; clear e
 by_cases e : x = "int"
 ·rw [if_pos e] at h; cases h; subst e; have hm := ok.mg "int" (by decide +kernel)
  exact Qsu QnF Qs2 g1 hm PyProof.Rows.boot_int sa (by decide) (by decide) st rfl
 rw [if_neg e] at h; clear e
 cases h
theorem QsG {X : Cx} {Θ : Th} {x : Str} {a b : Expr} {fa fb f : DE} {p pos : Pos} (ok : QS X Θ) (g1 : Gl X x) (sa : SA X [a, b] (Qb fa (Qb fb Qd))) (st : starEach [a, b] X.env = (false, eval a X.env) :: starEach [b] X.env) (pl : (backTo pos (starEach [b] X.env)).any (·.1) = false) (h : bf2 x fa fb = some f) : SE X (.Call (.Name x p) [a, b] [] pos) f := by
 unfold bf2 at h
 by_cases e : x = "min"
 ·rw [if_pos e] at h; cases h; subst e; have hm := ok.mg "min" (by decide +kernel)
  exact Qjs (QnY ok.calm) QqM g1 hm PyProof.Rows.boot_min sa (by decide) (by decide) st pl
 rw [if_neg e] at h; clear e
 by_cases e : x = "max"
 ·rw [if_pos e] at h; cases h; subst e; have hm := ok.mg "max" (by decide +kernel)
  exact Qjs (QnL ok.calm) Qqt g1 hm PyProof.Rows.boot_max sa (by decide) (by decide) st pl
 rw [if_neg e] at h; clear e
 cases h
theorem Qt1 {n : Nat} (ih : QhS n) : ∀ X Θ x args f p pos, QS X Θ -> Θ.gl x = true -> QhF (n + 1) Θ x args = some f -> SE X (.Call (.Name x p) args [] pos) f := by
 intro X Θ x args f p pos ok hg h
 obtain ⟨g1, g2, g3⟩ := Qb1 ok.toCtxB hg
 match args, h with
 | [], h => exact nomatch (show (none : Option DE) = some _ from h)
 | [a], h =>
  change (match Qhb Θ x a with | some b => (Qo n Θ b).map QlX | none => (Qo n Θ a).bind λ fa => bf1 x fa) = some f at h
  split at h
  ·rename_i b hr
   obtain ⟨fb, h1, rfl⟩ := Zb.mp h
   unfold Qhb at hr
   split at hr
   ·rename_i y p' b' pos'
    split at hr
    ·rename_i hc
     cases hr
     obtain ⟨c1, c2, c3, _⟩ := hc
     subst c1
     subst c2
     obtain ⟨y1, y2, y3⟩ := Qb1 ok.toCtxB c3
     exact Qqd g1 (ok.mg _ (by decide +kernel)) y1 (ok.mg _ (by decide +kernel)) ok.calm (ih.E X Θ b fb ok h1) (QbI h1 [] X.env)
    ·cases hr
   ·cases hr
  obtain ⟨fa, h1, h⟩ := bind1 h
  have ha := ih.E X Θ a fa ok h1
  have st := QbI h1 [] X.env
  exact Qtf ok g1 (QeY ha QhI st) st h
 | [a, b], h =>
  change (if x = "isinstance" then (Qo n Θ a).bind λ fa => (match b with | .Name y _ => if Θ.gl y then (Qo5 y).map λ T => Qgb T fa else none | _ => none) else (Qo n Θ a).bind λ fa => (Qo n Θ b).bind λ fb => bf2 x fa fb) = some f at h
  split at h
  ·rename_i e
   obtain ⟨fa, h1, h⟩ := bind1 h
   have ha := ih.E X Θ a fa ok h1
   split at h
   ·rename_i y p2
    split at h
    ·rename_i hy
     obtain ⟨T, hT, rfl⟩ := Zb.mp h
     obtain ⟨y1, y2, y3⟩ := Qb1 ok.toCtxB hy
     clear h
     subst e
     refine QsV g1 (ok.mg _ (by decide +kernel)) ha ?_ (QbI h1 _ X.env)
     unfold Qo5 at hT
     split at hT
     ·rename_i e; cases hT; subst e
      exact Qe5 y1 (ok.mg _ (by decide +kernel)) PyProof.Rows.boot_int rfl
     ·split at hT
      ·rename_i e; cases hT; subst e
       exact Qe5 y1 (ok.mg _ (by decide +kernel)) PyProof.Rows.boot_bool rfl
      ·split at hT
       ·rename_i e; cases hT; subst e
        exact Qe5 y1 (ok.mg _ (by decide +kernel)) Zbq rfl
       ·split at hT
        ·rename_i e; cases hT; subst e
         exact Qe5 y1 (ok.mg _ (by decide +kernel)) PyProof.Rows.boot_tuple rfl
        ·split at hT
         ·rename_i e; cases hT; subst e
          exact Qe5 y1 (ok.mg _ (by decide +kernel)) PyProof.Rows.boot_str rfl
         ·cases hT
    ·cases h
   ·cases h
  ·obtain ⟨fa, h1, h⟩ := bind1 h
   obtain ⟨fb, h2, h⟩ := bind1 h
   have ha := ih.E X Θ a fa ok h1
   have hb := ih.E X Θ b fb ok h2
   have sb : SA X [b] (Qb fb Qd) := QeY hb QhI (QbI h2 [] X.env)
   have sa : SA X [a, b] (Qb fa (Qb fb Qd)) := QeY ha sb (QbI h1 [b] X.env)
   have pl : (backTo pos (starEach [b] X.env)).any (·.1) = false := by rw [QbI h2 [] X.env]; rfl
   exact QsG ok g1 sa (QbI h1 [b] X.env) pl h
 | _ :: _ :: _ :: _, h => exact nomatch (show (none : Option DE) = some _ from h)
theorem QtA {n : Nat} (ih : QhS n) : ∀ X Θ e f, QS X Θ -> QaZ (n + 1) Θ e = some f -> ST X e f := by
 intro X Θ e f ok h
 have dflt : (Qo n Θ e).map Qj = some f -> (∀ whole, isTrue e X.env whole = (do let v ← whole; standAt e.pos; holding [v] (truthy v))) -> ST X e f := λ h he => by
  obtain ⟨fa, h1, rfl⟩ := Zb.mp h
  exact Qs8 (ih.E X Θ e fa ok h1) he
 cases e with
 | UnaryOp op a pos =>
  cases op with
  | Not =>
   change (QaZ n Θ a).map Qbg = some f at h
   obtain ⟨fa, h1, rfl⟩ := Zb.mp h
   exact QsS (ih.T X Θ a fa ok h1)
  | _ => exact dflt h λ _ => rfl
 | BoolOp op es pos =>
  cases op with
  | And =>
   match es, h with
   | [], h => exact nomatch (show (none : Option DT) = some _ from h)
   | [a], h => exact (Qqn (ih.T X Θ a f ok h)).st
   | a :: b :: r, h =>
    change ((QaZ n Θ a).bind λ fa => (QaZ n Θ (.BoolOp .And (b :: r) pos)).map λ fb => Qc6 fa fb) = some f at h
    obtain ⟨fa, fb, h1, h2, rfl⟩ := QN h
    have hb := ih.T X Θ _ fb ok h2
    exact (QrW (ih.T X Θ a fa ok h1) (λ H0 A0 wh pins s σ H Q I q => by have := hb H0 A0 pins s σ H Q I q; exact this)).st
  | Or =>
   match es, h with
   | [], h => exact nomatch (show (none : Option DT) = some _ from h)
   | [a], h => exact (QsY (ih.T X Θ a f ok h)).st
   | a :: b :: r, h =>
    change ((QaZ n Θ a).bind λ fa => (QaZ n Θ (.BoolOp .Or (b :: r) pos)).map λ fb => bOr fa fb) = some f at h
    obtain ⟨fa, fb, h1, h2, rfl⟩ := QN h
    have hb := ih.T X Θ _ fb ok h2
    exact (Qt4 (ih.T X Θ a fa ok h1) (λ H0 A0 wh pins s σ H Q I q => by have := hb H0 A0 pins s σ H Q I q; exact this)).st
 | Compare a ops bs pos =>
  match ops, bs, h with
  | [op], [b], h =>
   change ((Qo n Θ a).bind λ fa => (Qo n Θ b).bind λ fb => (Qmp op).map λ g => Qj (dOp g fa fb)) = some f at h
   obtain ⟨fa, h1, h⟩ := bind1 h
   obtain ⟨fb, g, h2, h3, rfl⟩ := QN h
   obtain ⟨r, o1, o2, o3⟩ := Qnq ok h3
   exact Qr4 o1 o2 o3 (ih.E X Θ a fa ok h1) (ih.E X Θ b fb ok h2) (QmO h2 op)
  | [], _, h => exact nomatch (show (none : Option DT) = some _ from h)
  | [_], [], h => exact nomatch (show (none : Option DT) = some _ from h)
  | [_], _ :: _ :: _, h => exact nomatch (show (none : Option DT) = some _ from h)
  | _ :: _ :: _, _, h => exact nomatch (show (none : Option DT) = some _ from h)
 | IfExp c a b pos => exact nomatch (show (none : Option DT) = some _ from h)
 | _ => exact dflt h λ _ => rfl
theorem QtH {n : Nat} (ih : QhS n) : ∀ X Θ tg e f, QS X Θ -> QdZ (n + 1) Θ tg e = some f -> SI X tg e f /\ ∀ x, foldedSetIterable e X.env x = pure x := by
 intro X Θ tg e f ok h
 have dflt : (Qo n Θ e).map QR = some f -> SI X tg e f /\ ∀ x, foldedSetIterable e X.env x = pure x := λ h => by
  obtain ⟨fa, h1, rfl⟩ := Zb.mp h
  exact ⟨Qsw (ih.E X Θ e fa ok h1), Qs9 h1 X.env⟩
 cases e with
 | Call fn args kws pos =>
  cases fn with
  | Name x p =>
   cases kws with
   | cons k ks => exact dflt h
   | nil =>
    simp only [QdZ] at h
    split at h
    ·rename_i hg
     simp only [Zf] at hg
     obtain ⟨g1, g2, g3⟩ := Qb1 ok.toCtxB hg.1
     match args, h with
     | [], h => exact dflt h
     | [a], h =>
      dsimp only at h
      by_cases er : x = "range"
      ·rw [if_pos er] at h
       obtain ⟨fa, h1, rfl⟩ := Zb.mp h
       subst er
       exact ⟨QnM g1 (ok.mg _ (by decide +kernel)) (ih.E X Θ a fa ok h1) (QbI h1 [] X.env), λ _ => rfl⟩
      rw [if_neg er] at h
      by_cases ez : x = "enumerate"
      ·rw [if_pos ez] at h
       split at h
       ·rename_i ht
        obtain ⟨fa, h1, rfl⟩ := Zb.mp h
        subst ez
        cases tg with
        | Tuple es k tp => exact ⟨Qqx g1 (ok.mg _ (by decide +kernel)) (ih.E X Θ a fa ok h1) (QbI h1 [] X.env), λ _ => rfl⟩
        | _ => exact nomatch (show false = true from ht)
       ·cases h
      rw [if_neg ez] at h
      exact dflt h
     | [a, b], h =>
      dsimp only at h
      by_cases ez : x = "zip"
      ·rw [if_pos ez] at h
       split at h
       ·rename_i ht
        obtain ⟨fa, fb, h1, h2, rfl⟩ := QN h
        subst ez
        cases tg with
        | Tuple es k tp => exact ⟨Qsv g1 (ok.mg _ (by decide +kernel)) (ih.E X Θ a fa ok h1) (ih.E X Θ b fb ok h2) (by rw [QbI h1 [b] X.env, QbI h2 [] X.env]; rfl) (QbI h2 [] X.env), λ _ => rfl⟩
        | _ => exact nomatch (show false = true from ht)
       ·cases h
      rw [if_neg ez] at h
      exact dflt h
     | [a, b, c], h =>
      dsimp only at h
      exact dflt h
     | _ :: _ :: _ :: _ :: _, h => exact dflt h
    ·exact dflt h
  | _ => exact dflt h
 | _ => exact dflt h
theorem QbP : ∀ n, QhS n
 | 0 => ⟨λ _ _ _ _ _ h => (nomatch (show (none : Option DE) = some _ from h)), λ _ _ _ _ _ _ _ _ _ h => by simp [QhF] at h, λ _ _ _ _ _ h => by simp [QaZ] at h, λ _ _ _ _ _ h => by simp [Qef] at h, λ _ _ _ _ _ h => by simp [QaY] at h, λ _ _ _ _ _ h => by simp [Qgm] at h, λ _ _ _ _ _ _ h => by simp [QdZ] at h⟩
 | n + 1 => by
  have ih := QbP n
  refine ⟨Qtx ih, Qt1 ih, QtA ih, λ X Θ e f ok h => ?_, λ X Θ e f ok h => ?_, λ X Θ e f ok h => ?_, QtH ih⟩
  ·match e, h with
   | [], h => simp only [Qef] at h; cases h; exact Qpy
   | [c], h => simp only [Qef] at h; exact Qpp (ih.T X Θ c f ok h)
   | _ :: _ :: _, h => simp only [Qef] at h; cases h
  ·match e, h with
   | [], h => simp only [QaY] at h; cases h; exact QhI
   | e :: es, h =>
    simp only [QaY] at h
    obtain ⟨fa, fs, h1, h2, rfl⟩ := QN h
    exact QeY (ih.E X Θ e fa ok h1) (ih.A X Θ es fs ok h2) (QbI h1 es X.env)
  ·match e, h with
   | none, h => simp only [Qgm] at h; cases h; exact Qrz
   | some e, h =>
    simp only [Qgm] at h
    obtain ⟨fa, h1, rfl⟩ := Zb.mp h
    exact Qq5 (ih.E X Θ e fa ok h1)
section
variable {X : Cx} {st : Stmt} {sts : List Stmt} {e : Expr} {fa : DE} {f g : DS} {gc : DT} {pos : Pos}
noncomputable def Qt : DS := λ _ => none
theorem QoL : S1 X st Qt := λ H0 A0 => QoO.mono λ E σ H ⟨ρ, hs, F, o, rel, e, q⟩ => by cases e
noncomputable def Qml (t : Tg) (fa : DE) : DS := λ ρ => (fa ρ).bind λ r => (QaW t r.d (QaX r.norm.M ρ)).map .nx
theorem QqL {tg : Expr} {t : Tg} (he : SE X e fa) (hg : SG X tg t) (hs : swapsWithSole [tg] e pos.line X.env = pure false) (hw : swappedStores [tg] e X.env = pure none) (h1 : (assignEach [tg] X.env).map (·.2) = [assign tg X.env]) :
  S1 X (.Assign [tg] e pos) (Qml t fa) := λ H0 A0 => (Qny (he H0 A0) (hg H0 A0) hs hw h1).mono λ E σ H ⟨ρ, hs, F, o, rel, e, q⟩ => by
 obtain ⟨r, e1, e⟩ := bind1 e
 obtain ⟨ρ', e2, rfl⟩ := Zb.mp e
 refine ⟨ρ, hs, F, r, rel, e1, λ v H' G p => ?_⟩
 have p' := p.norm
 have rp := p'.rp
 rw [r.QcY] at rp
 exact ⟨QaX r.norm.M ρ, hs, F, r.d, G, ρ', (rel.ext p'.same).weak (QbB _ _), rp, Shr.of rel p'.src, e2, λ σ' F' rel' _ _ => q _ _ F' rel'⟩
theorem Qqw {tg iter elt : Expr} {ifs : List Expr} {scope : Scope} {N' : List Str} {fi : DI} {t : Tg} {cap : List (Option Nat)} {ft : DT} {fe : DE} {i : Nat} {x : Str} {pos' spos : Pos} (hN : X.N.Nodup) (hx1 : X.N[i]? = some x) (hx : Loc X.env.scope x) (hf : X.fn x = true ∨ X.env.scope.names.lookup x = some .local)
  (hcalm : X.calm = true) (S : QdK X N' scope) (hi : SI X tg iter fi) (hcap : Qjp X N' scope cap t.slots)
  (hin : ∀ cl C fp s3 H3, SG (cxc X N' scope cl C fp s3 H3) tg t /\ QjC (cxc X N' scope cl C fp s3 H3) ifs ft /\ SE (cxc X N' scope cl C fp s3 H3) elt fe) (hs : ∀ x, foldedSetIterable iter X.env x = pure x) :
  S1 X (.Assign [.Name x pos'] (.ListComp elt [⟨tg, iter, ifs, 0⟩] scope pos) spos) (Qx i (Qaa fi t cap ft fe)) :=
 Qhv λ H0 A0 => (Qra hN hx1 hx hf hcalm S (hi H0 A0) (λ cl C fp s3 H3 => ⟨(hin cl C fp s3 H3).1 _ _, (hin cl C fp s3 H3).2.1 _ _, (hin cl C fp s3 H3).2.2 _ _⟩) hs).mono λ E σ H h => Qja hcap h
end
end HS
namespace HS
open PySem PySem.Spec L2 PyProof.Rows
section
variable {X : Cx} {a b e : Expr} {fa fb : DE} {pf : DP} {x : Nat} {pos apos : Pos}
theorem Qp8 {X : Cx} {H : Hp} {ds : List D} {w : V} {Gm : List Addr} (h : Rp X.K H (.lst ds) w Gm) : tyV X.K "list" w H := by
 obtain ⟨l, ws, L, rfl, hl, _⟩ := h.lst_inv
 exact .inl ⟨rfl, ws, Q1 hl⟩
theorem QX.unit {K : PySem.W.Frag} {ρ : En} {F : Nat -> List Addr} {H : Hp} : QX K ρ F H H ⟨.non, true, []⟩ .non [] := .flat (QD.refl _) .Qed
noncomputable def Qpc (x : Nat) (pf : DP) : DS := λ ρ => match ρ[x]? with
 | some (some (d, true)) => (pf ρ).bind λ is => match Qbv d is with
  | some (.lst _) => some (.nx (ρ.set x (some (QaS is d (.lst []), true))))
  | _ => none
 | _ => none
theorem QoJ {H0 : Hp} {A0 : List Addr} {E : Ends} {σ : L2.St} {H : Hp} : tS X.K H0 A0 (Qpc x pf) E σ H -> Qjy (Qsj X.K "list" QnH (tP X.K H0 A0 x pf)) E σ H := λ ⟨ρ, hs, F, o, rel, e, q⟩ => by
 unfold Qpc at e
 split at e
 ·rename_i d hx
  obtain ⟨is, e2, e⟩ := bind1 e
  split at e
  ·rename_i ds hp
   cases e
   refine ⟨ρ, hs, F, d, true, is, .lst ds, rel, hx, e2, hp, λ v0 w H2 Gm s2 hv0 fo => ⟨Qp8 fo.rp, ?_⟩⟩
   obtain ⟨l, vsm, Gp, rfl, g1, g2, g3, g4, g5, g6, g7⟩ := (rel.ext s2).write .unit rfl Zah hx (by simp) hv0 fo
   refine ⟨l, vsm, rfl, rfl, g1, ?_⟩
   obtain ⟨F', rel'⟩ := g7 [] [] [] (by simp [Rps]) (ZO _) rfl (λ a => by simp)
   exact q _ _ F' rel'
  ·cases e
 ·cases e
theorem Rps.erase {K : PySem.W.Frag} {H : Hp} : ∀ {ds : List D} {vs : List V} {F : List Addr} (k : Nat), QJ ds = true -> Rps K H ds vs F -> Rps K H (ds.eraseIdx k) (vs.eraseIdx k) []
 | [], vs, F, k, _, h => by
  simp only [Rps] at h
  obtain ⟨rfl, rfl⟩ := h
  simp [Rps]
 | d :: ds, vs, F, 0, hf, h => by
  have hF := h.QbE hf
  subst hF
  simp only [Rps] at h
  obtain ⟨w, ws, F1, F2, rfl, eF, r, q⟩ := h
  have : F2 = [] := (Zbr.mp eF.symm).2
  subst this
  simpa using q
 | d :: ds, vs, F, k + 1, hf, h => by
  have hF := h.QbE hf
  subst hF
  simp only [Rps] at h
  obtain ⟨w, ws, F1, F2, rfl, eF, r, q⟩ := h
  obtain ⟨rfl, rfl⟩ := Zbr.mp eF.symm
  simp only [QJ, Zf] at hf
  have ih := Rps.erase k hf.2 q
  simp only [List.eraseIdx_cons_succ, Rps]
  exact ⟨w, _, [], [], rfl, rfl, r, ih⟩
end
noncomputable def Qd3 : Expr -> Bool
 | .ListComp .. => false
 | .SetComp .. => false
 | .DictComp .. => false
 | _ => true
theorem QdH {e : Expr} {t : Option Expr} {l : Nat} {env : Env} (h : Qd3 e = true) : swapsWith e t l env = pure false := by
 cases e <;> first | rfl | cases h
noncomputable def QnG : Expr -> Bool
 | .Tuple .. => true
 | _ => false
noncomputable def Qcp (n : Nat) (Θ : Th) (e : Expr) : Option (Nat × DP) := match n with
 | 0 => none
 | n + 1 => match e with
  | .Name x _ => (Θ.slot x).map λ i => (i, Qap)
  | .Subscript a b _ => (Qcp n Θ a).bind λ q => (Qo n Θ b).map λ fb => (q.1, QbY q.2 fb)
  | _ => none
theorem Qfo : ∀ (n : Nat) (X : Cx) (Θ : Th) (e : Expr) (q : Nat × DP), QS X Θ -> Qcp n Θ e = some q -> SPa X e q.1 q.2 /\ attributeBase e = λ _ env w => w
 | 0, _, _, _, _, _, h => by simp [Qcp] at h
 | n + 1, X, Θ, e, q, ok, h => by
  cases e with
  | Name x pos =>
   simp only [Qcp] at h
   obtain ⟨i, hi, rfl⟩ := Zb.mp h
   exact ⟨QoZ (Qih ok.toCtxB hi), by funext a b c; rfl⟩
  | Subscript a b pos =>
   simp only [Qcp] at h
   obtain ⟨q', fb, h1, h2, rfl⟩ := QN h
   exact ⟨Qq4 (Qfo n X Θ a q' ok h1).1 ((QbP n).E X Θ b fb ok h2) (Qlw h2), by funext a b c; rfl⟩
  | _ => simp [Qcp] at h
noncomputable def Qgk : Expr -> Bool
 | .Name .. => true
 | .Subscript _ (.Slice ..) _ => false
 | .Subscript (.Call ..) _ _ => false
 | .Subscript .. => true
 | _ => false
noncomputable def QoP : Operator -> Option (D -> D -> Option D)
 | .Add => some (gI λ i j => some (.int (i + j)))
 | .Sub => some QbA
 | _ => none
theorem Qto {X : Cx} {op : Operator} {g : D -> D -> Option D} (h : QoP op = some g) : ∃ r, OpR X (inplaceOp op) r /\ Qb4 X.K g r := by
 cases op <;> cases h
 ·exact ⟨_, Qqz, Qf6 (λ i j d e => by cases e; rfl) λ i j d e H Q q => by cases e; exact ⟨i, j, rfl, rfl, q _ λ _ => .int_mk⟩⟩
 ·exact ⟨_, Qq3, Qm1⟩
noncomputable def Qp4 : Expr -> Bool
 | .Slice .. => true
 | _ => false
noncomputable def Qhn (n : Nat) (Θ : Th) (o : Expr) (m : Str) (args : List Expr) : Option DS := match args with
  | [] => (Qcp n Θ o).bind λ q => if m = "clear" then some (Qpc q.1 q.2) else
    none
  | [e] => if m = "append" then
     ((Qcp n Θ o).bind λ q => (Qo n Θ e).map λ fa => QbQ q.1 q.2 fa)
    else
    none
  | _ => none
theorem QoB {n : Nat} {X : Cx} {Θ : Th} {o : Expr} {m : Str} {args : List Expr} {f : DS} {apos cpos pos : Pos} (ok : QS X Θ) (h : Qhn n Θ o m args = some f) (hl : (apos.endLine == cpos.line) = true) :
  S1 X (.Expr (.Call (.Attribute o m apos) args [] cpos) pos) f := by
 have base : ∀ {q : Nat × DP}, Qcp n Θ o = some q -> SPa X o q.1 q.2 /\ attributeBase o m X.env (eval o X.env) = eval o X.env := λ {q} h1 => by
  obtain ⟨sp, ab⟩ := Qfo n X Θ o _ ok h1
  exact ⟨sp, by rw [ab]⟩
 have app : ∀ {e : Expr} {f : DS}, m = "append" -> ((Qcp n Θ o).bind λ q => (Qo n Θ e).map λ fa => QbQ q.1 q.2 fa) = some f -> S1 X (.Expr (.Call (.Attribute o m apos) [e] [] cpos) pos) f := λ {e f} em h => by
  obtain ⟨q, fa, h1, h2, rfl⟩ := QN h
  obtain ⟨sp, hb⟩ := base h1
  subst em
  have he := (QbP n).E X Θ e fa ok h2
  have st := QbI h2 [] X.env
  have sa : ∀ H0 A0, PA X [e] (QlV (tV X.K H0 A0 fa) QlQ) := λ H0 A0 => QaV (he H0 A0) QcL st
  exact λ H0 A0 => (Qgt (Qt3 Zbl PySem.F.slot_list_append PySem.F.type_list_append Qi5 (sp H0 A0) (sa H0 A0) hb (by rw [st]; rfl) hl st rfl) rfl).mono λ E σ H q => Qoj q
 match args, h with
 | [], h =>
  unfold Qhn at h
  dsimp only at h
  obtain ⟨⟨x, pf⟩, h1, h⟩ := bind1 h
  obtain ⟨sp, hb⟩ := base h1
  by_cases e : m = "clear"
  ·rw [if_pos e] at h; cases h; subst e
   exact λ H0 A0 => (Qgt (Qr0 Zbl PySem.F.slot_list_clear PySem.F.type_list_clear QoH (sp H0 A0) hb hl) rfl).mono λ E σ H q => QoJ q
  rw [if_neg e] at h
  cases h
 | [e], h =>
  unfold Qhn at h
  dsimp only at h
  by_cases em : m = "append"
  ·rw [if_pos em] at h
   exact app em h
  rw [if_neg em] at h
  clear em
  clear app
  cases h
 | _ :: _ :: _, h => exact nomatch (show (none : Option DS) = some _ from h)
end HS
namespace HS
open PySem PySem.Spec L2 PyProof.Rows
mutual
noncomputable def Qh1 (n : Nat) (Θ : Th) (st : Stmt) : Option DS := match n with
 | 0 => none
 | n + 1 => match st with
  | .Pass _ => some Qg
  | .Break _ => some Qpf
  | .Continue _ => some Qoc
  | .Raise _ _ _ => some Qt
  | .Return none _ => some Qgo
  | .Return (some e) _ => (Qo n Θ e).map QO
  | .Expr (.Constant (.str _) _ _) _ => some Qg
  | .Expr (.Call (.Attribute o m apos) args [] cpos) _ => if (apos.endLine == cpos.line) = true then Qhn n Θ o m args else none
  | .Expr (.Call (.Name x p) args [] cpos) _ => (Qo n Θ (.Call (.Name x p) args [] cpos)).map Qbk
  | .Assign [.Name x _] e _ => (Θ.QcN x).bind λ i => (Qo n Θ e).map λ fa => Qx i (if Qgk e = true then QcM fa else fa)
  | .Assign [.Tuple es k p] e _ => if Qd3 e = true /\ QnG e = false then (Qeo Θ (.Tuple es k p)).bind λ t => (Qo n Θ e).map λ fa => Qml t fa else none
  | .Assign [.Subscript a i _] e _ => (Qcp n Θ a).bind λ q => (Qo n Θ i).bind λ fi => (Qo n Θ e).map λ fa => Qdt q.1 q.2 fi fa
  | .AugAssign (.Subscript a i _) op e _ => (Qcp n Θ a).bind λ q => (Qo n Θ i).bind λ fi => (QoP op).bind λ g => (Qo n Θ e).map λ fa => Qey g q.1 q.2 fi fa
  | .If c a b _ => (QaZ n Θ c).bind λ g => (QaD n Θ a).bind λ f1 => (QaD n Θ b).map λ f2 => sIf g f1 f2
  | .For tg iter body [] _ => (Qeo Θ tg).bind λ t => (QdZ n Θ tg iter).bind λ fi => (QaD n Θ body).map λ fb => QaM fi t fb
  | .Try a b c d p => Θ.tr (.Try a b c d p)
  | _ => none
noncomputable def QaD (n : Nat) (Θ : Th) (sts : List Stmt) : Option DS := match n with
 | 0 => none
 | n + 1 => match sts with
  | [] => some Qg
  | st :: r => (Qh1 n Θ st).bind λ f => (QaD n Θ r).map λ g => Qe f g
end
theorem Qlr {n : Nat} {Θ : Th} {e : Expr} {f : DE} (h : Qo n Θ e = some f) : Qp4 e = false := by
 cases n with
 | zero => exact nomatch (show (none : Option DE) = some _ from h)
 | succ n => cases e <;> first | rfl | (exact nomatch (show (none : Option DE) = some _ from h))
theorem QqP {n : Nat} {Θ : Th} {elt : Expr} {gens : List Comprehension} {scope : Scope} {pos : Pos} {f : DE} (h : Qo n Θ (.ListComp elt gens scope pos) = some f) : ∃ m tg iter ifs t fi ft fe, n = m + 1 /\ gens = [⟨tg, iter, ifs, 0⟩] /\ Qeo (inner Θ scope) tg = some t /\ Qh3 Θ scope t = true ∧
  QdZ m Θ tg iter = some fi /\ Qef m (inner Θ scope) ifs = some ft /\ Qo m (inner Θ scope) elt = some fe /\ f = Qaa fi t (Qgq Θ scope) ft fe := by
 cases n with
 | zero => exact nomatch (show (none : Option DE) = some _ from h)
 | succ n =>
  match gens, h with
  | [⟨tg, iter, ifs, k⟩], h =>
   by_cases hk : k = 0
   ·subst hk
    (conv at h => lhs; whnf)
    obtain ⟨t, ht, h⟩ := bind1 h
    split at h
    ·rename_i hc
     simp only [Zf] at hc
     obtain ⟨fi, h1, h⟩ := bind1 h
     obtain ⟨ft, fe, h2, h3, rfl⟩ := QN h
     exact ⟨n, tg, iter, ifs, t, fi, ft, fe, rfl, rfl, ht, hc.1, h1, h2, h3, rfl⟩
    ·cases h
   ·exfalso
    cases k with
    | ofNat k =>
     cases k with
     | zero => exact hk rfl
     | succ k => exact nomatch (show (none : Option DE) = some _ from h)
    | negSucc k => exact nomatch (show (none : Option DE) = some _ from h)
  | [], h => exact nomatch (show (none : Option DE) = some _ from h)
  | ⟨_, _, _, .ofNat 0⟩ :: _ :: _, h => exact nomatch (show (none : Option DE) = some _ from h)
  | ⟨_, _, _, .ofNat (k + 1)⟩ :: _ :: _, h => exact nomatch (show (none : Option DE) = some _ from h)
  | ⟨_, _, _, .negSucc k⟩ :: _ :: _, h => exact nomatch (show (none : Option DE) = some _ from h)
theorem Qql {n : Nat} {X : Cx} {Θ : Th} {x : Str} {p pos : Pos} {e : Expr} {fa : DE} {i : Nat} (ok : QS X Θ) (hx : Θ.QcN x = some i) (h : Qo n Θ e = some fa) : S1 X (.Assign [.Name x p] e pos) (Qx i fa) := by
 have hN : X.N.Nodup := by rw [ok.N]; exact ok.nd
 obtain ⟨h1, h2, h3⟩ := QcQ ok.toCtxB hx
 by_cases hc : Qd3 e = true
 ·have he := (QbP n).E X Θ e fa ok h
  exact Qhv λ H0 A0 => Qgc hN h1 h2 (he H0 A0) (QdH hc) h3
 ·cases e with
  | ListComp elt gens scope cpos =>
   obtain ⟨m, tg, iter, ifs, t, fi, ft, fe, rfl, rfl, ht, hco, g1, g2, g3, rfl⟩ := QqP h
   obtain ⟨S, cap, inn⟩ := Qkf ok hco
   obtain ⟨i1, i2⟩ := (QbP m).I X Θ tg iter fi ok g1
   exact Qqw hN h1 h2 h3 ok.calm S i1 cap (λ cl C fp s3 H3 => ⟨QhG (inn cl C fp s3 H3) ht, (QbP m).Ts _ _ ifs ft (inn cl C fp s3 H3) g2, (QbP m).E _ _ elt fe (inn cl C fp s3 H3) g3⟩) i2
  | SetComp _ _ _ _ => cases n <;> exact nomatch (show (none : Option DE) = some _ from h)
  | DictComp _ _ _ _ _ => cases n <;> exact nomatch (show (none : Option DE) = some _ from h)
  | _ => exact absurd rfl hc
theorem Qpi {X : Cx} {x : Str} {p pos : Pos} {e : Expr} {fa : DE} {i : Nat} {n : Nat} {Θ : Th} (ok : QS X Θ) (hx : Θ.QcN x = some i) (h : Qo n Θ e = some fa) (ha : Qgk e = true) : S1 X (.Assign [.Name x p] e pos) (Qx i (QcM fa)) := by
 have hN : X.N.Nodup := by rw [ok.N]; exact ok.nd
 obtain ⟨h1, h2, h3⟩ := QcQ ok.toCtxB hx
 have hc : Qd3 e = true := by cases e <;> first | rfl | cases ha
 have he := Qok ((QbP n).E X Θ e fa ok h)
 exact Qhv λ H0 A0 => Qgc hN h1 h2 (he H0 A0) (QdH hc) h3
theorem QmW {a i e : Expr} {p : Pos} {l : Nat} {env : Env} : swapsWithSole [.Subscript a i p] e l env = pure false := by
 cases e <;> rfl
structure Qsl (n : Nat) : Prop where
 S : ∀ X Θ st f, QS X Θ -> Qh1 n Θ st = some f -> S1 X st f
 Ss : ∀ X Θ sts f, QS X Θ -> QaD n Θ sts = some f -> SS X sts f
theorem Qs5 {n : Nat} (ih : Qsl n) : ∀ X Θ st f, QS X Θ -> Qh1 (n + 1) Θ st = some f -> S1 X st f := by
 intro X Θ st f ok h
 have hN : X.N.Nodup := by rw [ok.N]; exact ok.nd
 have E := QbP n
 cases st with
 | Pass pos => change some Qg = some f at h; cases h; exact QqB
 | Break pos => change some Qpf = some f at h; cases h; exact Qo8
 | Continue pos => change some Qoc = some f at h; cases h; exact QrH
 | Raise a b pos => change some Qt = some f at h; cases h; exact QoL
 | Return e pos =>
  cases e with
  | none => change some Qgo = some f at h; cases h; exact Qry
  | some e =>
   change (Qo n Θ e).map QO = some f at h
   obtain ⟨fa, h1, rfl⟩ := Zb.mp h
   exact QnW (E.E X Θ e fa ok h1)
 | Expr e pos =>
  cases e with
  | Constant c k p =>
   cases c with
   | str x =>
    change some Qg = some f at h
    cases h
    exact λ H0 A0 => Qr9.mono λ E σ H ⟨ρ, hs, F, o, rel, e, q⟩ => by cases e; exact q σ H F rel
   | _ => exact nomatch (show (none : Option DS) = some _ from h)
  | Call fn args kws cpos =>
   cases fn with
   | Attribute o m apos =>
    cases kws with
    | nil =>
     change (if (apos.endLine == cpos.line) = true then Qhn n Θ o m args else none) = some f at h
     split at h
     ·rename_i hl
      exact QoB ok h hl
     ·cases h
    | cons _ _ => exact nomatch (show (none : Option DS) = some _ from h)
   | Name x p =>
    cases kws with
    | nil =>
     change (Qo n Θ (.Call (.Name x p) args [] cpos)).map Qbk = some f at h
     obtain ⟨fa, h1, rfl⟩ := Zb.mp h
     exact λ H0 A0 => Qrv (Qgt (E.E X Θ _ fa ok h1 H0 A0) rfl)
    | cons _ _ => exact nomatch (show (none : Option DS) = some _ from h)
   | _ => exact nomatch (show (none : Option DS) = some _ from h)
  | _ => exact nomatch (show (none : Option DS) = some _ from h)
 | Assign ts e pos =>
  match ts, h with
  | [t], h =>
   cases t with
   | Name x p =>
    change ((Θ.QcN x).bind λ i => (Qo n Θ e).map λ fa => Qx i (if Qgk e = true then QcM fa else fa)) = some f at h
    obtain ⟨i, fa, h1, h2, rfl⟩ := QN h
    split
    ·rename_i ha; exact Qpi ok h1 h2 ha
    ·exact Qql ok h1 h2
   | Tuple es k p =>
    change (if Qd3 e = true /\ QnG e = false then (Qeo Θ (.Tuple es k p)).bind λ t => (Qo n Θ e).map λ fa => Qml t fa else none) = some f at h
    split at h
    ·rename_i hc
     obtain ⟨t, fa, h1, h2, rfl⟩ := QN h
     refine QqL (E.E X Θ e fa ok h2) (QhG ok h1) (by show swapsWith e (some (.Tuple es k p)) pos.line X.env = pure false; exact QdH hc.1) ?_ rfl
     cases e <;> first | rfl | (cases hc.2)
    ·cases h
   | Subscript a i p =>
    change ((Qcp n Θ a).bind λ q => (Qo n Θ i).bind λ fi => (Qo n Θ e).map λ fa => Qdt q.1 q.2 fi fa) = some f at h
    obtain ⟨q, h1, h⟩ := bind1 h
    obtain ⟨fi, fa, h2, h3, rfl⟩ := QN h
    obtain ⟨sp, _⟩ := Qfo n X Θ a q ok h1
    have ns := Qlr h2
    refine Qth (E.E X Θ e fa ok h3) sp (E.E X Θ i fi ok h2) λ te to ti he ho hi => Qny he (QsE ho hi set_list ?_) QmW ?_ rfl
    ·intro v; cases i <;> first | rfl | (cases ns)
    ·cases e <;> rfl
   | _ => exact nomatch (show (none : Option DS) = some _ from h)
  | [], h => exact nomatch (show (none : Option DS) = some _ from h)
  | t :: _ :: _, h => cases t <;> exact nomatch (show (none : Option DS) = some _ from h)
 | AugAssign t op e pos =>
  cases t with
  | Subscript a i p =>
   change ((Qcp n Θ a).bind λ q => (Qo n Θ i).bind λ fi => (QoP op).bind λ g => (Qo n Θ e).map λ fa => Qey g q.1 q.2 fi fa) = some f at h
   obtain ⟨q, h1, h⟩ := bind1 h
   obtain ⟨fi, h2, h⟩ := bind1 h
   obtain ⟨g, fa, h3, h4, rfl⟩ := QN h
   obtain ⟨r, o1, o2⟩ := Qto (X := X) h3
   obtain ⟨sp, _⟩ := Qfo n X Θ a q ok h1
   have ns := Qlr h2
   exact Qqs o1 o2 (E.E X Θ e fa ok h4) sp (E.E X Θ i fi ok h2) λ ov iv new => by cases i <;> first | rfl | (cases ns)
  | _ => exact nomatch (show (none : Option DS) = some _ from h)
 | If c a b pos =>
  change ((QaZ n Θ c).bind λ g => (QaD n Θ a).bind λ f1 => (QaD n Θ b).map λ f2 => sIf g f1 f2) = some f at h
  obtain ⟨g, h1, h⟩ := bind1 h
  obtain ⟨f1, f2, h2, h3, rfl⟩ := QN h
  exact Qt7 (E.T X Θ c g ok h1) (ih.Ss X Θ a f1 ok h2) (ih.Ss X Θ b f2 ok h3)
 | For tg iter body els pos =>
  cases els with
  | nil =>
   change ((Qeo Θ tg).bind λ t => (QdZ n Θ tg iter).bind λ fi => (QaD n Θ body).map λ fb => QaM fi t fb) = some f at h
   obtain ⟨t, h1, h⟩ := bind1 h
   obtain ⟨fi, fb, h2, h3, rfl⟩ := QN h
   obtain ⟨i1, i2⟩ := E.I X Θ tg iter fi ok h2
   exact QrP ok.pass ok.calm i1 (QhG ok h1) (ih.Ss X Θ body fb ok h3) i2
  | cons _ _ => exact nomatch (show (none : Option DS) = some _ from h)
 | Try a b c d pos => exact ok.tr _ _ h
 | _ => exact nomatch (show (none : Option DS) = some _ from h)
theorem Qfr : ∀ n, Qsl n
 | 0 => ⟨λ _ _ _ _ _ h => (nomatch (show (none : Option DS) = some _ from h)), λ _ _ _ _ _ h => (nomatch (show (none : Option DS) = some _ from h))⟩
 | n + 1 => by
  have ih := Qfr n
  refine ⟨Qs5 ih, λ X Θ sts f ok h => ?_⟩
  match sts, h with
  | [], h => change some Qg = some f at h; cases h; exact Qm7
  | st :: r, h =>
   change ((Qh1 n Θ st).bind λ f => (QaD n Θ r).map λ g => Qe f g) = some f at h
   obtain ⟨fs, fr, h1, h2, rfl⟩ := QN h
   exact QiH (ih.S X Θ st fs ok h1) (ih.Ss X Θ r fr ok h2)
noncomputable def Qb7 (k : Nat) (ds : List D) : En := ds.map (λ d => some (d, d.flat)) ++ List.replicate (k - ds.length) none
noncomputable def outD : Out -> Option (D × Bool)
 | .rt d fr => some (d, fr)
 | .nx _ => some (.non, true)
 | _ => none
noncomputable def Qw (k : Nat) (f : DS) : Den := λ ds => (f (Qb7 k ds)).bind outD
theorem Rps.parts {K : PySem.W.Frag} {H : Hp} : ∀ {ds : List D} {vs : List V} {F : List Addr}, Rps K H ds vs F →
  ∃ Fs : List (List Addr), (∀ L ∈ Fs, ∀ a ∈ L, a ∈ F) /\ ∀ (i : Nat) (d : D), ds[i]? = some d -> ∃ v, vs[i]? = some v /\ Rp K H d v (Fs.getD i [])
 | [], _, _, h => ⟨[], λ L hL => by simp at hL, λ i d e => by simp at e⟩
 | d :: ds, _, _, h => by
  simp only [Rps] at h
  obtain ⟨v, ws, F1, F2, rfl, rfl, r, q⟩ := h
  obtain ⟨Fs, h1, h2⟩ := Rps.parts q
  refine ⟨F1 :: Fs, λ L hL a ha => ?_, λ i d' e => ?_⟩
  ·rcases Zm.mp hL with rfl | hL
   ·exact Zc _ ha
   ·exact Ze _ (h1 L hL a ha)
  ·cases i with
   | zero => simp at e; subst e; exact ⟨v, by simp, by simpa using r⟩
   | succ i => obtain ⟨w, hw, hr⟩ := h2 i d' (by simpa using e); exact ⟨w, by simpa using hw, by simpa using hr⟩
theorem QgJ {k : Nat} {ds : List D} {i : Nat} {d : D} {b : Bool} (h : (Qb7 k ds)[i]? = some (some (d, b))) : ds[i]? = some d /\ b = d.flat := by
 unfold Qb7 at h
 by_cases hi : i < ds.length
 ·rw [Zae (by simpa using hi), Zz] at h
  cases e : ds[i]? with
  | none => rw [e] at h; cases h
  | some a => rw [e] at h; cases h; exact ⟨rfl, rfl⟩
 ·rw [ZaZ (by simpa using hi), Zbg] at h
  split at h <;> cases h
theorem QdD {K : PySem.W.Frag} {H : Hp} {ds : List D} {vs : List V} {F : List Addr} {N : List Str} (r : Rps K H ds vs F) : ∃ F0, Rel K H F [] (Qb7 N.length ds) F0 (start N vs) H := by
 obtain ⟨Fs, h1, h2⟩ := r.parts
 have hl := r.length
 have src : ∀ i a, a ∈ Fs.getD i [] -> a ∈ F := λ i a ha => by
  by_cases hi : i < Fs.length
  ·have : Fs.getD i [] ∈ Fs := by rw [Zad, Zbe hi]; exact List.getElem_mem hi
   exact h1 _ this a ha
  ·rw [Zad, ZC (by omega)] at ha; simp at ha
 refine ⟨λ i => Fs.getD i [], ?_, λ i d b e => ?_, λ i d e => ?_, λ i d b e a ha => .inr (src i a ha), λ t ht => absurd ht (by simp), QD.refl _⟩
 ·unfold Qb7 L2.start; simp [hl]
 ·obtain ⟨e1, _⟩ := QgJ e
  obtain ⟨v, hv, hr⟩ := h2 i d e1
  refine ⟨v, ?_, hr⟩
  have hi : i < vs.length := (Zg.mp hv).1
  unfold L2.start
  rw [Zae (by simpa using hi), Zz, hv]; rfl
 ·obtain ⟨e1, e2⟩ := QgJ e
  obtain ⟨v, hv, hr⟩ := h2 i d e1
  have z : Fs.getD i [] = [] := hr.QbE e2.symm
  simp only [z]
  exact ⟨(Qdj d e2.symm).symm, Zah, λ a ha => by simp at ha, λ _ _ _ _ _ a ha => by simp at ha, λ _ _ a ha => by simp at ha⟩
section
variable (P : Program) (w : World) (K : PySem.W.Frag) (mg : Str -> Option Value) (base : Heap)
def Known (k : Nat) (x : Str) (r : FnR) : Prop := ∃ f fd ps, Qbe P w K mg base CX0 k f fd ps (spV K r.n r.den) /\ mg x = some (.ref f) /\ PySem.W.keepIn K (.ref f) = true ∧
 ∀ m, m <= r.dfl.length -> ∃ ds dvs, Binds K fd ps ds /\ Qq dvs ds /\ ∀ H, Rps K H (r.dfl.drop (r.dfl.length - m)) dvs []
def Qa1 (k : Nat) (Γ : List (Str × FnR)) : Prop := ∀ x r, look x Γ = some r -> Known P w K mg base k x r
structure QcW (cs : List (Str × Int)) : Prop where
 bn : ∀ x ∈ Qj9, mg x = none
 cs : ∀ x i, look x cs = some i -> ∃ t, mg x = some (.int i t)
end
section
variable {P : Program} {w : World} {K : PySem.W.Frag} {mg : Str -> Option Value} {base : Heap}
theorem Qa1.nil {k : Nat} : Qa1 P w K mg base k [] := λ x r h => by cases h
theorem Known.mono {j k : Nat} {x : Str} {r : FnR} (h : Known P w K mg base j x r) (hk : j <= k) : Known P w K mg base k x r := by
 obtain ⟨f, fd, ps, h1, h2⟩ := h
 exact ⟨f, fd, ps, h1.mono hk, h2⟩
theorem Qa1.cons {k : Nat} {Γ : List (Str × FnR)} {x : Str} {r : FnR} (t : Qa1 P w K mg base k Γ) (h : Known P w K mg base (k + 1) x r) : Qa1 P w K mg base (k + 1) ((x, r) :: Γ) := λ y q e => by
 unfold look at e
 split at e
 ·rename_i z; cases e; subst z; exact h
 ·exact (t y q e).mono (ZI _)
noncomputable def namesOf (sc : Scope) : List Str := (sc.names.filter λ y => QpB y.2).map (·.1)
noncomputable def Qc1 (st : Stmt) (Γ : List (Str × FnR)) (cs : List (Str × Int)) : Th := ⟨namesOf (Qh st), (Qh st).names, Γ, cs, λ _ => none⟩
theorem Qil {CX : CXT} {xe : Value -> Shared -> Prop} {st : Stmt} {ps : List Str} {qual : Str} {f : Addr} {cdv : Value} {A : Around} {outer : List Env} {s : Shared} {H : Hp} {E : XK} {k : Nat} {Γ : List (Str × FnR)} {cs : List (Str × Int)} (S : Qa6 (namesOf (Qh st)) ps (Qh st)) (M : QcW mg cs) (tab : Qa1 P w K mg base k Γ)
  (hr : Qaj k (A.deeper (envOfC qual (Qh st) s.heap.objs.size f cdv))) (hp : PassesOwn (model P w) (A.deeper (envOfC qual (Qh st) s.heap.objs.size f cdv)) (envOfC qual (Qh st) s.heap.objs.size f cdv) xe) :
  QS ((Qc5 CX P w K mg base (namesOf (Qh st)) qual (Qh st) f cdv A outer s H E).Qdf xe) (Qc1 st Γ cs) where
 N := rfl
 nd := S.nd
 lc := λ x h => by rw [Qbr] at h; exact h
 ce := λ x h => by rw [Qbr] at h; exact ⟨h, rfl⟩
 fe := λ x h => by rw [Qbr] at h; exact absurd rfl (S.nofree _ (ZU h))
 gl := λ x h => by rw [Qbr] at h; exact h
 calm := decide_eq_true hr.hd
 pass := hp
 tr := λ _ _ h => by cases h
 units := hr.units
 mg := M.bn
 fns := λ x r h => by
  obtain ⟨f', fd, ps', h1, h2, h3, h4⟩ := tab x r h
  exact ⟨k, f', fd, ps', h1, hr, h2, h3, h4⟩
 cs := M.cs
theorem QkE {st : Stmt} {ps : List Str} {qual : Str} {f : Addr} {cdv : Value} {A : Around} {outer : List Env} {s : Shared} {H : Hp} {E : XK} {k : Nat} {Γ : List (Str × FnR)} {cs : List (Str × Int)} (S : Qa6 (namesOf (Qh st)) ps (Qh st)) (M : QcW mg cs) (tab : Qa1 P w K mg base k Γ)
  (hr : Qaj k (A.deeper (envOfC qual (Qh st) s.heap.objs.size f cdv))) : QS (Qc5 CX0 P w K mg base (namesOf (Qh st)) qual (Qh st) f cdv A outer s H E).nox (Qc1 st Γ cs) := Qil S M tab hr PassesOwn.never
theorem Qm6 {x qual : Str} {st : Stmt} {f : Addr} {fd : FuncData} {ps : List Str} {k n : Nat} {Γ : List (Str × FnR)} {cs : List (Str × Int)} {g : DS} (F : Fun K x qual st f fd) (S : Qa6 (namesOf (Qh st)) ps (Qh st)) (M : QcW mg cs) (tab : Qa1 P w K mg base k Γ)
  (hc : QaD n (Qc1 st Γ cs) (QZ st) = some g) : Qbe P w K mg base CX0 (k + 1) f fd ps (spV K ps.length (Qw (namesOf (Qh st)).length g)) := by
 refine F.ok S (Qiq rfl) λ cdv A outer s H vs Q E hr h => ?_
 obtain ⟨ds, L, d, fr, rps, hl, hd, q⟩ := h
 refine ⟨_, (Qfr n).Ss _ _ _ g (QkE S M tab hr) hc H L, ?_⟩
 obtain ⟨F0, rel⟩ := QdD (N := namesOf (Qh st)) rps
 unfold Qw at hd
 obtain ⟨o, ho, hd⟩ := bind1 hd
 refine ⟨_, [], F0, o, rel, ho, ?_⟩
 cases o with
 | nx ρ =>
  cases hd
  exact λ σ H' F' rel' => q .non H' [] ⟨rel'.same, .Qed, λ a ha => by simp at ha, λ _ => ⟨Zah, rfl, λ a ha => by simp at ha⟩⟩
 | bk ρ => cases hd
 | ct ρ => cases hd
 | rt d' fr' =>
  cases hd
  exact λ v H' G r => q v H' G r
structure Fact (K : PySem.W.Frag) (x : Str) (st : Stmt) : Prop where
 ex : ∃ f fd, Fun K x x st f fd /\ PySem.W.nsIn K mainGlobals x = some (some (.ref f))
theorem fact_mk {x : Str} {st : Stmt} {f : Addr} {oc : Value} {od an : Option Addr} {osl : Array (Option Value)} {kV doc pm cdv ct : Value} (a : PySem.W.nsIn K mainGlobals x = some (some (.ref f))) (l : K.lookup f = some ⟨oc, od, .func (PySem.W.fnOf x x (Qbq st) (QZ st) (Qh st) .none kV doc pm an cdv ct), osl⟩)
  (c : PySem.W.codeIn K cdv x = true) (k : PySem.W.keepIn K (.ref f) = true) : Fact K x st := ⟨f, _, Qsh l c k, a⟩
def QL (x : Str) (st : Stmt) (ps : List Str) : Prop := ∀ (kV doc pm : Value) (an : Option Addr) (cdv ct : Value) (us : List Value), us.length = ps.length -> bindArgs (PySem.W.fnOf x x (Qbq st) (QZ st) (Qh st) .none kV doc pm an cdv ct) ⟨us, []⟩ = pure (ps.zip us)
theorem Q8 {h : Heap} {x : Str} {st : Stmt} {ps : List Str} {k n : Nat} {Γ : List (Str × FnR)} {cs : List (Str × Int)} {g : DS} (X : K.In h) (G : h.Ns mainGlobals mg) (F : Fact K x st) (S : Qa6 (namesOf (Qh st)) ps (Qh st)) (B : QL x st ps) (M : QcW mg cs) (tab : Qa1 P w K mg base k Γ)
  (hc : QaD n (Qc1 st Γ cs) (QZ st) = some g) : Known P w K mg base (k + 1) x ⟨ps.length, [], Qw (namesOf (Qh st)).length g⟩ := by
 obtain ⟨f, fd, Fn, a⟩ := F.ex
 refine ⟨f, fd, ps, Qm6 Fn S M tab hc, Zam X G a, Fn.kp, λ m hm => ⟨[], [], Fn.binds (B ·), .nil, λ H => by simp [Rps]⟩⟩
end
end HS
namespace HS
open PySem PySem.Spec L2 PyProof.Rows
theorem Qpk {l : PySem.W.OpenLaw} {k : Nat} {q : Program} {loose : List Str} {XP : (Str -> Option Value) -> Heap -> Prop} {YP : World -> Heap -> Prop} {d : DefRec} {K : Params -> PySem.W.Frag} {den : Den} {x : Str}
  (hn : l.most = some 63) (hdf : d.params.defaults = []) (hr : Qaj k callerA) (hY : ∀ (w : World) (h : Heap), YP w h -> (K w.params).In h)
  (hden : ∀ ns : List Int, ns.length <= 63 -> ∃ fr, den [.lst (ns.map .int)] = some (.bl true, fr))
  (F : ∀ (w : World) (mg : Str -> Option Value) (fa : Addr) (h : Heap), (K w.params).In h -> h.Ns mainGlobals mg -> mg d.name = some (.ref fa) →
   ∃ fd : FuncData, (∀ (s : Shared) (u : Value), BindsTo s fd ⟨[u], []⟩ [(x, u)]) ∧
    ∀ base : Heap, (K w.params).In base -> base.Ns mainGlobals mg -> Qbe l.prog w (K w.params) mg base CX0 k fa fd [x] (spV (K w.params) 1 den)) :
  PySem.W.WalkO q loose XP YP l.row.toRowW d [] (λ f vs => PySem.call f vs) := by
 refine Att.QgO hn hdf λ w s₀ s₁ mg mb fa o pm cd doc a vs ns G Y ho hd hcd hmg hobj hints hlen hg => ?_
 have KX := hY w _ Y
 obtain ⟨fd, hb, hF⟩ := F w mg fa _ KX G.T.g hmg
 have h63 : (63 : Nat) <= sizeLine := by decide
 refine Qkg KX G.T.g G.T.b G.T.builtins G.T.nolimit hg hobj hints (ZA hlen h63) hr hF hb (λ H hO hS => ?_) λ H e s' z => z
 have fx : Fix (K w.params) H a (ns.map V.int) := by
  rcases hS with (h | ⟨o, h⟩) | ⟨o, its, n, hk, hc, hdn, hda, hz, rv⟩
  ·rcases hO a with z | ⟨o, xs, z⟩ <;> rw [h] at z <;> cases z
  ·exact .inl ⟨o, h⟩
  ·have e := KX a o hk
   rw [hobj] at e
   cases e
   cases hda
   exact .inr ⟨vs, _, hk, by rw [Zh]; exact ZA hlen h63, by simpa using rv⟩
 obtain ⟨fr, hfr⟩ := hden ns hlen
 have rp : Rp (K w.params) H (.lst (ns.map .int)) (.ref a) [] := by
  simp only [Rp]
  refine ⟨by rw [Zh]; exact ZA hlen h63, a, _, rfl, .inr ⟨fx, ?_⟩⟩
  have gen : ∀ ns : List Int, Rps (K w.params) H (ns.map .int) (ns.map .int) [] := by
   intro ns
   induction ns with
   | nil => simp [Rps]
   | cons n ns ih => simp only [Zu, Rps]; exact ⟨_, _, [], [], rfl, rfl, .int_mk, ih⟩
  exact gen ns
 refine ⟨[.lst (ns.map .int)], [], .bl true, fr, ?_, rfl, hfr, λ v H' G r => r.rp.Qcx⟩
 simp only [Rps]
 exact ⟨_, _, [], [], rfl, rfl, rp, rfl, rfl⟩
theorem Qt6 {P : Program} {w : World} {K : PySem.W.Frag} {mg : Str -> Option Value} {h : Heap} {x y : Str} {st : Stmt} {fa : Addr} {k n : Nat} {Γ : List (Str × FnR)} {cs : List (Str × Int)} {g : DS} (X : K.In h) (G : h.Ns mainGlobals mg) (hmg : mg x = some (.ref fa))
  (F : Fact K x st) (S : Qa6 (namesOf (Qh st)) [y] (Qh st)) (B : QL x st [y]) (M : QcW mg cs) (tab : ∀ base : Heap, Qa1 P w K mg base k Γ) (hc : QaD n (Qc1 st Γ cs) (QZ st) = some g) :
  ∃ fd : FuncData, (∀ (s : Shared) (u : Value), BindsTo s fd ⟨[u], []⟩ [(y, u)]) ∧
    ∀ base : Heap, K.In base -> base.Ns mainGlobals mg -> Qbe P w K mg base CX0 (k + 1) fa fd [y] (spV K 1 (Qw (namesOf (Qh st)).length g)) := by
 obtain ⟨f, fd, Fn, a⟩ := F.ex
 have e := hmg.symm.trans (Zam X G a)
 cases e
 refine ⟨fd, λ s u => ?_, λ base _ _ => Qm6 Fn S M (tab base) hc⟩
 obtain ⟨oc, od, kV, doc, pm, an, cdv, ct, osl, rfl, lk, hcd⟩ := Fn.ex
 exact .of_eq (B kV doc pm an cdv ct [u] rfl)
end HS
namespace HS
open PySem PySem.Spec PyProof.Rows L2
section
variable {P : Program} {w : World} {K : PySem.W.Frag} {mg : Str -> Option Value} {base : Heap}
end
end HS
namespace HS
open PySem PySem.Spec L2 PyProof.Rows
theorem Qpa {P : Program} {w : World} {H : Hp} {h : Heap} {a : Addr} {o : HO} (x : Qbz P w H h a o) : ∃ u, h.get? a = some u := by
 cases o with
 | lst xs => obtain ⟨_, _, _, _, e⟩ := x; exact ⟨_, e⟩
 | tup xs => obtain ⟨_, _, _, ob, e, _⟩ := x; exact ⟨_, e⟩
 | dK kvs => obtain ⟨_, _, _, _, o, _, _, e, _⟩ := x; exact ⟨_, e⟩
 | dT kvs => obtain ⟨_, _, _, _, o, _, _, e, _⟩ := x; exact ⟨_, e⟩
 | set S n => obtain ⟨o, _, _, _, e, _⟩ := x; exact ⟨_, e⟩
 | ins C dx fs => obtain ⟨_, _, _, e, _⟩ := x; exact ⟨_, e⟩
 | own y => exact x
 | xd fs => obtain ⟨_, ⟨_, _, _, e, _⟩, _⟩ := x; exact ⟨_, e⟩
 | rng lo hi => obtain ⟨_, _, _, e⟩ := x; exact ⟨_, e⟩
 | frz ob u => obtain ⟨e, _⟩ := x; exact ⟨_, e⟩
 | tbl ps => exact ⟨_, show h.get? a = some _ from x⟩
 | met f y => exact ⟨_, show h.get? a = some _ from x⟩
 | ext φ => obtain ⟨_, e, _⟩ := x; exact e
section
variable {P : Program} {w : World} {H H' : Hp} {h0 h h' B : Heap} {fs : List Addr}
def Cov (H : Hp) (B : Heap) : Prop := ∀ b u, H b = some u -> ∃ o, B.get? b = some o
theorem QiL (hok : HOk P w H h) (hB : B.StaysIn h) (hB' : B.StaysIn h') (cov : Cov H B) : HOk P w H h' := λ a o e =>
 (hok a o e).QeF (λ c v hc q => by
  have : ∃ u, H c = some u := by
   rcases hc with rfl | hc
   ·exact ⟨_, e⟩
   ·exact ⟨_, hc⟩
  obtain ⟨u, hu⟩ := this
  obtain ⟨o', ho'⟩ := cov c u hu
  have := hB _ _ ho'
  rw [q] at this
  cases this
  exact hB' _ _ ho') (λ _ q => q) λ _ _ q => q
theorem QjA (u : Un fs [] H H' h0 h) (hB : B.StaysIn h) (hB' : B.StaysIn h') (up : h.UpToSlots h') (old : ∀ b o, h0.get? b = some o -> b ∉ fs -> ∃ o', B.get? b = some o')
  (dat : ∀ b o, h0.get? b = some o -> b ∈ fs -> ∀ vs, o.data ≠ .fields vs) (frf : ∀ b ∈ fs, H b = none) : Un fs [] H H' h0 h' where
 keep := λ b o e n hb hx => by
  obtain ⟨o', e1⟩ := old b o e hb
  have := hB _ _ e1
  rw [u.keep b o e n hb hx] at this
  cases this
  exact hB' _ _ e1
 slot := λ b o e n hb hx => by
  obtain ⟨sl, e1⟩ := u.slot b o e n hb hx
  obtain ⟨sl', e2⟩ := up b _ e1 (dat b o e hb)
  exact ⟨sl', e2⟩
 free := u.free
 there := λ b o e hx => by
  by_cases hb : b ∈ fs
  ·obtain ⟨sl, e1⟩ := u.slot b o e (frf b hb) hb hx
   obtain ⟨sl', e2⟩ := up b _ e1 (dat b o e hb)
   exact ⟨_, e2⟩
  ·obtain ⟨o', e1⟩ := old b o e hb
   exact ⟨_, hB' _ _ e1⟩
 tups := u.tups
 frzs := u.frzs
 tbls := u.tbls
end
noncomputable def CXR (P : Program) (w : World) : CXT := λ outer H s E e s' => ∃ ea C H' B a0, e = Value.ref ea /\ s'.os = s.os /\ AllBare s'.gens /\ Un (frs outer) [] H H' s.heap s'.heap /\ HOk P w H' s'.heap /\ Heap.FlyingW B outer ea C a0 s'.heap ∧
 Cov H' B /\ (∀ b o, s.heap.get? b = some o -> b ∉ frs outer -> ∃ o', B.get? b = some o') /\ E C none H'
def Qfa (X : Cx) (H0 : Hp) (A0 : List Addr) (hs : List (V × D × List Addr)) (ρ : En) (C : Value) (ea : Addr) (s' : Shared) : Prop := ∃ pins σ H F, Rel X.K H0 A0 hs ρ F σ H ∧
 ((∃ sg args, Inv X pins σ H sg /\ Heap.MadeExcOf sg.heap s'.heap ea C args /\ s'.os = sg.os /\ s'.gens = sg.gens) ∨
  ∃ B a0, Inv X pins σ H s' /\ Heap.FlyingW B X.stack ea C a0 s'.heap /\ Cov H B /\ (∀ b o, X.s₀.heap.get? b = some o -> b ∉ X.fs -> ∃ o', B.get? b = some o') /\ ∀ p ∈ X.pn ++ pins, ∃ o, B.get? p.1 = some o)
theorem QmQ {X : Cx} {pins : List (Addr × Obj)} {σ : L2.St} {H : Hp} {s : Shared} (I : Inv X pins σ H s) (hx : X.ex = []) {b : Addr} {o : Obj} (e : X.s₀.heap.get? b = some o) (hb : b ∉ X.fs) : (∃ o', s.heap.get? b = some o') /\ b ∉ frs X.stack := by
 refine ⟨I.base.there b o e (by rw [hx]; simp), λ z => ?_⟩
 rcases Zm.mp (I.Qej b z) with q | q
 ·have h1 := Zo e
  have h2 := I.ok.above
  rw [q] at h1
  exact absurd (Zp h1 h2) (ZN _)
 ·exact hb q
theorem QhK {X : Cx} (ok : X.Ok) {b : Addr} {o : Obj} (e : X.s₀.heap.get? b = some o) (hb : b ∈ X.fs) : ∀ vs, o.data ≠ .fields vs := by
 obtain ⟨_, o', e', h⟩ := ok.QcG.mem hb
 rw [e] at e'
 cases e'
 exact h
theorem Qke {X : Cx} {pins : List (Addr × Obj)} {σ : L2.St} {H : Hp} {s : Shared} (I : Inv X pins σ H s) (hx : X.ex = []) : ∃ B : Heap, B.StaysIn s.heap /\ s.heap.FunFrames B X.stack /\ Cov H B /\ (∀ b o, X.s₀.heap.get? b = some o -> b ∉ X.fs -> ∃ o', B.get? b = some o') /\ ∀ p ∈ X.pn ++ pins, ∃ o, B.get? p.1 = some o := by
 refine ⟨PySem.W.hideAll s.heap (frs X.stack), λ b o e => PySem.W.of_hideAll _ e, PySem.W.funFrames_hide I.stack λ env he a ha => Zau.mpr ⟨env, he, ha⟩, λ b u e => ?_, λ b o e hb => ?_, λ p hp => ?_⟩
 ·obtain ⟨o, ho⟩ := Qpa (I.hok b u e)
  exact ⟨o, ZaD _ ho λ z => by rw [I.Qis b z] at e; cases e⟩
 ·obtain ⟨⟨o', h1⟩, h2⟩ := QmQ I hx e hb
  exact ⟨o', ZaD _ h1 h2⟩
 ·obtain ⟨e, _, ne, nf, _⟩ := I.pin p hp
  exact ⟨_, ZaD _ e λ z => (Zm.mp (I.Qej _ z)).elim ne nf⟩
theorem QfL {X : Cx} {P : Program} {w : World} {E : XK} {H0 : Hp} {A0 : List Addr} {hs : List (V × D × List Addr)} {ρ : En} {C : Value} {ea : Addr} {s' : Shared} {env : Env} {outer : List Env} {Er : Value -> Shared -> Prop}
  (hp : X.prog = P) (hw : X.w = w) (hx : X.ex = []) (hst : X.stack = env :: outer) (hfs : X.outer = outer) (hen : X.env = env) (hf : env.frame = some X.env.locals) (T : Qfa X H0 A0 hs ρ C ea s')
  (hE : ∀ H, QD H0 H -> E C none H) : wpAny (model P w) X.A (leaving env (.ref ea)) (λ _ s'' => CXR P w outer X.H₀ X.s₀ E (.ref ea) s'') Er s' := by
 subst hp hw hfs
 obtain ⟨pins, σ, H, F, rel, ⟨sg, args, I, hm, ho, hg⟩ | ⟨B, a0, I, fl, cov, old, _⟩⟩ := T
 ·obtain ⟨B, b1, b2, cov, old, _⟩ := Qke I hx
  rw [hst] at b2
  have hfr := I.ok.frames
  rw [hst] at hfr
  refine wpAny_leaves_madeW hfr hf b1 b2 hm λ h' t fl _ _ up => ?_
  have up' : sg.heap.UpToSlots h' := (Heap.UpToSlots.of_keeps hm.keeps).trans up
  have hb := I.base
  rw [hx] at hb
  exact ⟨ea, C, H, B, _, rfl, ho.trans I.os, hg ▸ I.bare, QjA hb b1 fl.1 up' old (λ b o e hb => QhK I.ok e hb) I.ok.frf, QiL I.hok b1 fl.1 cov, fl, cov, old, hE H rel.same⟩
 ·have hfr := I.ok.frames
  rw [hst] at hfr fl
  refine wpAny_leaves_onW hfr hf fl λ h' fl' up => ?_
  have hb := I.base
  rw [hx] at hb
  exact ⟨ea, C, H, B, _, rfl, I.os, I.bare, QjA hb fl.1 fl'.1 up old (λ b o e hb => QhK I.ok e hb) I.ok.frf, QiL I.hok fl.1 fl'.1 cov, fl', cov, old, hE H rel.same⟩
end HS
namespace HS
open PySem PySem.Spec L2 PyProof.Rows
noncomputable abbrev DX := En -> Option (Str × En)
def ClsAt (K : PySem.W.Frag) (x : Str) (C : Addr) : Prop := PySem.W.nsIn K mainGlobals x = some (some (.ref C))
def cRz (X : Cx) (H0 : Hp) (A0 : List Addr) (fx : DX) (σ : L2.St) (H : Hp) : Prop := ∃ ρ hs F x ρ', Rel X.K H0 A0 hs ρ F σ H /\ fx ρ = some (x, ρ') /\ ∀ C ea s', ClsAt X.K x C -> Qfa X H0 A0 hs ρ' (.ref C) ea s' -> X.xe (.ref ea) s'
noncomputable def tRz (X : Cx) (H0 : Hp) (A0 : List Addr) (fx : DX) : TS := λ _ σ H => cRz X H0 A0 fx σ H
noncomputable def eRz (X : Cx) (H0 : Hp) (A0 : List Addr) (fx : DX) : TE := λ σ H _ => cRz X H0 A0 fx σ H
def Rz (X : Cx) (st : Stmt) (fx : DX) : Prop := ∀ H0 A0, PS X st (tRz X H0 A0 fx)
def RzS (X : Cx) (sts : List Stmt) (fx : DX) : Prop := ∀ H0 A0, PSs X sts (tRz X H0 A0 fx)
def RzE (X : Cx) (e : Expr) (fx : DX) : Prop := ∀ H0 A0, PE X e (eRz X H0 A0 fx)
noncomputable def xNo : DX := λ _ => none
noncomputable def Qb6 (x : Str) (fs : DA) : DX := λ ρ => (fs ρ).bind λ r => if r.ds.length <= 1 then some (x, ρ) else none
noncomputable def Qbu (n : Nat) (xd : List D -> Option Str) (fs : DA) : DX := λ ρ => (fs ρ).bind λ r => if r.ds.length = n then (xd r.ds).map λ c => (c, ρ) else none
noncomputable def xIf (g : DT) (fa fb : DX) : DX := λ ρ => (g ρ).bind λ b => if b = true then fa ρ else fb ρ
noncomputable def QY (f : DS) (fx fr : DX) : DX := λ ρ => match f ρ with
 | some (.nx ρ') => fr ρ'
 | some _ => none
 | none => fx ρ
noncomputable def Qdz (t : Tg) (fb : DS) (fx : DX) : List D -> DX
 | [], _ => none
 | d :: ds, ρ => (QaW t d ρ).bind λ ρ1 => match fb ρ1 with
  | some (.nx ρ2) => Qdz t fb fx ds ρ2
  | some (.ct ρ2) => Qdz t fb fx ds ρ2
  | some _ => none
  | none => fx ρ1
noncomputable def Qfw (fi : DI) (t : Tg) (fb : DS) (fx : DX) : DX := λ ρ => (fi ρ).bind λ ir => Qdz t fb fx ir.items (QaX ir.M ρ)
noncomputable def spX (K : PySem.W.Frag) (n : Nat) (xd : List D -> Option Str) : Sp := λ vs H _ E => ∃ ds L x, Rps K H ds vs L /\ ds.length = n /\ xd ds = some x /\ ∀ C H', ClsAt K x C -> QD H H' -> E (.ref C) none H'
theorem QlH {K : PySem.W.Frag} {n : Nat} {xd : List D -> Option Str} {ps : List Str} (hn : ps.length = n) : ∀ vs H Q E, spX K n xd vs H Q E -> vs.length = ps.length := λ vs H Q E ⟨ds, L, x, r, hl, _⟩ => by rw [hn, ← hl, r.length]
section
variable {X : Cx} {st : Stmt} {sts : List Stmt} {e : Expr} {es : List Expr} {fs : DA} {f : DS} {fx fr fy : DX} {g : DT} {pos p np cpos : Pos} {x : Str} {k n : Nat} {fa : Addr} {fd : FuncData} {ps : List Str} {xd : List D -> Option Str}
theorem Ql2 : Rz X st xNo := λ H0 A0 pins s σ H Dd I ⟨ρ, hs, F, x, ρ', rel, e, q⟩ => by cases e
theorem QqQ : RzS X [] xNo := λ H0 A0 pins s σ H Dd I ⟨ρ, hs, F, x, ρ', rel, e, q⟩ => by cases e
theorem Qfa.hold {H0 : Hp} {A0 : List Addr} {hs ts : List (V × D × List Addr)} {ρ : En} {C : Value} {ea : Addr} {s' : Shared} (h : Qfa X H0 A0 (ts ++ hs) ρ C ea s') : Qfa X H0 A0 hs ρ C ea s' := by
 obtain ⟨pins, σ, H, F, rel, q⟩ := h
 exact ⟨pins, σ, H, F, rel.QjJ, q⟩
theorem QqX (Fk : Qbe X.prog X.w X.K X.mg X.base (CXR X.prog X.w) k fa fd ps (spX X.K n xd)) (hr : Qaj k X.A) (hg : Gl X x) (hm : X.mg x = some (.ref fa)) (hk : PySem.W.keepIn X.K (.ref fa) = true) (hb : Binds X.K fd ps []) (hx : X.ex = []) (hn : ps.length = n)
  (ha : SA X (e :: es) fs) (hdb : (x == ("__debug__" : Str)) = false) (he : starEach (e :: es) X.env = (false, eval e X.env) :: starEach es X.env) (hpl : (backTo pos (starEach es X.env)).any (·.1) = false) :
  RzE X (.Call (.Name x p) (e :: es) [] pos) (Qbu n xd fs) := λ H0 A0 pins s σ H Q I ⟨ρ, hs, F, c, ρ', rel, ex, q⟩ => by
 obtain ⟨ra, e1, ex⟩ := bind1 ex
 split at ex
 ·rename_i hl
  obtain ⟨c', e2, e3⟩ := Zb.mp ex
  cases e3
  refine wpAny_Call_Name_kw (Qdm I hg hm ?_ hdb)
  refine ZaY (h₀ := X.base) I.ok.mod.kin hk (thn (ha H0 A0 pos pins s σ H (λ vs H1 => ∃ G, Qmq X.K ρ F H H1 ra vs G) I ⟨ρ, hs, F, ra, rel, e1, λ vs H1 G p1 => ⟨G, p1⟩⟩) λ us s1 ⟨vs, H1, I1, rv, G, p1⟩ => ⟨I1.kIn, ?_⟩) he hpl
  have hlen : (us ++ []).length = ps.length := by rw [Zab, ← rv.length, ← p1.rp.length, hl, hn]
  have hbb := hb s1 us I1.kIn hlen
  rw [Zab] at hbb
  refine wpAny_call (codeAny_mono (Fk.run X.A X.stack s1 H1 ⟨us, []⟩ us vs (λ _ _ => False) (λ c' _ H' => ∃ C, c' = .ref C /\ ClsAt X.K c C /\ QD H1 H') hr I1.Qot hbb rv ⟨ra.ds, G, c, p1.rp, hl, e2, λ C H' hC sm => ⟨C, rfl, hC, sm⟩⟩) λ r s' hq => ?_)
  cases r with
  | error ev =>
   obtain ⟨ea, C', H', B, a0, rfl, os, bare, un, hok, fl, cov, old, C, rfl, hC, sm⟩ := hq
   exact q C ea s' hC ⟨pins, σ, H', F, (rel.ext p1.same).ext sm, .inr ⟨B, a0, I1.QpH os un hok bare (λ b z => absurd z (by simp)), fl, cov, λ b o eb hbf => by
    obtain ⟨⟨o', h1⟩, h2⟩ := QmQ I1 hx eb hbf
    exact old b o' h1 h2, λ p hp => by
    obtain ⟨e, _, ne, nf, _⟩ := I1.pin p hp
    exact old _ _ e λ z => (Zm.mp (I1.Qej _ z)).elim ne nf⟩⟩
  | ok fl =>
   cases fl with
   | ret u => obtain ⟨v, H', _, _, _, _, _, z⟩ := hq; exact z.elim
   | next => exact False.elim hq
   | brk => exact False.elim hq
   | cont => exact False.elim hq
 ·cases ex
theorem QqV (h : RzE X e fx) (hs : swapsWith e none pos.line X.env = pure false) : Rz X (.Expr e pos) fx := λ H0 A0 => Qgt (h H0 A0) hs
theorem QrX (h : RzE X e fx) : Rz X (.Return (some e) pos) fx := λ H0 A0 => QmZ (h H0 A0)
theorem Qtb {i : Nat} (hN : X.N.Nodup) (h1 : X.N[i]? = some x) (h2 : Loc X.env.scope x) (h3 : X.fn x = true ∨ X.env.scope.names.lookup x = some .local) (h : RzE X e fx) (hs : swapsWith e (some (.Name x p)) pos.line X.env = pure false) : Rz X (.Assign [.Name x p] e pos) fx := λ H0 A0 => Qgc hN h1 h2 (h H0 A0) hs h3
theorem QtW {c : Expr} {a b : List Stmt} (hc : ST X c g) (ha : RzS X a fx) (hb : RzS X b fy) : Rz X (.If c a b pos) (xIf g fx fy) := λ H0 A0 => (QpG (hc H0 A0) (ha H0 A0) (hb H0 A0)).mono λ Dd σ H ⟨ρ, hs, F, x, ρ', rel, e, q⟩ => by
 obtain ⟨c, e1, e⟩ := bind1 e
 refine ⟨ρ, hs, F, c, rel, e1, λ H1 s1 => ?_⟩
 cases c with
 | true => exact Qob ⟨ρ, hs, F, x, ρ', rel.ext s1, e, q⟩
 | false => exact QoA ⟨ρ, hs, F, x, ρ', rel.ext s1, e, q⟩
theorem Qua {t u : TS} (h1 : PS X st t) (h2 : PS X st u) : PS X st (λ Dd σ H => t Dd σ H ∨ u Dd σ H) := λ pins s σ H Dd I q => q.elim (h1 pins s σ H Dd I) (h2 pins s σ H Dd I)
theorem QrU {t u : TS} (h1 : PSs X sts t) (h2 : PSs X sts u) : PSs X sts (λ Dd σ H => t Dd σ H ∨ u Dd σ H) := λ pins s σ H Dd I q => q.elim (h1 pins s σ H Dd I) (h2 pins s σ H Dd I)
theorem QoQ (h1 : S1 X st f) (h2 : Rz X st fx) (h3 : RzS X sts fr) : RzS X (st :: sts) (QY f fx fr) := λ H0 A0 => (Qj2 (Qua (h1 H0 A0) (h2 H0 A0)) (h3 H0 A0)).mono λ Dd σ H ⟨ρ, hs, F, x, ρ', rel, e, q⟩ => by
 unfold QY at e
 split at e
 ·rename_i ρ1 e1
  exact .inl ⟨ρ, hs, F, _, rel, e1, λ σ' H' F' rel' => ⟨ρ1, hs, F', x, ρ', rel', e, q⟩⟩
 ·cases e
 ·exact .inr ⟨ρ, hs, F, x, ρ', rel, e, q⟩
theorem Qs3 {tg iter : Expr} {body : List Stmt} {fi : DI} {t : Tg} (hp : PassesOwn (model X.prog X.w) X.A X.env X.xe) (hc : X.calm = true) (hi : SI X tg iter fi) (hg : SG X tg t) (hb : SS X body f) (hbx : RzS X body fx) (hs : ∀ x, foldedSetIterable iter X.env x = pure x) :
  Rz X (.For tg iter body [] pos) (Qfw fi t f fx) := λ H0 A0 => (QnD hp hc (hi H0 A0) (hg H0 A0) (QrU (hb H0 A0) (hbx H0 A0)) hs).mono λ Dd σ H ⟨ρ, hs, F, c, ρ', rel, e, q⟩ => by
 obtain ⟨ir, e1, e⟩ := bind1 e
 refine ⟨ρ, hs, F, ir, rel, e1, λ J H1 ts s1 wk hts ow hz => ?_⟩
 have rel1 : Rel X.K H0 A0 (ts ++ hs) (QaX ir.M ρ) F σ H1 := ((rel.ext s1).weak (QbB ir.M ρ)).hold λ t ht => ⟨(hts t ht).1, Shr.of rel (hts t ht).2⟩
 refine ⟨λ i m σ' H' => m = ir.items.length - i /\ i <= ir.items.length /\ ∃ ρi Fi, Rel X.K H0 A0 (ts ++ hs) ρi Fi σ' H' /\ Qdz t f fx (ir.items.drop i) ρi = some (c, ρ'), ⟨_, rfl, ZO _, _, F, rel1, by simpa using e⟩, ?_⟩
 rintro i m σ' H' ⟨rfl, hi', ρi, Fi, reli, ei⟩
 have held : Qh7 X.K H' ts := λ t ht => (reli.held t (Zc _ ht)).1
 by_cases hlt : i < ir.items.length
 ·rw [ZM hlt] at ei
  unfold Qdz at ei
  obtain ⟨ρ1, eb, ei⟩ := bind1 ei
  refine .inr ⟨wk.go i H' hlt held, λ σ2 H2 => ∃ ρ2 F2, Rel X.K H0 A0 (ts ++ hs) ρ2 F2 σ2 H2 /\ Qdz t f fx (ir.items.drop (i + 1)) ρ2 = some (c, ρ'), λ σ2 H2 ⟨ρ2, F2, rel2, e2⟩ => ⟨_, by omega, rfl, hlt, ρ2, F2, rel2, e2⟩, λ x H2 hy => ?_⟩
  obtain ⟨s2, G0, rp0, hG0⟩ := wk.yld i ir.items[i] H' x H2 (by simp [hlt]) held hy
  have shr : Shr H0 A0 ρi Fi G0 := λ a ha => by
   obtain ⟨t, ht, hat⟩ := hG0 a ha
   exact ⟨(reli.held t (Zc _ ht)).2 a hat, λ j d ej hj => (reli.own j d ej).2.2.2.2 t (Zc _ ht) a hj hat⟩
  refine ⟨ρi, ts ++ hs, Fi, ir.items[i], G0, ρ1, reli.ext s2, rp0, shr, eb, λ σ3 F3 rel3 _ _ => ?_⟩
  split at ei
  ·rename_i ρ2 eo
   exact .inl ⟨ρ1, ts ++ hs, F3, _, rel3, eo, λ σ4 H4 F4 rel4 => ⟨ρ2, F4, rel4, ei⟩⟩
  ·rename_i ρ2 eo
   exact .inl ⟨ρ1, ts ++ hs, F3, _, rel3, eo, λ σ4 H4 F4 rel4 => ⟨ρ2, F4, rel4, ei⟩⟩
  ·cases ei
  ·exact .inr ⟨ρ1, ts ++ hs, F3, c, ρ', rel3, ei, λ C ea s' hC T => q C ea s' hC T.hold⟩
 ·have hn : i = ir.items.length := by omega
  subst hn
  rw [Zbk] at ei
  cases ei
end
noncomputable abbrev QuG : List Value := [.type "ValueError", .type "Exception", .type "BaseException", .type "object"]
structure Qfm (K : PySem.W.Frag) (x : Str) : Prop where
 ex : ∃ C, ClsAt K x C /\ PySem.W.excIn K C QuG "ValueError.__new__" = true
theorem Qo6 {K : PySem.W.Frag} {C : Addr} {bmB : List Value} {newId : String} (q : PySem.W.excIn K C bmB newId = true) {h : Heap} (X : K.In h) : ∃ bm N nm qn bs hdct sn sub ab col dd k0 k1 k2 k3 k5 mN,
  h.get? C = some (excClassObj nm qn C N bs bm hdct sn sub ab col dd k0 k1 k2 k3 k5 newId) /\ h.Ns N mN /\ mN "__init__" = none /\ OwnTail h bmB bm := by
 rw [PySem.W.excIn.eq_def] at q
 split at q
 case h_2 => cases q
 rename_i dd cd sl ho
 split at q
 case h_2 => cases q
 rename_i C1 bm k0 k1 k2 k3 nid k5 em es
 simp only [Zf, beq_iff_eq, ZQ] at q
 obtain ⟨⟨⟨⟨⟨z1, z2⟩, nodel⟩, tl⟩, okN⟩, noInit⟩ := q
 subst z1 z2
 have hget := X _ _ ho
 have hsl : sl = #[k0, k1, k2, k3, some (.builtin nid), k5] := Array.ext' es
 rw [hsl] at hget
 refine ⟨bm, cd.ns, cd.name, cd.qualname, cd.bases, cd.hasDict, cd.slotNames, cd.subclasses, cd.abstract, cd.collection, dd, k0, k1, k2, k3, k5, _, ?_, .of_isNs (PySem.W.isNs_of_in X okN), PySem.W.nsMap_none_of_in X okN noInit, PySem.W.tail_of_in X tl⟩
 rw [hget]
 cases cd with
 | mk c1 c2 c3 c4 c5 c6 c7 c8 c9 c10 c11 =>
  dsimp only at em nodel
  rw [em, nodel]
section
variable {X : Cx} {e : Expr} {fs : DA} {x : Str} {np cpos pos : Pos}
theorem QoE (hc : X.calm = true) (hg : Gl X x) (hk : Qfm X.K x) (hdb : (x == ("__debug__" : Str)) = false) (ha : SA X [e] fs) (he : starEach [e] X.env = (false, eval e X.env) :: starEach [] X.env) :
  Rz X (.Raise (some (.Call (.Name x np) [e] [] cpos)) none pos) (Qb6 x fs) := λ H0 A0 pins s σ H Dd I ⟨ρ, hs, F, c, ρ', rel, ex, q⟩ => by
 obtain ⟨ra, e1, e2⟩ := bind1 ex
 split at e2
 case isFalse => cases e2
 rename_i hl
 cases e2
 obtain ⟨C, hC, hq⟩ := hk.ex
 obtain ⟨bm, N, nm, qn, bs, hdct, sn, sub, ab, col, dd, k0, k1, k2, k3, k5, mN, o1, o2, o3, o4⟩ := Qo6 hq I.ok.mod.kin
 have hm : X.mg x = some (.ref C) := Zam I.ok.mod.kin I.ok.mod.glob hC
 refine wpAny_Raise_call_subT (C := C) (nm := nm) (q := qn) (N := N) (bs := bs) (bm := bm) (hdct := hdct) (sn := sn) (sub := sub) (ab := ab) (col := col) (dd := dd) (k0 := k0) (k1 := k1) (k2 := k2) (k3 := k3) (k5 := k5)
  PySem.F.excBase_ValueError (mN := mN) (o4.hasType PySem.F.excBase_ValueError.hasBase) (I.ok.hd hc) (by rw [he]; rfl) o3 (Qdm I hg hm ⟨rfl, ?_⟩ hdb)
 have hargs := ha H0 A0 cpos pins s σ H (λ vs H1 => ∃ G, Qmq X.K ρ F H H1 ra vs G) I ⟨ρ, hs, F, ra, rel, e1, λ vs H1 G p1 => ⟨G, p1⟩⟩
 rw [he] at hargs ⊢
 refine Calls.evalArgs_plain (thn hargs λ us s2 ⟨vs, H1, I1, rv, G, p1⟩ => ⟨rfl, ?_, I1.bk _ _ o1, o2.keeps I1.bk, o4.keeps I1.bk, λ h' ea hm => ?_⟩)
 ·show us.length <= sizeLine
  rw [← rv.length, ← p1.rp.length]
  exact ZA hl (by decide)
 ·exact q C ea _ hC ⟨pins, σ, H1, F, rel.ext p1.same, .inl ⟨s2, us, I1, hm, rfl, rfl⟩⟩
end
end HS
namespace HS
open PySem PySem.Spec L2 PyProof.Rows
structure ThX where
 Γx : List (Str × (Nat × (List D -> Option Str)))
 cls : List Str
structure XOk (X : Cx) (ΘX : ThX) : Prop where
 ex : X.ex = []
 stk : X.stack = X.env :: X.outer
 fr : X.env.frame = some X.env.locals
 fx : ∀ x r, look x ΘX.Γx = some r -> ∃ k f fd ps, Qbe X.prog X.w X.K X.mg X.base (CXR X.prog X.w) k f fd ps (spX X.K r.1 r.2) /\ Qaj k X.A /\ X.mg x = some (.ref f) /\ PySem.W.keepIn X.K (.ref f) = true /\ Binds X.K fd ps [] /\ ps.length = r.1
 cl : ∀ x ∈ ΘX.cls, Qfm X.K x
noncomputable def xcE (n : Nat) (Θ : Th) (ΘX : ThX) (e : Expr) : DX := match e with
 | .Call (.Name x _) (a :: as) [] _ => if Θ.gl x then (match look x ΘX.Γx with
  | some r => (match QaY n Θ (a :: as) with | some fs => Qbu r.1 r.2 fs | none => xNo)
  | none => xNo) else xNo
 | _ => xNo
mutual
noncomputable def Qhw (n : Nat) (Θ : Th) (ΘX : ThX) (st : Stmt) : Option DX := match n with
 | 0 => none
 | n + 1 => match st with
  | .Raise (some (.Call (.Name x _) [a] [] _)) none _ => if Θ.gl x && ΘX.cls.contains x then (QaY n Θ [a]).map λ fs => Qb6 x fs else none
  | .Expr e _ => some (xcE n Θ ΘX e)
  | .Return (some e) _ => some (xcE n Θ ΘX e)
  | .Assign [.Name x _] e _ => (Θ.QcN x).map λ _ => xcE n Θ ΘX e
  | .If c a b _ => (QaZ n Θ c).bind λ g => (Qcy n Θ ΘX a).bind λ fa => (Qcy n Θ ΘX b).map λ fb => xIf g fa fb
  | .For tg iter body [] _ => (Qeo Θ tg).bind λ t => (QdZ n Θ tg iter).bind λ fi => (QaD n Θ body).bind λ fb => (Qcy n Θ ΘX body).map λ fx => Qfw fi t fb fx
  | _ => some xNo
noncomputable def Qcy (n : Nat) (Θ : Th) (ΘX : ThX) (sts : List Stmt) : Option DX := match n with
 | 0 => none
 | n + 1 => match sts with
  | [] => some xNo
  | st :: r => (Qh1 n Θ st).bind λ f => (Qhw n Θ ΘX st).bind λ fx => (Qcy n Θ ΘX r).map λ fr => QY f fx fr
end
section
variable {X : Cx} {Θ : Th} {ΘX : ThX}
theorem Qh4 {e : Expr} : RzE X e xNo := λ H0 A0 pins s σ H Q I ⟨ρ, hs, F, x, ρ', rel, e, q⟩ => by cases e
theorem QjK {n : Nat} (ok : QS X Θ) (xk : XOk X ΘX) (e : Expr) : RzE X e (xcE n Θ ΘX e) /\ (xcE n Θ ΘX e ≠ xNo -> ∃ x p a as pos, e = .Call (.Name x p) (a :: as) [] pos) := by
 unfold xcE
 split
 ·rename_i x p a as pos
  refine ⟨?_, λ _ => ⟨x, p, a, as, pos, rfl⟩⟩
  split
  ·rename_i hg
   obtain ⟨g1, g2, g3⟩ := Qb1 ok.toCtxB hg
   split
   ·rename_i r hr
    split
    ·rename_i fs hfs
     obtain ⟨k, f, fd, ps, F1, F2, F3, F4, F5, F6⟩ := xk.fx x r hr
     obtain ⟨s1, s2⟩ := callArgs (X := X) hfs rfl pos
     exact QqX F1 F2 g1 F3 F4 F5 xk.ex F6 ((QbP n).A X Θ _ fs ok hfs) g2 s1 s2
    ·exact Qh4
   ·exact Qh4
  ·exact Qh4
 ·exact ⟨Qh4, λ h => absurd rfl h⟩
structure QsJ (n : Nat) : Prop where
 X : ∀ X Θ ΘX st f, QS X Θ -> XOk X ΘX -> Qhw n Θ ΘX st = some f -> Rz X st f
 Xs : ∀ X Θ ΘX sts f, QS X Θ -> XOk X ΘX -> Qcy n Θ ΘX sts = some f -> RzS X sts f
theorem QsF {n : Nat} (ih : QsJ n) : ∀ X Θ ΘX st f, QS X Θ -> XOk X ΘX -> Qhw (n + 1) Θ ΘX st = some f -> Rz X st f := by
 intro X Θ ΘX st f ok xk h
 have hN : X.N.Nodup := by rw [ok.N]; exact ok.nd
 rw [Qhw.eq_def] at h
 dsimp only at h
 split at h
 ·rename_i x np a cpos pos
  split at h
  ·rename_i hc
   simp only [Zf] at hc
   obtain ⟨fs, h1, rfl⟩ := Zb.mp h
   obtain ⟨g1, g2, g3⟩ := Qb1 ok.toCtxB hc.1
   obtain ⟨s1, s2⟩ := callArgs (X := X) h1 rfl pos
   exact QoE ok.calm g1 (xk.cl x (by simpa using hc.2)) g2 ((QbP n).A X Θ _ fs ok h1) s1
  ·cases h
 ·rename_i e pos
  cases h
  obtain ⟨h1, h2⟩ := QjK (n := n) ok xk e
  by_cases hz : xcE n Θ ΘX e = xNo
  ·rw [hz]; exact Ql2
  ·obtain ⟨x, p, a, as, pos', rfl⟩ := h2 hz
   exact QqV h1 rfl
 ·rename_i e pos
  cases h
  exact QrX (QjK (n := n) ok xk e).1
 ·rename_i x p e pos
  obtain ⟨i, hi, rfl⟩ := Zb.mp h
  obtain ⟨g1, g2, g3⟩ := QcQ ok.toCtxB hi
  obtain ⟨h1, h2⟩ := QjK (n := n) ok xk e
  by_cases hz : xcE n Θ ΘX e = xNo
  ·rw [hz]; exact Ql2
  ·obtain ⟨x, p, a, as, pos', rfl⟩ := h2 hz
   exact Qtb hN g1 g2 g3 h1 (QdH rfl)
 ·rename_i c a b pos
  obtain ⟨g, h1, h⟩ := bind1 h
  obtain ⟨fa, fb, h2, h3, rfl⟩ := QN h
  exact QtW ((QbP n).T X Θ c g ok h1) (ih.Xs X Θ ΘX a fa ok xk h2) (ih.Xs X Θ ΘX b fb ok xk h3)
 ·rename_i tg iter body pos
  obtain ⟨t, h1, h⟩ := bind1 h
  obtain ⟨fi, h2, h⟩ := bind1 h
  obtain ⟨fb, fx, h3, h4, rfl⟩ := QN h
  obtain ⟨i1, i2⟩ := (QbP n).I X Θ tg iter fi ok h2
  exact Qs3 ok.pass ok.calm i1 (QhG ok h1) ((Qfr n).Ss X Θ body fb ok h3) (ih.Xs X Θ ΘX body fx ok xk h4) i2
 ·cases h
  exact Ql2
theorem Qjq : ∀ n, QsJ n
 | 0 => ⟨λ _ _ _ _ _ _ _ h => (by rw [Qhw.eq_def] at h; cases h), λ _ _ _ _ _ _ _ h => (by rw [Qcy.eq_def] at h; cases h)⟩
 | n + 1 => by
  have ih := Qjq n
  refine ⟨QsF ih, λ X Θ ΘX sts f ok xk h => ?_⟩
  rw [Qcy.eq_def] at h
  dsimp only at h
  split at h
  ·cases h; exact QqQ
  ·rename_i st r
   obtain ⟨fs, h1, h⟩ := bind1 h
   obtain ⟨fx, fr, h2, h3, rfl⟩ := QN h
   exact QoQ ((Qfr n).S X Θ st fs ok h1) (ih.X X Θ ΘX st fx ok xk h2) (ih.Xs X Θ ΘX r fr ok xk h3)
end
noncomputable def Qbo (k : Nat) (f : DX) : List D -> Option Str := λ ds => (f (Qb7 k ds)).map (·.1)
section
variable (P : Program) (w : World) (K : PySem.W.Frag) (mg : Str -> Option Value) (base : Heap)
def Qd9 (k : Nat) (x : Str) (r : Nat × (List D -> Option Str)) : Prop := ∃ f fd ps, Qbe P w K mg base (CXR P w) k f fd ps (spX K r.1 r.2) /\ mg x = some (.ref f) /\ PySem.W.keepIn K (.ref f) = true /\ Binds K fd ps [] /\ ps.length = r.1
def Qde (k : Nat) (Γx : List (Str × (Nat × (List D -> Option Str)))) : Prop := ∀ x r, look x Γx = some r -> Qd9 P w K mg base k x r
end
section
variable {P : Program} {w : World} {K : PySem.W.Frag} {mg : Str -> Option Value} {base : Heap}
theorem Qde.nil {k : Nat} : Qde P w K mg base k [] := λ x r h => by cases h
theorem Qd9.mono {j k : Nat} {x : Str} {r : Nat × (List D -> Option Str)} (h : Qd9 P w K mg base j x r) (hk : j <= k) : Qd9 P w K mg base k x r := by
 obtain ⟨f, fd, ps, h1, h2⟩ := h
 exact ⟨f, fd, ps, h1.mono hk, h2⟩
theorem Qde.mono {j k : Nat} {Γ : List (Str × (Nat × (List D -> Option Str)))} (t : Qde P w K mg base j Γ) (hk : j <= k) : Qde P w K mg base k Γ := λ x r e => (t x r e).mono hk
theorem Qde.cons {k : Nat} {Γ : List (Str × (Nat × (List D -> Option Str)))} {x : Str} {r : Nat × (List D -> Option Str)} (t : Qde P w K mg base k Γ) (h : Qd9 P w K mg base (k + 1) x r) : Qde P w K mg base (k + 1) ((x, r) :: Γ) := λ y q e => by
 unfold look at e
 split at e
 ·rename_i z; cases e; subst z; exact h
 ·exact (t y q e).mono (ZI _)
theorem Qa1.up {j k : Nat} {Γ : List (Str × FnR)} (t : Qa1 P w K mg base j Γ) (hk : j <= k) : Qa1 P w K mg base k Γ := λ x r e => (t x r e).mono hk
theorem QiB {h : Heap} {x : Str} {st : Stmt} {ps : List Str} {k n : Nat} {Γ : List (Str × FnR)} {Γx : List (Str × (Nat × (List D -> Option Str)))} {cls : List Str} {cs : List (Str × Int)} {g : DX} (X : K.In h) (G : h.Ns mainGlobals mg) (F : Fact K x st) (S : Qa6 (namesOf (Qh st)) ps (Qh st)) (B : QL x st ps) (M : QcW mg cs) (tab : Qa1 P w K mg base k Γ) (tabx : Qde P w K mg base k Γx)
  (hcl : ∀ x ∈ cls, Qfm K x) (hc : Qcy n (Qc1 st Γ cs) ⟨Γx, cls⟩ (QZ st) = some g) : Qd9 P w K mg base (k + 1) x (ps.length, Qbo (namesOf (Qh st)).length g) := by
 obtain ⟨f, fd, Fn, a⟩ := F.ex
 refine ⟨f, fd, ps, ?_, Zam X G a, Fn.kp, Fn.binds (B ·), rfl⟩
 obtain ⟨oc, od, kV, doc, pm, an, cdv, ct, osl, rfl, lk, hcd⟩ := Fn.ex
 refine Qjv lk hcd S (QlH rfl) λ A outer s H vs Q E hr hsp => ?_
 obtain ⟨ds, L, y, rps, hl, hd, hE⟩ := hsp
 have ok : QS (Qc5 (CXR P w) P w K mg base (namesOf (Qh st)) x (Qh st) f cdv A outer s H E) (Qc1 st Γ cs) := Qil (CX := CXR P w) (E := E) S M tab hr PassesOwn.leaving
 have xk : XOk (Qc5 (CXR P w) P w K mg base (namesOf (Qh st)) x (Qh st) f cdv A outer s H E) ⟨Γx, cls⟩ := ⟨rfl, rfl, rfl, λ z r e => by
  obtain ⟨f', fd', ps', h1, h2, h3, h4, h5⟩ := tabx z r e
  exact ⟨k, f', fd', ps', h1, hr, h2, h3, h4, h5⟩, hcl⟩
 refine ⟨_, (Qjq n).Xs _ _ _ _ g ok xk hc H L, ?_⟩
 obtain ⟨F0, rel⟩ := QdD (N := namesOf (Qh st)) rps
 obtain ⟨⟨y', ρ'⟩, e1, e2⟩ := Zb.mp hd
 cases e2
 exact ⟨_, [], F0, y', ρ', rel, e1, λ C ea s' hC T => QfL rfl rfl rfl rfl rfl rfl rfl T λ H' sm => hE C H' hC sm⟩
end
end HS
namespace HS
open PySem PySem.Spec L2 PyProof.Rows
section
variable {X : Cx} {pins : List (Addr × Obj)} {σ : L2.St} {H : Hp} {s s' : Shared} {B : Heap}
theorem QiV {h h' : Heap} {c : Addr} {v : Option Value} (up : h.UpToSlots h') (z : h.IsCell c v) : h'.IsCell c v := by
 obtain ⟨o, e, d⟩ := z
 obtain ⟨sl, e'⟩ := up c o e λ vs q => by rw [d] at q; cases q
 exact ⟨_, e', d⟩
theorem QhH (I : Inv X pins σ H s) (ho : s'.os = s.os) (hg : AllBare s'.gens) (hx : X.ex = []) (b1 : B.StaysIn s.heap) (b2 : B.StaysIn s'.heap) (up : s.heap.UpToSlots s'.heap) (cov : Cov H B)
  (old : ∀ b o, X.s₀.heap.get? b = some o -> b ∉ X.fs -> ∃ o', B.get? b = some o') (pb : ∀ p ∈ X.pn ++ pins, ∃ o, B.get? p.1 = some o) : Inv X pins σ H s' where
 ok := I.ok
 os := ho.trans I.os
 bare := hg
 base := by
  have hb := I.base
  rw [hx] at hb ⊢
  exact QjA hb b1 b2 up old (λ b o e hb => QhK I.ok e hb) I.ok.frf
 loc := by
  obtain ⟨m, hn, hl⟩ := I.loc
  refine ⟨m, up.ns hn, λ i x v e1 e2 e3 => ?_⟩
  obtain ⟨u, r, q⟩ := hl i x v e1 e2 e3
  refine ⟨u, r, ?_⟩
  rcases q with q | ⟨k, c, e, z⟩
  ·exact .inl q
  ·exact .inr ⟨k, c, e, QiV up z⟩
 cell := λ x c e => by
  obtain ⟨v, z⟩ := I.cell x c e
  exact ⟨v, QiV up z⟩
 free := I.free
 freeC := I.freeC
 pin := λ p hp => by
  obtain ⟨e, n, ne, nf, d⟩ := I.pin p hp
  obtain ⟨o, eo⟩ := pb p hp
  have := b1 _ _ eo
  rw [e] at this
  cases this
  exact ⟨b2 _ _ eo, n, ne, nf, d⟩
 hok := QiL I.hok b1 b2 cov
 len := I.len
theorem Qrr {ea C : Addr} {a0 : Value} (I : Inv X pins σ H s) (hx : X.ex = []) (fl : Heap.FlyingW B X.stack ea (.ref C) a0 s.heap) (cov : Cov H B) (old : ∀ b o, X.s₀.heap.get? b = some o -> b ∉ X.fs -> ∃ o', B.get? b = some o')
  (pb : ∀ p ∈ X.pn ++ pins, ∃ o, B.get? p.1 = some o) : H ea = none /\ Inv X pins σ (upd H ea (.ext (QcR ea C))) s := by
 obtain ⟨oe, vs, he, hc, hd, _⟩ := fl.first
 have ne : ∀ {b o}, B.get? b = some o -> b ≠ ea := λ {b o} e z => by rw [z, fl.2.1] at e; cases e
 have hn : H ea = none := by
  cases q : H ea with
  | none => rfl
  | some u => obtain ⟨o, e⟩ := cov ea u q; exact absurd rfl (ne e)
 have nd : ∀ {b o}, s.heap.get? b = some o -> (∀ vs, o.data ≠ .fields vs) -> b ≠ ea := λ {b o} e h z => by
  rw [z, he] at e
  cases e
  exact h vs hd
 have tr : ∀ b u, H b = some u -> upd H ea (.ext (QcR ea C)) b = some u := λ b u e => by
  obtain ⟨o, eo⟩ := cov b u e
  rw [QE (ne eo)]; exact e
 refine ⟨hn, I.ok, I.os, I.bare, ⟨I.base.keep, I.base.slot, λ b o e n hxx => ?_, I.base.there, λ b xs q => tr _ _ (I.base.tups b xs q), λ b o u q => tr _ _ (I.base.frzs b o u q), λ b ps q => ?_⟩, I.loc, I.cell, ?_, λ x c e => ?_, λ p hp => ?_, λ b u e => ?_, I.len⟩
 ·rw [QE]
  ·exact I.base.free b o e n hxx
  ·by_cases hb : b ∈ X.fs
   ·obtain ⟨sl, e1⟩ := I.base.slot b o e n hb hxx
    exact nd e1 λ vs q => QhK I.ok e hb vs q
   ·obtain ⟨o', e1⟩ := old b o e hb
    exact ne e1
 ·obtain ⟨more, q⟩ := I.base.tbls b ps q
  exact ⟨more, tr _ _ q⟩
 ·rw [QE]
  ·exact I.free
  ·obtain ⟨m, ⟨o, es, ep, e, d, _⟩, _⟩ := I.loc
   exact nd e λ vs q => by rw [d] at q; cases q
 ·rw [QE]
  ·exact I.freeC x c e
  ·obtain ⟨v, o, eo, d⟩ := I.cell x c e
   exact nd eo λ vs q => by rw [d] at q; cases q
 ·obtain ⟨e, n, ne', nf, d⟩ := I.pin p hp
  obtain ⟨o, eo⟩ := pb p hp
  exact ⟨e, by rw [QE (ne eo)]; exact n, ne', nf, d⟩
 ·by_cases hb : b = ea
  ·subst hb
   rw [Qar] at e
   cases e
   refine ⟨⟨oe, vs, he, hc, hd⟩, ⟨oe, he⟩, λ h1 h2 ⟨o, w, e1, e2, e3⟩ k => ⟨o, w, k _ e1, e2, e3⟩⟩
  ·rw [QE hb] at e
   exact (I.hok b u e).QeF (λ c v _ q => q) (λ c q => tr _ _ q) λ c xs q => tr _ _ q
theorem Qhp {M : Model} {A : Around} {E : Value -> Shared -> Prop} {i : Nat} {x : Str} {pos : Pos} {Q : Unit -> Shared -> Prop} (I : Inv X pins σ H s) (hN : X.N.Nodup) (hi : X.N[i]? = some x) (hx : X.env.scope.names.lookup x = some .local)
  (h : ∀ s', Inv X pins (σ.set i none) H s' -> Q () s') : wpAny M A (do bindName X.env x .none; unbindBehindTheSuite X.env x pos) Q E s := by
 refine wpAny_bind (wpAny_bindName (Qfu (v := .non) I hN hi (.inl hx) rfl (λ s1 I1 => ?_) (.inr hx)))
 have hcls : (X.env.scope.kind == .class || (X.env.scope.kind == .module && X.env.locals != X.env.globals)) = false := by rw [I.ok.kind]; rfl
 have hiσ : i < σ.length := by rw [I.len]; exact (Zg.mp hi).1
 obtain ⟨m, hn, hl⟩ := id I1.loc
 obtain ⟨u, _, q⟩ := hl i x .non hi (Zt hiσ) (.inl hx)
 have hm : m x = some u := by
  rcases q with ⟨_, e⟩ | ⟨k, _⟩
  ·exact e
  ·have hx' : X.env.kindOf x = some .local := hx
   rcases k with k | k <;> rw [hx'] at k <;> cases k
 unfold unbindBehindTheSuite
 refine wpAny_onRaise (wpAny_unbindName_local hx hn hm hcls λ h' u' hn' hs => h _ ?_)
 have cne := I1.cne
 obtain ⟨oL, _, _, hoL, _⟩ := id hn
 refine ⟨I1.ok, I1.os, I1.bare, ⟨λ b o e n hb hx => ?_, λ b o e n hb hx => ?_, I1.base.free, λ b o e hx => ?_, I1.base.tups, I1.base.frzs, I1.base.tbls⟩, ⟨_, hn', λ j y v' e1 e2 e3 => ?_⟩, λ y c e => ?_, I1.free, I1.freeC, λ p hp => ?_, λ b ob e => ?_, by simpa using I1.len⟩
 ·exact (hs.2 b (ZH (Zp (Zo e) I.ok.above))).trans (I1.base.keep b o e n hb hx)
 ·obtain ⟨sl, e1⟩ := I1.base.slot b o e n hb hx
  exact ⟨sl, (hs.2 b (ZH (Zp (Zo e) I.ok.above))).trans e1⟩
 ·obtain ⟨o', e1⟩ := I1.base.there b o e hx
  exact ⟨o', (hs.2 b (ZH (Zp (Zo e) I.ok.above))).trans e1⟩
 ·by_cases hj : j = i
  ·subst hj
   rw [Zt hiσ] at e2
   cases e2
  ·rw [Zk (Ne.symm hj)] at e2
   have e2' : (σ.set i (some V.non))[j]? = some (some v') := by rw [Zk (Ne.symm hj)]; exact e2
   obtain ⟨u1, r1, q1⟩ := hl j y v' e1 e2' e3
   refine ⟨u1, r1, ?_⟩
   rcases q1 with ⟨k, e⟩ | ⟨k, c, e, z⟩
   ·refine .inl ⟨k, ?_⟩
    have : y ≠ x := λ e => hj (Qg8 hN e1 (e ▸ hi))
    simp [this, e]
   ·exact .inr ⟨k, c, e, z.sameBut hs (cne y c e)⟩
 ·obtain ⟨w', z⟩ := I1.cell y c e
  exact ⟨w', z.sameBut hs (cne y c e)⟩
 ·obtain ⟨e, n, ne, nf, d⟩ := I1.pin p hp
  exact ⟨(hs.2 p.1 ne).trans e, n, ne, nf, d⟩
 ·refine (I1.hok b ob e).QeF (λ c w' hc q => (hs.2 c ?_).trans q) (λ _ q => q) λ _ _ q => q
  rintro rfl
  have hfree := I1.free
  rcases hc with rfl | hc
  ·rw [hfree] at e; cases e
  ·rw [hfree] at hc; cases hc
end
end HS
namespace HS
open PySem PySem.Spec L2 PyProof.Rows
noncomputable abbrev inH (X : Cx) (ea : Addr) : Cx := { X with A := X.A.mark (some (.ref ea)), calm := false, xe := λ _ _ => False }
def Fly (X : Cx) (pins : List (Addr × Obj)) (H : Hp) (ea C : Addr) (s : Shared) : Prop := ∃ B a0, Heap.FlyingW B X.stack ea (.ref C) a0 s.heap /\ Cov H B /\ (∀ b o, X.s₀.heap.get? b = some o -> b ∉ X.fs -> ∃ o', B.get? b = some o') /\ ∀ p ∈ X.pn ++ pins, ∃ o, B.get? p.1 = some o
section
variable {X : Cx} {pins : List (Addr × Obj)} {σ : L2.St} {H : Hp} {s s' : Shared} {B : Heap} {ea C : Addr}
theorem _root_.L2.Inv.inH (I : Inv X pins σ H s) : Inv (HS.inH X ea) pins σ H s :=
 ⟨⟨I.ok.mod, I.ok.kind, I.ok.glob, I.ok.blt, I.ok.above, I.ok.inj, I.ok.has, I.ok.cab, λ z => (by cases z), I.ok.frames, I.ok.stk, I.ok.exf, I.ok.bs, I.ok.bsz, I.ok.noex, I.ok.exfs, I.ok.QcG, I.ok.frf⟩, I.os, I.bare, I.base, I.loc, I.cell, I.free, I.freeC, I.pin, I.hok, I.len⟩
theorem _root_.L2.Inv.QeP (ok : X.Ok) (I : Inv (HS.inH X ea) pins σ H s) : Inv X pins σ H s := ⟨ok, I.os, I.bare, I.base, I.loc, I.cell, I.free, I.freeC, I.pin, I.hok, I.len⟩
theorem QkZ {E : Value -> Shared -> Prop} {Qk : Shared -> Prop} {H0 : Hp} {A0 : List Addr} {hs : List (V × D × List Addr)} {ρ : En} (T : Qfa X H0 A0 hs ρ (.ref C) ea s') (hx : X.ex = []) (hst : X.stack = X.env :: X.outer) (hf : X.env.frame = some X.env.locals)
  (k : ∀ pins σ H F s'', Rel X.K H0 A0 hs ρ F σ H -> Inv X pins σ H s'' -> Fly X pins H ea C s'' -> Qk s'') :
  wpAny (model X.prog X.w) X.A (noteFrame (.ref ea) X.env) (λ _ s₂ => wpAny (model X.prog X.w) X.A (setFlight (.ref ea) none) (λ _ s₃ => Qk s₃) E s₂) E s' := by
 obtain ⟨pins, σ, H, F, rel, ⟨sg, args, I, hm, ho, hg⟩ | ⟨B, a0, I, fl, cov, old, pb⟩⟩ := T
 ·obtain ⟨B, b1, b2, cov, old, pb⟩ := Qke I hx
  have hfr := I.ok.frames
  rw [hst] at hfr b2
  obtain ⟨t, he, htn, ht⟩ := hm.there
  have fresh : B.get? ea = none := by
   cases q : B.get? ea with
   | none => rfl
   | some o => have := b1 _ _ q; rw [hm.new] at this; cases this
  have note : ∀ Q : Unit -> Shared -> Prop, (∀ h', Heap.NotedW B (X.env :: X.outer) ea (.ref C) (.ref t) (rawInt X.env.locals) s'.heap h' -> Q () { s' with heap := h' }) -> wpAny (model X.prog X.w) X.A (noteFrame (.ref ea) X.env) Q E s' := λ Q hq => by
   unfold noteFrame
   simp only [hf]
   refine wpAny_bind (wpAny_field (x := .none) he rfl rfl ?_)
   rw [if_neg (by decide)]
   exact wpAny_entryW (a0 := .ref t) hfr (b2.of_keeps λ b o hb _ => ⟨o, hm.keeps b o hb, rfl⟩) hf he (λ b o hb => hm.keeps b o (b1 b o hb)) fresh rfl (by show 1 < 6; decide) rfl hq
  refine note _ λ h1 ⟨n1, n2, n3, n4⟩ => ?_
  refine wpAny_landsW (s := { s' with heap := h1 }) (L := X.env.locals) ⟨n1, fresh, n2, n3⟩ λ h2 fl up => ?_
  have up' : sg.heap.UpToSlots h2 := ((Heap.UpToSlots.of_keeps hm.keeps).trans n4).trans up
  refine k pins σ H F _ rel (QhH I ho (by show AllBare s'.gens; rw [hg]; exact I.bare) hx b1 fl.1 up' cov old pb) ⟨B, _, by rw [hst]; exact fl, cov, old, pb⟩
 ·have hfr := I.ok.frames
  rw [hst] at hfr fl
  refine wpAny_looks_onW hfr hf fl λ h1 hd up1 => ?_
  refine wpAny_landsW (s := { s' with heap := h1 }) hd λ h2 fl2 up2 => ?_
  exact k pins σ H F _ rel (QhH I rfl I.bare hx fl.1 fl2.1 (up1.trans up2) cov old pb) ⟨B, a0, by rw [hst]; exact fl2, cov, old, pb⟩
def Ql9 (K : PySem.W.Frag) (sub : Str -> Str -> Option Bool) : Prop := ∀ x y b, sub x y = some b -> ∃ C c, ClsAt K x C /\ PySem.W.KtsName K y c /\ PySem.W.exmOne K (.ref C) c = some b
theorem Qnd {E : Value -> Shared -> Prop} {y : Str} {c : Value} {np : Pos} {Q : Value -> Shared -> Prop} (I : Inv X pins σ H s) (hg : Gl X y) (hdb : (y == ("__debug__" : Str)) = false) (k : PySem.W.KtsName X.K y c) (h : Q c s) : wpAny (model X.prog X.w) X.A (eval (.Name y np) X.env) Q E s := by
 rcases k with k | ⟨k1, k2, k3⟩
 ·exact Qdm I hg (Zam I.ok.mod.kin I.ok.mod.glob k) h hdb
 ·exact Qc8 I hg (PySem.W.mg_none_of I.ok.mod.kin I.ok.mod.glob k1) k2 h k3 hdb
theorem QcS {K : PySem.W.Frag} {x : Str} {C C' : Addr} (a : ClsAt K x C) (b : ClsAt K x C') : C = C' := by
 unfold ClsAt at a b
 rw [a] at b
 exact Value.ref.inj (Option.some.inj (Option.some.inj b))
theorem Rel.QiI {K : PySem.W.Frag} {H0 : Hp} {A0 : List Addr} {hs : List (V × D × List Addr)} {ρ : En} {F : Nat -> List Addr} {i : Nat} (r : Rel K H0 A0 hs ρ F σ H) : Rel K H0 A0 hs (ρ.set i none) F (σ.set i none) H := by
 have w := r.weak (Qi0 (ρ := ρ) i)
 refine ⟨by simpa using r.len, λ j d b e => ?_, w.own, w.src, w.held, w.same⟩
 obtain ⟨v, h1, h2⟩ := w.val j d b e
 refine ⟨v, ?_, h2⟩
 by_cases hj : i = j
 ·subst hj
  exfalso
  by_cases hl : i < ρ.length
  ·rw [Zt hl] at e; cases e
  ·rw [ZC (by simp; omega)] at e; cases e
 ·rw [Zk hj]; exact h1
noncomputable def Qtc (i : Nat) : Out -> Out
 | .nx ρ => .nx (ρ.set i none)
 | .bk ρ => .bk (ρ.set i none)
 | .ct ρ => .ct (ρ.set i none)
 | .rt d fr => .rt d fr
noncomputable abbrev Hd := Str × Option Nat × DS
noncomputable def Qkb (sub : Str -> Str -> Option Bool) (x : Str) (ρ : En) : List Hd -> Option Out
 | [] => none
 | h :: r => (sub x h.1).bind λ b => if b = true then (match h.2.1 with
  | none => h.2.2 ρ
  | some i => (h.2.2 (ρ.set i (some (.exc x, true)))).map (Qtc i)) else Qkb sub x ρ r
noncomputable def QfC (f : DS) (fx : DX) (sub : Str -> Str -> Option Bool) (hl : List Hd) : DS := λ ρ => match f ρ with
 | some o => some o
 | none => (fx ρ).bind λ q => Qkb sub q.1 q.2 hl
inductive Qf8 (X : Cx) : List ExceptHandler -> List Hd -> Prop
 | nil : Qf8 X [] []
 | bare {y : Str} {np pos : Pos} {b₀ : Stmt} {suite : List Stmt} {r : List ExceptHandler} {hr : List Hd} {f : DS} (hg : Gl X y) (hdb : (y == ("__debug__" : Str)) = false) (hS : ∀ ea, SS (inH X ea) (b₀ :: suite) f) (t : Qf8 X r hr) :
   Qf8 X (.ExceptHandler (some (.Name y np)) none (b₀ :: suite) pos :: r) ((y, none, f) :: hr)
 | as {y n : Str} {np pos : Pos} {b₀ : Stmt} {suite : List Stmt} {r : List ExceptHandler} {hr : List Hd} {f : DS} {i : Nat} (hg : Gl X y) (hdb : (y == ("__debug__" : Str)) = false) (hi : X.N[i]? = some n) (hl : X.env.scope.names.lookup n = some .local) (hS : ∀ ea, SS (inH X ea) (b₀ :: suite) f) (t : Qf8 X r hr) :
   Qf8 X (.ExceptHandler (some (.Name y np)) (some n) (b₀ :: suite) pos :: r) ((y, some i, f) :: hr)
theorem _root_.L2.SP.QeP {Dd : Ends} {f : Flow} (ok : X.Ok) (h : SP (HS.inH X ea) pins Dd f s) : SP X pins Dd f s := by
 cases f with
 | next => obtain ⟨σ', H', I, q⟩ := h; exact ⟨σ', H', I.QeP ok, q⟩
 | brk => obtain ⟨σ', H', I, q⟩ := h; exact ⟨σ', H', I.QeP ok, q⟩
 | cont => obtain ⟨σ', H', I, q⟩ := h; exact ⟨σ', H', I.QeP ok, q⟩
 | ret u => obtain ⟨v, σ', H', I, r, q⟩ := h; exact ⟨v, σ', H', I.QeP ok, r, q⟩
theorem Qn3 {sub : Str -> Str -> Option Bool} {x : Str} {H0 : Hp} {A0 : List Addr} {hs : List (V × D × List Addr)} {ρ : En} {Dd : Ends} {o : Out} (hN : X.N.Nodup) (hx : X.ex = []) (hsub : Ql9 X.K sub) (hC : ClsAt X.K x C) :
  ∀ {hds : List ExceptHandler} {hl : List Hd}, Qf8 X hds hl -> ∀ {F : Nat -> List Addr} {σ : L2.St} {H : Hp} {s : Shared}, Inv X pins σ H s -> Rel X.K H0 A0 hs ρ F σ H -> Fly X pins H ea C s -> Qkb sub x ρ hl = some o -> Fits X.K H0 A0 hs Dd o →
   wpAny (model X.prog X.w) X.A (handleBy (.ref ea) X.env hds) (SP X pins Dd) X.xe s := by
 intro hds hl h
 have test : ∀ {y : Str} {np pos : Pos} {nm : Option Str} {b₀ : Stmt} {suite : List Stmt} {r : List ExceptHandler} {b : Bool} {σ : L2.St} {H : Hp} {s : Shared}, Gl X y -> (y == ("__debug__" : Str)) = false -> sub x y = some b -> Inv X pins σ H s -> Fly X pins H ea C s →
   (b = true -> codeAny (model X.prog X.w) (X.A.mark (some (.ref ea))) (.handlers (.ref ea) [.ExceptHandler none nm (b₀ :: suite) pos] X.env) (λ r s₂ => match r with
     | .ok f => (match nm with
      | none => SP X pins Dd f s₂
      | some n => wpAny (model X.prog X.w) X.A (do bindName X.env n .none; unbindBehindTheSuite X.env n pos) (λ _ s₃ => SP X pins Dd f s₃) X.xe s₂)
     | .error x => cameBackBy (model X.prog X.w) X.A X.env X.xe x s₂) s) →
   (b = false -> wpAny (model X.prog X.w) X.A (handleBy (.ref ea) X.env r) (SP X pins Dd) X.xe s) -> wpAny (model X.prog X.w) X.A (handleBy (.ref ea) X.env (.ExceptHandler (some (.Name y np)) nm (b₀ :: suite) pos :: r)) (SP X pins Dd) X.xe s := by
  intro y np pos nm b₀ suite r b σ H s hg hdb e1 I fly ht hf
  obtain ⟨C', c, k1, k2, k3⟩ := hsub x y b e1
  cases QcS hC k1
  obtain ⟨B, a0, fl, _⟩ := fly
  obtain ⟨ob, hob, hc⟩ := fl.there
  have LT : PySem.W.Looks (model X.prog X.w) s.heap (typeOf (.ref ea)) (.ref C) := hc ▸ (PySem.W.Looks.ld hob).andThen .now
  refine wpAny_handleBy_cons (codeAny_handlers_test (Qnd (X := HS.inH X ea) (I.inH (ea := ea)) hg hdb k2 ((PySem.W.exm_one I.kIn LT k3).here ?_))) (by intro q; cases q)
  cases b with
  | true => exact ht rfl
  | false => exact hf rfl
 induction h with
 | nil => intro F σ H s I rel fly e q; cases e
 | @bare y np pos b₀ suite r hr f hg hdb hS t ih =>
  intro F σ H s I rel fly e q
  obtain ⟨b, e1, e⟩ := bind1 e
  refine test hg hdb e1 I fly (λ hb => ?_) λ hb => ?_
  ·subst hb
   rw [if_pos rfl] at e
   obtain ⟨B, a0, fl, cov, old, pb⟩ := fly
   refine codeAny_handlers_suite (lands_againW fl λ h' fl' up => ?_)
   have I1 := QhH (s' := { s with heap := h' }) I rfl I.bare hx fl.1 fl'.1 up cov old pb
   exact wpAny_mono (hS ea H0 A0 pins _ σ H Dd (I1.inH (ea := ea)) ⟨ρ, hs, F, o, rel, e, q⟩) (λ f s2 hq => SP.QeP I.ok hq) λ _ _ z => z.elim
  ·subst hb
   rw [if_neg ZK] at e
   exact ih I rel fly e q
 | @as y n np pos b₀ suite r hr f i hg hdb hi hl hS t ih =>
  intro F σ H s I rel fly e q
  obtain ⟨b, e1, e⟩ := bind1 e
  refine test hg hdb e1 I fly (λ hb => ?_) λ hb => ?_
  ·subst hb
   rw [if_pos rfl] at e
   obtain ⟨o1, e2, e3⟩ := Zb.mp e
   subst e3
   obtain ⟨B, a0, fl, cov, old, pb⟩ := fly
   refine codeAny_handlers_suite_as (lands_againW fl λ h' fl' up => ?_)
   have I1 := QhH (s' := { s with heap := h' }) I rfl I.bare hx fl.1 fl'.1 up cov old pb
   obtain ⟨hn, I2⟩ := Qrr I1 hx fl' cov old pb
   have sm : QD H (upd H ea (.ext (QcR ea C))) := λ b u eb => by rw [QE (λ z => by rw [z, hn] at eb; cases eb)]; exact eb
   refine Qfu (X := HS.inH X ea) (v := .ref ea) (I2.inH (ea := ea)) hN hi (.inl hl) rfl (λ s3 I3 => ?_) (.inr hl)
   obtain ⟨F', rel'⟩ := (rel.ext sm).Quh (i := i) (d := .exc x) (v := .ref ea) (by rw [Rp]; exact ⟨⟨ea, rfl, C, hC, Qar⟩, rfl⟩) rfl
   refine wpAny_mono (hS ea H0 A0 pins _ _ _ ⟨λ σ' H' => Dd.nx (σ'.set i none) H', Dd.rt, λ σ' H' => Dd.bk (σ'.set i none) H', λ σ' H' => Dd.ct (σ'.set i none) H'⟩ I3 ⟨_, hs, F', o1, rel', e2, ?_⟩) (λ f s4 hq => ?_) λ _ _ z => z.elim
   ·cases o1 with
    | nx ρ1 => exact λ σ' H' F' rel' => q _ _ _ rel'.QiI
    | bk ρ1 => exact λ σ' H' F' rel' => q _ _ _ rel'.QiI
    | ct ρ1 => exact λ σ' H' F' rel' => q _ _ _ rel'.QiI
    | rt d fr => exact q
   ·cases f with
    | next => obtain ⟨σ', H', I4, q4⟩ := hq; exact Qhp (I4.QeP I.ok) hN hi hl λ s5 I5 => ⟨_, H', I5, q4⟩
    | brk => obtain ⟨σ', H', I4, q4⟩ := hq; exact Qhp (I4.QeP I.ok) hN hi hl λ s5 I5 => ⟨_, H', I5, q4⟩
    | cont => obtain ⟨σ', H', I4, q4⟩ := hq; exact Qhp (I4.QeP I.ok) hN hi hl λ s5 I5 => ⟨_, H', I5, q4⟩
    | ret u => obtain ⟨v, σ', H', I4, r4, q4⟩ := hq; exact Qhp (I4.QeP I.ok) hN hi hl λ s5 I5 => ⟨v, _, H', I5, r4, q4⟩
  ·subst hb
   rw [if_neg ZK] at e
   exact ih I rel fly e q
noncomputable abbrev Cx.chg (X : Cx) (xe : Value -> Shared -> Prop) (pn : List (Addr × Obj)) : Cx := { X with xe := xe, pn := pn }
theorem _root_.L2.Inv.chg {xe : Value -> Shared -> Prop} (I : Inv X pins σ H s) : Inv (Cx.chg X xe (X.pn ++ pins)) [] σ H s :=
 ⟨⟨I.ok.mod, I.ok.kind, I.ok.glob, I.ok.blt, I.ok.above, I.ok.inj, I.ok.has, I.ok.cab, I.ok.hd, I.ok.frames, I.ok.stk, I.ok.exf, I.ok.bs, I.ok.bsz, I.ok.noex, I.ok.exfs, I.ok.QcG, I.ok.frf⟩, I.os, I.bare, I.base, I.loc, I.cell, I.free, I.freeC, λ p hp => I.pin p (by simpa using hp), I.hok, I.len⟩
theorem _root_.L2.Inv.Qhs {xe : Value -> Shared -> Prop} {pins' : List (Addr × Obj)} (ok : X.Ok) (I : Inv (Cx.chg X xe (X.pn ++ pins)) pins' σ H s) : Inv X pins σ H s :=
 ⟨ok, I.os, I.bare, I.base, I.loc, I.cell, I.free, I.freeC, λ p hp => I.pin p (Zc _ hp), I.hok, I.len⟩
theorem QsO {sub : Str -> Str -> Option Bool} {body : List Stmt} {h₀ : ExceptHandler} {hds : List ExceptHandler} {hl : List Hd} {f : DS} {fx : DX} {pos : Pos} (hN : X.N.Nodup) (hx : X.ex = []) (hst : X.stack = X.env :: X.outer) (hf : X.env.frame = some X.env.locals) (hsub : Ql9 X.K sub)
  (hb : ∀ xe pn, PassesOwn (model X.prog X.w) X.A X.env xe -> SS (Cx.chg X xe pn) body f /\ RzS (Cx.chg X xe pn) body fx) (hh : Qf8 X (h₀ :: hds) hl) : S1 X (.Try body (h₀ :: hds) [] [] pos) (QfC f fx sub hl) := λ H0 A0 pins s σ H Dd I ⟨ρ, hs, F, o, rel, e, q⟩ => by
 refine wpAny_Try_except ?_
 have pass : PassesOwn (model X.prog X.w) X.A X.env (λ e s₁ => wpAny (model X.prog X.w) X.A (noteFrame e X.env) (λ _ s₂ => wpAny (model X.prog X.w) X.A (setFlight e none) (λ _ s₃ => wpAny (model X.prog X.w) X.A (handleBy e X.env (h₀ :: hds)) (SP X pins Dd) X.xe s₃) X.xe s₂) X.xe s₁) := PassesOwn.looking
 obtain ⟨b1, b2⟩ := hb _ (X.pn ++ pins) pass
 unfold QfC at e
 split at e
 ·rename_i o' eo
  cases e
  refine thn (b1 H0 A0 [] s σ H Dd I.chg ⟨ρ, hs, F, o, rel, eo, q⟩) λ fl s1 hq => ?_
  cases fl with
  | next => obtain ⟨σ', H', I1, q1⟩ := hq; exact wpAny_execs_nil ⟨σ', H', I1.Qhs I.ok, q1⟩
  | brk => obtain ⟨σ', H', I1, q1⟩ := hq; exact ⟨σ', H', I1.Qhs I.ok, q1⟩
  | cont => obtain ⟨σ', H', I1, q1⟩ := hq; exact ⟨σ', H', I1.Qhs I.ok, q1⟩
  | ret u => obtain ⟨v, σ', H', I1, r1, q1⟩ := hq; exact ⟨v, σ', H', I1.Qhs I.ok, r1, q1⟩
 ·obtain ⟨⟨x, ρ'⟩, e1, e⟩ := bind1 e
  refine thn (b2 H0 A0 [] s σ H ⟨λ _ _ => False, λ _ _ => False, λ _ _ => False, λ _ _ => False⟩ I.chg ⟨ρ, hs, F, x, ρ', rel, e1, λ C ea s' hC T => ?_⟩) λ fl s1 hq => ?_
  ·refine QkZ (X := Cx.chg X _ (X.pn ++ pins)) (E := X.xe) (Qk := λ s₃ => wpAny (model X.prog X.w) X.A (handleBy (.ref ea) X.env (h₀ :: hds)) (SP X pins Dd) X.xe s₃) T hx hst hf λ pins' σ' H' F' s'' rel' I' fly => ?_
   obtain ⟨B, a0, fl, cov, old, pb⟩ := fly
   exact Qn3 hN hx hsub hC hh (I'.Qhs I.ok) rel' ⟨B, a0, fl, cov, old, λ p hp => pb p (Zc _ hp)⟩ e q
  ·cases fl with
   | next => obtain ⟨σ', H', I1, q1⟩ := hq; exact q1.elim
   | brk => obtain ⟨σ', H', I1, q1⟩ := hq; exact q1.elim
   | cont => obtain ⟨σ', H', I1, q1⟩ := hq; exact q1.elim
   | ret u => obtain ⟨v, σ', H', I1, r1, q1⟩ := hq; exact q1.elim
end
end HS
namespace HS
open PySem PySem.Spec L2 PyProof.Rows PySem.W
structure QeH (K : Frag) (C : Addr) : Prop where
 cl : (clsIn K C).isSome = true
 ga : findIn K (.ref C) "__getattribute__" = some (some (.builtin "BaseException.__getattribute__"))
 hk : findIn K (.ref C) "__getattr__" = some none
 ca : findIn K (.ref C) "__class__" = some (some (.builtin "object.__class__"))
 mo : mroIn K C (.type "object") = some true
 be : subIn K (.ref C) (.type "BaseException") = some true
section
variable {prog : Program} {w : World} {A : Around} {E : Value -> Shared -> Prop} {s : Shared} {K : Frag} {a C : Addr}
theorem Qgd {M : Model} {h : Heap} (x : QcR a C h) : Looks M h (typeOf (.ref a)) (.ref C) := by
 obtain ⟨o, vs, e, c, _⟩ := x
 exact c ▸ (Looks.ld e).andThen .now
theorem Qqq {R : Result -> Shared -> Prop} {tp : Value} (z : QeH K C) (X : K.In s.heap) (x : QcR a C s.heap) (h : R (.ok (.ret (.ref C))) s) :
  codeAny (model prog w) A (.call (.builtin "getset_descriptor.__get__") ⟨[.builtin "object.__class__", .ref a, tp], []⟩) R s := by
 obtain ⟨hh, g, dr, t, os⟩ := s
 have T0 := Qgd (M := model prog w) x
 have T1 := looks_mroIn (M := model prog w) X z.mo
 refine codeAny_call_builtin KF.slot_gs.plain KF.entry_gs
  (KF.slot_gs.check _ _ _ _ _ _ _ _ KF.type_class (KF.args_gs _ _ _) ?_)
 unfold Builtin.«getset_descriptor.__get__» Builtin.Getset_descriptor.descrGet
 rw [dga_obj]; refine wpAny_bind (wpAny_pure ?_)
 unfold Builtin.Getset_descriptor.descrGetter Builtin.Getset_descriptor.descrCheckInstance
  Builtin.Getset_descriptor.descrNameAndClass isInstance
 simp only [KF.owner_class]
 repeat lk
 refine ⟨Code.quiet_builtin _ (by decide +kernel),
  codeAny_builtin KF.entry_class ?_⟩
 unfold Builtin.«object.__class__» shownTypeOf; repeat lk
 exact h
theorem QnX {tk : Tok} {Q : Fin -> Shared -> Prop} (z : QeH K C) (X : K.In s.heap) (x : QcR a C s.heap) (h : Q (.done (.ret (.ref C))) s) :
  wpAny (model prog w) A (Builtin.«object.__getattribute__» ⟨[.ref a, .str "__class__" tk], []⟩) Q E s := by
 obtain ⟨hh, g, dr, t, os⟩ := s
 have T0 := Qgd (M := model prog w) x
 have T1 := looks_findIn (M := model prog w) X z.ca
 have f5 := F.typeOf_object_class
 have f6 := F.slot_gs_get.lookup
 have f7 := F.slot_gs_set.lookup
 obtain ⟨o, vs, hx, hc, hd⟩ := id x
 have hT5 : (⟨hh, g, dr, t, os⟩ : Shared).TypeIs (.builtin "object.__class__") "getset_descriptor" := f5
 repeat (any_goals (first | assumption | (with_reducible refine wpAny_loadPart_at hx ?_; rw [hc]) | with_reducible refine T1.at ?_ | wp_step))
 refine Qqq z X x ?_
 repeat (any_goals (first | assumption | wp_step))
theorem Qnl {M : Model} {nameV : Value} {Q : Unit -> Shared -> Prop} (z : QeH K C) (X : K.In s.heap) (x : QcR a C s.heap) (h : Q () s) : wpAny M A (checkBuiltinCall "BaseException.__getattribute__" ⟨[.ref a, nameV], []⟩) Q E s := by
 obtain ⟨hh, g, dr, t, os⟩ := s
 have k1 : builtinKind "BaseException.__getattribute__" = some .slot := by decide +kernel
 have k2 : splitId "BaseException.__getattribute__" = some ("BaseException", "__getattribute__") := by decide +kernel
 have T0 := Qgd (M := M) x
 have T1 := looks_subIn (M := M) X z.be
 have T2 : Looks M hh (isInstance (.ref a) (.type "BaseException")) true := T0.andThen T1
 have k3 := F.args_bexc_ga (.ref a) nameV
 simp only [checkBuiltinCall, k1, k2]
 refine wpAny_bind (T2.at ?_)
 rw [if_neg (by decide)]
 have k4 : Q () ⟨hh, g, dr, t, os⟩ := h
 repeat (any_goals (first | assumption | wp_step))
theorem Qtd {tk : Tok} {Q : Value -> Shared -> Prop} (z : QeH K C) (X : K.In s.heap) (x : QcR a C s.heap) (h : Q (.ref C) s) : wpAny (model prog w) A (getAttrBy (.ref a) (.str "__class__" tk) false) Q E s := by
 obtain ⟨hh, g, dr, t, os⟩ := s
 have T0 := Qgd (M := model prog w) x
 have T1 := looks_findIn (M := model prog w) X z.ga
 have T2 := looks_findIn (M := model prog w) X z.hk
 have f3 := PySem.F.attr_ValueError.ga.bind (.ref a)
 have n2 : (Value.builtin "BaseException.__getattribute__" == Value.builtin "object.__getattribute__") = false := by decide +kernel
 have n1 : (onTheHeap (Value.ref C) && Value.builtin "BaseException.__getattribute__" == Value.builtin "object.__getattribute__") = false := by rw [n2]; rfl
 obtain ⟨o, vs, hx, hc, hd⟩ := id x
 repeat (any_goals (first | assumption | (with_reducible refine wpAny_loadPart_at hx ?_; rw [hc]) | with_reducible refine T1.at ?_ | with_reducible refine T2.at ?_ | wp_step))
 refine codeAny_call_builtin PySem.F.attr_ValueError.ga.plain F.entry_bexc_ga (Qnl z X x (QnX z X x ?_))
 have k4 : Q (.ref C) ⟨hh, g, dr, t, os⟩ := h
 repeat (any_goals (first | assumption | wp_step))
theorem Qod {Q : Option Value -> Shared -> Prop} (z : QeH K C) (X : K.In s.heap) (x : QcR a C s.heap) (h : Q (some (.ref C)) { s with toks := s.toks + 1 }) : wpAny (model prog w) A (getAttr? (.ref a) "__class__") Q E s := by
 obtain ⟨hh, g, dr, t, os⟩ := s
 have k4 : Q (some (.ref C)) ⟨hh, g, dr, t + 1, os⟩ := h
 have X' : K.In (⟨hh, g, dr, t + 1, os⟩ : Shared).heap := X
 have x' : QcR a C (⟨hh, g, dr, t + 1, os⟩ : Shared).heap := x
 unfold getAttr? getAttrBy?
 repeat (any_goals (first | assumption | with_reducible apply Qtd z X' x' | wp_step))
theorem Qj5 (z : QeH K C) : KitX K (.ref a) (.ref C) (QcR a C) where
 ty := λ _ _ _ x => Qgd x
 it := λ _ _ X _ => by
  have h0 := z.cl
  unfold clsIn at h0
  split at h0
  ·rename_i ho
   intro A' Q' E' s' k q
   unfold isType loadHead
   refine wpAny_bind ?_
   exact wpAny_loadPart (k _ _ (X _ _ ho)) (wpAny_pure q)
  ·cases h0
 ne := λ h tp dd its n sl X htp => by
  have h0 := z.cl
  refine Bool.eq_false_iff.mpr λ q => ?_
  obtain rfl : C = tp := Value.ref.inj (beq_iff_eq.mp q)
  unfold clsIn at h0
  split at h0
  ·rename_i ho
   have e := X _ _ ho
   rw [htp] at e
   cases e
  ·cases h0
 ca := λ X x k => Qod z X x k
end
end HS
namespace HS
open PySem PySem.Spec L2 PyProof.Rows
def QqN (K : PySem.W.Frag) (x y : Str) (b : Bool) : Prop := ∃ C c, ClsAt K x C /\ PySem.W.KtsName K y c /\ PySem.W.exmOne K (.ref C) c = some b /\ PySem.W.kitOne K (.ref C) c = some b /\ QeH K C
def QbR (K : PySem.W.Frag) (sub : Str -> Str -> Option Bool) : Prop := ∀ x y b, sub x y = some b -> QqN K x y b
theorem QbR.ok {K : PySem.W.Frag} {sub : Str -> Str -> Option Bool} (h : QbR K sub) : Ql9 K sub := λ x y b e => by
 obtain ⟨C, c, h1, h2, h3, _⟩ := h x y b e
 exact ⟨C, c, h1, h2, h3⟩
noncomputable def vC : Value -> V
 | .ref a => .ref a
 | .type n => .ty n
 | _ => .non
theorem QjI {K : PySem.W.Frag} {C : Addr} {c : Value} {b : Bool} (h : PySem.W.kitOne K (.ref C) c = some b) : RelV (vC c) c := by
 cases c with
 | ref a => exact rfl
 | type n => exact rfl
 | _ =>
  unfold PySem.W.kitOne at h
  split at h
  ·rename_i q; have := beq_iff_eq.mp q; cases this
  ·cases h
noncomputable def anyS (sub : Str -> Str -> Option Bool) (x : Str) : List Str -> Option Bool
 | [] => some false
 | y :: r => (sub x y).bind λ b => (anyS sub x r).map λ d => b || d
noncomputable def Qfl (sub : Str -> Str -> Option Bool) (ys : List Str) (fa : DE) : DE := λ ρ => (fa ρ).bind λ r => match r.d with
 | .exc x => (anyS sub x ys).map λ b => ⟨.bl b, true, []⟩
 | _ => none
section
variable {X : Cx} {a : Expr} {fa : DE} {p p2 pos : Pos} {sub : Str -> Str -> Option Bool}
noncomputable def QuN (K : PySem.W.Frag) : List V -> Hp -> VK -> Prop := λ xs H Q => ∃ C a y, xs = [.ref a, y] /\ H a = some (.ext (QcR a C)) /\ QeH K C ∧
 ((∃ c b, y = vC c /\ PySem.W.kitOne K (.ref C) c = some b /\ Q (.bl b) H) ∨ ∃ tp cs b, y = .ref tp /\ H tp = some (.tup (cs.map vC)) /\ (∀ c ∈ cs, RelV (vC c) c) /\ PySem.W.kitAny K (.ref C) cs = some b /\ Q (.bl b) H)
theorem Qj3 {v : V} {c c' : Value} (hv : v = vC c) (h : RelV (vC c) c) (h' : RelV v c') : c' = c := by
 subst hv
 cases c with
 | ref a => exact h'
 | type n => exact h'
 | none => cases h'; rfl
 | _ => cases h
theorem QjX : ∀ {cs : List Value} {us : List Value}, (∀ c ∈ cs, RelV (vC c) c) -> Qq (cs.map vC) us -> us = cs
 | [], _, _, .nil => rfl
 | c :: cs, _, h, .cons r t => by
  rw [Qj3 rfl (h c Zi) r, QjX (λ c hc => h c (Zd _ hc)) t]
theorem QjW : QbD X (.builtin "isinstance") (QuN X.K) := by
 intro pins s σ H xs us Q I r h
 obtain ⟨C, a, y, rfl, hH, z, h⟩ := h
 obtain ⟨u, w, rfl, ru, rw'⟩ := vals2 r
 cases (show u = Value.ref a from ru)
 have xo : QcR a C s.heap := (show Qbz X.prog X.w H s.heap a (.ext (QcR a C)) from I.hok a _ hH).1
 rcases h with ⟨c, b, rfl, k, q⟩ | ⟨tp, cs, b, rfl, ht, hr, k, q⟩
 ·cases Qj3 rfl (QjI k) rw'
  exact Zap (Qj5 z) I.kIn xo k (λ z => nomatch z) λ tk => ⟨.bl b, H, I.tok _, rfl, q⟩
 ·cases (show w = Value.ref tp from rw')
  obtain ⟨_, its, rv, o, e1, e2, n, e3⟩ := (show Qbz X.prog X.w H s.heap tp (.tup (cs.map vC)) from I.hok tp _ ht)
  have hits := QjX hr rv
  subst hits
  obtain ⟨oc, od, odat, osl⟩ := o
  dsimp only at e2 e3
  subst e2 e3
  exact PySem.W.kia_tup (Qj5 z) I.kIn xo e1 k (λ z => nomatch z) λ tk => ⟨.bl b, H, I.tok _, rfl, q⟩
theorem QmK {y : Str} {c : Value} {np : Pos} (hg : Gl X y) (hdb : (y == ("__debug__" : Str)) = false) (k : PySem.W.KtsName X.K y c) (hr : RelV (vC c) c) : PE X (.Name y np) (tC (vC c)) := λ pins s σ H Q I h => Qnd I hg hdb k ⟨vC c, H, I, hr, h⟩
theorem QqA {y : Str} (hsub : QbR X.K sub) (hg : Gl X "isinstance") (hm : X.mg "isinstance" = none) (hy : Gl X y) (hdb : (y == ("__debug__" : Str)) = false) (ha : SE X a fa) (he : starEach [a, .Name y p2] X.env = (false, eval a X.env) :: starEach [.Name y p2] X.env) :
  SE X (.Call (.Name "isinstance" p) [a, .Name y p2] [] pos) (Qfl sub [y] fa) := λ H0 A0 pins s σ H Q I ⟨ρ, hs, F, r', rel, e, q⟩ => by
 obtain ⟨r, e1, e⟩ := bind1 e
 split at e
 ·rename_i x hd
  obtain ⟨b, eb, rfl⟩ := Zb.mp e
  have eb' : sub x y = some b := by
   unfold anyS at eb
   obtain ⟨b', h1, h2⟩ := bind1 eb
   cases b' with
   | true => cases h2; exact h1
   | false => cases h2; exact h1
  obtain ⟨C, c, k1, k2, k3, k4, k5⟩ := hsub x y b eb'
  refine Qft QjW hg hm Zav (QaV (ha H0 A0) (QaV (QmK hy hdb k2 (QjI k4)) QcL) he) (by decide) (by decide) he (by rfl) pins s σ H Q I ?_
  refine ⟨ρ, hs, F, r, rel, e1, λ v H1 G p => ?_⟩
  have rp := p.rp
  rw [hd, Rp] at rp
  obtain ⟨⟨ea, rfl, C', hC', hH⟩, rfl⟩ := rp
  cases QcS k1 hC'
  exact ⟨C, ea, _, rfl, hH, k5, .inl ⟨c, b, rfl, k4, q _ H1 [] (.flat p.same .Qbl)⟩⟩
 ·cases e
theorem QmJ {K : PySem.W.Frag} (hK : X.K = K) : ∀ {ys : List Str} {es : List Expr} {cs : List Value}, es.map Qec = ys.map some -> (∀ y ∈ ys, Gl X y /\ (y == ("__debug__" : Str)) = false) -> Paired (λ y c => PySem.W.KtsName K y c /\ RelV (vC c) c) ys cs →
  PA X es (λ σ H Q => Q (cs.map vC) H)
 | [], es, _, he, _, .nil => by
  have : es = [] := by simpa using he
  subst this
  exact QcL
 | y :: ys, [], _, he, _, _ => by simp at he
 | y :: ys, e :: es, _, he, hg, .cons r t => by
  simp only [Zu, List.cons.injEq] at he
  cases e with
  | Name z p =>
   cases he.1
   obtain ⟨g1, g2⟩ := hg y Zi
   subst hK
   exact (QaV (QmK g1 g2 r.1 r.2) (QmJ rfl he.2 (λ y hy => hg y (Zd _ hy)) t) rfl)
  | _ => cases he.1
theorem QmI {K : PySem.W.Frag} {x : Str} {C : Addr} (hsub : QbR K sub) (hC : ClsAt K x C) : ∀ (ys : List Str) (b : Bool), anyS sub x ys = some b -> ∃ cs, Paired (λ y c => PySem.W.KtsName K y c /\ RelV (vC c) c) ys cs /\ PySem.W.kitAny K (.ref C) cs = some b
 | [], b, e => by cases e; exact ⟨[], .nil, rfl⟩
 | y :: ys, b, e => by
  unfold anyS at e
  obtain ⟨b1, h1, e⟩ := bind1 e
  obtain ⟨b2, h2, rfl⟩ := Zb.mp e
  obtain ⟨C', c, k1, k2, k3, k4, k5⟩ := hsub x y b1 h1
  cases QcS hC k1
  obtain ⟨cs, t, k6⟩ := QmI hsub hC ys b2 h2
  refine ⟨c :: cs, .cons ⟨k2, QjI k4⟩ t, ?_⟩
  unfold PySem.W.kitAny
  rw [k4]
  cases b1 with
  | true => rfl
  | false => exact k6
theorem Qf0 {α β : Type} {F : α -> β -> Prop} : ∀ {l : List α} {m : List β}, Paired F l m -> ∀ c ∈ m, ∃ y, F y c
 | _, _, .nil, c, h => by simp at h
 | _, _, .cons r t, c, h => by
  rcases Zm.mp h with rfl | h
  ·exact ⟨_, r⟩
  ·exact Qf0 t c h
theorem Qrn {ys : List Str} {es : List Expr} {kk : Nat} {tp : Pos} (hsub : QbR X.K sub) (hg : Gl X "isinstance") (hm : X.mg "isinstance" = none) (hl : ys.length <= 60) (h0 : ys ≠ []) (hes : es.map Qec = ys.map some) (hy : ∀ y ∈ ys, Gl X y /\ (y == ("__debug__" : Str)) = false) (ha : SE X a fa)
  (he : starEach [a, .Tuple es kk tp] X.env = (false, eval a X.env) :: starEach [.Tuple es kk tp] X.env) : SE X (.Call (.Name "isinstance" p) [a, .Tuple es kk tp] [] pos) (Qfl sub ys fa) := λ H0 A0 pins s σ H Q I ⟨ρ, hs, F, r', rel, e, q⟩ => by
 obtain ⟨r, e1, e⟩ := bind1 e
 split at e
 ·rename_i x hd
  obtain ⟨b, eb, rfl⟩ := Zb.mp e
  by_cases hx : ∃ C, ClsAt X.K x C
  ·obtain ⟨C, hC⟩ := hx
   by_cases hk : QeH X.K C
   ·obtain ⟨cs, t, k⟩ := QmI hsub hC ys b eb
    refine Qft QjW hg hm Zav (QaV (ha H0 A0) (QaV (Qm5 (QmJ rfl hes hy t)) QcL) he) (by decide) (by decide) he (by rfl) pins s σ H Q I ?_
    refine ⟨ρ, hs, F, r, rel, e1, λ v H1 G p => ?_⟩
    have hlen : (cs.map vC).length <= sizeLine := by
     rw [Zh, ← Paired.length t]
     exact ZA hl (by decide)
    refine ⟨hlen, λ pp hp => ?_⟩
    have rp := p.rp
    rw [hd, Rp] at rp
    obtain ⟨⟨ea, rfl, C', hC', hH⟩, rfl⟩ := rp
    cases QcS hC hC'
    have sm : QD H1 (upd H1 pp (.tup (cs.map vC))) := λ b u eb => by rw [QE (λ z => by rw [z, hp] at eb; cases eb)]; exact eb
    exact ⟨C, ea, _, rfl, sm _ _ hH, hk, .inr ⟨pp, cs, b, rfl, Qar, λ c hc => (Qf0 t c hc).choose_spec.2, k, q _ _ [] (.flat (p.same.trans sm) .Qbl)⟩⟩
   ·exfalso
    cases ys with
    | nil => exact h0 rfl
    | cons y ys =>
     unfold anyS at eb
     obtain ⟨b1, h1, _⟩ := bind1 eb
     obtain ⟨C', c, k1, k2, k3, k4, k5⟩ := hsub x y b1 h1
     cases QcS hC k1
     exact hk k5
  ·exfalso
   cases ys with
   | nil => exact h0 rfl
   | cons y ys =>
    unfold anyS at eb
    obtain ⟨b1, h1, _⟩ := bind1 eb
    obtain ⟨C', c, k1, _⟩ := hsub x y b1 h1
    exact hx ⟨C', k1⟩
 ·cases e
end
end HS
namespace HS
open PySem PySem.Spec L2 PyProof.Rows
structure QbX (k : Nat) (A : Around) : Prop where
 dp : A.depth + 3 * k + 5 < recursionLimit
 un : A.units + 16 * k + 200 < cLine
theorem QtD {k : Nat} {A : Around} (r : Qaj k A) : QbX k A := ⟨r.dp, r.un⟩
theorem QbX.mono {j k : Nat} {A : Around} (r : QbX k A) (h : j <= k) : QbX j A := ⟨by have := r.dp; omega, by have := r.un; omega⟩
theorem QbX.deeper {k : Nat} {A : Around} (r : QbX (k + 1) A) (env : Env) : QbX k (A.deeper env) :=
 ⟨by have := r.dp; show A.depth + 1 + 3 * k + 5 < _; omega, by have := r.un; show A.units + 3 + 16 * k + 200 < _; omega⟩
theorem QbX.units {k : Nat} {A : Around} (r : QbX k A) : A.units + 64 < cLine := by have := r.un; omega
theorem QbX.mark {k : Nat} {A : Around} {v : Option Value} (r : QbX k A) : QbX k (A.mark v) := ⟨r.dp, r.un⟩
structure FnH (P : Program) (w : World) (K : PySem.W.Frag) (mg : Str -> Option Value) (base : Heap) (k : Nat) (f : Addr) (fd : FuncData) (ps : List Str) (sp : Sp) : Prop where
 len : ∀ vs H Q E, sp vs H Q E -> vs.length = ps.length
 run : ∀ (A : Around) (outer : List Env) (s : Shared) (H : Hp) (args : Args) (us : List Value) (vs : List V) (Q : VK) (E : XK), QbX k A -> Qeu P w K mg base A outer s H -> BindsTo s fd args (ps.zip us) -> Qq vs us -> sp vs H Q E →
  codeAny (model P w) A (.call (.ref f) args) (CR CX0 outer P w H s Q E) s
section
variable {P : Program} {w : World} {K : PySem.W.Frag} {mg : Str -> Option Value} {base : Heap}
theorem FnH.mono {j k : Nat} {f : Addr} {fd : FuncData} {ps : List Str} {sp : Sp} (F : FnH P w K mg base j f fd ps sp) (h : j <= k) : FnH P w K mg base k f fd ps sp := ⟨F.len, λ A outer s H args us vs Q E hr => F.run A outer s H args us vs Q E (hr.mono h)⟩
end
section
variable {X : Cx} {e : Expr} {es : List Expr} {fs : DA} {pos p : Pos} {x : Str} {n k : Nat} {f : Addr} {fd : FuncData} {ps : List Str} {den : Den}
theorem Qph (Fk : FnH X.prog X.w X.K X.mg X.base k f fd ps (spV X.K n den)) (hr : QbX k X.A) (hg : Gl X x) (hm : X.mg x = some (.ref f)) (hk : PySem.W.keepIn X.K (.ref f) = true) (hb : Binds X.K fd ps [])
  (ha : SA X (e :: es) fs) (hdb : (x == ("__debug__" : Str)) = false) (he : starEach (e :: es) X.env = (false, eval e X.env) :: starEach es X.env) (hpl : (backTo pos (starEach es X.env)).any (·.1) = false) :
  SE X (.Call (.Name x p) (e :: es) [] pos) (Qn n den [] fs) := λ H0 A0 => by
 intro pins s σ H Q I h
 have h := QfN (X := X) (dvs := []) (λ H => by simp [Rps]) h
 refine wpAny_Call_Name_kw (Qdm I hg hm ?_ hdb)
 refine ZaY (h₀ := X.base) I.ok.mod.kin hk (thn (ha H0 A0 pos pins s σ H _ I h) λ us s1 ⟨vs, H1, I1, r, q⟩ => ⟨I1.kIn, ?_⟩) he hpl
 have r2 : Qq (vs ++ []) (us ++ []) := by rw [Zab, Zab]; exact r
 have hl : (us ++ []).length = ps.length := by rw [← r2.length]; exact Fk.len _ _ _ _ q
 refine wpAny_call (codeAny_mono (Fk.run X.A X.stack s1 H1 ⟨us, []⟩ (us ++ []) (vs ++ []) Q E0 hr I1.Qot (hb s1 us I1.kIn hl) r2 q) λ r s' hq => ?_)
 cases r with
 | error ev => exact Qms pins σ H1 s1 ev s' I1 hq
 | ok fl =>
  cases fl with
  | ret u => exact I1.after hq
  | next => exact False.elim hq
  | brk => exact False.elim hq
  | cont => exact False.elim hq
end
def QfR (X : Cx) (hΓ : List (Str × FnR)) : Prop := ∀ x r, look x hΓ = some r -> ∃ k f fd ps, FnH X.prog X.w X.K X.mg X.base k f fd ps (spV X.K r.n r.den) /\ QbX k X.A /\ X.mg x = some (.ref f) /\ PySem.W.keepIn X.K (.ref f) = true /\ Binds X.K fd ps []
theorem QfR.inH {X : Cx} {hΓ : List (Str × FnR)} {ea : Addr} (h : QfR X hΓ) : QfR (HS.inH X ea) hΓ := λ x r e => by
 obtain ⟨k, f, fd, ps, h1, h2, h3⟩ := h x r e
 exact ⟨k, f, fd, ps, h1, h2.mark, h3⟩
section
variable (P : Program) (w : World) (K : PySem.W.Frag) (mg : Str -> Option Value) (base : Heap)
def Qgf (k : Nat) (x : Str) (r : FnR) : Prop := ∃ f fd ps, FnH P w K mg base k f fd ps (spV K r.n r.den) /\ mg x = some (.ref f) /\ PySem.W.keepIn K (.ref f) = true /\ Binds K fd ps []
def Qeh (k : Nat) (Γ : List (Str × FnR)) : Prop := ∀ x r, look x Γ = some r -> Qgf P w K mg base k x r
end
section
variable {P : Program} {w : World} {K : PySem.W.Frag} {mg : Str -> Option Value} {base : Heap}
theorem Qeh.nil {k : Nat} : Qeh P w K mg base k [] := λ x r h => by cases h
theorem Qgf.mono {j k : Nat} {x : Str} {r : FnR} (h : Qgf P w K mg base j x r) (hk : j <= k) : Qgf P w K mg base k x r := by
 obtain ⟨f, fd, ps, h1, h2⟩ := h
 exact ⟨f, fd, ps, h1.mono hk, h2⟩
theorem Qeh.mono {j k : Nat} {Γ : List (Str × FnR)} (t : Qeh P w K mg base j Γ) (hk : j <= k) : Qeh P w K mg base k Γ := λ x r e => (t x r e).mono hk
theorem Qeh.cons {k : Nat} {Γ : List (Str × FnR)} {x : Str} {r : FnR} (t : Qeh P w K mg base k Γ) (h : Qgf P w K mg base (k + 1) x r) : Qeh P w K mg base (k + 1) ((x, r) :: Γ) := λ y q e => by
 unfold look at e
 split at e
 ·rename_i z; cases e; subst z; exact h
 ·exact (t y q e).mono (ZI _)
end
end HS
namespace HS
open PySem PySem.Spec L2 PyProof.Rows
mutual
noncomputable def Qaq (n : Nat) (Θ : Th) (sub : Str -> Str -> Option Bool) (hΓ : List (Str × FnR)) (e : Expr) : Option DE := match n with
 | 0 => none
 | n + 1 => match e with
  | .Name x _ => (Θ.slot x).map Qa
  | .Constant (.bool b) _ _ => some (dC (.bl b))
  | .Constant (.str x) _ _ => some (dC (.str x))
  | .UnaryOp .Not a _ => (Qaq n Θ sub hΓ a).map Qg9
  | .BoolOp .And [a] _ => Qaq n Θ sub hΓ a
  | .BoolOp .And (a :: b :: r) p => (Qaq n Θ sub hΓ a).bind λ fa => (Qaq n Θ sub hΓ (.BoolOp .And (b :: r) p)).map λ fb => Qb2 fa fb
  | .BoolOp .Or [a] _ => Qaq n Θ sub hΓ a
  | .BoolOp .Or (a :: b :: r) p => (Qaq n Θ sub hΓ a).bind λ fa => (Qaq n Θ sub hΓ (.BoolOp .Or (b :: r) p)).map λ fb => dOr fa fb
  | .Compare a [.Eq] [b] _ => (Qaq n Θ sub hΓ a).bind λ fa => (Qaq n Θ sub hΓ b).map λ fb => dOp gEq fa fb
  | .Compare a [.NotEq] [b] _ => (Qaq n Θ sub hΓ a).bind λ fa => (Qaq n Θ sub hΓ b).map λ fb => dOp gNe fa fb
  | .Call (.Name f _) [a, .Name y _] [] _ => if f = "isinstance" /\ Θ.gl "isinstance" = true /\ Θ.gl y = true then (Qaq n Θ sub hΓ a).map λ fa => Qfl sub [y] fa else none
  | .Call (.Name f _) [a, .Tuple es _ _] [] _ => if f = "isinstance" /\ Θ.gl "isinstance" = true then (es.mapM Qec).bind λ ys => if ys.all Θ.gl = true /\ ys ≠ [] /\ ys.length <= 60 then (Qaq n Θ sub hΓ a).map λ fa => Qfl sub ys fa else none else none
  | .Call (.Name x _) (a :: as) [] _ => if Θ.gl x = true then (look x hΓ).bind λ r => (Qb5 n Θ sub hΓ (a :: as)).map λ fs => Qn r.n r.den [] fs else none
  | .List es _ => (Qb5 n Θ sub hΓ es).map QH
  | _ => none
noncomputable def Qb5 (n : Nat) (Θ : Th) (sub : Str -> Str -> Option Bool) (hΓ : List (Str × FnR)) (es : List Expr) : Option DA := match n with
 | 0 => none
 | n + 1 => match es with
  | [] => some Qd
  | e :: es => (Qaq n Θ sub hΓ e).bind λ fa => (Qb5 n Θ sub hΓ es).map λ fs => Qb fa fs
end
theorem Qhx {n : Nat} {Θ : Th} {sub : Str -> Str -> Option Bool} {hΓ : List (Str × FnR)} {e : Expr} {f : DE} (h : Qaq n Θ sub hΓ e = some f) (es : List Expr) (env : Env) : starEach (e :: es) env = (false, eval e env) :: starEach es env := by
 cases n with
 | zero => rw [Qaq.eq_def] at h; cases h
 | succ n => cases e <;> first | rfl | (rw [Qaq.eq_def] at h; cases h)
theorem QjN : ∀ {n : Nat} {Θ : Th} {sub : Str -> Str -> Option Bool} {hΓ : List (Str × FnR)} {es : List Expr} {fs : DA}, Qb5 n Θ sub hΓ es = some fs -> ∀ (pos : Pos) (env : Env), (backTo pos (starEach es env)).any (·.1) = false
 | 0, _, _, _, _, _, h, _, _ => by rw [Qb5.eq_def] at h; cases h
 | n + 1, _, _, _, [], _, h, _, _ => rfl
 | n + 1, _, _, _, e :: es, _, h, pos, env => by
  rw [Qb5.eq_def] at h
  dsimp only at h
  obtain ⟨fa, fs', h1, h2, _⟩ := QN h
  rw [Qhx h1]
  have := QjN h2 pos env
  simpa [backTo] using this
theorem QtU {X : Cx} {n : Nat} {Θ : Th} {sub : Str -> Str -> Option Bool} {hΓ : List (Str × FnR)} {a : Expr} {as : List Expr} {fs : DA} (h : Qb5 n Θ sub hΓ (a :: as) = some fs) (pos : Pos) :
  starEach (a :: as) X.env = (false, eval a X.env) :: starEach as X.env /\ (backTo pos (starEach as X.env)).any (·.1) = false := by
 cases n with
 | zero => rw [Qb5.eq_def] at h; cases h
 | succ n =>
  rw [Qb5.eq_def] at h
  dsimp only at h
  obtain ⟨fa, fs', h1, h2, _⟩ := QN h
  exact ⟨Qhx h1 _ _, QjN h2 pos X.env⟩
theorem QpI {n : Nat} {Θ : Th} {sub : Str -> Str -> Option Bool} {hΓ : List (Str × FnR)} {e : Expr} {f : DE} (h : Qaq n Θ sub hΓ e = some f) (op : CmpOp) : behindInMarks op e = false := by
 cases n with
 | zero => rw [Qaq.eq_def] at h; cases h
 | succ n => cases e <;> first | (cases op <;> rfl) | (rw [Qaq.eq_def] at h; cases h)
theorem QkG : ∀ {es : List Expr} {ys : List Str}, es.mapM Qec = some ys -> es.map Qec = ys.map some
 | [], ys, h => by cases h; rfl
 | e :: es, ys, h => by
  rw [Zbz] at h
  obtain ⟨y, h1, h⟩ := bind1 h
  obtain ⟨zs, h2, h⟩ := bind1 h
  cases h
  rw [Zu, Zu, h1, QkG h2]
structure QuH (n : Nat) : Prop where
 E : ∀ X Θ sub hΓ e f, CtxB X Θ -> QbR X.K sub -> QfR X hΓ -> Qaq n Θ sub hΓ e = some f -> SE X e f
 A : ∀ X Θ sub hΓ es f, CtxB X Θ -> QbR X.K sub -> QfR X hΓ -> Qb5 n Θ sub hΓ es = some f -> SA X es f
theorem Qmg : ∀ n, QuH n
 | 0 => ⟨λ _ _ _ _ _ _ _ _ _ h => (by rw [Qaq.eq_def] at h; cases h), λ _ _ _ _ _ _ _ _ _ h => (by rw [Qb5.eq_def] at h; cases h)⟩
 | n + 1 => by
  have ih := Qmg n
  refine ⟨λ X Θ sub hΓ e f ok hs hu h => ?_, λ X Θ sub hΓ es f ok hs hu h => ?_⟩
  ·rw [Qaq.eq_def] at h
   dsimp only at h
   split at h
   ·obtain ⟨i, h1, rfl⟩ := Zb.mp h
    exact Qnm (Qih ok h1)
   ·cases h; exact Qg6 QpP (λ _ _ => .Qbl) rfl
   ·cases h; exact Qg6 QnQ (λ _ _ => .str_mk) rfl
   ·obtain ⟨fa, h1, rfl⟩ := Zb.mp h
    exact Qni (ih.E X Θ sub hΓ _ fa ok hs hu h1)
   ·exact Qh5 (ih.E X Θ sub hΓ _ f ok hs hu h)
   ·obtain ⟨fa, fb, h1, h2, rfl⟩ := QN h
    exact Qnw (ih.E X Θ sub hΓ _ fa ok hs hu h1) (ih.E X Θ sub hΓ _ fb ok hs hu h2)
   ·exact Qh5 (ih.E X Θ sub hΓ _ f ok hs hu h)
   ·obtain ⟨fa, fb, h1, h2, rfl⟩ := QN h
    exact Qp3 (ih.E X Θ sub hΓ _ fa ok hs hu h1) (ih.E X Θ sub hΓ _ fb ok hs hu h2)
   ·obtain ⟨fa, fb, h1, h2, rfl⟩ := QN h
    exact QjD (QnI ok.units) QpF (ih.E X Θ sub hΓ _ fa ok hs hu h1) (ih.E X Θ sub hΓ _ fb ok hs hu h2) (QpI h2 _)
   ·obtain ⟨fa, fb, h1, h2, rfl⟩ := QN h
    exact QjD (QnO ok.units) QpK (ih.E X Θ sub hΓ _ fa ok hs hu h1) (ih.E X Θ sub hΓ _ fb ok hs hu h2) (QpI h2 _)
   ·split at h
    ·rename_i hc
     obtain ⟨rfl, g1, g2⟩ := hc
     obtain ⟨fa, h1, rfl⟩ := Zb.mp h
     obtain ⟨a1, a2, a3⟩ := Qb1 ok g1
     obtain ⟨b1, b2, b3⟩ := Qb1 ok g2
     exact QqA hs a1 (ok.mg _ (by decide +kernel)) b1 b2 (ih.E X Θ sub hΓ _ fa ok hs hu h1) (Qhx h1 _ _)
    ·cases h
   ·split at h
    ·rename_i hc
     obtain ⟨rfl, g1⟩ := hc
     obtain ⟨ys, hy, h⟩ := bind1 h
     split at h
     ·rename_i hd
      obtain ⟨d1, d2, d3⟩ := hd
      obtain ⟨fa, h1, rfl⟩ := Zb.mp h
      obtain ⟨a1, a2, a3⟩ := Qb1 ok g1
      exact Qrn hs a1 (ok.mg _ (by decide +kernel)) d3 d2 (QkG hy) (λ y hy => by
       obtain ⟨b1, b2, b3⟩ := Qb1 ok (ZS.mp d1 y hy)
       exact ⟨b1, b2⟩) (ih.E X Θ sub hΓ _ fa ok hs hu h1) (Qhx h1 _ _)
     ·cases h
    ·cases h
   ·split at h
    ·rename_i hg
     obtain ⟨r, hr, h⟩ := bind1 h
     obtain ⟨fs, h1, rfl⟩ := Zb.mp h
     obtain ⟨a1, a2, a3⟩ := Qb1 ok hg
     obtain ⟨k, f, fd, ps, F1, F2, F3, F4, F5⟩ := hu _ r hr
     obtain ⟨s1, s2⟩ := QtU (X := X) h1 _
     exact Qph F1 F2 a1 F3 F4 F5 (ih.A X Θ sub hΓ _ fs ok hs hu h1) a2 s1 s2
    ·cases h
   ·obtain ⟨fs, h1, rfl⟩ := Zb.mp h
    exact QnV (ih.A X Θ sub hΓ _ fs ok hs hu h1)
   ·cases h
  ·rw [Qb5.eq_def] at h
   dsimp only at h
   split at h
   ·cases h; exact QhI
   ·obtain ⟨fa, fs, h1, h2, rfl⟩ := QN h
    exact QeY (ih.E X Θ sub hΓ _ fa ok hs hu h1) (ih.A X Θ sub hΓ _ fs ok hs hu h2) (Qhx h1 _ _)
noncomputable def Qer (Θ : Th) (sub : Str -> Str -> Option Bool) (hΓ : List (Str × FnR)) : List Stmt -> Option DS
 | [] => some Qg
 | .Assign [.Name x _] e _ :: r => (Θ.QcN x).bind λ i => if Qgk e = false /\ Qd3 e = true then (Qaq 20 Θ sub hΓ e).bind λ fa => (Qer Θ sub hΓ r).map λ g => Qe (Qx i fa) g else none
 | .Return (some e) _ :: r => (Qaq 20 Θ sub hΓ e).bind λ fa => (Qer Θ sub hΓ r).map λ g => Qe (QO fa) g
 | _ => none
theorem Qex {X : Cx} {Θ : Th} {sub : Str -> Str -> Option Bool} {hΓ : List (Str × FnR)} (ok : CtxB X Θ) (hs : QbR X.K sub) (hu : QfR X hΓ) : ∀ (sts : List Stmt) (f : DS), Qer Θ sub hΓ sts = some f -> SS X sts f
 | [], f, h => by rw [Qer] at h; cases h; exact Qm7
 | st :: r, f, h => by
  have hN : X.N.Nodup := by rw [ok.N]; exact ok.nd
  rw [Qer.eq_def] at h
  split at h
  ·rename_i q; cases q
  ·rename_i x p e pos r' q
   cases q
   obtain ⟨i, hi, h⟩ := bind1 h
   split at h
   ·rename_i hc
    obtain ⟨fa, g, h1, h2, rfl⟩ := QN h
    obtain ⟨a1, a2, a3⟩ := QcQ ok hi
    have he := (Qmg 20).E X Θ sub hΓ _ fa ok hs hu h1
    exact QiH (Qhv λ H0 A0 => Qgc hN a1 a2 (he H0 A0) (QdH hc.2) a3) (Qex ok hs hu r g h2)
   ·cases h
  ·rename_i e pos r' q
   cases q
   obtain ⟨fa, g, h1, h2, rfl⟩ := QN h
   exact QiH (QnW ((Qmg 20).E X Θ sub hΓ _ fa ok hs hu h1)) (Qex ok hs hu r g h2)
  ·cases h
noncomputable def Qfe (Θ : Th) (sub : Str -> Str -> Option Bool) (hΓ : List (Str × FnR)) : List ExceptHandler -> Option (List Hd)
 | [] => some []
 | .ExceptHandler (some (.Name y _)) none (b :: bs) _ :: r => if Θ.gl y = true then (Qer Θ sub hΓ (b :: bs)).bind λ f => (Qfe Θ sub hΓ r).map λ l => (y, none, f) :: l else none
 | .ExceptHandler (some (.Name y _)) (some nm) (b :: bs) _ :: r => if Θ.gl y = true /\ look nm Θ.sc = some .local then (Θ.QcN nm).bind λ i => (Qer Θ sub hΓ (b :: bs)).bind λ f => (Qfe Θ sub hΓ r).map λ l => (y, some i, f) :: l else none
 | _ => none
theorem Qkc {X : Cx} {Θ : Th} {ea : Addr} (ok : CtxB X Θ) : CtxB (inH X ea) Θ := ⟨ok.N, ok.nd, ok.lc, ok.ce, ok.fe, ok.gl, ok.units, ok.mg, ok.cs⟩
theorem QfO {X : Cx} {Θ : Th} {sub : Str -> Str -> Option Bool} {hΓ : List (Str × FnR)} (ok : CtxB X Θ) (hs : QbR X.K sub) (hu : QfR X hΓ) : ∀ (hds : List ExceptHandler) (hl : List Hd), Qfe Θ sub hΓ hds = some hl -> Qf8 X hds hl
 | [], f, h => by rw [Qfe] at h; cases h; exact .nil
 | hd :: r, f, h => by
  rw [Qfe.eq_def] at h
  split at h
  ·rename_i q; cases q
  ·rename_i y np b bs pos r' q
   cases q
   split at h
   ·rename_i hc
    obtain ⟨g1, g2, _⟩ := Qb1 ok hc
    obtain ⟨f, l, h1, h2, rfl⟩ := QN h
    exact .bare g1 g2 (λ ea => Qex (Qkc ok) hs hu.inH _ f h1) (QfO ok hs hu r l h2)
   ·cases h
  ·rename_i y np nm b bs pos r' q
   cases q
   split at h
   ·rename_i hc
    obtain ⟨g1, g2, _⟩ := Qb1 ok hc.1
    obtain ⟨i, hi, h⟩ := bind1 h
    obtain ⟨f, l, h1, h2, rfl⟩ := QN h
    obtain ⟨a1, a2, a3⟩ := QcQ ok hi
    exact .as g1 g2 a1 (ok.lc nm hc.2) (λ ea => Qex (Qkc ok) hs hu.inH _ f h1) (QfO ok hs hu r l h2)
   ·cases h
  ·cases h
noncomputable def Qoe (n : Nat) (Θ : Th) (ΘX : ThX) (sub : Str -> Str -> Option Bool) (hΓ : List (Str × FnR)) (st : Stmt) : Option DS := match st with
 | .Try body (h :: hs) [] [] _ => (QaD n Θ body).bind λ f => (Qcy n Θ ΘX body).bind λ fx => (Qfe Θ sub hΓ (h :: hs)).map λ hl => QfC f fx sub hl
 | _ => none
theorem QrB {X : Cx} {Θ : Th} {xe : Value -> Shared -> Prop} {pn : List (Addr × Obj)} (ok : QS X Θ) (ht : ∀ st, Θ.tr st = none) (hp : PassesOwn (model X.prog X.w) X.A X.env xe) : QS (Cx.chg X xe pn) Θ :=
 ⟨⟨ok.N, ok.nd, ok.lc, ok.ce, ok.fe, ok.gl, ok.units, ok.mg, ok.cs⟩, ok.calm, hp, ok.fns, λ st f h => by rw [ht st] at h; cases h⟩
theorem Qq9 {X : Cx} {Θ : Th} {ΘX : ThX} {sub : Str -> Str -> Option Bool} {hΓ : List (Str × FnR)} {n : Nat} {st : Stmt} {f : DS} (ok : QS X Θ) (ht : ∀ st, Θ.tr st = none) (xk : XOk X ΘX) (hs : QbR X.K sub) (hu : QfR X hΓ) (h : Qoe n Θ ΘX sub hΓ st = some f) : S1 X st f := by
 unfold Qoe at h
 split at h
 ·rename_i body h0 hds pos
  obtain ⟨fb, h1, h⟩ := bind1 h
  obtain ⟨fx, hl, h2, h3, rfl⟩ := QN h
  have hN : X.N.Nodup := by rw [ok.N]; exact ok.nd
  refine QsO hN xk.ex xk.stk xk.fr hs.ok (λ xe pn hp => ?_) (QfO ok.toCtxB hs hu _ hl h3)
  have ok' := QrB (pn := pn) ok ht hp
  have xk' : XOk (Cx.chg X xe pn) ΘX := ⟨xk.ex, xk.stk, xk.fr, xk.fx, xk.cl⟩
  exact ⟨(Qfr n).Ss _ _ _ fb ok' h1, (Qjq n).Xs _ _ _ _ fx ok' xk' h2⟩
 ·cases h
noncomputable def thT (n : Nat) (st : Stmt) (Γ : List (Str × FnR)) (cs : List (Str × Int)) (ΘX : ThX) (sub : Str -> Str -> Option Bool) (hΓ : List (Str × FnR)) : Th := { Qc1 st Γ cs with tr := Qoe n (Qc1 st Γ cs) ΘX sub hΓ }
section
variable {P : Program} {w : World} {K : PySem.W.Frag} {mg : Str -> Option Value} {base : Heap}
theorem QlL {h : Heap} {x : Str} {st : Stmt} {ps : List Str} {k n m : Nat} {Γ : List (Str × FnR)} {Γx : List (Str × (Nat × (List D -> Option Str)))} {cls : List Str} {cs : List (Str × Int)} {sub : Str -> Str -> Option Bool} {hΓ : List (Str × FnR)} {g : DS} (X : K.In h) (G : h.Ns mainGlobals mg) (F : Fact K x st) (S : Qa6 (namesOf (Qh st)) ps (Qh st)) (B : QL x st ps) (M : QcW mg cs) (tab : Qa1 P w K mg base k Γ) (tabx : Qde P w K mg base k Γx)
  (hcl : ∀ x ∈ cls, Qfm K x) (hs : QbR K sub) (tabh : Qeh P w K mg base k hΓ) (hc : QaD n (thT m st Γ cs ⟨Γx, cls⟩ sub hΓ) (QZ st) = some g) : Known P w K mg base (k + 1) x ⟨ps.length, [], Qw (namesOf (Qh st)).length g⟩ := by
 obtain ⟨f, fd, Fn, a⟩ := F.ex
 refine ⟨f, fd, ps, ?_, Zam X G a, Fn.kp, λ m hm => ⟨[], [], Fn.binds (B ·), .nil, λ H => by simp [Rps]⟩⟩
 refine Fn.ok S (Qiq rfl) λ cdv A outer s H vs Q E hr h => ?_
 obtain ⟨ds, L, d, fr, rps, hl, hd, q⟩ := h
 have ok := QkE (P := P) (w := w) (K := K) (base := base) (qual := x) (f := f) (outer := outer) (H := H) (E := E) S M tab hr
 have xk : XOk (Qc5 CX0 P w K mg base (namesOf (Qh st)) x (Qh st) f cdv A outer s H E).nox ⟨Γx, cls⟩ := ⟨rfl, rfl, rfl, λ z r e => by
  obtain ⟨f', fd', ps', h1, h2, h3, h4, h5⟩ := tabx z r e
  exact ⟨k, f', fd', ps', h1, hr, h2, h3, h4, h5⟩, hcl⟩
 have ok2 : QS (Qc5 CX0 P w K mg base (namesOf (Qh st)) x (Qh st) f cdv A outer s H E).nox (thT m st Γ cs ⟨Γx, cls⟩ sub hΓ) :=
  ⟨⟨ok.N, ok.nd, ok.lc, ok.ce, ok.fe, ok.gl, ok.units, ok.mg, ok.cs⟩, ok.calm, ok.pass, ok.fns, λ st' f' h' => Qq9 ok (λ _ => rfl) xk hs (λ z r e => by
   obtain ⟨f', fd', ps', h1, h2⟩ := tabh z r e
   exact ⟨k, f', fd', ps', h1, QtD hr, h2⟩) h'⟩
 refine ⟨_, (Qfr n).Ss _ _ _ g ok2 hc H L, ?_⟩
 obtain ⟨F0, rel⟩ := QdD (N := namesOf (Qh st)) rps
 unfold Qw at hd
 obtain ⟨o, ho, hd⟩ := bind1 hd
 refine ⟨_, [], F0, o, rel, ho, ?_⟩
 cases o with
 | nx ρ =>
  cases hd
  exact λ σ H' F' rel' => q .non H' [] ⟨rel'.same, .Qed, λ a ha => by simp at ha, λ _ => ⟨Zah, rfl, λ a ha => by simp at ha⟩⟩
 | bk ρ => cases hd
 | ct ρ => cases hd
 | rt d' fr' =>
  cases hd
  exact λ v H' G r => q v H' G r
end
end HS
namespace HS
open PySem PySem.Spec L2 PyProof.Rows
section
variable {K : PySem.W.Frag} {x y : Str} {C C' : Addr} {v : Bool}
theorem QrA (a : PySem.W.nsIn K mainGlobals x = some (some (.ref C))) (b : PySem.W.excIn K C [.type "ValueError", .type "Exception", .type "BaseException", .type "object"] "ValueError.__new__" = true) : Qfm K x := ⟨⟨C, a, b⟩⟩
def XK1 (K : PySem.W.Frag) (x : Str) : Prop := ∃ C, ClsAt K x C /\ QeH K C
theorem QtG (a : PySem.W.nsIn K mainGlobals x = some (some (.ref C))) (h1 : PySem.W.isClsIn K C = true) (h2 : PySem.W.findIn K (.ref C) "__getattribute__" = some (some (.builtin "BaseException.__getattribute__"))) (h3 : PySem.W.findIn K (.ref C) "__getattr__" = some none)
  (h4 : PySem.W.findIn K (.ref C) "__class__" = some (some (.builtin "object.__class__"))) (h5 : PySem.W.mroIn K C (.type "object") = some true) (h6 : PySem.W.subIn K (.ref C) (.type "BaseException") = some true) : XK1 K x := ⟨C, a, h1, h2, h3, h4, h5, h6⟩
def Qjr (K : PySem.W.Frag) (x y : Str) (b : Bool) : Prop := ∃ C c, ClsAt K x C /\ PySem.W.KtsName K y c /\ PySem.W.exmOne K (.ref C) c = some b /\ PySem.W.kitOne K (.ref C) c = some b
theorem Qdk (a : PySem.W.nsIn K mainGlobals x = some (some (.ref C))) (b : PySem.W.nsIn K mainGlobals y = some (some (.ref C'))) (c : PySem.W.exmOne K (.ref C) (.ref C') = some v) (d : PySem.W.kitOne K (.ref C) (.ref C') = some v) : Qjr K x y v := ⟨C, _, a, .inl b, c, d⟩
theorem Qrj (a : PySem.W.nsIn K mainGlobals x = some (some (.ref C))) (b : PySem.W.nsIn K mainGlobals "ValueError" = some none) (c : PySem.W.exmOne K (.ref C) (.type "ValueError") = some v) (d : PySem.W.kitOne K (.ref C) (.type "ValueError") = some v) : Qjr K x "ValueError" v :=
 ⟨C, _, a, .inr ⟨b, PyProof.Rows.Boot.«ValueError», by decide⟩, c, d⟩
noncomputable def QiM (K : PySem.W.Frag) (x : Str) : List (Str × Bool) -> Prop
 | [] => True
 | q :: r => Qjr K x q.1 q.2 /\ QiM K x r
noncomputable def SubL (K : PySem.W.Frag) : List (Str × List (Str × Bool)) -> Prop
 | [] => True
 | q :: r => (XK1 K q.1 /\ QiM K q.1 q.2) /\ SubL K r
noncomputable def QpY (tab : List (Str × List (Str × Bool))) : Str -> Str -> Option Bool := λ x y => (look x tab).bind λ r => look y r
theorem Qg1 {α : Type} : ∀ {x : Str} {l : List (Str × α)} {a : α}, look x l = some a -> (x, a) ∈ l
 | x, [], a, h => by cases h
 | x, (y, b) :: r, a, h => by
  unfold look at h
  split at h
  ·rename_i e; cases h; subst e; exact Zi
  ·exact Zd _ (Qg1 h)
theorem QiM.mem : ∀ {r : List (Str × Bool)}, QiM K x r -> ∀ q ∈ r, Qjr K x q.1 q.2
 | [], _, q, h => by simp at h
 | p :: r, h, q, hq => by
  rcases Zm.mp hq with rfl | hq
  ·exact h.1
  ·exact QiM.mem h.2 q hq
theorem SubL.mem : ∀ {t : List (Str × List (Str × Bool))}, SubL K t -> ∀ q ∈ t, XK1 K q.1 /\ QiM K q.1 q.2
 | [], _, q, h => by simp at h
 | p :: r, h, q, hq => by
  rcases Zm.mp hq with rfl | hq
  ·exact h.1
  ·exact SubL.mem h.2 q hq
theorem Qqh {tab : List (Str × List (Str × Bool))} (h : SubL K tab) : QbR K (QpY tab) := λ x y b e => by
 obtain ⟨r, h1, h2⟩ := bind1 e
 obtain ⟨⟨C, k1, k2⟩, k3⟩ := h.mem _ (Qg1 h1)
 obtain ⟨C', c, m1, m2, m3, m4⟩ := k3.mem _ (Qg1 h2)
 cases QcS k1 m1
 exact ⟨C, c, k1, m2, m3, m4, k2⟩
noncomputable def QsI (K : PySem.W.Frag) : List Str -> Prop
 | [] => True
 | x :: r => Qfm K x /\ QsI K r
theorem Qlg : ∀ {l : List Str}, QsI K l -> ∀ x ∈ l, Qfm K x
 | [], _, x, h => by simp at h
 | y :: l, h, x, hx => by
  rcases Zm.mp hx with rfl | hx
  ·exact h.1
  ·exact Qlg h.2 x hx
end
end HS
namespace HS
open PySem PySem.Spec L2 PyProof.Rows
def QpV (K : PySem.W.Frag) (t : Addr) : Prop := ∃ od n sl, K.lookup t = some ⟨.type "tuple", od, .seq #[.none] n, sl⟩
def QeW (x : Str) (st : Stmt) (ps : List Str) (m : Nat) (fill : List Value) : Prop := ∀ (K : PySem.W.Frag) (t : Addr) (od : Option Addr) (n : Nat) (sl : Array (Option Value)), K.lookup t = some ⟨.type "tuple", od, .seq #[.none] n, sl⟩ -> ∀ (kV doc pm : Value) (an : Option Addr) (cdv ct : Value) (S : Setting) (us : List Value), us.length = m →
 PySem.W.peek K S (bindArgs (PySem.W.fnOf x x (Qbq st) (QZ st) (Qh st) (.ref t) kV doc pm an cdv ct) ⟨us, []⟩) = some (ps.zip (us ++ fill))
structure Qjt (K : PySem.W.Frag) (x : Str) (st : Stmt) (ps : List Str) : Prop where
 ex : ∃ (f t : Addr) (oc : Value) (od : Option Addr) (kV doc pm : Value) (an : Option Addr) (cdv ct : Value) (osl : Array (Option Value)),
  K.lookup f = some ⟨oc, od, .func (PySem.W.fnOf x x (Qbq st) (QZ st) (Qh st) (.ref t) kV doc pm an cdv ct), osl⟩ /\ PySem.W.codeIn K cdv x = true /\ PySem.W.keepIn K (.ref f) = true /\ PySem.W.nsIn K mainGlobals x = some (some (.ref f)) /\ QpV K t
theorem Qop {K : PySem.W.Frag} {x : Str} {st : Stmt} {ps : List Str} {f t : Addr} {oc : Value} {od an od' : Option Addr} {osl sl : Array (Option Value)} {n : Nat} {kV doc pm cdv ct : Value} (a : PySem.W.nsIn K mainGlobals x = some (some (.ref f))) (l : K.lookup f = some ⟨oc, od, .func (PySem.W.fnOf x x (Qbq st) (QZ st) (Qh st) (.ref t) kV doc pm an cdv ct), osl⟩)
  (c : PySem.W.codeIn K cdv x = true) (k : PySem.W.keepIn K (.ref f) = true) (h : K.lookup t = some ⟨.type "tuple", od', .seq #[.none] n, sl⟩) : Qjt K x st ps := ⟨f, t, oc, od, kV, doc, pm, an, cdv, ct, osl, l, c, k, a, od', n, sl, h⟩
theorem QjE {K : PySem.W.Frag} {x : Str} {st : Stmt} {ps : List Str} {m : Nat} {fill : List Value} (B : QeW x st ps m fill) (hm : m + fill.length = ps.length) {t : Addr} (h : QpV K t) {kV doc pm cdv ct : Value} {an : Option Addr} : Binds K (PySem.W.fnOf x x (Qbq st) (QZ st) (Qh st) (.ref t) kV doc pm an cdv ct) ps fill := λ s us hK hl => by
 obtain ⟨od, n, sl, h⟩ := h
 exact PySem.W.kp_binds hK λ S => B K t od n sl h kV doc pm an cdv ct S us (by rw [Zl] at hl; omega)
section
variable {P : Program} {w : World} {K : PySem.W.Frag} {mg : Str -> Option Value} {base : Heap}
theorem QqD {h : Heap} {x : Str} {st : Stmt} {ps : List Str} {k n m : Nat} {Γ : List (Str × FnR)} {cs : List (Str × Int)} {g : DS} (X : K.In h) (G : h.Ns mainGlobals mg) (F : Qjt K x st ps) (S : Qa6 (namesOf (Qh st)) ps (Qh st)) (B0 : QeW x st ps (m + 1) []) (B1 : QeW x st ps m [.none]) (hm : ps.length = m + 1) (M : QcW mg cs) (tab : Qa1 P w K mg base k Γ)
  (hc : QaD n (Qc1 st Γ cs) (QZ st) = some g) : Known P w K mg base (k + 1) x ⟨ps.length, [.non], Qw (namesOf (Qh st)).length g⟩ := by
 obtain ⟨f, t, oc, od, kV, doc, pm, an, cdv, ct, osl, lk, hcd, kp, a, hT⟩ := F.ex
 refine ⟨f, PySem.W.fnOf x x (Qbq st) (QZ st) (Qh st) (.ref t) kV doc pm an cdv ct, ps, ?_, Zam X G a, kp, λ j hj => ?_⟩
 ·refine Qjv lk hcd S (Qiq rfl) λ A outer s H vs Q E hr h => ?_
  obtain ⟨ds, L, d, fr, rps, hl, hd, q⟩ := h
  have ok := QkE (P := P) (w := w) (K := K) (base := base) (qual := x) (f := f) (cdv := cdv) (outer := outer) (H := H) (E := E) S M tab hr
  refine ⟨_, ((Qfr n).Ss _ _ _ g ok hc H L).nox, ?_⟩
  obtain ⟨F0, rel⟩ := QdD (N := namesOf (Qh st)) rps
  unfold Qw at hd
  obtain ⟨o, ho, hd⟩ := bind1 hd
  refine ⟨_, [], F0, o, rel, ho, ?_⟩
  cases o with
  | nx ρ =>
   cases hd
   exact λ σ H' F' rel' => q .non H' [] ⟨rel'.same, .Qed, λ a ha => by simp at ha, λ _ => ⟨Zah, rfl, λ a ha => by simp at ha⟩⟩
  | bk ρ => cases hd
  | ct ρ => cases hd
  | rt d' fr' =>
   cases hd
   exact λ v H' G r => q v H' G r
 ·have hj : j <= 1 := hj
  rcases Nat.le_one_iff_eq_zero_or_eq_one.mp hj with rfl | rfl
  ·exact ⟨[], [], QjE B0 (by simp [hm]) hT, .nil, λ H => by simp [Rps]⟩
  ·refine ⟨[.none], [.non], QjE B1 (by simp [hm]) hT, .cons rfl .nil, λ H => ?_⟩
   show Rps K H [.non] [.non] []
   rw [Rps]
   exact ⟨.non, [], [], [], rfl, rfl, .Qed, by rw [Rps]; exact ⟨rfl, rfl⟩⟩
theorem Qpx {h : Heap} {x : Str} {st : Stmt} {ps : List Str} {k n m : Nat} {Γ : List (Str × FnR)} {Γx : List (Str × (Nat × (List D -> Option Str)))} {cls : List Str} {cs : List (Str × Int)} {g : DX} (X : K.In h) (G : h.Ns mainGlobals mg) (F : Qjt K x st ps) (S : Qa6 (namesOf (Qh st)) ps (Qh st)) (B0 : QeW x st ps (m + 1) []) (hm : ps.length = m + 1) (M : QcW mg cs) (tab : Qa1 P w K mg base k Γ) (tabx : Qde P w K mg base k Γx)
  (hcl : ∀ x ∈ cls, Qfm K x) (hc : Qcy n (Qc1 st Γ cs) ⟨Γx, cls⟩ (QZ st) = some g) : Qd9 P w K mg base (k + 1) x (ps.length, Qbo (namesOf (Qh st)).length g) := by
 obtain ⟨f, t, oc, od, kV, doc, pm, an, cdv, ct, osl, lk, hcd, kp, a, hT⟩ := F.ex
 refine ⟨f, PySem.W.fnOf x x (Qbq st) (QZ st) (Qh st) (.ref t) kV doc pm an cdv ct, ps, ?_, Zam X G a, kp, QjE B0 (by simp [hm]) hT, rfl⟩
 refine Qjv lk hcd S (QlH rfl) λ A outer s H vs Q E hr hsp => ?_
 obtain ⟨ds, L, y, rps, hl, hd, hE⟩ := hsp
 have ok : QS (Qc5 (CXR P w) P w K mg base (namesOf (Qh st)) x (Qh st) f cdv A outer s H E) (Qc1 st Γ cs) := Qil (CX := CXR P w) (E := E) S M tab hr PassesOwn.leaving
 have xk : XOk (Qc5 (CXR P w) P w K mg base (namesOf (Qh st)) x (Qh st) f cdv A outer s H E) ⟨Γx, cls⟩ := ⟨rfl, rfl, rfl, λ z r e => by
  obtain ⟨f', fd', ps', h1, h2, h3, h4, h5⟩ := tabx z r e
  exact ⟨k, f', fd', ps', h1, hr, h2, h3, h4, h5⟩, hcl⟩
 refine ⟨_, (Qjq n).Xs _ _ _ _ g ok xk hc H L, ?_⟩
 obtain ⟨F0, rel⟩ := QdD (N := namesOf (Qh st)) rps
 obtain ⟨⟨y', ρ'⟩, e1, e2⟩ := Zb.mp hd
 cases e2
 exact ⟨_, [], F0, y', ρ', rel, e1, λ C ea s' hC T => QfL rfl rfl rfl rfl rfl rfl rfl T λ H' sm => hE C H' hC sm⟩
end
theorem Qi6 {α : Type} {K : PySem.W.Frag} {S : Setting} {a : Addr} {o : Obj} {r : α} (h : K.lookup a = some o) {q} {k : Obj -> Sem α} (e : PySem.W.peek K S (k o) = some r) : PySem.W.peek K S (.load a q k) = some r := by
 rw [PySem.W.peek, h]
 exact e
end HS
namespace HS
open PySem L2
noncomputable def pairD (p : Int × Int) : D := .tup [.int p.1, .int p.2]
noncomputable def QbU (p : Int × Int × Bool) : D := .tup [.int p.1, .int p.2.1, .bl p.2.2]
noncomputable def Ql1 (ns : List Int) : D := .lst (ns.map .int)
noncomputable def Qc (ps : List (Int × Int)) : D := .lst (ps.map pairD)
noncomputable def Qr (m : Int) (R L : List (Int × Int)) : D := .tup [.int m, Qc R, Qc L]
theorem QbW {α : Type} {f : α -> D} (h : ∀ a, (f a).flat = true) : ∀ l : List α, QJ (l.map f) = true
 | [] => rfl
 | a :: l => by simp [QJ, h a, QbW h l]
@[simp] theorem QuQ (i : Int) : (D.int i).flat = true := rfl
@[simp] theorem QuV (i : Bool) : (D.bl i).flat = true := rfl
@[simp] theorem Qun : D.non.flat = true := rfl
@[simp] theorem QuF (x : Str) : (D.str x).flat = true := rfl
@[simp] theorem Qus (xs : List D) : (D.lst xs).flat = false := rfl
@[simp] theorem QuR (xs : List D) : (D.tup xs).flat = QJ xs := rfl
@[simp] theorem Que : QJ [] = true := rfl
@[simp] theorem QtE (d : D) (ds : List D) : QJ (d :: ds) = (d.flat && QJ ds) := rfl
@[simp] theorem Qug (p : Int × Int) : (pairD p).flat = true := rfl
@[simp] theorem QuT (p : Int × Int × Bool) : (QbU p).flat = true := rfl
@[simp] theorem Quf (ns : List Int) : (Ql1 ns).flat = false := rfl
@[simp] theorem QtP (ns : List (Int × Int)) : (Qc ns).flat = false := rfl
@[simp] theorem QcJ (ps : List (Int × Int)) : QJ (ps.map pairD) = true := QbW (λ _ => rfl) _
@[simp] theorem Qmb (ps : List (Int × Int × Bool)) : QJ (ps.map QbU) = true := QbW (λ _ => rfl) _
@[simp] theorem Qma (ns : List Int) : QJ (ns.map .int) = true := QbW (λ _ => rfl) _
@[simp] theorem QmS (xs ys : List D) : QJ (xs ++ ys) = (QJ xs && QJ ys) := Qeq xs ys
def Run (f : DS) (ρ : En) (Q : Out -> Prop) : Prop := ∃ o, f ρ = some o /\ Q o
noncomputable def Nx (Q : En -> Prop) : Out -> Prop
 | .nx ρ => Q ρ
 | _ => False
noncomputable def Rt (Q : D -> Bool -> Prop) : Out -> Prop
 | .rt d fr => Q d fr
 | _ => False
theorem Run.mono {f : DS} {ρ : En} {Q Q' : Out -> Prop} (h : Run f ρ Q) (m : ∀ o, Q o -> Q' o) : Run f ρ Q' := let ⟨o, h1, h2⟩ := h; ⟨o, h1, m o h2⟩
theorem Qi {ρ : En} {Q : Out -> Prop} (h : Q (.nx ρ)) : Run Qg ρ Q := ⟨_, rfl, h⟩
theorem run_seq {f g : DS} {ρ : En} {Q : Out -> Prop} (h : Run f ρ (Nx λ ρ' => Run g ρ' Q)) : Run (Qe f g) ρ Q := by
 obtain ⟨o, h1, h2⟩ := h
 cases o with
 | nx ρ' =>
  obtain ⟨o', h3, h4⟩ := h2
  exact ⟨o', by simp [Qe, h1, h3], h4⟩
 | _ => exact False.elim h2
theorem Qy {f g : DS} {ρ : En} {Q : Out -> Prop} (h : Run f ρ λ o => match o with | .nx ρ' => Run g ρ' Q | o => Q o) : Run (Qe f g) ρ Q := by
 obtain ⟨o, h1, h2⟩ := h
 cases o with
 | nx ρ' =>
  obtain ⟨o', h3, h4⟩ := h2
  exact ⟨o', by simp [Qe, h1, h3], h4⟩
 | bk ρ' => exact ⟨_, by simp [Qe, h1], h2⟩
 | ct ρ' => exact ⟨_, by simp [Qe, h1], h2⟩
 | rt d fr => exact ⟨_, by simp [Qe, h1], h2⟩
theorem Qm {i : Nat} {fa : DE} {r : R} {ρ : En} {Q : Out -> Prop} (h : fa ρ = some r) (q : Q (.nx (asg i r ρ))) : Run (Qx i fa) ρ Q := ⟨_, by simp [Qx, h], q⟩
theorem Qa9 {fa : DE} {r : R} {ρ : En} {Q : Out -> Prop} (h : fa ρ = some r) (q : Q (.rt r.d (r.norm.fr && decide r.norm.M.Nodup))) : Run (QO fa) ρ Q := ⟨_, by simp [QO, h], q⟩
theorem QC {g : DT} {f1 f2 : DS} {b : Bool} {ρ : En} {Q : Out -> Prop} (h : g ρ = some b) (q1 : b = true -> Run f1 ρ Q) (q2 : b = false -> Run f2 ρ Q) : Run (sIf g f1 f2) ρ Q := by
 cases b with
 | true => obtain ⟨o, h1, h2⟩ := q1 rfl; exact ⟨o, by simp [sIf, h, h1], h2⟩
 | false => obtain ⟨o, h1, h2⟩ := q2 rfl; exact ⟨o, by simp [sIf, h, h1], h2⟩
theorem Qbf {k : Nat} {f : DS} {ds : List D} {d : D} {fr : Bool} (h : Run f (Qb7 k ds) (Rt λ d' fr' => d' = d /\ fr' = fr)) : Qw k f ds = some (d, fr) := by
 obtain ⟨o, h1, h2⟩ := h
 unfold Qw
 cases o with
 | rt d' fr' => obtain ⟨rfl, rfl⟩ := h2; rw [h1]; rfl
 | _ => exact False.elim h2
theorem QkO {α : Type} {t : Tg} {fb : DS} {toD : α -> D} {Q : Out -> Prop} (I : Nat -> En -> Prop) : ∀ (xs ys : List α) (ρ : En), I ys.length ρ →
  (∀ i x ρ, (ys ++ xs)[i]? = some x -> ys.length <= i -> I i ρ -> ∃ ρ1, QaW t (toD x) ρ = some ρ1 /\ Run fb ρ1 λ o => match o with | .nx ρ2 => I (i + 1) ρ2 | .ct ρ2 => I (i + 1) ρ2 | .bk ρ2 => Q (.nx ρ2) | .rt d fr => Q (.rt d fr)) →
  (∀ ρ, I (ys ++ xs).length ρ -> Q (.nx ρ)) -> Run (QcC t fb (xs.map toD)) ρ Q
 | [], ys, ρ, h0, _, fin => ⟨_, rfl, fin ρ (by simpa using h0)⟩
 | x :: xs, ys, ρ, h0, turn, fin => by
  obtain ⟨ρ1, h1, o, h2, h3⟩ := turn ys.length x ρ (by simp) (Zj _) h0
  have next : ∀ ρ2, I (ys.length + 1) ρ2 -> Run (QcC t fb (xs.map toD)) ρ2 Q := λ ρ2 hi =>
   QkO I xs (ys ++ [x]) ρ2 (by simpa using hi) (λ i y ρ' e hl => turn i y ρ' (by simpa using e) (by simp at hl; omega)) (λ ρ' h => fin ρ' (by simpa using h))
  cases o with
  | nx ρ2 => obtain ⟨o', e1, e2⟩ := next ρ2 h3; exact ⟨o', by simp [QcC, h1, h2, e1], e2⟩
  | ct ρ2 => obtain ⟨o', e1, e2⟩ := next ρ2 h3; exact ⟨o', by simp [QcC, h1, h2, e1], e2⟩
  | bk ρ2 => exact ⟨_, by simp [QcC, h1, h2], h3⟩
  | rt d fr => exact ⟨_, by simp [QcC, h1, h2], h3⟩
theorem QaT {α : Type} {fi : DI} {t : Tg} {fb : DS} {toD : α -> D} {ρ : En} {ir : IR} {Q : Out -> Prop} (xs : List α) (I : Nat -> En -> Prop) (h : fi ρ = some ir) (hx : ir.items = xs.map toD) (h0 : I 0 (QaX ir.M ρ))
  (turn : ∀ i x ρ, xs[i]? = some x -> I i ρ -> ∃ ρ1, QaW t (toD x) ρ = some ρ1 /\ Run fb ρ1 λ o => match o with | .nx ρ2 => I (i + 1) ρ2 | .ct ρ2 => I (i + 1) ρ2 | .bk ρ2 => Q (.nx ρ2) | .rt d fr => Q (.rt d fr))
  (fin : ∀ ρ, I xs.length ρ -> Q (.nx ρ)) : Run (QaM fi t fb) ρ Q := by
 obtain ⟨o, h1, h2⟩ := QkO (t := t) (fb := fb) (toD := toD) (Q := Q) I xs [] (QaX ir.M ρ) h0 (λ i x ρ e _ => turn i x ρ (by simpa using e)) (λ ρ h => fin ρ (by simpa using h))
 exact ⟨o, by simp [QaM, h, hx, h1], h2⟩
theorem Qi2 {α : Type} {t : Tg} {ft : DT} {fe : DE} {ρc : En} {toD : α -> D} {keep : α -> Bool} {out : α -> D} : ∀ (xs : List α) (acc : List D),
  (∀ x ∈ xs, ∃ ρ1, QaW t (toD x) ρc = some ρ1 /\ ft ρ1 = some (keep x) /\ (keep x = true -> ∃ r, fe ρ1 = some r /\ r.d = out x /\ r.norm.fr = true)) →
  (xs.map toD).foldlM (Qez t ft fe ρc) (acc, true) = some (acc ++ (xs.filter keep).map out, true)
 | [], acc, _ => by simp
 | x :: xs, acc, h => by
  obtain ⟨ρ1, h1, h2, h3⟩ := h x Zi
  have ih := λ acc => Qi2 xs acc (λ y hy => h y (Zd _ hy))
  cases hk : keep x with
  | false =>
   have e : Qez t ft fe ρc (acc, true) (toD x) = some (acc, true) := by simp [Qez, h1, h2, hk]
   simp [Zbj, e, ih, hk]
  | true =>
   obtain ⟨r, h4, h5, h6⟩ := h3 hk
   have e : Qez t ft fe ρc (acc, true) (toD x) = some (acc ++ [out x], true) := by simp [Qez, h1, h2, hk, h4, h5, h6]
   simp [Zbj, e, ih, hk]
theorem Qfg {α : Type} {fi : DI} {t : Tg} {cap : List (Option Nat)} {ft : DT} {fe : DE} {ρ : En} {ir : IR} {toD : α -> D} {keep : α -> Bool} {out : α -> D} (xs : List α) (h : fi ρ = some ir) (hx : ir.items = xs.map toD)
  (turn : ∀ x ∈ xs, ∃ ρ1, QaW t (toD x) (QdY cap ρ) = some ρ1 /\ ft ρ1 = some (keep x) /\ (keep x = true -> ∃ r, fe ρ1 = some r /\ r.d = out x /\ r.norm.fr = true)) :
  Qaa fi t cap ft fe ρ = some ⟨.lst ((xs.filter keep).map out), true, []⟩ := by
 unfold Qaa
 rw [h, Za, hx, Qi2 xs [] turn]
 simp
theorem QcP {α : Type} {fi : DI} {t : Tg} {cap : List (Option Nat)} {fe : DE} {ρ : En} {ir : IR} {toD : α -> D} {out : α -> D} (xs : List α) (h : fi ρ = some ir) (hx : ir.items = xs.map toD)
  (turn : ∀ x ∈ xs, ∃ ρ1, QaW t (toD x) (QdY cap ρ) = some ρ1 /\ ∃ r, fe ρ1 = some r /\ r.d = out x /\ r.norm.fr = true) :
  Qaa fi t cap QbG fe ρ = some ⟨.lst (xs.map out), true, []⟩ := by
 have := Qfg (keep := λ _ => true) (ft := QbG) xs h hx (cap := cap) (t := t) (fe := fe) (out := out) λ x hx => by
  obtain ⟨ρ1, h1, h2⟩ := turn x hx
  exact ⟨ρ1, h1, rfl, λ _ => h2⟩
 rw [this, List.filter_eq_self.mpr λ _ _ => rfl]
@[simp] theorem QuB (d : D) : R.norm ⟨d, true, []⟩ = ⟨d, true, []⟩ := by unfold R.norm; split <;> rfl
@[simp] theorem Qs (i : Nat) (d : D) (ρ : En) : asg i ⟨d, true, []⟩ ρ = ρ.set i (some (d, true)) := by unfold asg; simp [kill]
theorem QfF {i : Nat} {d : D} {fr : Bool} {M : List Nat} {ρ : En} (h : d.flat = true) : asg i ⟨d, fr, M⟩ ρ = ρ.set i (some (d, true)) := by
 unfold asg R.norm; simp [h, kill]
theorem Qab {i : Nat} {ρ : En} {d : D} {b : Bool} (h : ρ[i]? = some (some (d, b))) : Qa i ρ = some (if d.flat then ⟨d, true, []⟩ else if b then ⟨d, true, [i]⟩ else ⟨d, false, []⟩) := by
 unfold Qa
 rw [h]
 dsimp only
 split
 ·simp_all
 ·split <;> simp_all
theorem Qtp {i : Nat} {ρ : En} {n : Int} {b : Bool} (h : ρ[i]? = some (some (.int n, b))) : Qa i ρ = some ⟨.int n, true, []⟩ := by rw [Qab h]; rfl
@[simp] theorem Qek (d : D) (ρ : En) : dC d ρ = some ⟨d, true, []⟩ := rfl
theorem Q0 {g : D -> D -> Option D} {fa fb : DE} {ρ : En} {ra rb : R} {d : D} (ha : fa ρ = some ra) (hb : fb ρ = some rb) (h : g ra.d rb.d = some d) : dOp g fa fb ρ = some ⟨d, true, []⟩ := by simp [dOp, ha, hb, h]
theorem Qf {fa : DE} {fs : DA} {ρ : En} {r : R} {rs : RA} (ha : fa ρ = some r) (hs : fs ρ = some rs) : Qb fa fs ρ = some ⟨r.d :: rs.ds, r.fr && rs.fr, r.M ++ rs.M⟩ := by simp [Qb, ha, hs]
@[simp] theorem QB (ρ : En) : Qd ρ = some ⟨[], true, []⟩ := rfl
noncomputable def vf (d : D) (b : Bool) (i : Nat) : R := if d.flat then ⟨d, true, []⟩ else if b then ⟨d, true, [i]⟩ else ⟨d, false, []⟩
@[simp] theorem Qu1 (d : D) (b : Bool) (i : Nat) : (vf d b i).d = d := by unfold vf; split; rfl; split <;> rfl
@[simp] theorem QpA (i j : Int) (h : 0 <= j) : QfQ i j = i % j := by unfold QfQ; rw [if_pos h]
@[simp] theorem Qpe (i j : Int) (h : 0 <= j) : Qf2 i j = i / j := by unfold Qf2; rw [if_pos h]
theorem QeT {i j : Int} (h : i.natAbs < 2 ^ 64) : Qd0 i j = true := by unfold Qd0; simp [h]
theorem QcV {i j : Int} (h : j.natAbs < 2 ^ 64) : Qd0 i j = true := by unfold Qd0; simp [h]
theorem Qdw : (sizeLine : Nat) = 16777216 := sizeLine_eq
noncomputable def QM (m : Nat) (f : Nat -> Int) : D := .lst ((List.range m).map λ i => .int (f i))
noncomputable def Qdp (m n : Nat) (f : Nat -> Nat -> Int) : D := .lst ((List.range m).map λ i => QM n (f i))
@[simp] theorem QuD (m : Nat) (f : Nat -> Int) : (QM m f).flat = false := rfl
@[simp] theorem QuK (m n : Nat) (f : Nat -> Nat -> Int) : (Qdp m n f).flat = false := rfl
@[simp] theorem Qi4 (m : Nat) (f : Nat -> Int) : QJ ((List.range m).map λ i => D.int (f i)) = true := QbW (f := λ i => D.int (f i)) (λ _ => rfl) _
noncomputable def up (f : Nat -> Int) (i : Nat) (v : Int) : Nat -> Int := λ j => if j = i then v else f j
noncomputable def up2 (f : Nat -> Nat -> Int) (i j : Nat) (v : Int) : Nat -> Nat -> Int := λ k => if k = i then up (f k) j v else f k
theorem Qfi {n : Nat} {i : Int} (h0 : 0 <= i) (h : i < n) : ixN n i = some i.toNat := by
 unfold ixN; rw [if_pos (by omega), if_pos (by omega)]
theorem Qgr {α : Type} {xs : List α} {i : Int} (h0 : 0 <= i) (h : i < xs.length) : atI xs i = xs[i.toNat]? := by
 unfold atI; rw [Qfi h0 h]; rfl
theorem QdP {α : Type} {m : Nat} {f : Nat -> α} {i : Nat} {v : α} : ((List.range m).map f).set i v = (List.range m).map λ j => if j = i then v else f j := by
 apply Zbb
 intro k
 rw [List.getElem?_set]
 simp only [Zh, ZF, Zz]
 by_cases hk : k < m
 ·rw [ZV hk]
  by_cases e : i = k
  ·subst e; simp [hk]
  ·simp [e, Ne.symm e]
 ·rw [ZC (by simp; omega)]
  by_cases e : i = k
  ·subst e; simp [hk]
  ·simp [e]
theorem Qlk {m : Nat} {f : Nat -> Int} {i : Nat} {v : Int} : ((List.range m).map λ j => D.int (f j)).set i (.int v) = (List.range m).map λ j => D.int (up f i v j) := by
 rw [QdP]
 congr 1; funext j; unfold up; split <;> rfl
theorem Qlf {m : Nat} {f : Nat -> Int} {i : Int} (h0 : 0 <= i) (h : i < m) : atI ((List.range m).map λ j => D.int (f j)) i = some (.int (f i.toNat)) := by
 rw [Qgr h0 (by simpa using h), Zz, ZV (by omega)]; rfl
theorem Qq8 {m n : Nat} {f : Nat -> Nat -> Int} {i : Int} (h0 : 0 <= i) (h : i < m) : atI ((List.range m).map λ j => QM n (f j)) i = some (QM n (f i.toNat)) := by
 rw [Qgr h0 (by simpa using h), Zz, ZV (by omega)]; rfl
theorem Qha {x m : Nat} {f : Nat -> Int} {fi fa : DE} {ρ : En} {i : Int} {v : Int} {ri ra : R} {Q : Out -> Prop} (hx : ρ[x]? = some (some (QM m f, true))) (hi : fi ρ = some ri) (ei : ri.d = .int i) (ha : fa ρ = some ra) (ea : ra.d = .int v) (h0 : 0 <= i) (h : i < m)
  (q : Q (.nx (ρ.set x (some (QM m (up f i.toNat v), true))))) : Run (Qdt x Qap fi fa) ρ Q := by
 refine ⟨_, ?_, q⟩
 have hn : ra.norm = ⟨.int v, true, []⟩ := by unfold R.norm; rw [ea]; rfl
 unfold Qdt
 rw [ha, Za, hx]
 simp only [Qap, Za, hi, ei, Qbv, QM, Zh, ZF, Qfi h0 h, hn, ea, QaS, Qlk]
 simp [kill]
theorem QkK {g : D -> D -> Option D} {x m n : Nat} {f : Nat -> Nat -> Int} {fp fi fa : DE} {ρ : En} {i j w : Int} {rp ri ra : R} {Q : Out -> Prop} (hx : ρ[x]? = some (some (Qdp m n f, true))) (hp : fp ρ = some rp) (ep : rp.d = .int i) (hi : fi ρ = some ri) (ei : ri.d = .int j) (ha : fa ρ = some ra)
  (h0 : 0 <= i) (h : i < m) (k0 : 0 <= j) (k : j < n) (hg : g (.int (f i.toNat j.toNat)) ra.d = some (.int w)) (q : Q (.nx (ρ.set x (some (Qdp m n (up2 f i.toNat j.toNat w), true))))) : Run (Qey g x (QbY Qap fp) fi fa) ρ Q := by
 refine ⟨_, ?_, q⟩
 have hj : ((List.range n).map λ k => D.int (f i.toNat k))[j.toNat]? = some (.int (f i.toNat j.toNat)) := by rw [Zz, ZV (by omega)]; rfl
 have hd : Qbv (Qdp m n f) [i] = some (QM n (f i.toNat)) := by
  simp only [Qbv, Qdp, D.items, Za, Qq8 h0 h]
 have hu : QaS [i] (Qdp m n f) (.lst (((List.range n).map λ k => D.int (f i.toNat k)).set j.toNat (.int w))) = Qdp m n (up2 f i.toNat j.toNat w) := by
  simp only [QaS, Qdp, Zh, ZF, Qfi h0 h, Qlk]
  rw [QdP]
  congr 2; funext k
  unfold up2
  split
  ·rename_i e; subst e; rfl
  ·rfl
 unfold Qey
 rw [hx]
 simp only [QbY, Qap, Za, hp, ep, List.nil_append, hi, ei, hd, QM, Zh, ZF, Qfi k0 k, hj, ha, hg, ZY]
 rw [hu]
theorem Qdg {fa : DE} {ρ : En} {r : R} {n : Nat} (h : fa ρ = some r) (e : r.d = .int n) (hn : n <= 16777216) : Qcj fa ρ = some ⟨(List.range n).map λ (k : Nat) => .int (k : Int), []⟩ := by
 unfold Qcj
 rw [h, Za, e]
 dsimp only
 rw [if_pos ⟨by omega, by omega⟩]
 simp [Qg3]
theorem QgA {α : Type} (x : α) : ∀ n : Nat, (List.replicate n [x]).flatten = (List.range n).map λ _ => x
 | 0 => rfl
 | n + 1 => by
  rw [ZP, ZZ, QgA x n, List.range_succ_eq_map, Zu, Zar]; rfl
theorem QmB {fb : DE} {ρ : En} {r : R} {n : Nat} {z : Int} (h : fb ρ = some r) (e : r.d = .int n) (hn : n <= 16777216) : Qai (QH (Qb (dC (.int z)) Qd)) fb ρ = some ⟨QM n (λ _ => z), true, []⟩ := by
 have h1 : QH (Qb (dC (.int z)) Qd) ρ = some ⟨.lst [.int z], true, []⟩ := rfl
 unfold Qai
 rw [h1, Za, h, Za, e]
 dsimp only
 rw [if_pos ⟨by simp [Qdw]; omega, by omega, by omega, rfl⟩]
 simp only [Zx, QgA]
 rfl
noncomputable def Qia : DS := (Qe (Qx 2 (Qaa (QR (Qa 0)) (.tp [1, 2]) [none, none, none] QbG (QI (Qb (Qa 1) (Qb (Qa 2) Qd))))) (Qe (Qx 3 (Qaa (QR (Qa 0)) (.tp [1, 2]) [none, none, none] QbG (QI (Qb (Qa 2) (Qb (Qa 1) Qd))))) (Qe (QO (Qu (Qu (Qa 2) (Qa 3)) (dList (Qb (Qa 1) Qd)))) Qg)))
theorem QgB {fa fb : DE} {ρ : En} {ra rb : R} {A B : List (Int × Int)} (ha : fa ρ = some ra) (ea : ra.d = Qc A) (hb : fb ρ = some rb) (eb : rb.d = Qc B) (hl : A.length + B.length <= 16777216) : Qu fa fb ρ = some ⟨Qc (A ++ B), true, []⟩ := by
 unfold Qu
 rw [ha, Za, hb, Za, ea, eb]
 simp only [Qc, Zh, Qdw, if_pos hl, Qau]
 simp
theorem Qg2 {ρ : En} {A : List (Int × Int)} {fs : DA} {rs : RA} (h : fs ρ = some rs) (e : rs.ds = [Qc A]) (_ : True = True) : dList fs ρ = some ⟨Qc A, true, []⟩ := by
 unfold dList
 rw [h, Za, e]
 simp [Qc, Qau]
theorem QaG {fa : DE} {r : R} {g : DS} {ρ : En} {Q : D -> Bool -> Prop} (h : fa ρ = some r) (q : Q r.d (r.norm.fr && decide r.norm.M.Nodup)) : Run (Qe (QO fa) g) ρ (Rt Q) := Qy (Qa9 h q)
theorem QiX {R L : List (Int × Int)} (hl : R.length + R.length + L.length <= 16777216) : Qw 4 Qia [Qc R, Qc L] = some (Qc (R ++ R.map Prod.swap ++ L), true) := by
 refine Qbf ?_
 refine run_seq (Qm (QcP (toD := pairD) (out := pairD) R rfl rfl λ x _ => ⟨[none, some (.int x.1, true), some (.int x.2, true)], rfl, ⟨pairD x, true, []⟩, rfl, rfl, rfl⟩) ?_)
 refine run_seq (Qm (QcP (toD := pairD) (out := λ x => pairD x.swap) R rfl rfl λ x _ => ⟨[none, some (.int x.1, true), some (.int x.2, true)], rfl, ⟨pairD x.swap, true, []⟩, rfl, rfl, rfl⟩) ?_)
 have e1 : (R.map λ x => pairD x.swap) = (R.map Prod.swap).map pairD := by simp [Zar, Function.comp_def]
 rw [e1]
 exact QaG (QgB (QgB rfl rfl rfl rfl (by simpa using (by omega : R.length + R.length <= 16777216))) rfl (Qg2 rfl rfl rfl) rfl (by simpa using hl)) ⟨rfl, rfl⟩
theorem Qz {n : Nat} {den : Den} {dfl : List D} {fs : DA} {ρ : En} {r : RA} {d : D} (h : fs ρ = some r) (hd : den (r.ds ++ dfl) = some (d, true)) (hl : r.ds.length + dfl.length = n) : Qn n den dfl fs ρ = some ⟨d, true, []⟩ := by
 unfold Qn
 rw [h, Za, if_pos hl, hd]
 simp
theorem Qaz {fa : DE} {ρ : En} {r : R} {xs : List D} (h : fa ρ = some r) (e : r.d = .lst xs) : QR fa ρ = some ⟨xs, r.M⟩ := by
 unfold QR
 rw [h, Za, e]
noncomputable def stepT (m : Nat) (f : Nat -> Nat -> Int) (s : Int × Int) : Nat -> Nat -> Int :=
 let f1 := if s.1 < m then up2 f s.1.toNat s.1.toNat (f s.1.toNat s.1.toNat - 1) else f
 if s.1 < m /\ s.2 < m then up2 f1 s.1.toNat s.2.toNat (f1 s.1.toNat s.2.toNat + 1) else f1
noncomputable def Q4 (m : Nat) (S : List (Int × Int)) : Nat -> Nat -> Int := S.foldl (stepT m) λ _ _ => 0
noncomputable def Qei (QbM : Den) : DS := (Qe (Qx 1 (QcM (Ql (Qa 0) (dC (.int 0))))) (Qe (Qx 2 (Qaa (Qcj (Qa 1)) (.nm 1) [none, none, some 1] QbG (Qai (QH (Qb (dC (.int 0)) Qd)) (Qa 2)))) (Qe (QaM (QR (Qn 2 QbM [] (Qb (Ql (Qa 0) (dC (.int 1))) (Qb (Ql (Qa 0) (dC (.int 2))) Qd)))) (.tp [3, 4]) (Qe (sIf (Qj (dOp gLt (Qa 3) (Qa 1))) (Qe (Qey QbA 2 (QbY Qap (Qa 3)) (Qa 3) (dC (.int 1))) Qg) Qg) (Qe (sIf (Qc6 (Qj (dOp gLt (Qa 3) (Qa 1))) (Qj (dOp gLt (Qa 4) (Qa 1)))) (Qe (Qey (gI λ i j => some (.int (i + j))) 2 (QbY Qap (Qa 3)) (Qa 4) (dC (.int 1))) Qg) Qg) Qg))) (Qe (QO (Qa 2)) Qg))))
theorem Qpz {QbM : Den} {m : Nat} {R L S : List (Int × Int)} (hm : m <= 16777216) (hs : QbM [Qc R, Qc L] = some (Qc S, true)) (hS : ∀ s ∈ S, 0 <= s.1 /\ 0 <= s.2) : Qw 5 (Qei QbM) [Qr m R L] = some (Qdp m m (Q4 m S), true) := by
 refine Qbf ?_
 refine run_seq (Qm (r := ⟨.int m, false, []⟩) rfl ?_)
 refine run_seq (Qm (QcP (out := λ _ => QM m λ _ => 0) (List.range m) (Qdg (n := m) (r := ⟨.int m, true, []⟩) rfl rfl hm) rfl λ x _ => ⟨[none, some (.int x, true), some (.int m, true)], rfl, _, QmB (r := ⟨.int m, true, []⟩) rfl rfl hm, rfl, rfl⟩) ?_)
 refine run_seq (QaT (toD := pairD) S (λ i ρ => ∃ j1 j2, ρ = [some (Qr m R L, false), some (.int m, true), some (Qdp m m (Q4 m (S.take i)), true), j1, j2]) (ir := ⟨S.map pairD, []⟩) ?_ rfl ⟨none, none, rfl⟩ ?_ ?_)
 ·exact Qaz (Qz (r := ⟨[Qc R, Qc L], false, []⟩) (d := Qc S) rfl hs rfl) rfl
 ·rintro i s ρ hi ⟨j1, j2, rfl⟩
  refine ⟨_, rfl, ?_⟩
  obtain ⟨s1, s2⟩ := hS s (Zac hi)
  refine run_seq (f := sIf _ _ _) (Run.mono (Q := Nx λ ρ => ρ = [some (Qr m R L, false), some (.int m, true), some (Qdp m m (if s.1 < m then up2 (Q4 m (S.take i)) s.1.toNat s.1.toNat (Q4 m (S.take i) s.1.toNat s.1.toNat - 1) else Q4 m (S.take i)), true), some (.int s.1, true), some (.int s.2, true)]) ?_ ?_)
  ·refine QC (b := decide (s.1 < m)) rfl (λ h => ?_) (λ h => ?_)
   ·have h := of_decide_eq_true h
    rw [if_pos h]
    exact run_seq (QkK (i := s.1) (j := s.1) rfl rfl rfl rfl rfl rfl s1 h s1 h rfl (Qi rfl))
   ·have h := of_decide_eq_false h
    rw [if_neg h]
    exact Qi rfl
  ·intro o ho
   cases o with
   | nx ρ =>
    subst ho
    have fin : Q4 m (S.take (i + 1)) = stepT m (Q4 m (S.take i)) s := by
     unfold Q4
     rw [Zbc, hi, List.foldl_append]; rfl
    refine run_seq (f := sIf _ _ _) (Run.mono (Q := Nx λ ρ => ρ = [some (Qr m R L, false), some (.int m, true), some (Qdp m m (stepT m (Q4 m (S.take i)) s), true), some (.int s.1, true), some (.int s.2, true)]) ?_ ?_)
    ·refine QC (b := decide (s.1 < m /\ s.2 < m)) ?_ (λ h => ?_) (λ h => ?_)
     ·by_cases h : s.1 < (m : Int)
      ·simp [Qc6, Qj, dOp, Qa, gLt, gI, D.tru, h]
      ·simp [Qc6, Qj, dOp, Qa, gLt, gI, D.tru, h]
     ·have h := of_decide_eq_true h
      refine run_seq (QkK (i := s.1) (j := s.2) rfl rfl rfl rfl rfl rfl s1 h.1 s2 h.2 rfl (Qi ?_))
      unfold stepT
      rw [if_pos h]; rfl
     ·have h := of_decide_eq_false h
      refine Qi ?_
      unfold stepT
      rw [if_neg h]; rfl
    ·intro o ho
     cases o with
     | nx ρ =>
      subst ho
      exact Qi ⟨_, _, by rw [fin]⟩
     | _ => exact False.elim ho
   | _ => exact False.elim ho
 ·rintro ρ ⟨j1, j2, rfl⟩
  rw [Zbm]
  exact QaG rfl ⟨rfl, rfl⟩
noncomputable def hit (i j : Nat) (s : Int × Int) : Int := (if s.1 = i /\ s.2 = j then 1 else 0) - (if s.1 = i /\ i = j then 1 else 0)
theorem QlA {f : Nat -> Nat -> Int} {a b : Nat} {v : Int} {i j : Nat} : up2 f a b v i j = if i = a /\ j = b then v else f i j := by
 unfold up2 up
 by_cases h1 : i = a
 ·by_cases h2 : j = b
  ·simp [h1, h2]
  ·simp [h1, h2]
 ·simp [h1]
theorem Qnk {m : Nat} {f : Nat -> Nat -> Int} {s : Int × Int} {i j : Nat} (hi : i < m) (hj : j < m) (h1 : 0 <= s.1) (h2 : 0 <= s.2) : stepT m f s i j = f i j + hit i j s := by
 unfold stepT hit
 have e1 : (s.1 = (i : Int)) ↔ (i = s.1.toNat) := by omega
 have e2 : (s.2 = (j : Int)) ↔ (j = s.2.toNat) := by omega
 simp only [e1, e2]
 by_cases c1 : s.1 < (m : Int)
 ·by_cases c2 : s.2 < (m : Int)
  ·simp only [c1, c2, and_self, if_true, QlA]
   generalize s.1.toNat = a
   generalize s.2.toNat = b
   by_cases d1 : i = a
   ·subst d1
    by_cases d2 : j = b
    ·subst d2
     by_cases d3 : i = j
     ·subst d3; simp
     ·have d4 : ¬ j = i := λ z => d3 z.symm
      simp [d3, d4]
    ·by_cases d3 : i = j
     ·subst d3; simp [d2]; omega
     ·have d4 : ¬ j = i := λ z => d3 z.symm
      simp [d2, d3, d4]
   ·simp [d1]
  ·have d2 : ¬ (j = s.2.toNat) := by omega
   simp only [c1, c2, and_false, if_false, if_true, QlA, d2]
   generalize s.1.toNat = a
   by_cases d1 : i = a
   ·subst d1
    by_cases d3 : i = j
    ·subst d3; simp; omega
    ·have d4 : ¬ j = i := λ z => d3 z.symm
     simp [d3, d4]
   ·simp [d1]
 ·have d1 : ¬ (i = s.1.toNat) := by omega
  simp [c1, d1]
theorem Qjf {m : Nat} {i j : Nat} (hi : i < m) (hj : j < m) : ∀ (S : List (Int × Int)) (f : Nat -> Nat -> Int), (∀ s ∈ S, 0 <= s.1 /\ 0 <= s.2) -> S.foldl (stepT m) f i j = f i j + (S.map (hit i j)).sum
 | [], f, _ => by simp
 | s :: S, f, h => by
  obtain ⟨h1, h2⟩ := h s Zi
  rw [Zbx, Qjf hi hj S _ (λ t ht => h t (Zd _ ht)), Qnk hi hj h1 h2, Zu, ZT]
  omega
theorem Qd8 {m : Nat} {S : List (Int × Int)} {i j : Nat} (hi : i < m) (hj : j < m) (h : ∀ s ∈ S, 0 <= s.1 /\ 0 <= s.2) : Q4 m S i j = (S.map (hit i j)).sum := by
 unfold Q4
 rw [Qjf hi hj S _ h]; simp
noncomputable def isI (i : Nat) (a : Int) : Int := if a = i then 1 else 0
noncomputable def Q9 (R L : List (Int × Int)) (i : Nat) : Int := (R.map λ r => isI i r.1 + isI i r.2).sum + (L.map λ l => isI i l.1).sum
theorem sum_neg (S : List (Int × Int)) (i : Nat) (h : ∀ s ∈ S, s.1 ≠ s.2) : (S.map (hit i i)).sum = - (S.map λ s => isI i s.1).sum := by
 induction S with
 | nil => rfl
 | cons s S ih =>
  rw [Zu, ZT, ih λ t ht => h t (Zd _ ht), Zu, ZT]
  have hn := h s Zi
  unfold hit isI
  by_cases e : s.1 = (i : Int)
  ·have : ¬ (s.2 = (i : Int)) := λ z => hn (e.trans z.symm)
   simp [e, this]; omega
  ·simp [e]
noncomputable def Qv (R L : List (Int × Int)) : List (Int × Int) := R ++ R.map Prod.swap ++ L
theorem Qi1 (R L : List (Int × Int)) (i : Nat) : ((Qv R L).map λ s => isI i s.1).sum = Q9 R L i := by
 unfold Qv Q9
 rw [Zv, Zv, Zas, Zas]
 have : (R.map λ r => isI i r.1 + isI i r.2).sum = (R.map λ s => isI i s.1).sum + ((R.map Prod.swap).map λ s => isI i s.1).sum := by
  induction R with
  | nil => rfl
  | cons r R ih => simp only [Zu, ZT, ih, Prod.fst_swap]; omega
 omega
def Good (m : Nat) (s : Int × Int) : Prop := 0 <= s.1 /\ 0 <= s.2 /\ s.1 <= m /\ s.2 <= m /\ s.1 ≠ s.2
theorem Qbx {m : Nat} {R L : List (Int × Int)} (hR : ∀ s ∈ R, Good m s) (hL : ∀ s ∈ L, Good m s) : ∀ s ∈ Qv R L, Good m s := λ s hs => by
 unfold Qv at hs
 rcases Zn.mp hs with hs | hs
 ·rcases Zn.mp hs with hs | hs
  ·exact hR s hs
  ·obtain ⟨t, ht, rfl⟩ := ZE.mp hs
   obtain ⟨h1, h2, h3, h4, h5⟩ := hR t ht
   exact ⟨h2, h1, h4, h3, λ z => h5 z.symm⟩
 ·exact hL s hs
def Qho (d : Den) : Prop := ∀ (m : Nat) (R L : List (Int × Int)), m <= 1000 -> R.length + R.length + L.length <= 1000000 -> (∀ s ∈ R, Good m s) -> (∀ s ∈ L, Good m s) -> d [Qr m R L] = some (Qdp m m (Q4 m (Qv R L)), true)
theorem Qrl : Qho (Qw 5 (Qei (Qw 4 Qia))) := λ m R L hm hl hR hL => by
 refine Qpz (by omega) (QiX (by omega)) λ s hs => ?_
 obtain ⟨h1, h2, _⟩ := Qbx hR hL s hs
 exact ⟨h1, h2⟩
noncomputable def QeR (QbO : Den) : DS := (Qe (QO (Qaa (Qhu (Qn 1 QbO [] (Qb (Qa 0) Qd))) (.tp [1, 2]) [none, none, none] QbG (dOp QbA (dC (.int 0)) (Ql (Qa 2) (Qa 1))))) Qg)
theorem QlU {α : Type} (m : Nat) (f : Nat -> D) : Qd1 ((List.range m).map f) = (List.range m).map λ i => .tup [.int i, f i] := by
 apply Zbb
 intro k
 unfold Qd1
 simp only [Zz, List.getElem?_zipIdx, Nat.zero_add]
 by_cases hk : k < m
 ·rw [ZV hk]; rfl
 ·rw [ZC (by simp; omega)]; rfl
theorem Qpm {d : Den} (hd : Qho d) {m : Nat} {R L : List (Int × Int)} (hm : m <= 1000) (hl : R.length + R.length + L.length <= 1000000) (hR : ∀ s ∈ R, Good m s) (hL : ∀ s ∈ L, Good m s) : Qw 1 (QeR d) [Qr m R L] = some (QM m (Q9 R L), true) := by
 refine Qbf ?_
 refine QaG (QcP (toD := λ (i : Nat) => .tup [.int i, QM m (Q4 m (Qv R L) i)]) (out := λ (i : Nat) => .int (Q9 R L i)) (ir := ⟨Qd1 ((List.range m).map λ i => QM m (Q4 m (Qv R L) i)), []⟩) (List.range m) ?_ ?_ λ i hi => ?_) ⟨rfl, rfl⟩
 ·unfold Qhu
  rw [Qz (n := 1) (fs := Qb (Qa 0) Qd) (ρ := Qb7 1 [Qr m R L]) (dfl := []) (r := ⟨[Qr m R L], false, []⟩) rfl (hd m R L hm hl hR hL) rfl]; rfl
 ·exact QlU (α := Nat) m _
 ·have hi := ZR.mp hi
  refine ⟨[none, some (.int i, true), some (QM m (Q4 m (Qv R L) i), false)], rfl, ⟨.int (0 - Q4 m (Qv R L) i i), true, []⟩, ?_, ?_, rfl⟩
  ·have e : Ql (Qa 2) (Qa 1) [none, some (.int (i : Int), true), some (QM m (Q4 m (Qv R L) i), false)] = some ⟨.int (Q4 m (Qv R L) i i), true, []⟩ := by
    show ((D.items (QM m (Q4 m (Qv R L) i))).bind λ xs => (atI xs (i : Int)).map λ d => (HS.R.norm ⟨d, false, []⟩)) = _
    unfold QM
    rw [show D.items (.lst ((List.range m).map λ j => D.int (Q4 m (Qv R L) i j))) = some ((List.range m).map λ j => D.int (Q4 m (Qv R L) i j)) from rfl, Za, Qlf (by omega) (by omega)]
    rfl
   exact Q0 (rfl) e rfl
  ·have g := Qbx hR hL
   rw [Qd8 hi hi λ s hs => ⟨(g s hs).1, (g s hs).2.1⟩, sum_neg _ i λ s hs => (g s hs).2.2.2.2, Qi1]
   show D.int (0 - -(Q9 R L i)) = _
   rw [show (0 : Int) - -(Q9 R L i) = Q9 R L i by omega]
theorem Qgy (a b : Int) : deq (.int a) (.int b) = decide (a = b) := by
 show PyData.eqv (.int a) (.int b) = _
 unfold PyData.eqv
 exact Bool.beq_eq_decide_eq a b
theorem QaR {fa fb : DE} {ρ : En} {ra rb : R} {a b : Int} (ha : fa ρ = some ra) (ea : ra.d = .int a) (hb : fb ρ = some rb) (eb : rb.d = .int b) : dOp gEq fa fb ρ = some ⟨.bl (decide (a = b)), true, []⟩ := by
 refine Q0 ha hb ?_
 rw [ea, eb]
 show some (D.bl (deq (.int a) (.int b))) = _
 rw [Qgy]
theorem Qhq {fa fb : DE} {ρ : En} {ra rb : R} {a b : Int} (ha : fa ρ = some ra) (ea : ra.d = .int a) (hb : fb ρ = some rb) (eb : rb.d = .int b) : dOp gNe fa fb ρ = some ⟨.bl (!decide (a = b)), true, []⟩ := by
 refine Q0 ha hb ?_
 rw [ea, eb]
 show some (D.bl (!deq (.int a) (.int b))) = _
 rw [Qgy]
theorem QpU {fa fb : DE} {ρ : En} {a b : Bool} (ha : fa ρ = some ⟨.bl a, true, []⟩) (hb : fb ρ = some ⟨.bl b, true, []⟩) : dOr fa fb ρ = some ⟨.bl (a || b), true, []⟩ := by
 unfold dOr
 rw [ha]
 cases a <;> simp [D.tru, hb]
theorem Qgh {fa fb : DE} {ρ : En} {a b : Bool} (ha : fa ρ = some ⟨.bl a, true, []⟩) (hb : fb ρ = some ⟨.bl b, true, []⟩) : Qb2 fa fb ρ = some ⟨.bl (a && b), true, []⟩ := by
 unfold Qb2
 rw [ha]
 cases a <;> simp [D.tru, hb]
theorem Qp {fa : DE} {ρ : En} {r : R} {b : Bool} (ha : fa ρ = some r) (e : r.d = .bl b) : Qj fa ρ = some b := by
 unfold Qj
 rw [ha, Za, e]; rfl
theorem QaP {g : DT} {ρ : En} {b : Bool} (h : g ρ = some b) : Qbg g ρ = some (!b) := by unfold Qbg; rw [h]; rfl
theorem Qbc {g1 g2 : DT} {ρ : En} {a b : Bool} (ha : g1 ρ = some a) (hb : g2 ρ = some b) : bOr g1 g2 ρ = some (a || b) := by
 unfold bOr; rw [ha]; cases a <;> simp [hb]
theorem Qgv {g1 g2 : DT} {ρ : En} {a b : Bool} (ha : g1 ρ = some a) (hb : g2 ρ = some b) : Qc6 g1 g2 ρ = some (a && b) := by
 unfold Qc6; rw [ha]; cases a <;> simp [hb]
theorem QbJ {fa fb : DE} {ρ : En} {ra rb : R} {a b : Int} (ha : fa ρ = some ra) (ea : ra.d = .int a) (hb : fb ρ = some rb) (eb : rb.d = .int b) (h : Qd0 a b = true) : Qai fa fb ρ = some ⟨.int (a * b), true, []⟩ := by
 unfold Qai
 rw [ha, Za, hb, Za, ea, eb]
 simp [h]
theorem Q2 {fa fb : DE} {ρ : En} {ra rb : R} {a b : Int} (ha : fa ρ = some ra) (ea : ra.d = .int a) (hb : fb ρ = some rb) (eb : rb.d = .int b) : Qu fa fb ρ = some ⟨.int (a + b), true, []⟩ := by
 unfold Qu
 rw [ha, Za, hb, Za, ea, eb]
theorem QP {fa fb : DE} {ρ : En} {ra rb : R} {a b : Int} (ha : fa ρ = some ra) (ea : ra.d = .int a) (hb : fb ρ = some rb) (eb : rb.d = .int b) (h : 0 < b) : dOp QK fa fb ρ = some ⟨.int (a % b), true, []⟩ := by
 refine Q0 ha hb ?_
 rw [ea, eb]
 show (if b ≠ 0 then some (D.int (QfQ a b)) else none) = _
 rw [if_pos (by omega), QpA _ _ (by omega)]
theorem Qcz {fa fb : DE} {ρ : En} {ra rb : R} {a b : Int} (ha : fa ρ = some ra) (ea : ra.d = .int a) (hb : fb ρ = some rb) (eb : rb.d = .int b) (h : 0 < b) (h2 : b < 2 ^ 64) : dOp Qct fa fb ρ = some ⟨.int (a / b), true, []⟩ := by
 refine Q0 ha hb ?_
 rw [ea, eb]
 have : Qfk b = true := by
  unfold Qfk
  have h3 : b.natAbs < 2 ^ 8000 := Zp (by omega : b.natAbs < 2 ^ 64) (ZaA (by decide) (by decide))
  simp only [Zf, decide_eq_true_eq]
  exact ⟨by omega, h3⟩
 show (if Qfk b = true then some (D.int (Qf2 a b)) else none) = _
 rw [if_pos this, Qpe _ _ (by omega)]
theorem QlF {fa fb : DE} {ρ : En} {ra rb : R} {m : Nat} {f : Nat -> Int} {i : Int} (ha : fa ρ = some ra) (ea : ra.d = QM m f) (hb : fb ρ = some rb) (eb : rb.d = .int i) (h0 : 0 <= i) (h : i < m) : Ql fa fb ρ = some ⟨.int (f i.toNat), true, []⟩ := by
 unfold Ql
 rw [ha, Za, hb, Za, ea, eb]
 simp only [QM, D.items, Za, Qlf h0 h, ZY]
 rfl
theorem Qrh {fa fb : DE} {ρ : En} {ra rb : R} {ns : List Int} {i : Int} {v : Int} (ha : fa ρ = some ra) (ea : ra.d = .lst (ns.map .int)) (hb : fb ρ = some rb) (eb : rb.d = .int i) (h0 : 0 <= i) (h : ns[i.toNat]? = some v) : Ql fa fb ρ = some ⟨.int v, true, []⟩ := by
 have hl : i < ns.length := by have := (Zg.mp h).1; omega
 unfold Ql
 rw [ha, Za, hb, Za, ea, eb]
 simp only [D.items, Za]
 rw [Qgr h0 (by simpa using hl), Zz, h]
 rfl
theorem Qna {m n : Nat} {f : Nat -> Int} (h : n <= m) : cutD ((List.range m).map λ i => D.int (f i)) none (some (n : Int)) = (List.range n).map λ i => D.int (f i) := by
 unfold cutD
 simp only [Zh, ZF, HT.QfA, HT.Qdn, ZbA, Zbs, Zak h]
 rw [← ZaG, List.take_range, Zak h]
theorem Qqg {fa fb : DE} {ρ : En} {ra rb : R} {m n : Nat} {f : Nat -> Int} (ha : fa ρ = some ra) (ea : ra.d = QM m f) (hb : fb ρ = some rb) (eb : rb.d = .int n) (h : n <= m) : QbN fa QbH (Qad fb) ρ = some ⟨QM n f, true, []⟩ := by
 unfold QbN QbH Qad
 rw [ha, Za, hb, ea]
 simp only [Za, eb, QM, Qna h, Qau, Qi4, if_true]
noncomputable def Qe6 : DS := (Qe (sIf (Qj (dOp gLt (Qa 1) (dBf QaF (Qb (Qa 0) Qd)))) (Qe (QO (Ql (Qa 0) (Qa 1))) Qg) Qg) (Qe (QO (dC (.int 0))) Qg))
def QhB (d : Den) : Prop := ∀ (ns : List Int) (k : Nat), d [.lst (ns.map .int), .int k] = some (.int (ns.getD k 0), true)
theorem Qqo : QhB (Qw 2 Qe6) := λ ns k => by
 refine Qbf ?_
 refine Qy (QC (b := decide ((k : Int) < ns.length)) ?_ (λ h => ?_) (λ h => ?_))
 ·refine Qp (r := ⟨.bl (decide ((k : Int) < ns.length)), true, []⟩) (Q0 (ra := ⟨.int k, true, []⟩) (rb := ⟨.int ns.length, true, []⟩) rfl ?_ rfl) rfl
  show some (HS.R.mk (.int ((ns.map D.int).length : Int)) true []) = _
  rw [Zh]
 ·have h := of_decide_eq_true h
  have hk : k < ns.length := by omega
  have e : ns[k]? = some (ns.getD k 0) := by rw [Zad, Zbe hk]; rfl
  exact Qy (Qa9 (Qrh (ns := ns) (i := k) rfl rfl rfl rfl (by omega) (by simpa using e)) ⟨rfl, rfl⟩)
 ·have h := of_decide_eq_false h
  have e : ns.getD k 0 = 0 := by rw [Zad, ZC (by omega)]; rfl
  rw [e]
  exact Qi (QaG rfl ⟨rfl, rfl⟩)
noncomputable def QfW : DS := (Qe (QO (Qb2 (Qgb "int" (Qa 0)) (Qg9 (Qgb "bool" (Qa 0))))) Qg)
def Qgz (d : Den) : Prop := ∀ i : Int, d [.int i] = some (.bl true, true)
theorem Qoa : Qgz (Qw 1 QfW) := λ i => rfl
noncomputable def QaE (t k : Int) : Int := (t + 17) * (k * k + 7 * k + 11) * 69621 % 2147483647
noncomputable def QcZ (m t k : Int) : Int := if QaE t k % (k + 1) < k then (QaE t k % (k + 1) + t) % m else m
noncomputable def Qdi (m t kind : Int) (k : Int) : Int × Int × Bool := ((k + t) % m, QcZ m t k, decide (kind = 2) || (decide (kind = 3) && decide (QaE t k / 64 % 2 = 1)))
noncomputable def QcF (m : Nat) (t kind : Int) : List (Int × Int × Bool) := (List.range m).map λ (k : Nat) => Qdi m t kind k
def GoodW (m : Nat) (w : Int × Int × Bool) : Prop := Good m (w.1, w.2.1) /\ (w.2.2 = true -> w.1 < m)
noncomputable def QA (W : List (Int × Int × Bool)) : D := .lst (W.map QbU)
@[simp] theorem Qtr (W : List (Int × Int × Bool)) : (QA W).flat = false := rfl
theorem Qnc {a x n : Int} (h1 : 0 < x) (h2 : x < n) : (a + x) % n ≠ a % n := λ h => by
 have h3 : (a + x - a) % n = 0 := Int.emod_eq_emod_iff_emod_sub_eq_zero.mp h
 rw [show a + x - a = x by omega, Zbd (by omega) h2] at h3
 omega
theorem Qno {m : Nat} {t kind : Int} {k : Nat} (hk : k < m) : GoodW m (Qdi m t kind k) := by
 have hm : (0 : Int) < m := by omega
 have h1 := Zw ((k : Int) + t) (by omega : (m : Int) ≠ 0)
 have h2 := Zy ((k : Int) + t) hm
 unfold Qdi QcZ
 split
 ·rename_i hlt
  have h3 := Zw (QaE t k) (by omega : ((k : Int) + 1) ≠ 0)
  have h4 := Zw (QaE t k % (k + 1) + t) (by omega : (m : Int) ≠ 0)
  have h5 := Zy (QaE t k % (k + 1) + t) hm
  refine ⟨⟨h1, h4, by dsimp only; omega, by dsimp only; omega, ?_⟩, λ _ => by dsimp only; omega⟩
  dsimp only
  have h6 := Qnc (a := QaE t k % (k + 1) + t) (x := k - QaE t k % (k + 1)) (n := m) (by omega) (by omega)
  rw [show QaE t k % (k + 1) + t + (k - QaE t k % (k + 1)) = k + t by omega] at h6
  exact h6
 ·exact ⟨⟨h1, by dsimp only; omega, by dsimp only; omega, by dsimp only; omega, by dsimp only; omega⟩, λ _ => by dsimp only; omega⟩
noncomputable def QgW : DS := (Qe (Qx 3 (QH Qd)) (Qe (QaM (Qcj (Qa 0)) (.nm 4) (Qe (Qx 5 (dOp QK (Qai (Qai (Qu (Qa 1) (dC (.int 17))) (Qu (Qu (Qai (Qa 4) (Qa 4)) (Qai (dC (.int 7)) (Qa 4))) (dC (.int 11)))) (dC (.int 69621))) (dC (.int 2147483647)))) (Qe (Qx 6 (QcM (Qa 0))) (Qe (sIf (Qj (dOp gLt (dOp QK (Qa 5) (Qu (Qa 4) (dC (.int 1)))) (Qa 4))) (Qe (Qx 6 (dOp QK (Qu (dOp QK (Qa 5) (Qu (Qa 4) (dC (.int 1)))) (Qa 1)) (Qa 0))) Qg) Qg) (Qe (QbQ 3 Qap (QI (Qb (dOp QK (Qu (Qa 4) (Qa 1)) (Qa 0)) (Qb (Qa 6) (Qb (dOr (dOp gEq (Qa 2) (dC (.int 2))) (Qb2 (dOp gEq (Qa 2) (dC (.int 3))) (dOp gEq (dOp QK (dOp Qct (Qa 5) (dC (.int 64))) (dC (.int 2))) (dC (.int 1))))) Qd))))) Qg))))) (Qe (QO (Qa 3)) Qg)))
theorem Qe2 {x : Nat} {fa : DE} {ρ : En} {r : R} {xs : List D} {Q : Out -> Prop} (hx : ρ[x]? = some (some (.lst xs, true))) (ha : fa ρ = some r) (hf : r.d.flat = true) (hl : xs.length < 16777216) (q : Q (.nx (ρ.set x (some (.lst (xs ++ [r.d]), true))))) : Run (QbQ x Qap fa) ρ Q := by
 refine ⟨_, ?_, q⟩
 have hn : r.norm = ⟨r.d, true, []⟩ := by unfold HS.R.norm; rw [if_pos hf]
 unfold QbQ
 rw [hx]
 simp only [Qap, Za, ha, Qbv, Qfp, hn, QaS, kill, Qdw]
 simp [hl]
def QkM (d : Den) : Prop := ∀ (m : Nat) (t kind : Int), 0 < m -> m <= 1000 -> 0 <= t -> t < 2000000 -> d [.int m, .int t, .int kind] = some (QA (QcF m t kind), true)
theorem Qqb : QkM (Qw 7 QgW) := λ m t kind h0 hm ht ht2 => by
 refine Qbf ?_
 refine run_seq (Qm (r := ⟨.lst [], true, []⟩) rfl ?_)
 rw [Qs]
 refine run_seq (QaT (List.range m) (λ i ρ => ∃ j4 j5 j6, ρ = [some (.int m, true), some (.int t, true), some (.int kind, true), some (.lst (((List.range i).map λ (k : Nat) => Qdi m t kind k).map QbU), true), j4, j5, j6]) (Qdg (n := m) (r := ⟨.int m, true, []⟩) rfl rfl (by omega)) rfl ⟨none, none, none, rfl⟩ ?_ ?_)
 ·rintro i k ρ hi ⟨j4, j5, j6, rfl⟩
  have hk : i < m /\ i = k := by
   obtain ⟨h1, h2⟩ := Zg.mp hi
   simp at h1 h2; exact ⟨h1, h2⟩
  obtain ⟨hk, rfl⟩ := hk
  refine ⟨_, rfl, ?_⟩
  have n1 : (t + 17).natAbs < 2 ^ 64 := by omega
  have n2 : (69621 : Int).natAbs < 2 ^ 64 := by decide
  refine run_seq (Qm (r := ⟨.int (QaE t i), true, []⟩) ?_ ?_)
  ·exact QP (QbJ (QbJ (Q2 (a := t) (b := 17) rfl rfl rfl rfl) rfl (Q2 (Q2 (QbJ (a := (i : Int)) (b := i) rfl rfl rfl rfl (QeT (by omega))) rfl (QbJ (a := 7) (b := (i : Int)) rfl rfl rfl rfl (QeT (by decide))) rfl) rfl (Qek (.int 11) _) rfl) rfl (QeT n1)) rfl (Qek (.int 69621) _) rfl (QcV n2)) rfl (Qek (.int 2147483647) _) rfl (by decide)
  ·rw [Qs]
   refine run_seq (Qm (r := ⟨.int m, false, []⟩) rfl ?_)
   rw [QfF rfl]
   refine run_seq (f := sIf _ _ _) (Run.mono (Q := Nx λ ρ => ρ = [some (.int m, true), some (.int t, true), some (.int kind, true), some (.lst (((List.range i).map λ (k : Nat) => Qdi m t kind k).map QbU), true), some (.int i, true), some (.int (QaE t i), true), some (.int (QcZ m t i), true)]) ?_ ?_)
   ·have e1 : ∀ (ρ : En), ρ = [some (.int m, true), some (.int t, true), some (.int kind, true), some (.lst (((List.range i).map λ (k : Nat) => Qdi m t kind k).map QbU), true), some (.int i, true), some (.int (QaE t i), true), some (.int m, true)] -> dOp QK (Qa 5) (Qu (Qa 4) (dC (.int 1))) ρ = some ⟨.int (QaE t i % (i + 1)), true, []⟩ := by
     rintro ρ rfl
     exact QP (a := QaE t i) (b := (i : Int) + 1) rfl rfl (Q2 (a := (i : Int)) (b := 1) rfl rfl rfl rfl) rfl (by omega)
    refine QC (b := decide (QaE t i % (i + 1) < i)) (Qp (Q0 (e1 _ rfl) rfl rfl) rfl) (λ h => ?_) (λ h => ?_)
    ·have h := of_decide_eq_true h
     refine run_seq (Qm (QP (a := QaE t i % (i + 1) + t) (b := m) (Q2 (a := QaE t i % (i + 1)) (b := t) (e1 _ rfl) rfl rfl rfl) rfl rfl rfl (by omega)) (Qi ?_))
     rw [Qs]
     unfold QcZ
     rw [if_pos h]; rfl
    ·have h := of_decide_eq_false h
     refine Qi ?_
     unfold QcZ
     rw [if_neg h]; rfl
   ·intro o ho
    cases o with
    | nx ρ =>
     subst ho
     refine run_seq (Qe2 (r := ⟨QbU (Qdi m t kind i), true, []⟩) rfl ?_ rfl (by simp; omega) ?_)
     ·have e := QpU (QaR (a := kind) (b := 2) (fa := Qa 2) (fb := dC (.int 2)) (ρ := [some (.int m, true), some (.int t, true), some (.int kind, true), some (.lst (((List.range i).map λ (k : Nat) => Qdi m t kind k).map QbU), true), some (.int i, true), some (.int (QaE t i), true), some (.int (QcZ m t i), true)]) rfl rfl rfl rfl)
       (Qgh (QaR (a := kind) (b := 3) (fa := Qa 2) (fb := dC (.int 3)) rfl rfl rfl rfl) (QaR (a := QaE t i / 64 % 2) (b := 1) (fb := dC (.int 1)) (QP (a := QaE t i / 64) (b := 2) (fb := dC (.int 2)) (Qcz (a := QaE t i) (b := 64) (fa := Qa 5) (fb := dC (.int 64)) rfl rfl rfl rfl (by decide) (by decide)) rfl rfl rfl (by decide)) rfl rfl rfl))
      have e2 : dOp QK (Qu (Qa 4) (Qa 1)) (Qa 0) [some (.int m, true), some (.int t, true), some (.int kind, true), some (.lst (((List.range i).map λ (k : Nat) => Qdi m t kind k).map QbU), true), some (.int i, true), some (.int (QaE t i), true), some (.int (QcZ m t i), true)] = some ⟨.int ((i + t) % m), true, []⟩ :=
       QP (a := (i : Int) + t) (b := m) (Q2 (a := (i : Int)) (b := t) rfl rfl rfl rfl) rfl rfl rfl (by omega)
      unfold QI
      rw [Qf e2 (Qf (r := ⟨.int (QcZ m t i), true, []⟩) rfl (Qf e (QB _)))]
      rfl
     ·refine Qi ⟨some (.int i, true), some (.int (QaE t i), true), some (.int (QcZ m t i), true), ?_⟩
      show [some (D.int m, true), some (D.int t, true), some (D.int kind, true), some (D.lst (((List.range i).map λ (k : Nat) => Qdi m t kind k).map QbU ++ [QbU (Qdi m t kind i)]), true), _, _, _] = _
      rw [ZaT, Zv, Zv]; rfl
    | _ => exact False.elim ho
 ·rintro ρ ⟨j4, j5, j6, rfl⟩
  rw [ZF]
  exact QaG rfl ⟨rfl, rfl⟩
noncomputable def QgP : DS := (Qe (Qx 2 (Qai (QH (Qb (dC (.int 0)) Qd)) (Qu (Qa 0) (dC (.int 1))))) (Qe (QaM (QR (Qa 1)) (.tp [3, 4, 5]) (Qe (Qdt 2 Qap (Qa 3) (Qu (Ql (Qa 2) (Qa 3)) (dC (.int 1)))) (Qe (sIf (Qbg (Qj (Qa 5))) (Qe (Qdt 2 Qap (Qa 4) (Qu (Ql (Qa 2) (Qa 4)) (dC (.int 1)))) Qg) Qg) Qg))) (Qe (Qx 6 (dC (.int 1))) (Qe (QaM (QR (QbN (Qa 2) QbH (Qad (Qa 0)))) (.nm 7) (Qe (Qx 6 (Qai (Qa 6) (Qa 7))) Qg)) (Qe (QO (dOp gLe (Qa 6) (dC (.int 300)))) Qg)))))
theorem QlK {x y m : Nat} {f : Nat -> Int} {ρ : En} {i : Int} {b : Bool} {Q : Out -> Prop} (hx : ρ[x]? = some (some (QM m f, true))) (hy : ρ[y]? = some (some (.int i, b))) (h0 : 0 <= i) (h : i < m)
  (q : Q (.nx (ρ.set x (some (QM m (up f i.toNat (f i.toNat + 1)), true))))) : Run (Qdt x Qap (Qa y) (Qu (Ql (Qa x) (Qa y)) (dC (.int 1)))) ρ Q := by
 have e1 : Qa y ρ = some ⟨.int i, true, []⟩ := Qtp hy
 have e2 := Qab hx
 exact Qha hx e1 rfl (Q2 (QlF e2 (by simp) e1 rfl h0 h) rfl (Qek (.int 1) _) rfl) rfl h0 h q
theorem Run.nx {f : DS} {ρ : En} {Q Q' : En -> Prop} (h : Run f ρ (Nx Q)) (m : ∀ ρ, Q ρ -> Q' ρ) : Run f ρ (Nx Q') := h.mono λ o ho => by
 cases o with
 | nx ρ => exact m ρ ho
 | _ => exact ho.elim
theorem QbC {f g : DS} {ρ : En} {P : En -> Prop} {Q : Out -> Prop} (h : Run f ρ (Nx P)) (k : ∀ ρ', P ρ' -> Run g ρ' Q) : Run (Qe f g) ρ Q := run_seq (h.nx k)
noncomputable def QeO (Qax : Den) : DS := (Qe (QaM (QR (Qa 1)) (.nm 4) (Qe (Qx 5 (dOp QK (Qai (Qa 4) (dC (.int 48271))) (dC (.int 2147483647)))) (Qe (Qx 6 (dOp QK (Qa 5) (Qu (Qa 2) (dC (.int 1))))) (Qe (Qx 7 (dOp QK (Qu (Qu (Qa 6) (dC (.int 1))) (dOp QK (dOp Qct (Qa 5) (dC (.int 9))) (Qa 2))) (Qu (Qa 2) (dC (.int 1))))) (Qe (Qx 8 (QI (Qb (Qa 6) (Qb (Qa 7) (Qb (Qb2 (dOp gLt (Qa 6) (Qa 2)) (dOr (dOp gEq (Qa 3) (dC (.int 2))) (Qb2 (dOp gEq (Qa 3) (dC (.int 3))) (dOp gEq (dOp QK (dOp Qct (Qa 5) (dC (.int 72))) (dC (.int 3))) (dC (.int 1)))))) Qd))))) (Qe (sIf (bOr (Qc6 (Qj (dOp gNe (Qa 3) (dC (.int 2)))) (Qj (dOp gNe (Qa 3) (dC (.int 3))))) (Qj (Qn 2 Qax [] (Qb (Qa 2) (Qb (Qu (Qa 0) (QH (Qb (Qa 8) Qd))) Qd))))) (Qe (Qx 0 (Qu (Qa 0) (QH (Qb (Qa 8) Qd)))) Qg) Qg) Qg)))))) (Qe (QO (Qa 0)) Qg))
noncomputable def Qbm (c : Int) : Int := c * 48271 % 2147483647
noncomputable def mStart (m c : Int) : Int := Qbm c % (m + 1)
noncomputable def Qf9 (m c : Int) : Int := (mStart m c + 1 + Qbm c / 9 % m) % (m + 1)
noncomputable def Qcs (m kind c : Int) : Int × Int × Bool := (mStart m c, Qf9 m c, decide (mStart m c < m) && (decide (kind = 2) || (decide (kind = 3) && decide (Qbm c / 72 % 3 = 1))))
theorem Qne {m : Nat} (hm : 0 < m) (kind c : Int) : GoodW m (Qcs m kind c) := by
 have h1 := Zw (Qbm c) (by omega : (m : Int) + 1 ≠ 0)
 have h2 := Zy (Qbm c) (by omega : (0 : Int) < m + 1)
 have h3 := Zw (Qbm c / 9) (by omega : (m : Int) ≠ 0)
 have h4 := Zy (Qbm c / 9) (by omega : (0 : Int) < m)
 have h5 := Zw (mStart m c + 1 + Qbm c / 9 % m) (by omega : (m : Int) + 1 ≠ 0)
 have h6 := Zy (mStart m c + 1 + Qbm c / 9 % m) (by omega : (0 : Int) < m + 1)
 have h7 := Qnc (a := mStart m c) (x := 1 + Qbm c / 9 % m) (n := (m : Int) + 1) (by omega) (by omega)
 rw [← Int.add_assoc, show mStart m c % ((m : Int) + 1) = mStart m c from Zbd h1 h2] at h7
 refine ⟨⟨h1, h5, ?_, ?_, λ z => h7 z.symm⟩, λ h => ?_⟩
 ·show mStart m c <= m; unfold mStart; omega
 ·show Qf9 m c <= m; unfold Qf9; omega
 ·have : (Qcs m kind c).2.2 = (decide (mStart m c < m) && (decide (kind = 2) || (decide (kind = 3) && decide (Qbm c / 72 % 3 = 1)))) := rfl
  rw [this, Zf, decide_eq_true_eq] at h
  exact h.1
theorem Qrg {fa fb : DE} {ρ : En} {ra rb : R} {A B : List (Int × Int × Bool)} (ha : fa ρ = some ra) (ea : ra.d = QA A) (hb : fb ρ = some rb) (eb : rb.d = QA B) (hl : A.length + B.length <= 16777216) : Qu fa fb ρ = some ⟨QA (A ++ B), true, []⟩ := by
 unfold Qu
 rw [ha, Za, hb, Za, ea, eb]
 simp only [QA, Zh, Qdw, if_pos hl, Qau]
 simp
theorem Qpb {m : Nat} {kind c : Int} {s0 s1 s5 s6 s7 s8 : Option (D × Bool)} {g : DS} {Q : Out -> Prop} (hm : 0 < m)
  (k : Run g [s0, s1, some (.int m, true), some (.int kind, true), some (.int c, true), some (.int (Qbm c), true), some (.int (mStart m c), true), some (.int (Qf9 m c), true), some (QbU (Qcs m kind c), true)] Q) :
  Run (Qe (Qx 5 (dOp QK (Qai (Qa 4) (dC (.int 48271))) (dC (.int 2147483647)))) (Qe (Qx 6 (dOp QK (Qa 5) (Qu (Qa 2) (dC (.int 1))))) (Qe (Qx 7 (dOp QK (Qu (Qu (Qa 6) (dC (.int 1))) (dOp QK (dOp Qct (Qa 5) (dC (.int 9))) (Qa 2))) (Qu (Qa 2) (dC (.int 1))))) (Qe (Qx 8 (QI (Qb (Qa 6) (Qb (Qa 7) (Qb (Qb2 (dOp gLt (Qa 6) (Qa 2)) (dOr (dOp gEq (Qa 3) (dC (.int 2))) (Qb2 (dOp gEq (Qa 3) (dC (.int 3))) (dOp gEq (dOp QK (dOp Qct (Qa 5) (dC (.int 72))) (dC (.int 3))) (dC (.int 1)))))) Qd))))) g))))
   [s0, s1, some (.int m, true), some (.int kind, true), some (.int c, true), s5, s6, s7, s8] Q := by
 refine run_seq (Qm (QP (b := 2147483647) (QbJ (a := c) (b := 48271) rfl rfl rfl rfl (QcV (by decide))) rfl rfl rfl (by decide)) ?_)
 rw [Qs]
 refine run_seq (Qm (QP (a := Qbm c) (b := (m : Int) + 1) rfl rfl (Q2 (a := (m : Int)) (b := 1) rfl rfl rfl rfl) rfl (by omega)) ?_)
 rw [Qs]
 refine run_seq (Qm (QP (a := mStart m c + 1 + Qbm c / 9 % m) (b := (m : Int) + 1) (Q2 (Q2 (a := mStart m c) (b := 1) rfl rfl rfl rfl) rfl (QP (a := Qbm c / 9) (b := m) (Qcz (a := Qbm c) (b := 9) rfl rfl rfl rfl (by decide) (by decide)) rfl rfl rfl (by omega)) rfl) rfl (Q2 (a := (m : Int)) (b := 1) rfl rfl rfl rfl) rfl (by omega)) ?_)
 rw [Qs]
 refine run_seq (Qm (r := ⟨QbU (Qcs m kind c), true, []⟩) ?_ ?_)
 ·have e := Qgh (ρ := [s0, s1, some (.int m, true), some (.int kind, true), some (.int c, true), some (.int (Qbm c), true), some (.int (mStart m c), true), some (.int (Qf9 m c), true), s8])
   (Q0 (g := gLt) (fa := Qa 6) (fb := Qa 2) (ra := ⟨.int (mStart m c), true, []⟩) (rb := ⟨.int m, true, []⟩) rfl rfl rfl)
   (QpU (QaR (a := kind) (b := 2) (fa := Qa 3) (fb := dC (.int 2)) rfl rfl rfl rfl)
    (Qgh (QaR (a := kind) (b := 3) (fa := Qa 3) (fb := dC (.int 3)) rfl rfl rfl rfl) (QaR (a := Qbm c / 72 % 3) (b := 1) (fb := dC (.int 1)) (QP (a := Qbm c / 72) (b := 3) (fb := dC (.int 3)) (Qcz (a := Qbm c) (b := 72) (fa := Qa 5) (fb := dC (.int 72)) rfl rfl rfl rfl (by decide) (by decide)) rfl rfl rfl (by decide)) rfl rfl rfl)))
  have t : QI (Qb (Qa 6) (Qb (Qa 7) (Qb (Qb2 (dOp gLt (Qa 6) (Qa 2)) (dOr (dOp gEq (Qa 3) (dC (.int 2))) (Qb2 (dOp gEq (Qa 3) (dC (.int 3))) (dOp gEq (dOp QK (dOp Qct (Qa 5) (dC (.int 72))) (dC (.int 3))) (dC (.int 1)))))) Qd))) [s0, s1, some (.int m, true), some (.int kind, true), some (.int c, true), some (.int (Qbm c), true), some (.int (mStart m c), true), some (.int (Qf9 m c), true), s8] = some ⟨QbU (Qcs m kind c), true, []⟩ := by
   unfold QI
   rw [Qf (r := ⟨.int (mStart m c), true, []⟩) rfl (Qf (r := ⟨.int (Qf9 m c), true, []⟩) rfl (Qf e (QB _)))]
   rfl
  exact t
 ·rw [Qs]
  exact k
noncomputable def QdI (w : Int × Int × Bool) : Int × Int := (if w.2.1 < w.1 then w.2.1 else w.1, if w.2.1 > w.1 then w.2.1 else w.1)
noncomputable def QdN (w : Int × Int × Bool) : Int × Int := (w.1, w.2.1)
noncomputable def Qbp (W : List (Int × Int × Bool)) : List (Int × Int) := (W.filter λ w => !w.2.2).map QdI
noncomputable def Qat (W : List (Int × Int × Bool)) : List (Int × Int) := (W.filter λ w => w.2.2).map QdN
theorem Qc2 {m : Nat} {W : List (Int × Int × Bool)} (h : ∀ w ∈ W, GoodW m w) : ∀ s ∈ Qbp W, Good m s /\ s.1 < s.2 := λ s hs => by
 obtain ⟨w, hw, rfl⟩ := ZE.mp hs
 obtain ⟨⟨h1, h2, h3, h4, h5⟩, _⟩ := h w (ZX.mp hw).1
 simp only at h1 h2 h3 h4 h5
 unfold QdI Good
 simp only
 split <;> split <;> omega
theorem Qb0 {m : Nat} {W : List (Int × Int × Bool)} (h : ∀ w ∈ W, GoodW m w) : ∀ s ∈ Qat W, Good m s /\ s.1 < m := λ s hs => by
 obtain ⟨w, hw, rfl⟩ := ZE.mp hs
 obtain ⟨h1, h2⟩ := h w (ZX.mp hw).1
 exact ⟨h1, h2 (by simpa using (ZX.mp hw).2)⟩
theorem Qi9 (W : List (Int × Int × Bool)) : (Qbp W).length <= W.length := by unfold Qbp; rw [Zh]; exact Zax _ _
theorem QiZ (W : List (Int × Int × Bool)) : (Qat W).length <= W.length := by unfold Qat; rw [Zh]; exact Zax _ _
structure Qr3 (m : Nat) (t kind : Int) (R L : List (Int × Int)) : Prop where
 ex : ∃ W, (∀ w ∈ QcF m t kind, w ∈ W) /\ (∀ w ∈ W, GoodW m w) /\ W.length <= 100 /\ R = Qbp W /\ L = Qat W
theorem Qr3.good {m : Nat} {t kind : Int} {R L : List (Int × Int)} (h : Qr3 m t kind R L) : (∀ s ∈ R, Good m s) /\ (∀ s ∈ L, Good m s) /\ R.length <= 100 /\ L.length <= 100 := by
 obtain ⟨W, _, h2, h3, rfl, rfl⟩ := h.ex
 exact ⟨λ s hs => (Qc2 h2 s hs).1, λ s hs => (Qb0 h2 s hs).1, ZA (Qi9 W) h3, ZA (QiZ W) h3⟩
theorem Qn9 {fa : DE} {ρ : En} {r : R} {W : List (Int × Int × Bool)} (h : fa ρ = some r) (e : r.d = QA W) : Qaa (QR fa) (.tp [1, 2, 3]) [none, none, none, none] (Qj (Qa 3)) (QI (Qb (Qa 1) (Qb (Qa 2) Qd))) ρ = some ⟨Qc (Qat W), true, []⟩ := by
 rw [Qfg (toD := QbU) (keep := λ w => w.2.2) (out := λ w => pairD (QdN w)) W (Qaz h e) rfl λ w _ => ⟨[none, some (.int w.1, true), some (.int w.2.1, true), some (.bl w.2.2, true)], rfl, Qp (b := w.2.2) rfl rfl, λ _ => ⟨⟨pairD (QdN w), true, []⟩, rfl, rfl, rfl⟩⟩]
 unfold Qc Qat
 rw [Zar]; rfl
theorem Qoi {m : Nat} {W : List (Int × Int × Bool)} {ρ : En} {b : Bool} (h : ρ[4]? = some (some (QA W, b))) : Qks (Qa 4) (QiE (dC (.int 1))) ρ = some ⟨QA W.reverse, true, []⟩ := by
 unfold Qks
 rw [Qab h, Za]
 have e : (if (QA W).flat = true then HS.R.mk (QA W) true [] else if b = true then HS.R.mk (QA W) true [4] else HS.R.mk (QA W) false []).d = QA W := by cases b <;> rfl
 rw [e]
 show some (Qau (W.map QbU).reverse _) = _
 rw [← List.map_reverse]
 unfold Qau
 rw [if_pos (Qmb _)]; rfl
theorem Qkr {m : Nat} {t kind : Int} : ∀ w ∈ QcF m t kind, GoodW m w := λ w hw => by
 obtain ⟨k, hk, rfl⟩ := ZE.mp hw
 exact Qno (ZR.mp hk)
theorem Qg7 (m : Nat) (t kind : Int) : (QcF m t kind).length = m := by simp [QcF]
theorem QdA {f : Nat -> Int} {i k : Nat} {v : Int} : up f i v k = if k = i then v else f k := rfl
theorem QcU {fa : DE} {ρ : En} {r : R} {m : Int} {R L : List (Int × Int)} (h : fa ρ = some r) (e : r.d = Qr m R L) :
  Ql fa (dC (.int 0)) ρ = some ⟨.int m, true, []⟩ /\ Ql fa (dC (.int 1)) ρ = some ⟨Qc R, r.fr, r.M⟩ /\ Ql fa (dC (.int 2)) ρ = some ⟨Qc L, r.fr, r.M⟩ := by
 unfold Ql
 rw [h]
 simp only [Za, e, Qek]
 exact ⟨rfl, rfl, rfl⟩
theorem Qe9 {fa : DE} {ρ : En} {r : R} {xs : List D} (h : fa ρ = some r) (e : r.d = .lst xs) : dBf QaF (Qb fa Qd) ρ = some ⟨.int xs.length, true, []⟩ := by
 unfold dBf
 rw [Qf h (QB _), Za]
 simp [e, QaF]
theorem Qge (n : Nat) (ps : List (Int × Int)) : (Qc ps).sim (n + 2) = true := by
 unfold Qc
 simp only [D.sim, Zbt, ZS]
 intro p _
 cases n <;> rfl
theorem QmF {fa fb : DE} {ρ : En} {ra rb : R} {d : D} (ha : fa ρ = some ra) (ea : ra.d = d) (hb : fb ρ = some rb) (eb : rb.d = d) (hs : d.sim 8 = true) : dOp gNe fa fb ρ = some ⟨.bl false, true, []⟩ := by
 refine Q0 ha hb ?_
 rw [ea, eb]
 unfold gNe
 rw [hs, Qo4 hs]; rfl
theorem QrS {fa fb : DE} {ρ : En} {ra rb : R} (ha : fa ρ = some ra) (hb : fb ρ = some rb) (h1 : ra.d.sim 8 = true) (h2 : rb.d.sim 8 = true) : dOp gEq fa fb ρ = some ⟨.bl (deq ra.d rb.d), true, []⟩ := by
 refine Q0 ha hb ?_
 unfold gEq
 rw [h1, h2]; rfl
def Qgi (d : Den) : Prop := ∀ (m : Nat) (R L : List (Int × Int)), m <= 1000 -> R.length + R.length + L.length <= 1000000 -> (∀ s ∈ R, Good m s) -> (∀ s ∈ L, Good m s) -> d [Qr m R L] = some (QM m (Q9 R L), true)
theorem QqS {d : Den} (h : Qho d) : Qgi (Qw 1 (QeR d)) := λ m R L h1 h2 h3 h4 => Qpm h h1 h2 h3 h4
def Esc (m : Nat) (W : List (Int × Int × Bool)) : Prop := ∀ A : Nat -> Prop, (∃ p, p < m /\ A p) -> ∃ w ∈ W, w.1 < m /\ A w.1.toNat /\ (w.2.1 = m ∨ ¬ A w.2.1.toNat)
theorem Esc.mono {m : Nat} {W W' : List (Int × Int × Bool)} (h : Esc m W) (s : ∀ w ∈ W, w ∈ W') : Esc m W' := λ A hA => let ⟨w, hw, r⟩ := h A hA; ⟨w, s w hw, r⟩
def QoD (m : Nat) (O : List Int) (w : Int × Int × Bool) (j : Nat) : Prop := O[j]? = some w.1 /\ (w.2.1 = m ∨ ∃ i, i < j /\ O[i]? = some w.2.1)
theorem QoD.app {m : Nat} {O O' : List Int} {w : Int × Int × Bool} {j : Nat} (h : QoD m O w j) : QoD m (O ++ O') w j := by
 obtain ⟨h1, h2⟩ := h
 have hj : j < O.length := (Zg.mp h1).1
 refine ⟨by rw [Zae hj]; exact h1, ?_⟩
 rcases h2 with h2 | ⟨i, hi, h2⟩
 ·exact .inl h2
 ·exact .inr ⟨i, hi, by rw [Zae (by omega)]; exact h2⟩
noncomputable def QF (m : Nat) (g : Nat -> Int) : Int := ((List.range m).map g).sum
theorem Qal (m : Nat) (g : Nat -> Int) : QF (m + 1) g = QF m g + g m := by
 unfold QF; rw [ZaT, Zv, Zas]; simp
theorem QaI {m : Nat} {f g : Nat -> Int} (h : ∀ i, i < m -> f i = g i) : QF m f = QF m g := by
 unfold QF; rw [ZaE λ i hi => h i (ZR.mp hi)]
theorem Qel (m : Nat) (f g : Nat -> Int) : QF m (λ i => f i + g i) = QF m f + QF m g := by
 induction m with
 | zero => rfl
 | succ m ih => rw [Qal, Qal, Qal, ih]; omega
theorem Qcq (m : Nat) : QF m (λ _ => 0) = 0 := by
 induction m with
 | zero => rfl
 | succ m ih => rw [Qal, ih]; rfl
theorem QeG {m : Nat} {p : Nat} (hp : p < m) (v : Int) (f : Nat -> Int) : QF m (λ i => (if i = p then v else 0) * f i) = v * f p := by
 induction m with
 | zero => omega
 | succ m ih =>
  rw [Qal]
  by_cases h : p = m
  ·subst h
   rw [if_pos rfl, QaI (g := λ _ => 0) λ i hi => by rw [if_neg (by omega)]; simp, Qcq]; simp
  ·rw [ih (by omega), if_neg (λ z => h z.symm)]; simp
noncomputable def Qhi (m : Nat) (T : Nat -> Nat -> Int) (f c : Nat -> Int) : Nat -> Int := λ j => f j + QF m λ i => c i * T i j
theorem Qea {fa : DE} {r : R} {ρ : En} {Q : Out -> Prop} (h : fa ρ = some r) (q : Q (.nx ρ)) : Run (Qbk fa) ρ Q := ⟨_, by simp [Qbk, h], q⟩
theorem Qq2 (i j : Nat) (s : Int × Int) : (hit i j s).natAbs <= 1 := by unfold hit; split <;> split <;> decide
theorem QgM (i j : Nat) : ∀ S : List (Int × Int), ((S.map (hit i j)).sum).natAbs <= S.length
 | [] => by simp
 | s :: S => by
  have := QgM i j S
  have := Qq2 i j s
  rw [Zu, ZT, ZJ]
  omega
structure Qiy (m : Nat) (R L : List (Int × Int)) : Prop where
 ex : ∃ W, Esc m W /\ (∀ w ∈ W, GoodW m w) /\ W.length <= 200 /\ R = Qbp W /\ L = Qat W
theorem Qiy.good {m : Nat} {R L : List (Int × Int)} (h : Qiy m R L) : (∀ s ∈ R, Good m s) /\ (∀ s ∈ L, Good m s) /\ R.length <= 200 /\ L.length <= 200 /\ (∀ s ∈ R, s.1 < s.2) /\ ∀ s ∈ L, s.1 < m := by
 obtain ⟨W, _, h2, h3, rfl, rfl⟩ := h.ex
 exact ⟨λ s hs => (Qc2 h2 s hs).1, λ s hs => (Qb0 h2 s hs).1, ZA (Qi9 W) h3, ZA (QiZ W) h3, λ s hs => (Qc2 h2 s hs).2, λ s hs => (Qb0 h2 s hs).2⟩
theorem Qji {α : Type} (m : Nat) (g : Nat -> α -> Int) : ∀ S : List α, QF m (λ j => (S.map (g j)).sum) = (S.map λ s => QF m λ j => g j s).sum
 | [] => by simp [Qcq]
 | s :: S => by
  simp only [Zu, ZT]
  rw [Qel, Qji m g S]
theorem QlJ {α : Type} (c : Int) (f : α -> Int) : ∀ S : List α, c * (S.map f).sum = (S.map λ s => c * f s).sum
 | [] => by simp
 | s :: S => by simp only [Zu, ZT, Int.mul_add, QlJ c f S]
structure TP (m : Nat) (T : Nat -> Nat -> Int) : Prop where
 neg : ∀ p, p < m -> T p p < 0
 pos : ∀ i j, i < m -> j < m -> i ≠ j -> 0 <= T i j
 bnd : ∀ i j, i < m -> j < m -> (T i j).natAbs < 2 ^ 64
 wt : ∃ w : Nat -> Int, (∀ j, 0 <= w j) /\ ∀ i, i < m -> QF m (λ j => T i j * w j) <= -1
inductive Leg (m : Nat) (T : Nat -> Nat -> Int) (f : Nat -> Int) : (Nat -> Int) -> Prop where
 | nil : Leg m T f λ _ => 0
 | step {c : Nat -> Int} {p : Nat} {t : Int} : Leg m T f c -> p < m -> 0 <= t -> t * (0 - T p p) <= Qhi m T f c p -> Leg m T f (up c p (c p + t))
def Stb (m : Nat) (T : Nat -> Nat -> Int) (g : Nat -> Int) : Prop := ∀ p, p < m -> g p < 0 - T p p
theorem QgC {m : Nat} {f g : Nat -> Int} (h : ∀ i, i < m -> f i <= g i) : QF m f <= QF m g := by
 induction m with
 | zero => exact Int.le_refl _
 | succ m ih =>
  rw [Qal, Qal]
  have := ih λ i hi => h i (by omega)
  have := h m (by omega)
  omega
theorem Leg.least {m : Nat} {T : Nat -> Nat -> Int} (tp : TP m T) {f c : Nat -> Int} (h : Leg m T f c) {c' : Nat -> Int} (h0 : ∀ i, i < m -> 0 <= c' i) (hs : Stb m T (Qhi m T f c')) : ∀ i, i < m -> c i <= c' i := by
 induction h with
 | nil => exact h0
 | @step c p t _ hp ht hle ih =>
  intro i hi
  unfold up
  split
  ·rename_i e
   subst e
   have key : Qhi m T f c i + (c' i - c i) * T i i <= Qhi m T f c' i := by
    unfold Qhi
    have e1 : QF m (λ k => c k * T k i) + (c' i - c i) * T i i = QF m (λ k => c k * T k i + (if k = i then c' i - c i else 0) * T k i) := by rw [Qel, QeG hi]
    have e2 : QF m (λ k => c k * T k i + (if k = i then c' i - c i else 0) * T k i) <= QF m (λ k => c' k * T k i) := by
     refine QgC λ k hk => ?_
     by_cases hki : k = i
     ·subst hki; rw [if_pos rfl, ← ZaB]; rw [show c k + (c' k - c k) = c' k by omega]; exact Int.le_refl _
     ·rw [if_neg hki, ZaX, Zbu]
      exact ZaP (ih k hk) (tp.pos k i hk hi hki)
    omega
   have h1 := hs i hi
   have h2 := tp.neg i hi
   by_cases hlt : c i + t <= c' i
   ·exact hlt
   ·exfalso
    have h3 : (c' i - c i + 1) <= t := by omega
    have h4 : (c' i - c i + 1) * (0 - T i i) <= t * (0 - T i i) := ZaP h3 (by omega)
    have h5 : (c' i - c i + 1) * (0 - T i i) = (0 - T i i) - (c' i - c i) * T i i := by rw [ZaB, ZbB, Int.mul_sub, Int.mul_zero]; omega
    omega
  ·exact ih i hi
theorem Qg4 {fa fb : DE} {ρ : En} {ra rb : R} {m : Nat} {f : Nat -> Int} {i : Nat} (ha : fa ρ = some ra) (ea : ra.d = QM m f) (hb : fb ρ = some rb) (eb : rb.d = .int i) (h : i < m) : Ql fa fb ρ = some ⟨.int (f i), true, []⟩ := by
 have := QlF ha ea hb eb (by omega) (by omega)
 rw [Zx] at this
 exact this
def QiQ (m : Nat) (S : List (Int × Int)) : Prop := ∀ A : Nat -> Prop, (∃ p, p < m /\ A p) -> ∃ s ∈ S, s.1 < m /\ A s.1.toNat /\ (s.2 = m ∨ ¬ A s.2.toNat)
theorem QiU {m : Nat} {W : List (Int × Int × Bool)} (h : Esc m W) : QiQ m (Qv (Qbp W) (Qat W)) := λ A hA => by
 obtain ⟨w, hw, h1, h2, h3⟩ := h A hA
 refine ⟨(w.1, w.2.1), ?_, h1, h2, h3⟩
 unfold Qv
 cases e : w.2.2 with
 | true => exact Ze _ (ZE.mpr ⟨w, ZX.mpr ⟨hw, e⟩, rfl⟩)
 | false =>
  have hr : QdI w ∈ Qbp W := ZE.mpr ⟨w, ZX.mpr ⟨hw, by simp [e]⟩, rfl⟩
  by_cases hlt : w.2.1 < w.1
  ·refine Zc _ (Ze _ (ZE.mpr ⟨QdI w, hr, ?_⟩))
   unfold QdI
   rw [if_pos hlt, if_neg (by omega)]; rfl
  ·refine Zc _ (Zc _ ?_)
   have : QdI w = (w.1, w.2.1) := by
    unfold QdI
    rw [if_neg hlt]
    by_cases hgt : w.2.1 > w.1
    ·rw [if_pos hgt]
    ·rw [if_neg hgt]; rw [show w.2.1 = w.1 by omega]
   rw [← this]; exact hr
inductive Rk (m : Nat) (S : List (Int × Int)) : Nat -> Nat -> Prop where
 | pit {s : Int × Int} {n : Nat} : s ∈ S -> s.2 = m -> Rk m S (n + 1) s.1.toNat
 | step {s : Int × Int} {k n : Nat} : s ∈ S -> s.2 ≠ m -> Rk m S k s.2.toNat -> k < n -> Rk m S n s.1.toNat
theorem QjU {P : Nat -> Prop} (h : ∃ n, P n) : ∃ n, P n /\ ∀ k, k < n -> ¬ P k := by
 obtain ⟨n, hn⟩ := h
 induction n using Nat.strongRecOn with
 | _ n ih =>
  by_cases h : ∃ k, k < n /\ P k
  ·obtain ⟨k, hk, h⟩ := h; exact ih k hk h
  ·exact ⟨n, hn, λ k hk hx => h ⟨k, hk, hx⟩⟩
theorem QtN {m : Nat} {S : List (Int × Int)} (he : QiQ m S) : ∀ p, p < m -> ∃ n, Rk m S n p := λ p hp => by
 by_cases h : ∃ n, Rk m S n p
 ·exact h
 ·exfalso
  obtain ⟨s, hs, h1, h2, h3⟩ := he (λ p => ¬ ∃ n, Rk m S n p) ⟨p, hp, h⟩
  by_cases e : s.2 = m
  ·exact h2 ⟨1, .pit hs e⟩
  ·rcases h3 with h3 | h3
   ·exact e h3
   ·have : ∃ n, Rk m S n s.2.toNat := ZaC λ z => h3 z
    obtain ⟨k, hk⟩ := this
    exact h2 ⟨k + 1, .step hs e hk (by omega)⟩
theorem Qrq {m : Nat} {S : List (Int × Int)} (hg : ∀ s ∈ S, Good m s) (he : QiQ m S) : ∃ r : Nat -> Nat, r m = 0 /\ ∀ p, p < m -> ∃ s ∈ S, s.1 = p /\ r s.2.toNat < r p := by
 have h : ∀ p, ∃ n, (p < m -> Rk m S n p /\ ∀ k, k < n -> ¬ Rk m S k p) /\ (p = m -> n = 0) := λ p => by
  by_cases hp : p < m
  ·obtain ⟨n, hn⟩ := QjU (QtN he p hp)
   exact ⟨n, λ _ => hn, λ z => by omega⟩
  ·exact ⟨0, λ z => absurd z hp, λ _ => rfl⟩
 obtain ⟨r, hr⟩ := Zbn h
 refine ⟨r, (hr m).2 rfl, λ p hp => ?_⟩
 have h1 := ((hr p).1 hp).1
 generalize r p = n at h1
 cases h1 with
 | @pit s n hs e =>
  obtain ⟨g1, g2, g3, g4, g5⟩ := hg s hs
  exact ⟨s, hs, by omega, by rw [e, Zx, (hr m).2 rfl]; omega⟩
 | @step s k n hs e hk hkn =>
  obtain ⟨g1, g2, g3, g4, g5⟩ := hg s hs
  refine ⟨s, hs, by omega, ?_⟩
  have hl : s.2.toNat < m := by omega
  have := ((hr s.2.toNat).1 hl).2 k
  have : ¬ k < r s.2.toNat := λ z => this z hk
  omega
theorem QjL (r : Nat -> Nat) : ∀ m : Nat, ∃ N, ∀ p, p <= m -> r p <= N
 | 0 => ⟨r 0, λ p hp => by rw [show p = 0 by omega]; exact Zj _⟩
 | m + 1 => by
  obtain ⟨N, hN⟩ := QjL r m
  refine ⟨N + r (m + 1), λ p hp => ?_⟩
  by_cases e : p = m + 1
  ·subst e; omega
  ·have := hN p (by omega); omega
theorem Qn7 {m : Nat} {i : Nat} {s : Int × Int} (hi : i < m) (g : Good m s) (w : Nat -> Int) (hw : w m = 0) : QF m (λ j => hit i j s * w j) = if s.1 = i then w s.2.toNat - w i else 0 := by
 obtain ⟨g1, g2, g3, g4, g5⟩ := g
 by_cases h : s.1 = i
 ·rw [if_pos h]
  have e : QF m (λ j => hit i j s * w j) = QF m (λ j => (if j = s.2.toNat then 1 else 0) * w j + (if j = i then -1 else 0) * w j) := QaI λ j _ => by
   have : hit i j s = (if j = s.2.toNat then 1 else 0) + (if j = i then -1 else 0) := by
    unfold hit
    by_cases a : s.2 = j
    ·by_cases b : i = j
     ·rw [if_pos ⟨h, a⟩, if_pos ⟨h, b⟩, if_pos (by omega), if_pos b.symm]; omega
     ·rw [if_pos ⟨h, a⟩, if_neg (λ z => b z.2), if_pos (by omega), if_neg (λ z => b z.symm)]; omega
    ·by_cases b : i = j
     ·rw [if_neg (λ z => a z.2), if_pos ⟨h, b⟩, if_neg (by omega), if_pos b.symm]; omega
     ·rw [if_neg (λ z => a z.2), if_neg (λ z => b z.2), if_neg (by omega), if_neg (λ z => b z.symm)]; omega
   rw [this, ZaB]
  rw [e, Qel, QeG hi]
  by_cases hm : s.2.toNat < m
  ·rw [QeG hm]; omega
  ·have e2 : QF m (λ j => (if j = s.2.toNat then 1 else 0) * w j) = 0 := by
    rw [QaI (g := λ _ => 0) λ j hj => by rw [if_neg (by omega), ZaX], Qcq]
   rw [e2, show s.2.toNat = m by omega, hw]; omega
 ·rw [if_neg h]
  rw [QaI (g := λ _ => 0) λ j hj => by
   unfold hit
   rw [if_neg (λ z => h z.1), if_neg (λ z => h z.1)]; rw [Int.sub_self, ZaX], Qcq]
theorem Qd2 {α : Type} {g : α -> Int} {X : Int} : ∀ S : List α, (∀ s ∈ S, g s <= X) -> (S.map g).sum <= S.length * X
 | [], _ => by simp
 | a :: S, h => by
  have h1 := h a (by simp)
  have h2 := Qd2 S λ s hs => h s (by simp [hs])
  simp only [Zu, ZT, ZJ, Int.natCast_add, ZaB]
  rw [show ((1 : Nat) : Int) * X = X by simp]
  omega
theorem QhA {α : Type} {g : α -> Int} {X Y : Int} : ∀ (S : List α), (∀ s ∈ S, g s <= X) -> (∃ s ∈ S, g s <= Y) -> (S.map g).sum <= S.length * X - X + Y
 | [], _, h => by obtain ⟨s, hs, _⟩ := h; exact absurd hs (by simp)
 | a :: S, h, h2 => by
  obtain ⟨s, hs, hy⟩ := h2
  have hb : ∀ s ∈ S, g s <= X := λ s hs => h s (by simp [hs])
  simp only [Zu, ZT, ZJ, Int.natCast_add, ZaB]
  rw [show ((1 : Nat) : Int) * X = X by simp]
  rcases Zm.mp hs with e | hs
  ·subst e
   have := Qd2 S hb
   omega
  ·have := QhA S hb ⟨s, hs, hy⟩
   have := h a (by simp)
   omega
theorem QdT {α : Type} {g : α -> Int} : ∀ S : List α, (∀ s ∈ S, 0 <= g s) -> 0 <= (S.map g).sum
 | [], _ => by simp
 | a :: S, h => by
  have h1 := h a (by simp)
  have h2 := QdT S λ s hs => h s (by simp [hs])
  simp only [Zu, ZT]
  omega
theorem Qol {m : Nat} {S : List (Int × Int)} (hg : ∀ s ∈ S, Good m s) (he : QiQ m S) (hl : S.length < 2 ^ 60) : TP m (Q4 m S) := by
 have hn : ∀ s ∈ S, 0 <= s.1 /\ 0 <= s.2 := λ s hs => ⟨(hg s hs).1, (hg s hs).2.1⟩
 have pos : ∀ i j, i < m -> j < m -> i ≠ j -> 0 <= Q4 m S i j := λ i j hi hj hij => by
  rw [Qd8 hi hj hn]
  refine QdT S λ s _ => ?_
  unfold hit
  rw [if_neg (λ z => hij z.2) (c := s.1 = i /\ i = j)]
  split <;> omega
 obtain ⟨r, r0, hr⟩ := Qrq hg he
 obtain ⟨N, hN⟩ := QjL r m
 have M1 : 1 <= S.length + 1 := by omega
 have wt : ∃ w : Nat -> Int, (∀ j, 0 <= w j) /\ ∀ i, i < m -> QF m (λ j => Q4 m S i j * w j) <= -1 := by
  refine ⟨λ v => (((S.length + 1) ^ N : Nat) : Int) - (((S.length + 1) ^ (N - r v) : Nat) : Int), λ j => ?_, λ i hi => ?_⟩
  ·have := ZaA M1 (Nat.sub_le N (r j))
   show (0 : Int) <= (((S.length + 1) ^ N : Nat) : Int) - (((S.length + 1) ^ (N - r j) : Nat) : Int)
   omega
  ·generalize hw : (λ v => (((S.length + 1) ^ N : Nat) : Int) - (((S.length + 1) ^ (N - r v) : Nat) : Int)) = w
   have hw' : ∀ v, w v = (((S.length + 1) ^ N : Nat) : Int) - (((S.length + 1) ^ (N - r v) : Nat) : Int) := λ v => by rw [← hw]
   have wm : w m = 0 := by rw [hw', r0, Zbs]; omega
   have e : QF m (λ j => Q4 m S i j * w j) = (S.map λ s => if s.1 = (i : Int) then w s.2.toNat - w i else 0).sum := by
    rw [QaI (g := λ j => (S.map λ s => hit i j s * w j).sum) λ j hj => by
     rw [Qd8 hi hj hn, Int.mul_comm, QlJ]
     congr 1
     exact ZaE λ s _ => Int.mul_comm _ _]
    rw [Qji m (λ j s => hit i j s * w j) S]
    congr 1
    exact ZaE λ s hs => Qn7 hi (hg s hs) w wm
   rw [e]
   obtain ⟨s0, hs0, e0, hlt⟩ := hr i hi
   generalize hX : (((S.length + 1) ^ (N - r i) : Nat) : Int) = X
   have X1 : 1 <= X := by
    have : 0 < (S.length + 1) ^ (N - r i) := Nat.pow_pos (by omega)
    omega
   have key := QhA (g := λ s : Int × Int => if s.1 = i then w s.2.toNat - w i else 0) (X := X) (Y := X - (S.length + 1) * X) S (λ s _ => by
    show (if s.1 = i then w s.2.toNat - w i else 0) <= X
    split
    ·rw [hw', hw' i, hX]
     have : 0 <= (((S.length + 1) ^ (N - r s.2.toNat) : Nat) : Int) := Int.natCast_nonneg _
     omega
    ·omega) ⟨s0, hs0, by
    show (if s0.1 = i then w s0.2.toNat - w i else 0) <= _
    rw [if_pos e0, hw', hw' i, hX]
    have hb := hN i (by omega)
    have h1 : (S.length + 1) ^ (N - r i + 1) <= (S.length + 1) ^ (N - r s0.2.toNat) := ZaA M1 (by omega)
    rw [Nat.pow_succ] at h1
    have h2 : ((((S.length + 1) ^ (N - r i) * (S.length + 1) : Nat)) : Int) <= (((S.length + 1) ^ (N - r s0.2.toNat) : Nat) : Int) := by exact_mod_cast h1
    rw [Int.natCast_mul, hX, Int.mul_comm] at h2
    rw [show ((S.length + 1 : Nat) : Int) = (S.length : Int) + 1 by omega] at h2
    omega⟩
   have : ((S.length : Int) + 1) * X = S.length * X + X := by rw [ZaB, ZbB]
   omega
 refine ⟨λ p hp => ?_, pos, λ i j hi hj => ?_, wt⟩
 ·obtain ⟨w, w0, hw⟩ := wt
  have h1 := hw p hp
  by_cases hneg : Q4 m S p p < 0
  ·exact hneg
  ·exfalso
   have : 0 <= QF m (λ j => Q4 m S p j * w j) := by
    have := QgC (m := m) (f := λ _ => 0) (g := λ j => Q4 m S p j * w j) λ j hj => by
     by_cases e : p = j
     ·subst e; exact ZbC (by omega) (w0 _)
     ·exact ZbC (pos p j hp hj e) (w0 _)
    rw [Qcq] at this
    exact this
   omega
 ·rw [Qd8 hi hj hn]
  have := QgM i j S
  omega
theorem Qiy.tp {m : Nat} {R L : List (Int × Int)} (h : Qiy m R L) : TP m (Q4 m (Qv R L)) := by
 have hg := h.good
 refine Qol (Qbx hg.1 hg.2.1) ?_ ?_
 ·obtain ⟨W, h1, _, _, rfl, rfl⟩ := h.ex
  exact QiU h1
 ·unfold Qv
  simp only [Zl, Zh]
  omega
theorem Qiy.neg {m : Nat} {R L : List (Int × Int)} (h : Qiy m R L) {i : Nat} (hi : i < m) : 0 - Q4 m (Qv R L) i i = Q9 R L i := by
 have hg := h.good
 have hs := Qbx hg.1 hg.2.1
 rw [Qd8 hi hi (λ s z => ⟨(hs s z).1, (hs s z).2.1⟩), sum_neg _ _ (λ s z => (hs s z).2.2.2.2), Qi1]
 omega
structure Told (m : Nat) (T : Nat -> Nat -> Int) (f c : Nat -> Int) : Prop where
 leg : Leg m T f c
 pos : ∀ j, j < m -> 0 <= Qhi m T f c j
 stb : Stb m T (Qhi m T f c)
theorem Qpu {m : Nat} {t kind : Int} : Esc m (QcF m t kind) := λ A ⟨p, hp, hA⟩ => by
 have ex : ∃ j : Nat, j < m /\ A (((j : Int) + t) % m).toNat := by
  have h1 := Zw ((p : Int) - t) (by omega : (m : Int) ≠ 0)
  have h2 := Zy ((p : Int) - t) (by omega : (0 : Int) < m)
  refine ⟨(((p : Int) - t) % m).toNat, by omega, ?_⟩
  have e : (((((p : Int) - t) % m).toNat : Int) + t) % m = p := by
   rw [ZaF h1, Int.emod_add_emod, Int.sub_add_cancel]
   exact Zbd (by omega) (by omega)
  rw [e, Zx]; exact hA
 obtain ⟨j, ⟨hj, hAj⟩, hmin⟩ := QjU ex
 have s1 := Zw ((j : Int) + t) (by omega : (m : Int) ≠ 0)
 have s2 := Zy ((j : Int) + t) (by omega : (0 : Int) < m)
 refine ⟨Qdi m t kind j, ZE.mpr ⟨j, ZR.mpr hj, rfl⟩, ?_, hAj, ?_⟩
 ·exact s2
 ·show QcZ m t j = m ∨ ¬ A (QcZ m t j).toNat
  unfold QcZ
  split
  ·rename_i h
   have n1 := Zw (QaE t j) (by omega : (j : Int) + 1 ≠ 0)
   right
   intro z
   refine hmin (QaE t j % ((j : Int) + 1)).toNat (by omega) ⟨by omega, ?_⟩
   rw [ZaF n1]
   exact z
  ·exact .inl rfl
theorem Qd7 (i : Nat) (a : Int) : 0 <= isI i a /\ isI i a <= 1 := by unfold isI; split <;> omega
theorem Qo2 (R L : List (Int × Int)) (k : Nat) : 0 <= Q9 R L k /\ Q9 R L k <= 2 * R.length + L.length := by
 unfold Q9
 have h1 := QdT (g := λ r : Int × Int => isI k r.1 + isI k r.2) R λ s _ => by
  have := Qd7 k s.1; have := Qd7 k s.2
  show 0 <= isI k s.1 + isI k s.2
  omega
 have h2 := QdT (g := λ r : Int × Int => isI k r.1) L λ s _ => (Qd7 k s.1).1
 have h3 := Qd2 (g := λ r : Int × Int => isI k r.1 + isI k r.2) (X := 2) R λ s _ => by
  have := Qd7 k s.1; have := Qd7 k s.2
  show isI k s.1 + isI k s.2 <= 2
  omega
 have h4 := Qd2 (g := λ r : Int × Int => isI k r.1) (X := 1) L λ s _ => (Qd7 k s.1).2
 omega
theorem QeX {fs : DA} {ρ : En} {rs : RA} (h : fs ρ = some rs) (hl : rs.ds.length <= 64) : QH fs ρ = some ⟨.lst rs.ds, rs.fr, rs.M⟩ := by
 unfold QH
 rw [h, Za, if_pos hl]
noncomputable def QhT : DS := (Qe (QO (dOp gEq (dBf QaF (Qb (Ql (Qa 0) (dC (.int 2))) Qd)) (dC (.int 0)))) Qg)
def QgD (d : Den) : Prop := ∀ (m : Int) (R L : List (Int × Int)), d [Qr m R L] = some (.bl (decide ((L.length : Int) = 0)), true)
theorem QoX : QgD (Qw 1 QhT) := λ m R L => by
 refine Qbf ?_
 refine QaG (QaR (Qe9 (QcU (r := ⟨Qr m R L, false, []⟩) rfl rfl).2.2 rfl) rfl rfl rfl) ⟨?_, rfl⟩
 simp
theorem Qpl {fa fb : DE} {ρ : En} {ra rb : R} {xs : List D} (ha : fa ρ = some ra) (ea : ra.d = .lst xs) (hb : fb ρ = some rb) (eb : rb.d = .lst xs) : Qj (dOp gNe (dBf QaF (Qb fa Qd)) (dBf QaF (Qb fb Qd))) ρ = some false := by
 refine Qp (Qhq (Qe9 ha ea) rfl (Qe9 hb eb) rfl) ?_
 simp
noncomputable def QbF (l : List Nat) : D := .lst (l.map λ (p : Nat) => .int (p : Int))
theorem QqC {o : Nat} {l : List Nat} : (l.map λ (p : Nat) => D.int (p : Int)).any (λ y => deq y (.int o)) = l.contains o := by
 induction l with
 | nil => rfl
 | cons a l ih =>
  rw [Zu, List.any_cons, ih, Qgy, List.contains_cons]
  congr 1
  by_cases h : a = o
  ·subst h; simp
  ·rw [decide_eq_false (by omega)]
   exact (beq_eq_false_iff_ne.mpr (λ z => h z.symm)).symm
theorem Qo1 (n : Nat) (l : List Nat) : (QbF l).sim (n + 1) = true := by
 unfold QbF
 simp only [D.sim, Zbt, ZS]
 intro p _
 cases n <;> rfl
theorem Qsc {neg : Bool} {fa fb : DE} {ρ : En} {ra rb : R} {o : Nat} {l : List Nat} (ha : fa ρ = some ra) (ea : ra.d = .int o) (hb : fb ρ = some rb) (eb : rb.d = QbF l) : dOp (gIn neg) fa fb ρ = some ⟨.bl (if neg then !l.contains o else l.contains o), true, []⟩ := by
 refine Q0 ha hb ?_
 rw [ea, eb]
 have : (D.int (o : Int)).sim 8 = true := rfl
 show (if (D.int (o : Int)).sim 8 && (QbF l).sim 8 then some (D.bl (if neg then !((l.map λ (p : Nat) => D.int (p : Int)).any λ y => deq y (.int o)) else (l.map λ (p : Nat) => D.int (p : Int)).any λ y => deq y (.int o))) else none) = _
 rw [this, Qo1 7 l, QqC]
 rfl
theorem Qru {fa fb : DE} {ρ : En} {ra rb : R} {a b : Int} (ha : fa ρ = some ra) (ea : ra.d = .int a) (hb : fb ρ = some rb) (eb : rb.d = .int b) : dBf Qbi (Qb fa (Qb fb Qd)) ρ = some ⟨.int (if b < a then b else a), true, []⟩ := by
 unfold dBf
 rw [Qf ha (Qf hb (QB _)), Za]
 simp only [ea, eb, Qbi, ZY]
noncomputable def QbS : Option Int -> D
 | none => .non
 | some i => .int i
@[simp] theorem QkN (o : Option Int) : (QbS o).flat = true := by cases o <;> rfl
noncomputable def Qan (m : Nat) (F : Nat -> Option Int) : D := .lst ((List.range m).map λ i => QbS (F i))
@[simp] theorem Quk (m : Nat) (F : Nat -> Option Int) : (Qan m F).flat = false := rfl
@[simp] theorem Qn1 (m : Nat) (F : Nat -> Option Int) : QJ ((List.range m).map λ i => QbS (F i)) = true := QbW (f := λ i => QbS (F i)) (λ _ => QkN _) _
noncomputable def upO (F : Nat -> Option Int) (i : Nat) (v : Option Int) : Nat -> Option Int := λ j => if j = i then v else F j
theorem Qp9 {m : Nat} {F : Nat -> Option Int} {i : Int} (h0 : 0 <= i) (h : i < m) : atI ((List.range m).map λ j => QbS (F j)) i = some (QbS (F i.toNat)) := by
 rw [Qgr h0 (by simpa using h), Zz, ZV (by omega)]; rfl
theorem QmD {d : D} {fr : Bool} {M : List Nat} (h : d.flat = true) : HS.R.norm ⟨d, fr, M⟩ = ⟨d, true, []⟩ := by unfold HS.R.norm; rw [if_pos h]
theorem Qld {fa fb : DE} {ρ : En} {ra rb : R} {m : Nat} {F : Nat -> Option Int} {i : Int} (ha : fa ρ = some ra) (ea : ra.d = Qan m F) (hb : fb ρ = some rb) (eb : rb.d = .int i) (h0 : 0 <= i) (h : i < m) : Ql fa fb ρ = some ⟨QbS (F i.toNat), true, []⟩ := by
 unfold Ql
 rw [ha, Za, hb, Za, ea, eb]
 simp only [Qan, D.items, Za, Qp9 h0 h, ZY, QmD (QkN _)]
theorem Qoq {x m : Nat} {F : Nat -> Option Int} {fi fa : DE} {ρ : En} {i v : Int} {ri ra : R} {Q : Out -> Prop} (hx : ρ[x]? = some (some (Qan m F, true))) (hi : fi ρ = some ri) (ei : ri.d = .int i) (ha : fa ρ = some ra) (ea : ra.d = .int v) (h0 : 0 <= i) (h : i < m)
  (q : Q (.nx (ρ.set x (some (Qan m (upO F i.toNat (some v)), true))))) : Run (Qdt x Qap fi fa) ρ Q := by
 refine ⟨_, ?_, q⟩
 have hn : ra.norm = ⟨.int v, true, []⟩ := by unfold HS.R.norm; rw [ea]; rfl
 have hs : ((List.range m).map λ j => QbS (F j)).set i.toNat (.int v) = (List.range m).map λ j => QbS (upO F i.toNat (some v) j) := by
  rw [QdP]
  congr 1; funext j; unfold upO; split <;> rfl
 unfold Qdt
 rw [ha, Za, hx]
 simp only [Qap, Za, hi, ei, Qbv, Qan, Zh, ZF, Qfi h0 h, hn, ea, QaS, hs]
 simp [kill]
theorem QmP {m n : Nat} {F : Nat -> Option Int} (h : n <= m) : cutD ((List.range m).map λ i => QbS (F i)) none (some (n : Int)) = (List.range n).map λ i => QbS (F i) := by
 unfold cutD
 simp only [Zh, ZF, HT.QfA, HT.Qdn, ZbA, Zbs, Zak h]
 rw [← ZaG, List.take_range, Zak h]
theorem QqJ {fa fb : DE} {ρ : En} {ra rb : R} {m n : Nat} {F : Nat -> Option Int} (ha : fa ρ = some ra) (ea : ra.d = Qan m F) (hb : fb ρ = some rb) (eb : rb.d = .int n) (h : n <= m) : QbN fa QbH (Qad fb) ρ = some ⟨Qan n F, true, []⟩ := by
 unfold QbN QbH Qad
 rw [ha, Za, hb, ea]
 simp only [Za, eb, Qan, QmP h, Qau, Qn1, if_true]
theorem Qq0 {fb : DE} {ρ : En} {r : R} {n : Nat} (h : fb ρ = some r) (e : r.d = .int n) (hn : n <= 16777216) : Qai (QH (Qb (dC .non) Qd)) fb ρ = some ⟨Qan n (λ _ => none), true, []⟩ := by
 have h1 : QH (Qb (dC .non) Qd) ρ = some ⟨.lst [.non], true, []⟩ := rfl
 unfold Qai
 rw [h1, Za, h, Za, e]
 dsimp only
 rw [if_pos ⟨by simp [Qdw]; omega, by omega, by omega, rfl⟩]
 simp only [Zx, QgA]
 rfl
theorem QqG (o : Option Int) (t : Int) : deq (QbS o) (.int t) = decide (o = some t) := by
 cases o with
 | none => rfl
 | some a =>
  show deq (.int a) (.int t) = _
  rw [Qgy]
  by_cases h : a = t <;> simp [h]
theorem Qlx (n : Nat) (o : Option Int) : (QbS o).sim n = true := by cases o <;> cases n <;> rfl
noncomputable def Qa0 (t : Int) (F : Nat -> Option Int) (s : Int × Int) : Nat -> Option Int := if F s.1.toNat = none /\ F s.2.toNat = some t then upO F s.1.toNat (some (t + 1)) else F
noncomputable def Q5 (S : List (Int × Int)) (F : Nat -> Option Int) : Nat -> Nat -> Option Int
 | 0 => F
 | t + 1 => S.foldl (Qa0 t) (Q5 S F t)
noncomputable def Qlu (QbM : Den) : DS := (Qe (Qx 3 (Qu (Qai (QH (Qb (dC .non) Qd)) (Qa 0)) (QH (Qb (dC (.int 0)) Qd)))) (Qe (Qx 4 (Qn 2 QbM [] (Qb (Qa 1) (Qb (Qa 2) Qd)))) (Qe (QaM (Qcj (Qa 0)) (.nm 5) (Qe (QaM (QR (Qa 4)) (.tp [6, 7]) (Qe (sIf (Qc6 (Qj (dOp (QeJ false) (Ql (Qa 3) (Qa 6)) (dC .non))) (Qj (dOp gEq (Ql (Qa 3) (Qa 7)) (Qa 5)))) (Qe (Qdt 3 Qap (Qa 6) (Qu (Qa 5) (dC (.int 1)))) Qg) Qg) Qg)) Qg)) (Qe (QO (QbN (Qa 3) QbH (Qad (Qa 0)))) Qg))))
noncomputable def Q3 (m : Nat) : Nat -> Option Int := λ i => if i = m then some 0 else none
theorem QqH {m : Nat} : D.lst (((List.range m).map λ _ => D.non) ++ [.int 0]) = Qan (m + 1) (Q3 m) := by
 unfold Qan
 rw [ZaT, Zv]
 congr 2
 ·refine ZaE λ i hi => ?_
  have := ZR.mp hi
  unfold Q3
  rw [if_neg (by omega)]; rfl
 ·simp [Q3, QbS]
def Qe7 (d : Den) : Prop := ∀ (m : Nat) (R L : List (Int × Int)), 0 < m -> m <= 1000 -> R.length + R.length + L.length <= 1000000 -> (∀ s ∈ R, Good m s) -> (∀ s ∈ L, Good m s) -> d [.int m, Qc R, Qc L] = some (Qan m (Q5 (Qv R L) (Q3 m) m), true)
theorem Qoz {ds : Den} (hs : ∀ R L : List (Int × Int), R.length + R.length + L.length <= 1000000 -> ds [Qc R, Qc L] = some (Qc (Qv R L), true)) : Qe7 (Qw 8 (Qlu ds)) := λ m R L m0 hm hl hR hL => by
 have gS := Qbx hR hL
 refine Qbf ?_
 refine run_seq (Qm (r := ⟨Qan (m + 1) (Q3 m), true, []⟩) ?_ ?_)
 ·unfold Qu
  rw [Qq0 (n := m) (r := ⟨.int m, true, []⟩) rfl rfl (by omega)]
  show (if ((List.range m).map λ i => D.non).length + [D.int 0].length <= sizeLine then some (Qau (((List.range m).map λ i => D.non) ++ [D.int 0]) []) else none) = _
  rw [if_pos (by simp [Qdw]; omega)]
  unfold Qau
  rw [if_pos (by rw [QmS]; simp [QbW (f := λ _ : Nat => D.non) (λ _ => rfl)]), QqH]
 rw [Qs]
 refine run_seq (Qm (Qz (r := ⟨[Qc R, Qc L], false, []⟩) rfl (hs R L hl) rfl) ?_)
 rw [Qs]
 refine QbC (P := λ ρ => ∃ j5 j6 j7 b, ρ = [some (.int m, true), some (Qc R, false), some (Qc L, false), some (Qan (m + 1) (Q5 (Qv R L) (Q3 m) m), true), some (Qc (Qv R L), b), j5, j6, j7]) ?_ ?_
 ·refine QaT (List.range m) (λ i ρ => ∃ j5 j6 j7 b, ρ = [some (.int m, true), some (Qc R, false), some (Qc L, false), some (Qan (m + 1) (Q5 (Qv R L) (Q3 m) i), true), some (Qc (Qv R L), b), j5, j6, j7]) (Qdg (n := m) (r := ⟨.int m, true, []⟩) rfl rfl (by omega)) rfl ⟨none, none, none, true, rfl⟩ ?_ ?_
  ·rintro i k ρ hi ⟨j5, j6, j7, b, rfl⟩
   have hk : i < m /\ i = k := by
    obtain ⟨h1, h2⟩ := Zg.mp hi
    simp at h1 h2; exact ⟨h1, h2⟩
   obtain ⟨hk, rfl⟩ := hk
   refine ⟨_, rfl, ?_⟩
   refine run_seq (g := Qg) (Run.mono (Q := Nx λ ρ => ∃ j6 j7, ρ = [some (.int m, true), some (Qc R, false), some (Qc L, false), some (Qan (m + 1) (Q5 (Qv R L) (Q3 m) (i + 1)), true), some (Qc (Qv R L), false), some (.int i, true), j6, j7]) ?_ ?_)
   ·refine QaT (toD := pairD) (Qv R L) (λ j ρ => ∃ j6 j7, ρ = [some (.int m, true), some (Qc R, false), some (Qc L, false), some (Qan (m + 1) (((Qv R L).take j).foldl (Qa0 i) (Q5 (Qv R L) (Q3 m) i)), true), some (Qc (Qv R L), false), some (.int i, true), j6, j7]) (ir := ⟨(Qv R L).map pairD, if b = true then [4] else []⟩) ?_ rfl ⟨j6, j7, ?_⟩ ?_ ?_
    ·have := Qaz (Qab (i := 4) (d := Qc (Qv R L)) (b := b) (ρ := [some (.int m, true), some (Qc R, false), some (Qc L, false), some (Qan (m + 1) (Q5 (Qv R L) (Q3 m) i), true), some (Qc (Qv R L), b), some (.int i, true), j6, j7]) rfl) (xs := (Qv R L).map pairD) (by cases b <;> rfl)
     cases b <;> exact this
    ·cases b <;> rfl
    ·rintro j s ρ hj ⟨j6, j7, rfl⟩
     obtain ⟨s1, s2, s3, s4, s5⟩ := gS s (Zac hj)
     have c1 : s.1 < ((m + 1 : Nat) : Int) := by omega
     have c2 : s.2 < ((m + 1 : Nat) : Int) := by omega
     refine ⟨_, rfl, ?_⟩
     generalize eF : ((Qv R L).take j).foldl (Qa0 i) (Q5 (Qv R L) (Q3 m) i) = F
     have step : ((Qv R L).take (j + 1)).foldl (Qa0 i) (Q5 (Qv R L) (Q3 m) i) = Qa0 i F s := by
      rw [Zbc, hj, List.foldl_append, eF]; rfl
     have e6 := Qld (fa := Qa 3) (fb := Qa 6) (F := F) (m := m + 1) (i := s.1) (ra := ⟨Qan (m + 1) F, true, [3]⟩) (ρ := [some (.int m, true), some (Qc R, false), some (Qc L, false), some (Qan (m + 1) F, true), some (Qc (Qv R L), false), some (.int i, true), some (.int s.1, true), some (.int s.2, true)]) rfl rfl rfl rfl s1 c1
     have e7 := Qld (fa := Qa 3) (fb := Qa 7) (F := F) (m := m + 1) (i := s.2) (ra := ⟨Qan (m + 1) F, true, [3]⟩) (ρ := [some (.int m, true), some (Qc R, false), some (Qc L, false), some (Qan (m + 1) F, true), some (Qc (Qv R L), false), some (.int i, true), some (.int s.1, true), some (.int s.2, true)]) rfl rfl rfl rfl s2 c2
     have t1 : Qj (dOp (QeJ false) (Ql (Qa 3) (Qa 6)) (dC .non)) [some (.int m, true), some (Qc R, false), some (Qc L, false), some (Qan (m + 1) F, true), some (Qc (Qv R L), false), some (.int i, true), some (.int s.1, true), some (.int s.2, true)] = some (decide (F s.1.toNat = none)) := by
      refine Qp (Q0 e6 (rb := ⟨.non, true, []⟩) rfl (d := .bl (decide (F s.1.toNat = none))) ?_) rfl
      cases F s.1.toNat <;> rfl
     have t2 : Qj (dOp gEq (Ql (Qa 3) (Qa 7)) (Qa 5)) [some (.int m, true), some (Qc R, false), some (Qc L, false), some (Qan (m + 1) F, true), some (Qc (Qv R L), false), some (.int i, true), some (.int s.1, true), some (.int s.2, true)] = some (decide (F s.2.toNat = some (i : Int))) := by
      have := QrS e7 (fb := Qa 5) (rb := ⟨.int i, true, []⟩) rfl (Qlx 8 _) rfl
      refine Qp this ?_
      show D.bl (deq (QbS (F s.2.toNat)) (.int i)) = _
      rw [QqG]
     refine run_seq (QC (b := decide (F s.1.toNat = none /\ F s.2.toNat = some (i : Int))) ?_ (λ h => ?_) (λ h => ?_))
     ·exact (Qgv t1 t2).trans (by rw [Bool.decide_and])
     ·have h := of_decide_eq_true h
      refine run_seq (Qoq (i := s.1) (v := i + 1) (F := F) (m := m + 1) rfl rfl rfl (Q2 (a := (i : Int)) (b := 1) rfl rfl rfl rfl) rfl s1 c1 (Qi (Qi ⟨some (.int s.1, true), some (.int s.2, true), ?_⟩)))
      rw [step]
      unfold Qa0
      rw [if_pos h]; rfl
     ·have h := of_decide_eq_false h
      refine Qi (Qi ⟨some (.int s.1, true), some (.int s.2, true), ?_⟩)
      rw [step]
      unfold Qa0
      rw [if_neg h]; rfl
    ·rintro ρ ⟨j6, j7, rfl⟩
     rw [Zbm]
     exact ⟨j6, j7, rfl⟩
   ·intro o ho
    cases o with
    | nx ρ =>
     obtain ⟨j6, j7, rfl⟩ := ho
     exact Qi ⟨_, _, _, false, rfl⟩
    | _ => exact ho.elim
  ·rintro ρ ⟨j5, j6, j7, b, rfl⟩
   rw [ZF]
   exact ⟨j5, j6, j7, b, rfl⟩
 rintro ρ ⟨j5, j6, j7, b, rfl⟩
 exact QaG (QqJ (m := m + 1) (n := m) (Qab (d := Qan (m + 1) (Q5 (Qv R L) (Q3 m) m)) (b := true) rfl) rfl rfl rfl (by omega)) ⟨rfl, rfl⟩
theorem QeD {t : Int} {v : Nat} : ∀ (S : List (Int × Int)) (F : Nat -> Option Int), S.foldl (Qa0 t) F v = if F v = none /\ ∃ s ∈ S, s.1.toNat = v /\ F s.2.toNat = some t then some (t + 1) else F v
 | [], F => by simp
 | s :: S, F => by
  rw [Zbx, QeD S]
  have key : ∀ w, (Qa0 t F s w = some t ↔ F w = some t) := λ w => by
   unfold Qa0
   split
   ·rename_i h
    unfold upO
    split
    ·rename_i e; subst e; rw [h.1]; simp; omega
    ·exact Iff.rfl
   ·exact Iff.rfl
  by_cases c : F s.1.toNat = none /\ F s.2.toNat = some t
  ·by_cases hv : v = s.1.toNat
   ·have e1 : Qa0 t F s v = some (t + 1) := by unfold Qa0 upO; rw [if_pos c, if_pos hv]
    rw [if_neg (by rw [e1]; simp), e1, if_pos ⟨by rw [hv]; exact c.1, s, Zi, hv.symm, c.2⟩]
   ·have e1 : Qa0 t F s v = F v := by unfold Qa0 upO; rw [if_pos c, if_neg hv]
    rw [e1]
    simp only [key]
    by_cases h : F v = none /\ ∃ s' ∈ S, s'.1.toNat = v /\ F s'.2.toNat = some t
    ·obtain ⟨h1, s', h2, h3⟩ := h
     rw [if_pos ⟨h1, s', h2, h3⟩, if_pos ⟨h1, s', Zd _ h2, h3⟩]
    ·rw [if_neg h, if_neg]
     rintro ⟨h1, s', h2, h3, h4⟩
     rcases Zm.mp h2 with rfl | h2
     ·exact hv h3.symm
     ·exact h ⟨h1, s', h2, h3, h4⟩
  ·have e1 : Qa0 t F s = F := by unfold Qa0; rw [if_neg c]
   rw [e1]
   by_cases h : F v = none /\ ∃ s' ∈ S, s'.1.toNat = v /\ F s'.2.toNat = some t
   ·obtain ⟨h1, s', h2, h3⟩ := h
    rw [if_pos ⟨h1, s', h2, h3⟩, if_pos ⟨h1, s', Zd _ h2, h3⟩]
   ·rw [if_neg h, if_neg]
    rintro ⟨h1, s', h2, h3, h4⟩
    rcases Zm.mp h2 with rfl | h2
    ·exact c ⟨h3 ▸ h1, h4⟩
    ·exact h ⟨h1, s', h2, h3, h4⟩
structure QuE (m : Nat) (S : List (Int × Int)) (t : Nat) (F : Nat -> Option Int) : Prop where
 pit : F m = some 0
 val : ∀ v d, F v = some d -> 0 <= d /\ d <= t /\ v <= m /\ (v ≠ m -> 1 <= d)
 pred : ∀ v d, v ≠ m -> F v = some d -> ∃ s ∈ S, s.1.toNat = v /\ F s.2.toNat = some (d - 1)
 low : ∀ v d, v ≠ m -> F v = some d -> ∀ s ∈ S, s.1.toNat = v -> ∀ e, F s.2.toNat = some e -> d - 1 <= e
 non : ∀ v, F v = none -> ∀ s ∈ S, s.1.toNat = v -> ∀ e, F s.2.toNat = some e -> e = t
theorem QrV {m : Nat} {S : List (Int × Int)} (hS : ∀ s ∈ S, Good m s) : ∀ t, QuE m S t (Q5 S (Q3 m) t)
 | 0 => by
  have z : ∀ v d, Q3 m v = some d -> v = m /\ d = 0 := λ v d h => by
   unfold Q3 at h
   split at h
   ·cases h; exact ⟨by assumption, rfl⟩
   ·cases h
  refine ⟨by simp [Q5, Q3], λ v d h => ?_, λ v d hv h => ?_, λ v d hv h => ?_, λ v h s hs e1 e h2 => ?_⟩
  ·obtain ⟨rfl, rfl⟩ := z v d h; exact ⟨by omega, by omega, by omega, λ h => absurd rfl h⟩
  ·exact absurd (z v d h).1 hv
  ·exact absurd (z v d h).1 hv
  ·obtain ⟨_, rfl⟩ := z _ _ h2; rfl
 | t + 1 => by
  have I := QrV hS t
  generalize hF : Q5 S (Q3 m) t = F at I
  have nx : ∀ v, Q5 S (Q3 m) (t + 1) v = if F v = none /\ ∃ s ∈ S, s.1.toNat = v /\ F s.2.toNat = some (t : Int) then some ((t : Int) + 1) else F v := λ v => by
   show S.foldl (Qa0 t) (Q5 S (Q3 m) t) v = _
   rw [QeD, hF]
  generalize Q5 S (Q3 m) (t + 1) = F' at nx
  have old : ∀ v d, F v = some d -> F' v = some d := λ v d h => by rw [nx, if_neg (by rw [h]; simp)]; exact h
  have new : ∀ v d, F' v = some d -> F v = some d ∨ (F v = none /\ d = t + 1 /\ ∃ s ∈ S, s.1.toNat = v /\ F s.2.toNat = some (t : Int)) := λ v d h => by
   rw [nx] at h
   split at h
   ·rename_i c; cases h; exact .inr ⟨c.1, rfl, c.2⟩
   ·exact .inl h
  refine ⟨old _ _ I.pit, λ v d h => ?_, λ v d hv h => ?_, λ v d hv h s hs e1 e h2 => ?_, λ v h s hs e1 e h2 => ?_⟩
  ·rcases new v d h with h | ⟨h, rfl, s, hs, e1, _⟩
   ·obtain ⟨a, b, c, d⟩ := I.val v d h; exact ⟨a, by omega, c, d⟩
   ·have g := hS s hs
    exact ⟨by omega, by omega, by have := g.2.2.1; have := g.1; omega, λ _ => by omega⟩
  ·rcases new v d h with h | ⟨h, rfl, s, hs, e1, e2⟩
   ·obtain ⟨s, hs, e1, e2⟩ := I.pred v d hv h
    exact ⟨s, hs, e1, old _ _ e2⟩
   ·exact ⟨s, hs, e1, by rw [old _ _ e2]; congr 1; omega⟩
  ·rcases new v d h with h | ⟨hq, rfl, _⟩
   ·rcases new _ e h2 with h2 | ⟨_, rfl, _⟩
    ·exact I.low v d hv h s hs e1 e h2
    ·have := (I.val v d h).2.1; omega
   ·rcases new _ e h2 with h2 | ⟨_, rfl, _⟩
    ·have := I.non v hq s hs e1 e h2; omega
    ·omega
  ·rw [nx] at h
   split at h
   ·cases h
   ·rename_i c
    rcases new _ e h2 with h2 | ⟨_, rfl, _⟩
    ·exact absurd ⟨h, s, hs, e1, by rw [h2, I.non v h s hs e1 e h2]⟩ c
    ·omega
theorem Qhf : ∀ (m : Nat) (l : List Nat), l.Nodup -> (∀ x ∈ l, x < m) -> l.length <= m
 | 0, l, _, h => by cases l with
  | nil => simp
  | cons x l => exact absurd (h x Zi) (by omega)
 | m + 1, l, nd, h => by
  by_cases hm : m ∈ l
  ·have := Qhf m (l.erase m) (nd.erase m) λ x hx => by
    have h1 := h x (List.mem_of_mem_erase hx)
    have h2 : x ≠ m := λ z => by subst z; exact (List.Nodup.not_mem_erase nd) hx
    omega
   rw [List.length_erase_of_mem hm] at this
   omega
  ·have := Qhf m l nd λ x hx => by
    have h1 := h x hx
    have h2 : x ≠ m := λ z => hm (z ▸ hx)
    omega
   omega
theorem Qoy {m : Nat} {S : List (Int × Int)} (m0 : 0 < m) (hS : ∀ s ∈ S, Good m s) {v : Nat} (hv : v < m) (hn : Q5 S (Q3 m) m v = none) : ∀ s ∈ S, s.1.toNat = v -> Q5 S (Q3 m) m s.2.toNat = none := λ s hs e1 => by
 have I := QrV hS m
 generalize Q5 S (Q3 m) m = F at I hn
 cases h : F s.2.toNat with
 | none => rfl
 | some e =>
  exfalso
  have he := I.non v hn s hs e1 e h
  have chain : ∀ k : Nat, k <= m -> ∃ w, F w = some ((m : Int) - k) := λ k => by
   induction k with
   | zero => intro _; exact ⟨_, by rw [h, he]; simp⟩
   | succ k ih =>
    intro hk
    obtain ⟨w, hw⟩ := ih (by omega)
    have hwm : w ≠ m := λ z => by rw [z, I.pit] at hw; have := Option.some.inj hw; omega
    obtain ⟨s', _, _, h2⟩ := I.pred w _ hwm hw
    exact ⟨_, by rw [h2]; congr 1; omega⟩
  have pick : ∀ k : Nat, ∃ w, k < m -> F w = some ((k : Int) + 1) := λ k => by
   by_cases hk : k < m
   ·obtain ⟨w, hw⟩ := chain (m - (k + 1)) (by omega)
    exact ⟨w, λ _ => by rw [hw]; congr 1; omega⟩
   ·exact ⟨0, λ z => absurd z hk⟩
  obtain ⟨f, this⟩ := Zbn pick
  have hl := Qhf m (v :: (List.range m).map f) ?_ ?_
  ·simp at hl; omega
  ·refine Zaj.mpr ⟨λ hm => ?_, ?_⟩
   ·obtain ⟨k, hk, ek⟩ := ZE.mp hm
    have := this k (ZR.mp hk)
    rw [ek, hn] at this; cases this
   ·rw [List.nodup_iff_pairwise_ne, List.pairwise_map]
    refine List.Pairwise.imp_of_mem ?_ List.nodup_range
    intro a b ha hb hab e
    have h1 := this a (ZR.mp ha)
    have h2 := this b (ZR.mp hb)
    rw [e, h2] at h1
    have := Option.some.inj h1
    omega
  ·intro x hx
   rcases Zm.mp hx with rfl | hx
   ·exact hv
   ·obtain ⟨k, hk, rfl⟩ := ZE.mp hx
    have h1 := this k (ZR.mp hk)
    have h2 := I.val _ _ h1
    have h3 : f k ≠ m := λ z => by rw [z, I.pit] at h1; have := Option.some.inj h1; omega
    omega
structure QuZ (m : Nat) (S : List (Int × Int)) (F : Nat -> Option Int) : Prop where
 pit : F m = some 0
 non : ∀ v, v < m -> F v = none -> ∀ s ∈ S, s.1.toNat = v -> F s.2.toNat = none
 pred : ∀ v d, v < m -> F v = some d -> ∃ s ∈ S, s.1.toNat = v /\ F s.2.toNat = some (d - 1)
 low : ∀ v d, v < m -> F v = some d -> ∀ s ∈ S, s.1.toNat = v -> ∀ e, F s.2.toNat = some e -> d - 1 <= e
theorem QrD (xs : List D) : deq (.lst xs) (.lst []) = xs.isEmpty := by
 cases xs with
 | nil => rfl
 | cons x xs => rfl
theorem QlI (n m : Nat) (F : Nat -> Option Int) : (Qan m F).sim (n + 1) = true := by
 unfold Qan
 simp only [D.sim, Zbt, ZS]
 intro p _
 exact Qlx n _
theorem Qqe {fa : DE} {ρ : En} {r : R} {ns : List Int} {m : Int} (h : fa ρ = some r) (e : r.d = Ql1 ns) (hm : QiR ns = some m) : dBf Qgu (Qb fa Qd) ρ = some ⟨.int m, true, []⟩ := by
 unfold dBf
 rw [Qf h (QB _), Za]
 simp only [e, Ql1, Qgu, Qkl, Za, hm, ZY]
theorem Qri {fa fb : DE} {ρ : En} {ra rb : R} {a b : Int} (ha : fa ρ = some ra) (ea : ra.d = .int a) (hb : fb ρ = some rb) (eb : rb.d = .int b) : dBf Qbj (Qb fa (Qb fb Qd)) ρ = some ⟨.int (if b > a then b else a), true, []⟩ := by
 unfold dBf
 rw [Qf ha (Qf hb (QB _)), Za]
 simp only [ea, eb, Qbj, ZY]
theorem Qrk {m : Nat} {F : Nat -> Option Int} : ((List.range m).map λ i => QbS (F i)).any (λ y => deq y .non) = (List.range m).any λ i => (F i).isNone := by
 rw [List.any_map]
 congr 1
 funext i
 show deq (QbS (F i)) .non = (F i).isNone
 cases F i <;> rfl
theorem Qnh {neg : Bool} {fb : DE} {ρ : En} {rb : R} {m : Nat} {F : Nat -> Option Int} (hb : fb ρ = some rb) (eb : rb.d = Qan m F) : dOp (gIn neg) (dC .non) fb ρ = some ⟨.bl (if neg then !((List.range m).any λ i => (F i).isNone) else (List.range m).any λ i => (F i).isNone), true, []⟩ := by
 refine Q0 (ra := ⟨.non, true, []⟩) rfl hb ?_
 rw [eb]
 show (if D.non.sim 8 && (Qan m F).sim 8 then some (D.bl (if neg then !(((List.range m).map λ i => QbS (F i)).any λ y => deq y .non) else ((List.range m).map λ i => QbS (F i)).any λ y => deq y .non)) else none) = _
 rw [QlI 7 m F, Qrk]
 rfl
end HS
namespace HS
open PySem PySem.Spec L2
def Ap (f : DS) (fx : DX) : Prop := ∀ ρ, fx ρ ≠ none -> f ρ = none
def ApF (d : Den) (xd : List D -> Option Str) : Prop := ∀ ds, xd ds ≠ none -> d ds = none
theorem Qbs {f : DS} : Ap f xNo := λ ρ h => absurd rfl h
theorem QT {x : Str} {fs : DA} : Ap Qt (Qb6 x fs) := λ ρ h => rfl
theorem QaN {f g : DS} {fx gx : DX} (a : Ap f fx) (b : Ap g gx) : Ap (Qe f g) (QY f fx gx) := λ ρ h => by
 unfold QY at h
 unfold Qe
 split at h
 ·rename_i ρ' e
  rw [e]
  exact b ρ' h
 ·exact absurd rfl h
 ·rename_i e
  rw [e]; rfl
theorem Qb3 {c : DT} {f g : DS} {fx gx : DX} (a : Ap f fx) (b : Ap g gx) : Ap (sIf c f g) (xIf c fx gx) := λ ρ h => by
 unfold xIf at h
 unfold sIf
 cases e : c ρ with
 | none => rfl
 | some v =>
  rw [e, Za] at h
  rw [Za]
  cases v with
  | true => rw [if_pos rfl] at h ⊢; exact a ρ h
  | false => rw [if_neg ZK] at h ⊢; exact b ρ h
theorem QaQ {fi : DI} {t : Tg} {fb : DS} {fx : DX} (a : Ap fb fx) : Ap (QaM fi t fb) (Qfw fi t fb fx) := λ ρ h => by
 unfold Qfw at h
 unfold QaM
 cases e : fi ρ with
 | none => rfl
 | some ir =>
  rw [e, Za] at h
  rw [Za]
  clear e
  revert h
  generalize ir.items = ds
  generalize QaX ir.M ρ = ρ0
  induction ds generalizing ρ0 with
  | nil => exact λ h => absurd rfl h
  | cons d ds ih =>
   intro h
   unfold Qdz at h
   unfold QcC
   cases e1 : QaW t d ρ0 with
   | none => rfl
   | some ρ1 =>
    rw [e1, Za] at h
    rw [Za]
    split at h
    ·rename_i ρ2 e2; rw [e2, Za]; exact ih ρ2 h
    ·rename_i ρ2 e2; rw [e2, Za]; exact ih ρ2 h
    ·exact absurd rfl h
    ·rename_i e2; rw [e2]; rfl
theorem Qie {n : Nat} {d : Den} {xd : List D -> Option Str} {fs : DA} (a : ApF d xd) {ρ : En} (h : Qbu n xd fs ρ ≠ none) : Qn n d [] fs ρ = none := by
 unfold Qbu at h
 unfold Qn
 cases e : fs ρ with
 | none => rfl
 | some r =>
  rw [e, Za] at h
  rw [Za]
  split at h
  ·rename_i hl
   rw [if_pos (by simpa using hl), Zab, a r.ds (λ z => h (by rw [z]; rfl))]; rfl
  ·exact absurd rfl h
theorem Q6 {n : Nat} {d : Den} {xd : List D -> Option Str} {fs : DA} (a : ApF d xd) : Ap (Qbk (Qn n d [] fs)) (Qbu n xd fs) := λ ρ h => by unfold Qbk; rw [Qie a h]; rfl
theorem Qbd {n i : Nat} {d : Den} {xd : List D -> Option Str} {fs : DA} (a : ApF d xd) : Ap (Qx i (Qn n d [] fs)) (Qbu n xd fs) := λ ρ h => by unfold Qx; rw [Qie a h]; rfl
theorem Qbh {n : Nat} {d : Den} {xd : List D -> Option Str} {fs : DA} (a : ApF d xd) : Ap (QO (Qn n d [] fs)) (Qbu n xd fs) := λ ρ h => by unfold QO; rw [Qie a h]; rfl
theorem Qju {k : Nat} {f : DS} {fx : DX} (a : Ap f fx) : ApF (Qw k f) (Qbo k fx) := λ ds h => by
 unfold Qbo at h
 unfold Qw
 rw [a _ λ z => h (by rw [z]; rfl)]; rfl
def Qc4 (f : DX) (ρ : En) (x : Str) : Prop := ∃ ρ', f ρ = some (x, ρ')
theorem QcO {x : Str} {fs : DA} {ρ : En} {r : RA} (h : fs ρ = some r) (hl : r.ds.length <= 1) : Qc4 (Qb6 x fs) ρ x := ⟨ρ, by unfold Qb6; rw [h, Za, if_pos hl]⟩
theorem QiG {n : Nat} {xd : List D -> Option Str} {fs : DA} {ρ : En} {r : RA} {x : Str} (h : fs ρ = some r) (hl : r.ds.length = n) (hx : xd r.ds = some x) : Qc4 (Qbu n xd fs) ρ x := ⟨ρ, by unfold Qbu; rw [h, Za, if_pos hl, hx]; rfl⟩
theorem Qfs {g : DT} {fa fb : DX} {b : Bool} {ρ : En} {x : Str} (h : g ρ = some b) (q1 : b = true -> Qc4 fa ρ x) (q2 : b = false -> Qc4 fb ρ x) : Qc4 (xIf g fa fb) ρ x := by
 cases b with
 | true => obtain ⟨o, h1⟩ := q1 rfl; exact ⟨o, by simp [xIf, h, h1]⟩
 | false => obtain ⟨o, h1⟩ := q2 rfl; exact ⟨o, by simp [xIf, h, h1]⟩
theorem Qae {f : DS} {fx fr : DX} {ρ : En} {x : Str} (a : Ap f fx) (q : Qc4 fx ρ x) : Qc4 (QY f fx fr) ρ x := by
 obtain ⟨o, h⟩ := q
 exact ⟨o, by unfold QY; rw [a ρ (by rw [h]; exact λ z => by cases z)]; exact h⟩
theorem Qba {f : DS} {fx fr : DX} {ρ : En} {x : Str} (h : Run f ρ (Nx λ ρ' => Qc4 fr ρ' x)) : Qc4 (QY f fx fr) ρ x := by
 obtain ⟨o, h1, h2⟩ := h
 cases o with
 | nx ρ' => obtain ⟨o, h3⟩ := h2; exact ⟨o, by unfold QY; rw [h1]; exact h3⟩
 | _ => exact h2.elim
theorem QnU {α : Type} {fi : DI} {t : Tg} {fb : DS} {fx : DX} {toD : α -> D} {ρ : En} {ir : IR} {c : Str} (a : Ap fb fx) (xs : List α) (I : Nat -> En -> Prop) (k : Nat) (hk : k < xs.length) (h : fi ρ = some ir) (hx : ir.items = xs.map toD) (h0 : I 0 (QaX ir.M ρ))
  (turn : ∀ i x ρ, i < k -> xs[i]? = some x -> I i ρ -> ∃ ρ1, QaW t (toD x) ρ = some ρ1 /\ Run fb ρ1 (Nx λ ρ2 => I (i + 1) ρ2))
  (here : ∀ x ρ, xs[k]? = some x -> I k ρ -> ∃ ρ1, QaW t (toD x) ρ = some ρ1 /\ Qc4 fx ρ1 c) : Qc4 (Qfw fi t fb fx) ρ c := by
 unfold Qc4 Qfw
 rw [h, Za, hx]
 clear h hx
 have gen : ∀ (n : Nat) (i : Nat) (ρ : En), k - i = n -> i <= k -> I i ρ -> ∃ ρ', Qdz t fb fx ((xs.drop i).map toD) ρ = some (c, ρ') := by
  intro n
  induction n with
  | zero =>
   intro i ρ e hi hI
   obtain rfl : i = k := by omega
   rw [ZM hk, Zu]
   unfold Qdz
   obtain ⟨ρ1, e1, ρ2, e2⟩ := here xs[i] ρ (by simp [hk]) hI
   refine ⟨ρ2, ?_⟩
   rw [e1, Za, a ρ1 (by rw [e2]; exact λ z => by cases z)]
   exact e2
  | succ n ih =>
   intro i ρ e hi hI
   have hlt : i < xs.length := by omega
   rw [ZM hlt, Zu]
   unfold Qdz
   obtain ⟨ρ1, e1, o, e2, e3⟩ := turn i xs[i] ρ (by omega) (by simp [hlt]) hI
   cases o with
   | nx ρ2 =>
    obtain ⟨ρ', e4⟩ := ih (i + 1) ρ2 (by omega) (by omega) e3
    exact ⟨ρ', by rw [e1, Za, e2]; exact e4⟩
   | _ => exact e3.elim
 have := gen (k - 0) 0 _ rfl (ZO _) h0
 simpa using this
theorem QhL {k : Nat} {f : DX} {ds : List D} {x : Str} (h : Qc4 f (Qb7 k ds) x) : Qbo k f ds = some x := by
 obtain ⟨ρ, e⟩ := h
 unfold Qbo
 rw [e]; rfl
theorem Qpw {f : DS} {fx : DX} {sub : Str -> Str -> Option Bool} {y : Str} {h : DS} {r : List Hd} {x : Str} {ρ ρ' : En} {Q : Out -> Prop} (a : Ap f fx) (e : fx ρ = some (x, ρ')) (hs : sub x y = some true) (q : Run h ρ' Q) : Run (QfC f fx sub ((y, none, h) :: r)) ρ Q := by
 obtain ⟨o, h1, h2⟩ := q
 refine ⟨o, ?_, h2⟩
 unfold QfC
 rw [a ρ (by rw [e]; exact λ z => by cases z)]
 dsimp only
 rw [e, Za]
 unfold Qkb
 rw [hs, Za, if_pos rfl]
 exact h1
theorem Qpv {f : DS} {fx : DX} {sub : Str -> Str -> Option Bool} {y : Str} {i : Nat} {h : DS} {r : List Hd} {x : Str} {ρ ρ' : En} {Q : Out -> Prop} (a : Ap f fx) (e : fx ρ = some (x, ρ')) (hs : sub x y = some true) (q : Run h (ρ'.set i (some (.exc x, true))) λ o => Q (Qtc i o)) : Run (QfC f fx sub ((y, some i, h) :: r)) ρ Q := by
 obtain ⟨o, h1, h2⟩ := q
 refine ⟨_, ?_, h2⟩
 unfold QfC
 rw [a ρ (by rw [e]; exact λ z => by cases z)]
 dsimp only
 rw [e, Za]
 unfold Qkb
 rw [hs, Za, if_pos rfl]
 dsimp only
 rw [h1]; rfl
end HS
namespace HS
open PySem L2
theorem Qnn {n : Nat} {d : Den} {xd : List D -> Option Str} {fs : DA} {ρ : En} {r : RA} {x : Str} (a : ApF d xd) (h : fs ρ = some r) (hl : r.ds.length = n) (hx : xd r.ds = some x) : QY (Qbk (Qn n d [] fs)) (Qbu n xd fs) xNo ρ = some (x, ρ) := by
 have e : Qbu n xd fs ρ = some (x, ρ) := by unfold Qbu; rw [h, Za, if_pos hl, hx]; rfl
 unfold QY
 rw [Q6 a ρ (by rw [e]; exact λ z => by cases z)]
 exact e
theorem QjO {sub : Str -> Str -> Option Bool} {ys : List Str} {fa : DE} {ρ : En} {x : Str} {b : Bool} (h : fa ρ = some ⟨.exc x, true, []⟩) (hs : anyS sub x ys = some b) : Qfl sub ys fa ρ = some ⟨.bl b, true, []⟩ := by
 unfold Qfl
 rw [h, Za]
 dsimp only
 rw [hs]; rfl
theorem any_cons {sub : Str -> Str -> Option Bool} {x y : Str} {ys : List Str} {b c : Bool} (h : sub x y = some b) (t : anyS sub x ys = some c) : anyS sub x (y :: ys) = some (b || c) := by
 unfold anyS
 rw [h, Za, t]; rfl
theorem Qli {fa fb : DE} {ρ : En} {a b : Bool} (ha : fa ρ = some ⟨.bl a, true, []⟩) (hb : fb ρ = some ⟨.bl b, true, []⟩) : Qb2 fa fb ρ = some ⟨.bl (a && b), true, []⟩ := by
 unfold Qb2
 rw [ha, Za]
 cases a with
 | true => rw [hb]; rfl
 | false => rfl
theorem QrM {fa : DE} {ρ : En} {a : Bool} (ha : fa ρ = some ⟨.bl a, true, []⟩) : Qg9 fa ρ = some ⟨.bl (!a), true, []⟩ := by
 unfold Qg9
 rw [ha]; rfl
theorem QhM {fa fb : DE} {ρ : En} {ra rb : R} {xs ys : List D} (ha : fa ρ = some ra) (ea : ra.d = .lst xs) (hb : fb ρ = some rb) (eb : rb.d = .lst ys) (hf : QJ (xs ++ ys) = true) (hl : xs.length + ys.length <= 16777216) : Qu fa fb ρ = some ⟨.lst (xs ++ ys), true, []⟩ := by
 unfold Qu
 rw [ha, Za, hb, Za, ea, eb]
 dsimp only
 rw [if_pos (by exact hl)]
 unfold Qau
 rw [if_pos hf]
theorem QkL {fa : DE} {lo hi : DO} {ρ : En} {ra : R} {xs : List D} {l h : Option Int} (ha : fa ρ = some ra) (ea : ra.d = .lst xs) (hl : lo ρ = some l) (hh : hi ρ = some h) (hf : QJ xs = true) : QbN fa lo hi ρ = some ⟨.lst (cutD xs l h), true, []⟩ := by
 unfold QbN
 rw [ha, Za, hl, Za, hh, Za, ea]
 dsimp only
 unfold Qau
 rw [if_pos]
 unfold cutD
 generalize HT.sIx xs.length 0 l = a
 generalize HT.sIx xs.length xs.length h - a = b
 have d1 : ∀ (n : Nat) (xs : List D), QJ xs = true -> QJ (xs.drop n) = true := λ n => by
  induction n with
  | zero => exact λ xs h => by simpa using h
  | succ n ih => exact λ xs h => by cases xs with
   | nil => rfl
   | cons d ds => simp only [QJ, Zf] at h; exact ih ds h.2
 have d2 : ∀ (n : Nat) (xs : List D), QJ xs = true -> QJ (xs.take n) = true := λ n => by
  induction n with
  | zero => exact λ xs h => by rw [List.take_zero]; rfl
  | succ n ih => exact λ xs h => by cases xs with
   | nil => rfl
   | cons d ds => simp only [QJ, Zf] at h; rw [ZaV]; simp only [QJ, Zf]; exact ⟨h.1, ih ds h.2⟩
 exact d2 _ _ (d1 _ _ hf)
noncomputable def QbZ (m : Int) (s : Int × Int) : Bool := decide (0 <= s.1) && decide (0 <= s.2) && decide (s.1 <= m) && decide (s.2 <= m) && !decide (s.1 = s.2)
theorem Qkk {m : Nat} {s : Int × Int} (h : QbZ m s = true) : Good m s := by
 unfold QbZ at h
 simp only [Zf, decide_eq_true_eq, ZQ, decide_eq_false_iff_not] at h
 exact ⟨h.1.1.1.1, h.1.1.1.2, h.1.1.2, h.1.2, h.2⟩
theorem Qhg {m : Nat} {s : Int × Int} (h : Good m s) : QbZ m s = true := by
 unfold QbZ
 simp only [Zf, decide_eq_true_eq, ZQ, decide_eq_false_iff_not]
 exact ⟨⟨⟨⟨h.1, h.2.1⟩, h.2.2.1⟩, h.2.2.2.1⟩, h.2.2.2.2⟩
theorem QfP {α : Type} {p : α -> Bool} : ∀ {xs : List α}, ¬ (∀ x ∈ xs, p x = true) -> ∃ k, k < xs.length /\ (∀ i x, i < k -> xs[i]? = some x -> p x = true) /\ ∀ x, xs[k]? = some x -> p x = false
 | [], h => absurd (λ x hx => by simp at hx) h
 | a :: xs, h => by
  by_cases ha : p a = true
  ·obtain ⟨k, h1, h2, h3⟩ := QfP (xs := xs) λ hx => h λ x hm => by
    rcases Zm.mp hm with rfl | hm
    ·exact ha
    ·exact hx x hm
   refine ⟨k + 1, by simpa using h1, λ i x hi e => ?_, λ x e => h3 x (by simpa using e)⟩
   cases i with
   | zero => simp at e; subst e; exact ha
   | succ i => exact h2 i x (by omega) (by simpa using e)
  ·exact ⟨0, by simp, λ i x hi => by omega, λ x e => by simp at e; subst e; simpa using ha⟩
noncomputable def Qa4 : DS := (Qe (Qx 1 (QcM (Ql (Qa 0) (dC (.int 0))))) (Qe (sIf (bOr (Qj (dOp gLt (Qa 1) (dC (.int 1)))) (Qj (dOp gGt (Qa 1) (dC (.int 8))))) (Qe Qt Qg) Qg) (Qe (QaM (QR (Qu (Ql (Qa 0) (dC (.int 1))) (Ql (Qa 0) (dC (.int 2))))) (.tp [2, 3]) (Qe (sIf (bOr (Qj (dOp gLt (dBf Qbi (Qb (Qa 2) (Qb (Qa 3) Qd))) (dC (.int 0)))) (Qj (dOp gGt (dBf Qbj (Qb (Qa 2) (Qb (Qa 3) Qd))) (Qa 1)))) (Qe Qt Qg) Qg) (Qe (sIf (Qj (dOp gEq (Qa 2) (Qa 3))) (Qe Qt Qg) Qg) Qg))) (Qe (QaM (QR (Ql (Qa 0) (dC (.int 2)))) (.tp [2, 3]) (Qe (sIf (Qj (dOp gEq (Qa 2) (Qa 1))) (Qe Qt Qg) Qg) Qg)) Qg))))
noncomputable def QcE : DX := (QY (Qx 1 (QcM (Ql (Qa 0) (dC (.int 0))))) xNo (QY (sIf (bOr (Qj (dOp gLt (Qa 1) (dC (.int 1)))) (Qj (dOp gGt (Qa 1) (dC (.int 8))))) (Qe Qt Qg) Qg) (xIf (bOr (Qj (dOp gLt (Qa 1) (dC (.int 1)))) (Qj (dOp gGt (Qa 1) (dC (.int 8))))) (QY Qt (Qb6 "NoNet" (Qb (dC (.str "a net has from 1 to 8 places")) Qd)) xNo) xNo) (QY (QaM (QR (Qu (Ql (Qa 0) (dC (.int 1))) (Ql (Qa 0) (dC (.int 2))))) (.tp [2, 3]) (Qe (sIf (bOr (Qj (dOp gLt (dBf Qbi (Qb (Qa 2) (Qb (Qa 3) Qd))) (dC (.int 0)))) (Qj (dOp gGt (dBf Qbj (Qb (Qa 2) (Qb (Qa 3) Qd))) (Qa 1)))) (Qe Qt Qg) Qg) (Qe (sIf (Qj (dOp gEq (Qa 2) (Qa 3))) (Qe Qt Qg) Qg) Qg))) (Qfw (QR (Qu (Ql (Qa 0) (dC (.int 1))) (Ql (Qa 0) (dC (.int 2))))) (.tp [2, 3]) (Qe (sIf (bOr (Qj (dOp gLt (dBf Qbi (Qb (Qa 2) (Qb (Qa 3) Qd))) (dC (.int 0)))) (Qj (dOp gGt (dBf Qbj (Qb (Qa 2) (Qb (Qa 3) Qd))) (Qa 1)))) (Qe Qt Qg) Qg) (Qe (sIf (Qj (dOp gEq (Qa 2) (Qa 3))) (Qe Qt Qg) Qg) Qg)) (QY (sIf (bOr (Qj (dOp gLt (dBf Qbi (Qb (Qa 2) (Qb (Qa 3) Qd))) (dC (.int 0)))) (Qj (dOp gGt (dBf Qbj (Qb (Qa 2) (Qb (Qa 3) Qd))) (Qa 1)))) (Qe Qt Qg) Qg) (xIf (bOr (Qj (dOp gLt (dBf Qbi (Qb (Qa 2) (Qb (Qa 3) Qd))) (dC (.int 0)))) (Qj (dOp gGt (dBf Qbj (Qb (Qa 2) (Qb (Qa 3) Qd))) (Qa 1)))) (QY Qt (Qb6 "NoNet" (Qb (dC (.str "a road or lane has a number that is neither a place nor the pit")) Qd)) xNo) xNo) (QY (sIf (Qj (dOp gEq (Qa 2) (Qa 3))) (Qe Qt Qg) Qg) (xIf (Qj (dOp gEq (Qa 2) (Qa 3))) (QY Qt (Qb6 "NoNet" (Qb (dC (.str "a road or lane has one number twice")) Qd)) xNo) xNo) xNo))) (QY (QaM (QR (Ql (Qa 0) (dC (.int 2)))) (.tp [2, 3]) (Qe (sIf (Qj (dOp gEq (Qa 2) (Qa 1))) (Qe Qt Qg) Qg) Qg)) (Qfw (QR (Ql (Qa 0) (dC (.int 2)))) (.tp [2, 3]) (Qe (sIf (Qj (dOp gEq (Qa 2) (Qa 1))) (Qe Qt Qg) Qg) Qg) (QY (sIf (Qj (dOp gEq (Qa 2) (Qa 1))) (Qe Qt Qg) Qg) (xIf (Qj (dOp gEq (Qa 2) (Qa 1))) (QY Qt (Qb6 "NoNet" (Qb (dC (.str "a lane leads from the pit")) Qd)) xNo) xNo) xNo)) xNo))))
theorem QtV : ApF (Qw 4 Qa4) (Qbo 4 QcE) := Qju (by unfold Qa4 QcE; repeat (first | exact Qbs | exact QT | assumption | apply QaN | apply Qb3 | apply QaQ | apply Q6 | apply Qbd | apply Qbh))
theorem QkC {ρ : En} {m a b : Int} (h1 : ρ[1]? = some (some (.int m, true))) (h2 : ρ[2]? = some (some (.int a, true))) (h3 : ρ[3]? = some (some (.int b, true))) : bOr (Qj (dOp gLt (dBf Qbi (Qb (Qa 2) (Qb (Qa 3) Qd))) (dC (.int 0)))) (Qj (dOp gGt (dBf Qbj (Qb (Qa 2) (Qb (Qa 3) Qd))) (Qa 1))) ρ = some (!(decide (0 <= a) && decide (0 <= b) && decide (a <= m) && decide (b <= m))) := by
 have v1 : Qa 1 ρ = some ⟨.int m, true, []⟩ := (Qab h1).trans rfl
 have v2 : Qa 2 ρ = some ⟨.int a, true, []⟩ := (Qab h2).trans rfl
 have v3 : Qa 3 ρ = some ⟨.int b, true, []⟩ := (Qab h3).trans rfl
 refine (Qbc (Qp (Q0 (d := .bl (decide ((if b < a then b else a) < 0))) (rb := ⟨.int 0, true, []⟩) (Qru (a := a) (b := b) v2 rfl v3 rfl) rfl rfl) rfl) (Qp (Q0 (d := .bl (decide (m < (if b > a then b else a)))) (Qri (a := a) (b := b) v2 rfl v3 rfl) v1 rfl) rfl)).trans ?_
 congr 1
 by_cases c1 : 0 <= a <;> by_cases c2 : 0 <= b <;> by_cases c3 : a <= m <;> by_cases c4 : b <= m <;> simp only [c1, c2, c3, c4, decide_true, decide_false, Bool.and_true, ZbD, Bool.not_true, Bool.not_false, Bool.false_and, Bool.true_and] <;> simp only [Zby, Bool.or_eq_false_iff, decide_eq_true_eq, decide_eq_false_iff_not] <;> (split <;> split <;> omega)
structure Qff (m : Int) (R L : List (Int × Int)) : Prop where
 lo : 1 <= m
 hi : m <= 8
 ways : ∀ s ∈ R ++ L, QbZ m s = true
 pit : ∀ s ∈ L, s.1 ≠ m
def QeC (d : Den) : Prop := ∀ (m : Int) (R L : List (Int × Int)), R.length + L.length <= 1000 -> Qff m R L -> d [Qr m R L] = some (.non, true)
def Qhd (xd : List D -> Option Str) : Prop := ∀ (m : Int) (R L : List (Int × Int)), R.length + L.length <= 1000 -> ¬ Qff m R L -> xd [Qr m R L] = some "NoNet"
theorem Qlh {ρ : En} {m : Int} {R L : List (Int × Int)} (h : ρ[0]? = some (some (Qr m R L, false))) (hl : R.length + L.length <= 1000) : QR (Qu (Ql (Qa 0) (dC (.int 1))) (Ql (Qa 0) (dC (.int 2)))) ρ = some ⟨(R ++ L).map pairD, []⟩ := by
 obtain ⟨_, e1, e2⟩ := QcU (m := m) (R := R) (L := L) ((Qab h).trans rfl) rfl
 refine (Qaz (QhM (xs := R.map pairD) (ys := L.map pairD) e1 rfl e2 rfl (by rw [← Zv]; exact QbW (λ _ => rfl) _) (by simp; omega)) rfl).trans ?_
 rw [Zv]
theorem Qp0 {m : Int} {R L : List (Int × Int)} {s : Int × Int} {j2 j3 : Option (D × Bool)} (hg : QbZ m s = true) {Q : Out -> Prop} (q : Q (.nx [some (Qr m R L, false), some (.int m, true), some (.int s.1, true), some (.int s.2, true)])) :
  Run (Qe (sIf (bOr (Qj (dOp gLt (dBf Qbi (Qb (Qa 2) (Qb (Qa 3) Qd))) (dC (.int 0)))) (Qj (dOp gGt (dBf Qbj (Qb (Qa 2) (Qb (Qa 3) Qd))) (Qa 1)))) (Qe Qt Qg) Qg) (Qe (sIf (Qj (dOp gEq (Qa 2) (Qa 3))) (Qe Qt Qg) Qg) Qg)) [some (Qr m R L, false), some (.int m, true), some (.int s.1, true), some (.int s.2, true)] Q := by
 unfold QbZ at hg
 rw [Zf] at hg
 refine run_seq (QC (b := false) ((QkC (m := m) (a := s.1) (b := s.2) rfl rfl rfl).trans (by rw [hg.1]; rfl)) (λ h => by cases h) (λ _ => Qi ?_))
 refine run_seq (QC (b := false) (Qp (QaR (a := s.1) (b := s.2) (ra := ⟨.int s.1, true, []⟩) rfl rfl (rb := ⟨.int s.2, true, []⟩) rfl rfl) ?_) (λ h => by cases h) (λ _ => Qi (Qi q)))
 show D.bl _ = _
 have := hg.2
 simp only [ZQ, decide_eq_false_iff_not] at this
 rw [decide_eq_false this]
theorem QpD {m : Int} {R L : List (Int × Int)} (hl : R.length + L.length <= 1000) (hg : ∀ s ∈ R ++ L, QbZ m s = true) {Q : Out -> Prop} (q : ∀ j2 j3, Q (.nx [some (Qr m R L, false), some (.int m, true), j2, j3])) :
  Run (QaM (QR (Qu (Ql (Qa 0) (dC (.int 1))) (Ql (Qa 0) (dC (.int 2))))) (.tp [2, 3]) (Qe (sIf (bOr (Qj (dOp gLt (dBf Qbi (Qb (Qa 2) (Qb (Qa 3) Qd))) (dC (.int 0)))) (Qj (dOp gGt (dBf Qbj (Qb (Qa 2) (Qb (Qa 3) Qd))) (Qa 1)))) (Qe Qt Qg) Qg) (Qe (sIf (Qj (dOp gEq (Qa 2) (Qa 3))) (Qe Qt Qg) Qg) Qg))) [some (Qr m R L, false), some (.int m, true), none, none] Q := by
 refine QaT (toD := pairD) (R ++ L) (λ _ ρ => ∃ j2 j3, ρ = [some (Qr m R L, false), some (.int m, true), j2, j3]) (Qlh rfl hl) rfl ⟨none, none, rfl⟩ ?_ ?_
 ·rintro i s ρ hi ⟨j2, j3, rfl⟩
  exact ⟨_, rfl, Qp0 (j2 := j2) (j3 := j3) (hg s (Zac hi)) ⟨_, _, rfl⟩⟩
 ·rintro ρ ⟨j2, j3, rfl⟩
  exact q _ _
theorem Qk9 : QeC (Qw 4 Qa4) := λ m R L hl N => by
 have key : Run Qa4 [some (Qr m R L, false), none, none, none] (Nx λ _ => True) := by
  refine run_seq (Qm (r := ⟨.int m, false, []⟩) rfl ?_)
  rw [QfF rfl]
  refine run_seq (QC (b := false) ((Qbc (a := false) (b := false) (Qp (b := false) (Q0 (d := .bl (decide (m < 1))) (ra := ⟨.int m, true, []⟩) (rb := ⟨.int 1, true, []⟩) rfl rfl rfl) ?_) (Qp (b := false) (Q0 (d := .bl (decide (8 < m))) (ra := ⟨.int m, true, []⟩) (rb := ⟨.int 8, true, []⟩) rfl rfl rfl) ?_))) (λ h => by cases h) (λ _ => Qi ?_))
  ·show D.bl _ = _; rw [decide_eq_false (by have := N.lo; omega)]
  ·show D.bl _ = _; rw [decide_eq_false (by have := N.hi; omega)]
  refine run_seq (QpD hl N.ways λ j2 j3 => ?_)
  refine run_seq (QaT (toD := pairD) L (λ _ ρ => ∃ j2 j3, ρ = [some (Qr m R L, false), some (.int m, true), j2, j3]) (Qaz (QcU (m := m) (R := R) (L := L) (r := ⟨Qr m R L, false, []⟩) rfl rfl).2.2 rfl) rfl ⟨j2, j3, rfl⟩ ?_ ?_)
  ·rintro i s ρ hi ⟨j2, j3, rfl⟩
   refine ⟨_, rfl, ?_⟩
   refine run_seq (QC (b := false) (Qp (QaR (a := s.1) (b := m) (ra := ⟨.int s.1, true, []⟩) rfl rfl (rb := ⟨.int m, true, []⟩) rfl rfl) ?_) (λ h => by cases h) (λ _ => Qi (Qi ⟨_, _, rfl⟩)))
   show D.bl _ = _
   rw [decide_eq_false (N.pit s (Zac hi))]
  ·rintro ρ ⟨j2, j3, rfl⟩
   exact Qi trivial
 obtain ⟨o, h1, h2⟩ := key
 show Option.bind (Qa4 [some (Qr m R L, false), none, none, none]) outD = _
 rw [h1]
 cases o with
 | nx ρ => rfl
 | _ => exact h2.elim
theorem QjQ : Qhd (Qbo 4 QcE) := λ m R L hl hN => by
 refine QhL (Qba (Qm (r := ⟨.int m, false, []⟩) rfl ?_))
 rw [QfF rfl]
 have eb : bOr (Qj (dOp gLt (Qa 1) (dC (.int 1)))) (Qj (dOp gGt (Qa 1) (dC (.int 8)))) [some (Qr m R L, false), some (.int m, true), none, none] = some (decide (m < 1) || decide (8 < m)) := Qbc (Qp (Q0 (d := .bl (decide (m < 1))) (ra := ⟨.int m, true, []⟩) (rb := ⟨.int 1, true, []⟩) rfl rfl rfl) rfl) (Qp (Q0 (d := .bl (decide (8 < m))) (ra := ⟨.int m, true, []⟩) (rb := ⟨.int 8, true, []⟩) rfl rfl rfl) rfl)
 by_cases c1 : m < 1 ∨ 8 < m
 ·exact Qae (by repeat (first | exact Qbs | exact QT | assumption | apply QaN | apply Qb3 | apply QaQ | apply Q6 | apply Qbd | apply Qbh)) (Qfs (b := true) (eb.trans (by rcases c1 with c | c <;> simp [c])) (λ _ => Qae QT (QcO rfl (Zj _))) (λ h => by cases h))
 refine Qba (QC (b := false) (eb.trans (by simp; omega)) (λ h => by cases h) (λ _ => Qi ?_))
 by_cases c2 : ∀ s ∈ R ++ L, QbZ m s = true
 ·refine Qba (QpD hl c2 λ j2 j3 => ?_)
  have c3 : ¬ ∀ s ∈ L, (!decide (s.1 = m)) = true := λ h => hN ⟨by omega, by omega, c2, λ s hs => by simpa using h s hs⟩
  obtain ⟨k, k1, k2, k3⟩ := QfP c3
  refine Qae (QaQ (by repeat (first | exact Qbs | exact QT | assumption | apply QaN | apply Qb3 | apply QaQ | apply Q6 | apply Qbd | apply Qbh))) (QnU (by repeat (first | exact Qbs | exact QT | assumption | apply QaN | apply Qb3 | apply QaQ | apply Q6 | apply Qbd | apply Qbh)) (toD := pairD) L (λ _ ρ => ∃ j2 j3, ρ = [some (Qr m R L, false), some (.int m, true), j2, j3]) k k1 (Qaz (QcU (m := m) (R := R) (L := L) (r := ⟨Qr m R L, false, []⟩) rfl rfl).2.2 rfl) rfl ⟨j2, j3, rfl⟩ ?_ ?_)
  ·rintro i s ρ hi hx ⟨j2, j3, rfl⟩
   refine ⟨_, rfl, ?_⟩
   refine run_seq (QC (b := false) (Qp (QaR (a := s.1) (b := m) (ra := ⟨.int s.1, true, []⟩) rfl rfl (rb := ⟨.int m, true, []⟩) rfl rfl) ?_) (λ h => by cases h) (λ _ => Qi (Qi ⟨_, _, rfl⟩)))
   have := k2 i s hi hx
   simp only [ZQ, decide_eq_false_iff_not] at this
   show D.bl _ = _
   rw [decide_eq_false this]
  ·rintro s ρ hx ⟨j2, j3, rfl⟩
   refine ⟨_, rfl, ?_⟩
   refine Qae (by repeat (first | exact Qbs | exact QT | assumption | apply QaN | apply Qb3 | apply QaQ | apply Q6 | apply Qbd | apply Qbh)) (Qfs (b := true) (Qp (QaR (a := s.1) (b := m) (ra := ⟨.int s.1, true, []⟩) rfl rfl (rb := ⟨.int m, true, []⟩) rfl rfl) ?_) (λ _ => Qae QT (QcO rfl (Zj _))) (λ h => by cases h))
   have := k3 s hx
   simp only [Bool.not_eq_false', decide_eq_true_eq] at this
   show D.bl _ = _
   rw [decide_eq_true this]
 ·obtain ⟨k, k1, k2, k3⟩ := QfP c2
  refine Qae (QaQ (by repeat (first | exact Qbs | exact QT | assumption | apply QaN | apply Qb3 | apply QaQ | apply Q6 | apply Qbd | apply Qbh))) (QnU (by repeat (first | exact Qbs | exact QT | assumption | apply QaN | apply Qb3 | apply QaQ | apply Q6 | apply Qbd | apply Qbh)) (toD := pairD) (R ++ L) (λ _ ρ => ∃ j2 j3, ρ = [some (Qr m R L, false), some (.int m, true), j2, j3]) k k1 (Qlh rfl hl) rfl ⟨none, none, rfl⟩ ?_ ?_)
  ·rintro i s ρ hi hx ⟨j2, j3, rfl⟩
   exact ⟨_, rfl, Qp0 (j2 := j2) (j3 := j3) (k2 i s hi hx) ⟨_, _, rfl⟩⟩
  ·rintro s ρ hx ⟨j2, j3, rfl⟩
   refine ⟨_, rfl, ?_⟩
   have hb := k3 s hx
   unfold QbZ at hb
   by_cases c : (decide (0 <= s.1) && decide (0 <= s.2) && decide (s.1 <= m) && decide (s.2 <= m)) = true
   ·rw [c, Bool.true_and] at hb
    simp only [Bool.not_eq_false', decide_eq_true_eq] at hb
    refine Qba (QC (b := false) ((QkC (m := m) (a := s.1) (b := s.2) rfl rfl rfl).trans (by rw [c]; rfl)) (λ h => by cases h) (λ _ => Qi ?_))
    refine Qae (by repeat (first | exact Qbs | exact QT | assumption | apply QaN | apply Qb3 | apply QaQ | apply Q6 | apply Qbd | apply Qbh)) (Qfs (b := true) (Qp (QaR (a := s.1) (b := s.2) (ra := ⟨.int s.1, true, []⟩) rfl rfl (rb := ⟨.int s.2, true, []⟩) rfl rfl) ?_) (λ _ => Qae QT (QcO rfl (Zj _))) (λ h => by cases h))
    show D.bl _ = _
    rw [decide_eq_true hb]
   ·have c' := Bool.eq_false_iff.mpr c
    exact Qae (by repeat (first | exact Qbs | exact QT | assumption | apply QaN | apply Qb3 | apply QaQ | apply Q6 | apply Qbd | apply Qbh)) (Qfs (b := true) ((QkC (m := m) (a := s.1) (b := s.2) rfl rfl rfl).trans (by rw [c']; rfl)) (λ _ => Qae QT (QcO rfl (Zj _))) (λ h => by cases h))
theorem QfZ {m : Nat} {S : List (Int × Int)} {A : Nat -> Prop} (hm : ¬ A m) (hA : ∀ s ∈ S, A s.1.toNat -> A s.2.toNat) : ∀ t v, A v -> Q5 S (Q3 m) t v = none
 | 0, v, hv => by
  show Q3 m v = none
  unfold Q3
  rw [if_neg (λ (z : v = m) => hm (z ▸ hv))]
 | t + 1, v, hv => by
  show S.foldl (Qa0 t) (Q5 S (Q3 m) t) v = none
  rw [QeD, if_neg (λ ⟨_, s, hs, e1, e2⟩ => by
   rw [QfZ hm hA t _ (hA s hs (by rw [e1]; exact hv))] at e2
   cases e2), QfZ hm hA t v hv]
theorem QfX {m : Nat} {S : List (Int × Int)} (m0 : 0 < m) (hS : ∀ s ∈ S, Good m s) (hE : QiQ m S) : ∀ p, p < m -> Q5 S (Q3 m) m p ≠ none := λ p hp hn => by
 have pit : Q5 S (Q3 m) m m ≠ none := λ h => by
  have key : ∀ t, Q5 S (Q3 m) t m = some 0 := λ t => by
   induction t with
   | zero => show Q3 m m = some 0; unfold Q3; rw [if_pos rfl]
   | succ t ih =>
    show S.foldl (Qa0 t) (Q5 S (Q3 m) t) m = some 0
    rw [QeD, if_neg (λ ⟨h1, _⟩ => by rw [ih] at h1; cases h1), ih]
  rw [key m] at h; cases h
 obtain ⟨s, hs, h1, h2, h3⟩ := hE (λ v => Q5 S (Q3 m) m v = none) ⟨p, hp, hn⟩
 have g := hS s hs
 have e := Qoy m0 hS (v := s.1.toNat) (by have := g.1; omega) h2 s hs rfl
 rcases h3 with z | z
 ·rw [z, Zx] at e
  exact pit e
 ·exact z e
noncomputable def Qcd (Qca : Den) : DS := (Qe (sIf (Qj (dOp gGt (Qu (dBf QaF (Qb (Ql (Qa 0) (dC (.int 1))) Qd)) (dBf QaF (Qb (Ql (Qa 0) (dC (.int 2))) Qd))) (dC (.int 40)))) (Qe Qt Qg) Qg) (Qe (sIf (Qj (dOp (gIn false) (dC .non) (Qn 3 Qca [] (Qb (Ql (Qa 0) (dC (.int 0))) (Qb (Ql (Qa 0) (dC (.int 1))) (Qb (Ql (Qa 0) (dC (.int 2))) Qd)))))) (Qe Qt Qg) Qg) Qg))
noncomputable def Qdy (Qca : Den) : DX := (QY (sIf (Qj (dOp gGt (Qu (dBf QaF (Qb (Ql (Qa 0) (dC (.int 1))) Qd)) (dBf QaF (Qb (Ql (Qa 0) (dC (.int 2))) Qd))) (dC (.int 40)))) (Qe Qt Qg) Qg) (xIf (Qj (dOp gGt (Qu (dBf QaF (Qb (Ql (Qa 0) (dC (.int 1))) Qd)) (dBf QaF (Qb (Ql (Qa 0) (dC (.int 2))) Qd))) (dC (.int 40)))) (QY Qt (Qb6 "NoNet" (Qb (dC (.str "a net has at most 40 roads and lanes")) Qd)) xNo) xNo) (QY (sIf (Qj (dOp (gIn false) (dC .non) (Qn 3 Qca [] (Qb (Ql (Qa 0) (dC (.int 0))) (Qb (Ql (Qa 0) (dC (.int 1))) (Qb (Ql (Qa 0) (dC (.int 2))) Qd)))))) (Qe Qt Qg) Qg) (xIf (Qj (dOp (gIn false) (dC .non) (Qn 3 Qca [] (Qb (Ql (Qa 0) (dC (.int 0))) (Qb (Ql (Qa 0) (dC (.int 1))) (Qb (Ql (Qa 0) (dC (.int 2))) Qd)))))) (QY Qt (Qb6 "NoNet" (Qb (dC (.str "a place has no way to the pit")) Qd)) xNo) xNo) xNo))
theorem QtI {dl : Den} : ApF (Qw 1 (Qcd dl)) (Qbo 1 (Qdy dl)) := Qju (by unfold Qcd Qdy; repeat (first | exact Qbs | exact QT | assumption | apply QaN | apply Qb3 | apply QaQ | apply Q6 | apply Qbd | apply Qbh))
structure Qhl (m : Nat) (R L : List (Int × Int)) : Prop where
 few : R.length + L.length <= 40
 lead : ∀ p, p < m -> Q5 (Qv R L) (Q3 m) m p ≠ none
def Qgx (d : Den) : Prop := ∀ (m : Nat) (R L : List (Int × Int)), 0 < m -> m <= 8 -> R.length + L.length <= 1000 -> (∀ s ∈ R, Good m s) -> (∀ s ∈ L, Good m s) -> Qhl m R L -> d [Qr m R L] = some (.non, true)
def QkD (xd : List D -> Option Str) : Prop := ∀ (m : Nat) (R L : List (Int × Int)), 0 < m -> m <= 8 -> R.length + L.length <= 1000 -> (∀ s ∈ R, Good m s) -> (∀ s ∈ L, Good m s) -> ¬ Qhl m R L -> xd [Qr m R L] = some "NoNet"
theorem Qit {m : Nat} {R L : List (Int × Int)} : Qj (dOp gGt (Qu (dBf QaF (Qb (Ql (Qa 0) (dC (.int 1))) Qd)) (dBf QaF (Qb (Ql (Qa 0) (dC (.int 2))) Qd))) (dC (.int 40))) [some (Qr m R L, false)] = some (decide ((40 : Int) < R.length + L.length)) := by
 obtain ⟨_, e1, e2⟩ := QcU (fa := Qa 0) (ρ := [some (Qr m R L, false)]) (m := m) (R := R) (L := L) (r := ⟨Qr m R L, false, []⟩) rfl rfl
 refine Qp (Q0 (d := .bl (decide ((40 : Int) < R.length + L.length))) (rb := ⟨.int 40, true, []⟩) (Q2 (a := R.length) (b := L.length) ((Qe9 (xs := R.map pairD) e1 rfl).trans (by rw [Zh])) rfl ((Qe9 (xs := L.map pairD) e2 rfl).trans (by rw [Zh])) rfl) rfl rfl) rfl
theorem Qhy {dl : Den} (hl : Qe7 dl) {m : Nat} {R L : List (Int × Int)} (m0 : 0 < m) (m8 : m <= 8) (h : R.length + L.length <= 1000) (hR : ∀ s ∈ R, Good m s) (hL : ∀ s ∈ L, Good m s) : Qj (dOp (gIn false) (dC .non) (Qn 3 dl [] (Qb (Ql (Qa 0) (dC (.int 0))) (Qb (Ql (Qa 0) (dC (.int 1))) (Qb (Ql (Qa 0) (dC (.int 2))) Qd))))) [some (Qr m R L, false)] = some ((List.range m).any λ i => (Q5 (Qv R L) (Q3 m) m i).isNone) :=
 Qp (Qnh (neg := false) (m := m) (F := Q5 (Qv R L) (Q3 m) m) (Qz (r := ⟨[.int m, Qc R, Qc L], false, []⟩) rfl (hl m R L m0 (by omega) (by omega) hR hL) rfl) rfl) rfl
theorem Qox {dl : Den} (hl : Qe7 dl) : Qgx (Qw 1 (Qcd dl)) := λ m R L m0 m8 h hR hL W => by
 have key : Run (Qcd dl) [some (Qr m R L, false)] (Nx λ _ => True) := by
  refine run_seq (QC (b := false) (Qit.trans (by rw [decide_eq_false (by have := W.few; omega)])) (λ h => by cases h) (λ _ => Qi ?_))
  refine run_seq (QC (b := false) ((Qhy hl m0 m8 h hR hL).trans ?_) (λ h => by cases h) (λ _ => Qi (Qi trivial)))
  congr 1
  refine List.any_eq_false.mpr λ i hi => ?_
  have := W.lead i (ZR.mp hi)
  cases e : Q5 (Qv R L) (Q3 m) m i with
  | none => exact absurd e this
  | some t => exact ZK
 obtain ⟨o, h1, h2⟩ := key
 show Option.bind (Qcd dl [some (Qr m R L, false)]) outD = _
 rw [h1]
 cases o with
 | nx ρ => rfl
 | _ => exact h2.elim
theorem QmT {dl : Den} (hl : Qe7 dl) : QkD (Qbo 1 (Qdy dl)) := λ m R L m0 m8 h hR hL hW => by
 by_cases c : R.length + L.length <= 40
 ·refine QhL (Qba (QC (b := false) (Qit.trans (by rw [decide_eq_false (by omega)])) (λ h => by cases h) (λ _ => Qi ?_)))
  refine Qae (by repeat (first | exact Qbs | exact QT | assumption | apply QaN | apply Qb3 | apply QaQ | apply Q6 | apply Qbd | apply Qbh)) (Qfs (b := true) ((Qhy hl m0 m8 h hR hL).trans ?_) (λ _ => Qae QT (QcO rfl (Zj _))) (λ h => by cases h))
  congr 1
  refine ZaC λ hn => hW ⟨c, λ p hp e => hn ?_⟩
  exact List.any_eq_true.mpr ⟨p, ZR.mpr hp, by rw [e]; rfl⟩
 ·exact QhL (Qae (by repeat (first | exact Qbs | exact QT | assumption | apply QaN | apply Qb3 | apply QaQ | apply Q6 | apply Qbd | apply Qbh)) (Qfs (b := true) (Qit.trans (by rw [decide_eq_true (by omega)])) (λ _ => Qae QT (QcO rfl (Zj _))) (λ h => by cases h)))
noncomputable def spr (f : Nat -> Int) : Nat -> Int
 | 0 => 1
 | k + 1 => spr f k * f k
noncomputable def Qas (QaK : Den) (Qav : Den) : DS := (Qe (sIf (Qj (Qn 1 QaK [] (Qb (Qa 0) Qd))) (Qe Qgo Qg) Qg) (Qe (Qx 1 (dC (.int 1))) (Qe (QaM (QR (Qn 1 Qav [] (Qb (Qa 0) Qd))) (.nm 2) (Qe (Qx 1 (Qai (Qa 1) (Qa 2))) Qg)) (Qe (sIf (Qj (dOp gGt (Qa 1) (dC (.int 300)))) (Qe Qt Qg) Qg) Qg))))
noncomputable def Qbt (Qav : Den) (QaK : Den) : DX := (QY (sIf (Qj (Qn 1 QaK [] (Qb (Qa 0) Qd))) (Qe Qgo Qg) Qg) (xIf (Qj (Qn 1 QaK [] (Qb (Qa 0) Qd))) (QY Qgo xNo xNo) xNo) (QY (Qx 1 (dC (.int 1))) xNo (QY (QaM (QR (Qn 1 Qav [] (Qb (Qa 0) Qd))) (.nm 2) (Qe (Qx 1 (Qai (Qa 1) (Qa 2))) Qg)) (Qfw (QR (Qn 1 Qav [] (Qb (Qa 0) Qd))) (.nm 2) (Qe (Qx 1 (Qai (Qa 1) (Qa 2))) Qg) (QY (Qx 1 (Qai (Qa 1) (Qa 2))) xNo xNo)) (QY (sIf (Qj (dOp gGt (Qa 1) (dC (.int 300)))) (Qe Qt Qg) Qg) (xIf (Qj (dOp gGt (Qa 1) (dC (.int 300)))) (QY Qt (Qb6 "NoNet" (Qb (dC (.str "in a net with lanes the spans, multiplied, are at most 300")) Qd)) xNo) xNo) xNo))))
theorem QtF {dp ds : Den} : ApF (Qw 3 (Qas dp ds)) (Qbo 3 (Qbt ds dp)) := Qju (by unfold Qas Qbt; repeat (first | exact Qbs | exact QT | assumption | apply QaN | apply Qb3 | apply QaQ | apply Q6 | apply Qbd | apply Qbh))
def Qfj (m : Nat) (R L : List (Int × Int)) : Prop := L = [] ∨ spr (Q9 R L) m <= 300
def Qg5 (d : Den) : Prop := ∀ (m : Nat) (R L : List (Int × Int)), m <= 8 -> R.length + L.length <= 1000 -> (∀ s ∈ R, Good m s) -> (∀ s ∈ L, Good m s) -> Qfj m R L -> d [Qr m R L] = some (.non, true)
def Qij (xd : List D -> Option Str) : Prop := ∀ (m : Nat) (R L : List (Int × Int)), m <= 8 -> R.length + L.length <= 1000 -> (∀ s ∈ R, Good m s) -> (∀ s ∈ L, Good m s) -> ¬ Qfj m R L -> xd [Qr m R L] = some "NoNet"
theorem Qlp {ds : Den} (hs : Qgi ds) {m : Nat} {R L : List (Int × Int)} (m8 : m <= 8) (h : R.length + L.length <= 1000) (hR : ∀ s ∈ R, Good m s) (hL : ∀ s ∈ L, Good m s) {Q : Out -> Prop} (q : ∀ j2, Q (.nx [some (Qr m R L, false), some (.int (spr (Q9 R L) m), true), j2])) :
  Run (QaM (QR (Qn 1 ds [] (Qb (Qa 0) Qd))) (.nm 2) (Qe (Qx 1 (Qai (Qa 1) (Qa 2))) Qg)) [some (Qr m R L, false), some (.int 1, true), none] Q := by
 refine QaT (toD := λ (k : Nat) => .int (Q9 R L k)) (List.range m) (λ k ρ => ∃ j2, ρ = [some (Qr m R L, false), some (.int (spr (Q9 R L) k), true), j2]) (Qaz (Qz (r := ⟨[Qr m R L], false, []⟩) rfl (hs m R L (by omega) (by omega) hR hL) rfl) rfl) rfl ⟨none, rfl⟩ ?_ ?_
 ·rintro k k' ρ hk ⟨j2, rfl⟩
  have hk' : k < m /\ k = k' := by
   obtain ⟨h1, h2⟩ := Zg.mp hk
   simp at h1 h2; exact ⟨h1, h2⟩
  obtain ⟨hkm, rfl⟩ := hk'
  have b := Qo2 R L k
  refine ⟨_, rfl, ?_⟩
  refine run_seq (Qm (QbJ (a := spr (Q9 R L) k) (b := Q9 R L k) (ra := ⟨.int (spr (Q9 R L) k), true, []⟩) rfl rfl (rb := ⟨.int (Q9 R L k), true, []⟩) rfl rfl (QcV (by omega))) (Qi ?_))
  rw [Qs]
  exact ⟨_, rfl⟩
 ·rintro ρ ⟨j2, rfl⟩
  rw [ZF]
  exact q _
theorem QmU {dp ds : Den} (hp : QgD dp) (hs : Qgi ds) : Qg5 (Qw 3 (Qas dp ds)) := λ m R L m8 h hR hL hS => by
 have key : Run (Qas dp ds) [some (Qr m R L, false), none, none] λ o => match o with | .nx _ => True | .rt d fr => d = .non /\ fr = true | _ => False := by
  have ep : Qj (Qn 1 dp [] (Qb (Qa 0) Qd)) [some (Qr m R L, false), none, none] = some (decide ((L.length : Int) = 0)) := Qp (Qz (r := ⟨[Qr m R L], false, []⟩) rfl (hp m R L) rfl) rfl
  by_cases c : L = []
  ·refine Qy (QC (b := true) (ep.trans (by rw [c]; rfl)) (λ _ => ?_) (λ h => by cases h))
   exact Qy ⟨_, rfl, rfl, rfl⟩
  ·refine Qy (QC (b := false) (ep.trans (by rw [decide_eq_false (by cases L with | nil => exact absurd rfl c | cons a l => simp; omega)])) (λ h => by cases h) (λ _ => Qi ?_))
   refine Qy (Qm (r := ⟨.int 1, true, []⟩) rfl ?_)
   rw [Qs]
   refine Qy (Qlp hs m8 h hR hL λ j2 => ?_)
   refine Qy (QC (b := false) (Qp (Q0 (d := .bl (decide (300 < spr (Q9 R L) m))) (ra := ⟨.int (spr (Q9 R L) m), true, []⟩) (rb := ⟨.int 300, true, []⟩) rfl rfl rfl) ?_) (λ h => by cases h) (λ _ => Qi (Qi trivial)))
   show D.bl _ = _
   have hle : spr (Q9 R L) m <= 300 := hS.elim (λ z => absurd z c) id
   rw [decide_eq_false (by omega)]
 obtain ⟨o, h1, h2⟩ := key
 show Option.bind (Qas dp ds [some (Qr m R L, false), none, none]) outD = _
 rw [h1]
 cases o with
 | nx ρ => rfl
 | rt d fr => obtain ⟨rfl, rfl⟩ := h2; rfl
 | _ => exact h2.elim
theorem Ql8 {dp ds : Den} (hp : QgD dp) (hs : Qgi ds) : Qij (Qbo 3 (Qbt ds dp)) := λ m R L m8 h hR hL hS => by
 have c : L ≠ [] := λ z => hS (.inl z)
 have ep : Qj (Qn 1 dp [] (Qb (Qa 0) Qd)) [some (Qr m R L, false), none, none] = some (decide ((L.length : Int) = 0)) := Qp (Qz (r := ⟨[Qr m R L], false, []⟩) rfl (hp m R L) rfl) rfl
 refine QhL (Qba (QC (b := false) (ep.trans (by rw [decide_eq_false (by cases L with | nil => exact absurd rfl c | cons a l => simp; omega)])) (λ h => by cases h) (λ _ => Qi ?_)))
 refine Qba (Qm (r := ⟨.int 1, true, []⟩) rfl ?_)
 rw [Qs]
 refine Qba (Qlp hs m8 h hR hL λ j2 => ?_)
 refine Qae (by repeat (first | exact Qbs | exact QT | assumption | apply QaN | apply Qb3 | apply QaQ | apply Q6 | apply Qbd | apply Qbh)) (Qfs (b := true) (Qp (Q0 (d := .bl (decide (300 < spr (Q9 R L) m))) (ra := ⟨.int (spr (Q9 R L) m), true, []⟩) (rb := ⟨.int 300, true, []⟩) rfl rfl rfl) ?_) (λ _ => Qae QT (QcO rfl (Zj _))) (λ h => by cases h))
 show D.bl _ = _
 rw [decide_eq_true (by refine ZaC λ z => hS (.inr (by omega)))]
noncomputable def nrm (p : Int × Int) : Int × Int := (if p.2 < p.1 then p.2 else p.1, if p.2 > p.1 then p.2 else p.1)
structure Qc3 (m : Int) (R L : List (Int × Int)) : Prop where
 num : Qff m R L
 way : Qhl m.toNat R L
 sml : Qfj m.toNat R L
noncomputable def QdX (Q7 : Den) (Qaw : Den) (QQ : Den) : DS := (Qe (Qx 3 (Qaa (QR (Qa 1)) (.tp [1, 2]) [none, none, none] QbG (QI (Qb (dBf Qbi (Qb (Qa 1) (Qb (Qa 2) Qd))) (Qb (dBf Qbj (Qb (Qa 1) (Qb (Qa 2) Qd))) Qd))))) (Qe (Qx 4 (Qaa (QR (dOr (Qa 2) (QH Qd))) (.tp [1, 2]) [none, none, none] QbG (QI (Qb (Qa 1) (Qb (Qa 2) Qd))))) (Qe (Qx 5 (QI (Qb (Qa 0) (Qb (Qa 3) (Qb (Qa 4) Qd))))) (Qe (Qbk (Qn 1 Q7 [] (Qb (Qa 5) Qd))) (Qe (Qbk (Qn 1 Qaw [] (Qb (Qa 5) Qd))) (Qe (Qbk (Qn 1 QQ [] (Qb (Qa 5) Qd))) (Qe (QO (Qa 5)) Qg)))))))
noncomputable def QdU (QQ : Den) (Qaw : Den) (Q7 : Den) (x_need_small_spans : List D -> Option Str) (x_need_ways : List D -> Option Str) (x_need_numbers : List D -> Option Str) : DX := (QY (Qx 3 (Qaa (QR (Qa 1)) (.tp [1, 2]) [none, none, none] QbG (QI (Qb (dBf Qbi (Qb (Qa 1) (Qb (Qa 2) Qd))) (Qb (dBf Qbj (Qb (Qa 1) (Qb (Qa 2) Qd))) Qd))))) xNo (QY (Qx 4 (Qaa (QR (dOr (Qa 2) (QH Qd))) (.tp [1, 2]) [none, none, none] QbG (QI (Qb (Qa 1) (Qb (Qa 2) Qd))))) xNo (QY (Qx 5 (QI (Qb (Qa 0) (Qb (Qa 3) (Qb (Qa 4) Qd))))) xNo (QY (Qbk (Qn 1 Q7 [] (Qb (Qa 5) Qd))) (Qbu 1 x_need_numbers (Qb (Qa 5) Qd)) (QY (Qbk (Qn 1 Qaw [] (Qb (Qa 5) Qd))) (Qbu 1 x_need_ways (Qb (Qa 5) Qd)) (QY (Qbk (Qn 1 QQ [] (Qb (Qa 5) Qd))) (Qbu 1 x_need_small_spans (Qb (Qa 5) Qd)) (QY (QO (Qa 5)) xNo xNo)))))))
theorem QrL {dn dw ds : Den} {xn xw xs : List D -> Option Str} (h1 : ApF dn xn) (h2 : ApF dw xw) (h3 : ApF ds xs) : ApF (Qw 6 (QdX dn dw ds)) (Qbo 6 (QdU ds dw dn xs xw xn)) := Qju (by unfold QdX QdU; repeat (first | exact Qbs | exact QT | assumption | apply QaN | apply Qb3 | apply QaQ | apply Q6 | apply Qbd | apply Qbh))
def Qor (L : List (Int × Int)) (d : D) : Prop := d = Qc L ∨ (L = [] /\ d = .non)
def QhX (d : Den) : Prop := ∀ (m : Int) (R L : List (Int × Int)) (l : D), Qor L l -> R.length + L.length <= 1000 -> Qc3 m (R.map nrm) L -> d [.int m, Qc R, l] = some (Qr m (R.map nrm) L, true)
def MadeX (xd : List D -> Option Str) : Prop := ∀ (m : Int) (R L : List (Int × Int)), R.length + L.length <= 1000 -> ¬ Qc3 m (R.map nrm) L -> xd [.int m, Qc R, Qc L] = some "NoNet"
theorem QmH {ρ : En} {R : List (Int × Int)} (h : ρ[1]? = some (some (Qc R, false))) : Qaa (QR (Qa 1)) (.tp [1, 2]) [none, none, none] QbG (QI (Qb (dBf Qbi (Qb (Qa 1) (Qb (Qa 2) Qd))) (Qb (dBf Qbj (Qb (Qa 1) (Qb (Qa 2) Qd))) Qd))) ρ = some ⟨Qc (R.map nrm), true, []⟩ := by
 refine (QcP (toD := pairD) (out := λ s => pairD (nrm s)) R (Qaz ((Qab h).trans rfl) rfl) rfl λ s _ => ⟨[none, some (.int s.1, true), some (.int s.2, true)], rfl, ⟨pairD (nrm s), true, []⟩, rfl, rfl, rfl⟩).trans ?_
 unfold Qc
 rw [Zar]; rfl
theorem Qlo {ρ : En} {L : List (Int × Int)} {l : D} (hl : Qor L l) {b : Bool} (h : ρ[2]? = some (some (l, b))) (hb : b = l.flat) : Qaa (QR (dOr (Qa 2) (QH Qd))) (.tp [1, 2]) [none, none, none] QbG (QI (Qb (Qa 1) (Qb (Qa 2) Qd))) ρ = some ⟨Qc L, true, []⟩ := by
 have e : ∃ M, QR (dOr (Qa 2) (QH Qd)) ρ = some ⟨L.map pairD, M⟩ := by
  rcases hl with rfl | ⟨rfl, rfl⟩
  ·subst hb
   cases L with
   | nil =>
    refine ⟨_, Qaz (r := ⟨.lst [], true, []⟩) ?_ rfl⟩
    unfold dOr
    rw [show Qa 2 ρ = some ⟨.lst [], false, []⟩ from (Qab h).trans rfl]; rfl
   | cons a l =>
    refine ⟨_, Qaz (r := ⟨Qc (a :: l), false, []⟩) ?_ rfl⟩
    unfold dOr
    rw [show Qa 2 ρ = some ⟨Qc (a :: l), false, []⟩ from (Qab h).trans rfl]; rfl
  ·refine ⟨_, Qaz (r := ⟨.lst [], true, []⟩) ?_ rfl⟩
   unfold dOr
   rw [show Qa 2 ρ = some ⟨.non, true, []⟩ from (Qab h).trans rfl]; rfl
 obtain ⟨M, e⟩ := e
 exact QcP (toD := pairD) (out := pairD) L e rfl λ s _ => ⟨[none, some (.int s.1, true), some (.int s.2, true)], rfl, ⟨pairD s, true, []⟩, rfl, rfl, rfl⟩
theorem Qff.nat {m : Int} {R L : List (Int × Int)} (h : Qff m R L) : ∃ k : Nat, m = k /\ 0 < k /\ k <= 8 /\ (∀ s ∈ R, Good k s) /\ ∀ s ∈ L, Good k s := by
 have h1 := h.lo
 have h2 := h.hi
 obtain ⟨k, rfl⟩ : ∃ k : Nat, m = k := ⟨m.toNat, by omega⟩
 exact ⟨k, rfl, by omega, by omega, λ s hs => Qkk (h.ways s (Zc _ hs)), λ s hs => Qkk (h.ways s (Ze _ hs))⟩
theorem Qrw {dn dw ds : Den} (hn : QeC dn) (hw : Qgx dw) (hs : Qg5 ds) : QhX (Qw 6 (QdX dn dw ds)) := λ m R L l hL hl N => by
 obtain ⟨k, rfl, k0, k8, gR, gL⟩ := N.num.nat
 have lR : (R.map nrm).length = R.length := Zh ..
 refine Qbf ?_
 refine run_seq (Qm (QmH rfl) ?_)
 rw [Qs]
 refine run_seq (Qm (Qlo hL rfl rfl) ?_)
 rw [Qs]
 refine run_seq (Qm (r := ⟨Qr k (R.map nrm) L, true, [3, 4]⟩) rfl ?_)
 change Run _ [some (.int k, true), some (Qc R, false), some (l, l.flat), none, none, some (Qr k (R.map nrm) L, true)] _
 refine run_seq (Qea (Qz (r := ⟨[Qr k (R.map nrm) L], true, [5]⟩) rfl (hn k _ L (by omega) N.num) rfl) ?_)
 refine run_seq (Qea (Qz (r := ⟨[Qr k (R.map nrm) L], true, [5]⟩) rfl (hw k _ L k0 k8 (by omega) gR gL (by have := N.way; rwa [Zx] at this)) rfl) ?_)
 refine run_seq (Qea (Qz (r := ⟨[Qr k (R.map nrm) L], true, [5]⟩) rfl (hs k _ L k8 (by omega) gR gL (by have := N.sml; rwa [Zx] at this)) rfl) ?_)
 exact QaG (r := ⟨Qr k (R.map nrm) L, true, [5]⟩) rfl ⟨rfl, rfl⟩
theorem Qpr {dn dw ds : Den} {xn xw xs : List D -> Option Str} (a1 : ApF dn xn) (a2 : ApF dw xw) (a3 : ApF ds xs) (hn : QeC dn) (hw : Qgx dw) (hxn : Qhd xn) (hxw : QkD xw) (hxs : Qij xs) : MadeX (Qbo 6 (QdU ds dw dn xs xw xn)) := λ m R L hl hN => by
 have lR : (R.map nrm).length = R.length := Zh ..
 refine QhL (Qba (Qm (QmH rfl) ?_))
 rw [Qs]
 refine Qba (Qm (Qlo (L := L) (.inl rfl) rfl rfl) ?_)
 rw [Qs]
 refine Qba (Qm (r := ⟨Qr m (R.map nrm) L, true, [3, 4]⟩) rfl ?_)
 change Qc4 _ [some (.int m, true), some (Qc R, false), some (Qc L, false), none, none, some (Qr m (R.map nrm) L, true)] _
 by_cases c1 : Qff m (R.map nrm) L
 ·obtain ⟨k, rfl, k0, k8, gR, gL⟩ := c1.nat
  refine Qba (Qea (Qz (r := ⟨[Qr k (R.map nrm) L], true, [5]⟩) rfl (hn k _ L (by omega) c1) rfl) ?_)
  by_cases c2 : Qhl k (R.map nrm) L
  ·refine Qba (Qea (Qz (r := ⟨[Qr k (R.map nrm) L], true, [5]⟩) rfl (hw k _ L k0 k8 (by omega) gR gL c2) rfl) ?_)
   have c3 : ¬ Qfj k (R.map nrm) L := λ z => hN ⟨c1, by rw [Zx]; exact c2, by rw [Zx]; exact z⟩
   exact Qae (Q6 a3) (QiG (r := ⟨[Qr k (R.map nrm) L], true, [5]⟩) rfl rfl (hxs k _ L k8 (by omega) gR gL c3))
  ·exact Qae (Q6 a2) (QiG (r := ⟨[Qr k (R.map nrm) L], true, [5]⟩) rfl rfl (hxw k _ L k0 k8 (by omega) gR gL c2))
 ·exact Qae (Q6 a1) (QiG (r := ⟨[Qr m (R.map nrm) L], true, [5]⟩) rfl rfl (hxn m _ L (by omega) c1))
noncomputable def QcH (i : Nat) (w : Int × Int × Bool) : Int := isI i w.1 + if w.2.2 = true then 0 else isI i w.2.1
noncomputable def Qah (W : List (Int × Int × Bool)) (i : Nat) : Int := (W.map (QcH i)).sum
theorem QfE (W : List (Int × Int × Bool)) (w : Int × Int × Bool) (i : Nat) : Qah (W ++ [w]) i = Qah W i + QcH i w := by
 unfold Qah
 rw [Zv, Zas]
 simp
theorem QdW (W : List (Int × Int × Bool)) (w : Int × Int × Bool) (i : Nat) : Qah (w :: W) i = QcH i w + Qah W i := by
 unfold Qah
 rw [Zu, ZT]
theorem Qi7 (i : Nat) : ∀ W : List (Int × Int × Bool), Q9 (Qbp W) (Qat W) i = Qah W i
 | [] => rfl
 | w :: W => by
  have ih := Qi7 i W
  rw [QdW, ← ih]
  unfold Q9 Qbp Qat QcH
  obtain ⟨a, b, l⟩ := w
  cases l with
  | true =>
   simp only [ZaQ, Bool.not_true, Bool.false_eq_true, if_false, if_true, Zu, ZT, QdN]
   omega
  | false =>
   simp only [ZaQ, Bool.not_false, Bool.false_eq_true, if_false, if_true, Zu, ZT, QdI]
   have e : isI i (if b < a then b else a) + isI i (if b > a then b else a) = isI i a + isI i b := by
    by_cases h1 : b < a
    ·rw [if_pos h1, if_neg (by omega)]; omega
    ·rw [if_neg h1]
     by_cases h2 : b > a
     ·rw [if_pos h2]
     ·have : a = b := by omega
      rw [if_neg h2, this]
   omega
theorem QhD (i : Nat) (a : Int) : 0 <= isI i a /\ isI i a <= 1 := by unfold isI; split <;> omega
theorem Qou (i : Nat) (w : Int × Int × Bool) : 0 <= QcH i w /\ QcH i w <= 2 := by
 have h1 := QhD i w.1
 have h2 := QhD i w.2.1
 unfold QcH
 split <;> omega
theorem QfS (i : Nat) : ∀ W : List (Int × Int × Bool), 0 <= Qah W i /\ Qah W i <= 2 * (W.length : Int)
 | [] => by unfold Qah; simp
 | w :: W => by
  have ih := QfS i W
  have h := Qou i w
  rw [QdW, ZJ]
  omega
theorem Qj6 {f : Nat -> Int} {a : Int} (h : 0 <= a) (k : Nat) : up f a.toNat (f a.toNat + 1) k = f k + isI k a := by
 unfold up isI
 by_cases e : k = a.toNat
 ·rw [if_pos e, if_pos (by omega), e]
 ·rw [if_neg e, if_neg (by omega)]; omega
theorem QdM {f g : Nat -> Int} : ∀ {n : Nat}, (∀ i, i < n -> f i = g i) -> spr f n = spr g n
 | 0, _ => rfl
 | n + 1, h => by
  unfold spr
  rw [QdM λ i hi => h i (by omega), h n (by omega)]
def Qiz (d : Den) : Prop := ∀ (m : Nat) (W : List (Int × Int × Bool)), m <= 1000 -> W.length <= 100000 -> (∀ w ∈ W, GoodW m w) -> d [.int m, QA W] = some (.bl (decide (spr (Qah W) m <= 300)), true)
theorem Qov : Qiz (Qw 8 QgP) := λ m W hm hl hg => by
 refine Qbf ?_
 refine run_seq (Qm (QmB (n := m + 1) (Q2 (a := (m : Int)) (b := 1) rfl rfl rfl rfl) rfl (by omega)) ?_)
 rw [Qs]
 refine QbC (P := λ ρ => ∃ f j3 j4 j5, (∀ k, f k = Qah W k) /\ ρ = [some (.int m, true), some (QA W, false), some (QM (m + 1) f, true), j3, j4, j5, none, none]) ?_ ?_
 ·refine QaT (toD := QbU) W (λ i ρ => ∃ f j3 j4 j5, (∀ k, f k = Qah (W.take i) k) /\ ρ = [some (.int m, true), some (QA W, false), some (QM (m + 1) f, true), j3, j4, j5, none, none]) (ir := ⟨W.map QbU, []⟩) rfl rfl ⟨λ _ => 0, none, none, none, λ k => rfl, rfl⟩ ?_ ?_
  ·rintro i w ρ hi ⟨f, j3, j4, j5, hf, rfl⟩
   obtain ⟨⟨h1, h2, h3, h4, h5⟩, h6⟩ := hg w (Zac hi)
   have h1 : 0 <= w.1 := h1
   have h2 : 0 <= w.2.1 := h2
   have et : W.take (i + 1) = W.take i ++ [w] := by rw [Zbc, hi]; rfl
   refine ⟨_, rfl, ?_⟩
   refine run_seq (QlK (i := w.1) rfl rfl h1 (by omega) ?_)
   refine run_seq (QC (b := !w.2.2) (QaP (Qp (b := w.2.2) rfl rfl)) (λ hb => run_seq (QlK (i := w.2.1) rfl rfl h2 (by omega) (Qi (Qi ⟨_, _, _, _, λ k => ?_, rfl⟩)))) (λ hb => Qi (Qi ⟨_, _, _, _, λ k => ?_, rfl⟩)))
   ·have hb : w.2.2 = false := by simpa using hb
    rw [et, QfE, Qj6 h2, Qj6 h1, hf k]
    unfold QcH
    rw [hb, if_neg ZK]; omega
   ·have hb : w.2.2 = true := by simpa using hb
    rw [et, QfE, Qj6 h1, hf k]
    unfold QcH
    rw [hb, if_pos rfl]; omega
  ·rintro ρ ⟨f, j3, j4, j5, hf, rfl⟩
   rw [Zbm] at hf
   exact ⟨f, j3, j4, j5, hf, rfl⟩
 rintro ρ ⟨f, j3, j4, j5, hf, rfl⟩
 refine run_seq (Qm (r := ⟨.int 1, true, []⟩) rfl ?_)
 rw [Qs]
 refine QbC (P := λ ρ => ∃ j7, ρ = [some (.int m, true), some (QA W, false), some (QM (m + 1) f, true), j3, j4, j5, some (.int (spr f m), true), j7]) ?_ ?_
 ·refine QaT (toD := λ (k : Nat) => .int (f k)) (List.range m) (λ i ρ => ∃ j7, ρ = [some (.int m, true), some (QA W, false), some (QM (m + 1) f, true), j3, j4, j5, some (.int (spr f i), true), j7]) (Qaz (Qqg (m := m + 1) (n := m) (f := f) rfl rfl rfl rfl (by omega)) rfl) rfl ⟨none, rfl⟩ ?_ ?_
  ·rintro i i' ρ hi ⟨j7, rfl⟩
   have hi' : i < m /\ i = i' := by
    obtain ⟨h1, h2⟩ := Zg.mp hi
    simp at h1 h2; exact ⟨h1, h2⟩
   obtain ⟨him, rfl⟩ := hi'
   have b := QfS i W
   refine ⟨_, rfl, ?_⟩
   refine run_seq (Qm (QbJ (a := spr f i) (b := f i) (ra := ⟨.int (spr f i), true, []⟩) rfl rfl (rb := ⟨.int (f i), true, []⟩) rfl rfl (QcV (by rw [hf i]; omega))) (Qi ?_))
   rw [Qs]
   exact ⟨_, rfl⟩
  ·rintro ρ ⟨j7, rfl⟩
   rw [ZF]
   exact ⟨_, rfl⟩
 rintro ρ ⟨j7, rfl⟩
 refine QaG (Q0 (d := .bl (decide (spr f m <= 300))) (ra := ⟨.int (spr f m), true, []⟩) (rb := ⟨.int 300, true, []⟩) rfl rfl rfl) ⟨?_, rfl⟩
 rw [QdM λ i _ => hf i]
def QiN (d : Den) : Prop := ∀ (m : Nat) (W : List (Int × Int × Bool)) (cs : List Int) (kind : Int), 0 < m -> m <= 1000 -> W.length + cs.length <= 10000 -> (∀ w ∈ W, GoodW m w) →
 ∃ W' fr, d [QA W, .lst (cs.map .int), .int m, .int kind] = some (QA (W ++ W'), fr) /\ W'.length <= cs.length /\ (∀ w ∈ W', GoodW m w) /\ (∀ w ∈ W', ∃ c, w = Qcs m kind c) /\ (kind = 2 ∨ kind = 3 -> W' = [] ∨ spr (Qah (W ++ W')) m <= 300)
theorem Qoh {Qax : Den} (hf : Qiz Qax) : QiN (Qw 9 (QeO Qax)) := λ m W cs kind h0 hm hl hg => by
 have key : Run (QeO Qax) (Qb7 9 [QA W, .lst (cs.map .int), .int m, .int kind]) (Rt λ d fr => ∃ W', d = QA (W ++ W') /\ W'.length <= cs.length /\ (∀ w ∈ W', GoodW m w) /\ (∀ w ∈ W', ∃ c, w = Qcs m kind c) /\ (kind = 2 ∨ kind = 3 -> W' = [] ∨ spr (Qah (W ++ W')) m <= 300)) := by
  refine run_seq (QaT (toD := D.int) cs (λ i ρ => ∃ W' b j4 j5 j6 j7 j8, W'.length <= i /\ (∀ w ∈ W', GoodW m w) /\ (∀ w ∈ W', ∃ c, w = Qcs m kind c) /\ (kind = 2 ∨ kind = 3 -> W' = [] ∨ spr (Qah (W ++ W')) m <= 300) /\ ρ = [some (QA (W ++ W'), b), some (.lst (cs.map .int), false), some (.int m, true), some (.int kind, true), j4, j5, j6, j7, j8]) (ir := ⟨cs.map .int, []⟩) rfl rfl ⟨[], false, none, none, none, none, none, ZO _, λ w hw => absurd hw (by simp), λ w hw => absurd hw (by simp), λ _ => .inl rfl, by rw [Zab]; rfl⟩ ?_ ?_)
  ·rintro i c ρ hi ⟨W', b, j4, j5, j6, j7, j8, hw1, hw2, hw3, hw4, rfl⟩
   have hil : i < cs.length := (Zg.mp hi).1
   have gw := Qne h0 kind c
   refine ⟨_, rfl, Qpb h0 ?_⟩
   have eadd : Qu (Qa 0) (QH (Qb (Qa 8) Qd)) [some (QA (W ++ W'), b), some (.lst (cs.map .int), false), some (.int m, true), some (.int kind, true), some (.int c, true), some (.int (Qbm c), true), some (.int (mStart m c), true), some (.int (Qf9 m c), true), some (QbU (Qcs m kind c), true)] = some ⟨QA (W ++ W' ++ [Qcs m kind c]), true, []⟩ :=
    Qrg (A := W ++ W') (B := [Qcs m kind c]) (Qab rfl) (by cases b <;> rfl) rfl rfl (by simp; omega)
   have gg : ∀ w ∈ W ++ W' ++ [Qcs m kind c], GoodW m w := λ w hw => by
    rcases Zn.mp hw with h | h
    ·rcases Zn.mp h with h | h
     ·exact hg w h
     ·exact hw2 w h
    ·have : w = Qcs m kind c := by simpa using h
     rw [this]; exact gw
   have hbf := hf m (W ++ W' ++ [Qcs m kind c]) hm (by simp; omega) gg
   refine run_seq (QC (b := (!decide (kind = 2) && !decide (kind = 3)) || decide (spr (Qah (W ++ W' ++ [Qcs m kind c])) m <= 300)) (Qbc (Qgv (Qp (Qhq (a := kind) (b := 2) rfl rfl rfl rfl) rfl) (Qp (Qhq (a := kind) (b := 3) rfl rfl rfl rfl) rfl)) (Qp (Qz (Qf (r := ⟨.int m, true, []⟩) rfl (Qf eadd (QB _))) hbf rfl) rfl)) (λ hb => run_seq (Qm eadd (Qi ?_))) (λ _ => Qi (Qi ⟨W', b, _, _, _, _, _, by omega, hw2, hw3, hw4, rfl⟩)))
   rw [Qs]
   refine Qi ⟨W' ++ [Qcs m kind c], true, _, _, _, _, _, by simp; omega, λ w hw => ?_, λ w hw => ?_, λ hk => .inr ?_, by rw [Zaq]; rfl⟩
   ·rcases Zn.mp hw with h | h
    ·exact hw2 w h
    ·have : w = Qcs m kind c := by simpa using h
     rw [this]; exact gw
   ·rcases Zn.mp hw with h | h
    ·exact hw3 w h
    ·exact ⟨c, by simpa using h⟩
   ·rw [← Zaq]
    rcases hk with rfl | rfl <;> simpa using hb
  ·rintro ρ ⟨W', b, j4, j5, j6, j7, j8, hw1, hw2, hw3, hw4, rfl⟩
   exact QaG (Qab rfl) ⟨W', by cases b <;> rfl, hw1, hw2, hw3, hw4⟩
 obtain ⟨o, h1, h2⟩ := key
 cases o with
 | rt d fr =>
  obtain ⟨W', rfl, h3⟩ := h2
  exact ⟨W', fr, by unfold Qw; rw [h1]; rfl, h3⟩
 | _ => exact h2.elim
theorem Qlm {s : Nat -> Int} : ∀ {n : Nat}, (∀ i, i < n -> 0 <= s i) -> spr s n = 0 ∨ ∃ c : Nat, QF n s = n + c /\ 0 <= spr s n /\ spr s n <= 2 ^ c
 | 0, _ => .inr ⟨0, rfl, (by show (0 : Int) <= 1; decide), (by show (1 : Int) <= 2 ^ 0; decide)⟩
 | n + 1, h => by
  have hs := h n (by omega)
  by_cases z : s n = 0
  ·exact .inl (by unfold spr; rw [z, Int.mul_zero])
  ·rcases Qlm (n := n) λ i hi => h i (by omega) with e | ⟨c, e1, e2, e3⟩
   ·exact .inl (by unfold spr; rw [e, ZaX])
   ·obtain ⟨d, hd⟩ : ∃ d : Nat, s n = d + 1 := ⟨(s n - 1).toNat, by omega⟩
    refine .inr ⟨c + d, by rw [Qal, e1, hd]; omega, ?_, ?_⟩
    ·unfold spr; exact ZbC e2 hs
    ·unfold spr
     rw [Int.pow_add, hd]
     have h2 : ((d : Int) + 1) <= 2 ^ d := by
      have := @Nat.lt_two_pow_self d
      have h3 : (d : Int) + 1 <= ((2 ^ d : Nat) : Int) := by omega
      rwa [show ((2 ^ d : Nat) : Int) = (2 : Int) ^ d by simp] at h3
     exact Int.mul_le_mul e3 h2 (by omega) (Int.pow_nonneg (by decide))
theorem Qlt {m : Nat} (a : Int) : QF m (λ i => isI i a) <= 1 := by
 have key : ∀ n, QF n (λ i => isI i a) <= if 0 <= a /\ a < n then 1 else 0 := λ n => by
  induction n with
  | zero => show (0 : Int) <= _; split <;> omega
  | succ n ih =>
   rw [Qal]
   unfold isI at *
   split at ih <;> split <;> split <;> omega
 have := key m
 split at this <;> omega
theorem Qqk {m : Nat} : QF m (λ i => isI i (m : Int)) = 0 := by
 have key : ∀ n, n <= m -> QF n (λ i => isI i (m : Int)) = 0 := λ n => by
  induction n with
  | zero => intro _; rfl
  | succ n ih =>
   intro hn
   rw [Qal, ih (by omega)]
   unfold isI
   rw [if_neg (by omega)]; rfl
 exact key m (Zj m)
theorem QqO {m : Nat} (w : Int × Int × Bool) : QF m (λ i => QcH i w) <= 2 /\ (w.2.1 = m -> QF m (λ i => QcH i w) <= 1) := by
 have h1 := Qlt (m := m) w.1
 have h2 := Qlt (m := m) w.2.1
 cases e : w.2.2 with
 | true =>
  have : QF m (λ i => QcH i w) = QF m λ i => isI i w.1 := QaI λ i _ => by unfold QcH; rw [e, if_pos rfl, Zbu]
  rw [this]
  exact ⟨by omega, λ _ => h1⟩
 | false =>
  have : QF m (λ i => QcH i w) = (QF m λ i => isI i w.1) + QF m λ i => isI i w.2.1 := by
   rw [← Qel]
   exact QaI λ i _ => by unfold QcH; rw [e, if_neg ZK]
  rw [this]
  exact ⟨by omega, λ z => by rw [z, Qqk]; omega⟩
theorem Qkm {m : Nat} : ∀ W : List (Int × Int × Bool), QF m (Qah W) <= 2 * (W.length : Int) /\ ((∃ w ∈ W, w.2.1 = m) -> QF m (Qah W) <= 2 * (W.length : Int) - 1)
 | [] => ⟨by rw [show QF m (Qah []) = 0 from (QaI λ i _ => rfl).trans (Qcq m)]; simp, λ ⟨w, h, _⟩ => by simp at h⟩
 | w :: W => by
  have ih := Qkm (m := m) W
  have hw := QqO (m := m) w
  have e : QF m (Qah (w :: W)) = QF m (λ i => QcH i w) + QF m (Qah W) := by
   rw [← Qel]
   exact QaI λ i _ => QdW W w i
  rw [e, ZJ]
  refine ⟨by omega, λ ⟨v, hv, hz⟩ => ?_⟩
  rcases Zm.mp hv with rfl | hv
  ·have := hw.2 hz; omega
  ·have := ih.2 ⟨v, hv, hz⟩; omega
theorem QmC {m : Nat} {t kind : Int} (m0 : 0 < m) (m8 : m <= 8) : spr (Qah (QcF m t kind)) m <= 300 := by
 have hp : ∃ w ∈ QcF m t kind, w.2.1 = m := by
  refine ⟨Qdi m t kind (0 : Nat), ZE.mpr ⟨0, ZR.mpr m0, rfl⟩, ?_⟩
  show QcZ m t (0 : Nat) = m
  unfold QcZ
  rw [if_neg (by have := Zw (QaE t (0 : Nat)) (by decide : ((0 : Nat) : Int) + 1 ≠ 0); omega)]
 have hs := (Qkm (m := m) (QcF m t kind)).2 hp
 rw [Qg7] at hs
 rcases Qlm (s := Qah (QcF m t kind)) (n := m) λ i _ => (QfS i _).1 with e | ⟨c, e1, e2, e3⟩
 ·rw [e]; decide
 ·have hc : c <= 7 := by omega
  have : (2 : Int) ^ c <= 2 ^ 7 := by
   have := ZaA (show 0 < 2 by decide) hc
   have h3 : ((2 ^ c : Nat) : Int) <= ((2 ^ 7 : Nat) : Int) := by omega
   simpa using h3
  omega
theorem Qi3 (i : Nat) : ∀ W : List (Int × Int × Bool), Qah W.reverse i = Qah W i
 | [] => rfl
 | w :: W => by rw [Zay, QfE, Qi3 i W, QdW, Int.add_comm]
theorem Qq1 {fa : DE} {ρ : En} {r : R} {ns : List Int} (h : fa ρ = some r) (e : r.d = .lst (ns.map .int)) : ∃ cs : List Int, cs.length <= 32 /\ QbN fa (Qad (dC (.int 2))) (Qad (dC (.int 34))) ρ = some ⟨.lst (cs.map .int), true, []⟩ := by
 refine ⟨(ns.drop (HT.sIx ns.length 0 (some 2))).take (HT.sIx ns.length ns.length (some 34) - HT.sIx ns.length 0 (some 2)), ?_, ?_⟩
 ·rw [ZaM, show HT.sIx ns.length ns.length (some 34) = min 34 ns.length from HT.Qdn _ _ 34, show HT.sIx ns.length 0 (some 2) = min 2 ns.length from HT.Qdn _ _ 2, Zbh]
  omega
 ·unfold QbN Qad
  rw [h, Za, e]
  simp only [Qek, Za, cutD, Qau, Zh, ← ZbE, ← ZaG, Qma, if_true]
structure Qew (m : Nat) (W : List (Int × Int × Bool)) : Prop where
 good : ∀ w ∈ W, GoodW m w
 few : W.length <= 40
 esc : Esc m W
 small : Qat W = [] ∨ spr (Qah W) m <= 300
theorem QjH {W : List (Int × Int × Bool)} (h : ∀ w ∈ W, w.2.2 = false) : Qat W = [] := by
 unfold Qat
 rw [List.filter_eq_nil_iff.mpr λ w hw => by rw [h w hw]; exact ZK]; rfl
theorem Qew.rev {m : Nat} {W : List (Int × Int × Bool)} (h : Qew m W) : Qew m W.reverse where
 good := λ w hw => h.good w (Zbo.mp hw)
 few := by rw [ZaW]; exact h.few
 esc := h.esc.mono λ w hw => Zbo.mpr hw
 small := by
  rcases h.small with z | z
  ·left
   refine QjH λ w hw => ?_
   cases e : w.2.2 with
   | false => rfl
   | true =>
    have : QdN w ∈ Qat W := ZE.mpr ⟨w, ZX.mpr ⟨Zbo.mp hw, e⟩, rfl⟩
    rw [z] at this
    simp at this
  ·right
   rw [QdM λ i _ => Qi3 i W]
   exact z
noncomputable def Qco (QU : Den) (Qcg : Den) (Qck : Den) : DS := (Qe (Qx 2 (dOp QK (dOp Qct (Qn 2 QU [] (Qb (Qa 0) (Qb (dC (.int 1)) Qd))) (dC (.int 6))) (dC (.int 1000003)))) (Qe (Qx 3 (dOp QK (Qn 2 QU [] (Qb (Qa 0) (Qb (dC (.int 1)) Qd))) (dC (.int 6)))) (Qe (Qx 4 (Qn 4 Qck [] (Qb (Qn 3 Qcg [] (Qb (Qa 1) (Qb (Qa 2) (Qb (Qa 3) Qd)))) (Qb (QbN (Qa 0) (Qad (dC (.int 2))) (Qad (dC (.int 34)))) (Qb (Qa 1) (Qb (Qa 3) Qd)))))) (Qe (sIf (Qj (dOp gEq (dOp QK (Qa 2) (dC (.int 2))) (dC (.int 1)))) (Qe (QO (Qks (Qa 4) (QiE (dC (.int 1))))) Qg) Qg) (Qe (QO (Qa 4)) Qg)))))
theorem QjM {n : Nat} {den : Den} {fs : DA} {ρ : En} {r : RA} {W : List (Int × Int × Bool)} {fr : Bool} (h : fs ρ = some r) (e : den r.ds = some (QA W, fr)) (hn : r.ds.length = n) (hM : r.M = []) : Qn n den [] fs ρ = some ⟨QA W, fr, []⟩ := by
 unfold Qn
 rw [h, Za, if_pos (by simpa using hn), Zab, e]
 cases fr with
 | true => rfl
 | false =>
  show some (R.norm ⟨QA W, false, r.M⟩) = _
  rw [hM]; rfl
theorem Qnz {i : Nat} {d : D} {fr : Bool} {ρ : En} (hf : d.flat = false) : asg i ⟨d, fr, []⟩ ρ = ρ.set i (some (d, fr)) := by
 cases fr with
 | true => exact Qs i d ρ
 | false =>
  unfold asg R.norm
  simp [hf, QaX]
def Qkx (d : Den) : Prop := ∀ (ns : List Int) (m : Nat), ns.length <= 63 -> 0 < m -> m <= 8 -> ∃ W fr, d [.lst (ns.map .int), .int m] = some (QA W, fr) /\ Qew m W
theorem Qo9 {dc db dm : Den} (hc : QhB dc) (hb : QkM db) (hm : QiN dm) : Qkx (Qw 5 (Qco dc db dm)) := λ ns m hl m0 m8 => by
 have cell : ∀ (ρ : En), ρ[0]? = some (some (.lst (ns.map .int), false)) -> Qn 2 dc [] (Qb (Qa 0) (Qb (dC (.int 1)) Qd)) ρ = some ⟨.int (ns.getD 1 0), true, []⟩ := λ ρ h0 => Qz (Qf (Qab h0) (Qf (Qek _ _) (QB _))) (hc ns 1) rfl
 have t0 := Zw (ns.getD 1 0 / 6) (by decide : (1000003 : Int) ≠ 0)
 have t1 := Zy (ns.getD 1 0 / 6) (by decide : (0 : Int) < 1000003)
 have key : Run (Qco dc db dm) [some (.lst (ns.map .int), false), some (.int m, true), none, none, none] (Rt λ d fr => ∃ W, d = QA W /\ Qew m W) := by
  refine run_seq (Qm (QP (a := ns.getD 1 0 / 6) (b := 1000003) (Qcz (a := ns.getD 1 0) (b := 6) (cell _ rfl) rfl rfl rfl (by decide) (by decide)) rfl rfl rfl (by decide)) ?_)
  rw [Qs]
  generalize ns.getD 1 0 / 6 % 1000003 = t at t0 t1
  refine run_seq (Qm (QP (a := ns.getD 1 0) (b := 6) (cell _ rfl) rfl rfl rfl (by decide)) ?_)
  rw [Qs]
  generalize ns.getD 1 0 % 6 = kind
  obtain ⟨cs, lcs, ecs⟩ := Qq1 (fa := Qa 0) (ρ := [some (.lst (ns.map .int), false), some (.int m, true), some (.int t, true), some (.int kind, true), none]) (r := ⟨.lst (ns.map .int), false, []⟩) (ns := ns) rfl rfl
  obtain ⟨W', fr, e1, h1, h2, h3, h4⟩ := hm m (QcF m t kind) cs kind m0 (by omega) (by rw [Qg7]; omega) Qkr
  have N : Qew m (QcF m t kind ++ W') := by
   refine ⟨λ w hw => ?_, by rw [Zl, Qg7]; omega, Qpu.mono λ w hw => Zc _ hw, ?_⟩
   ·rcases Zn.mp hw with z | z
    ·exact Qkr w z
    ·exact h2 w z
   ·by_cases hk : kind = 2 ∨ kind = 3
    ·right
     rcases h4 hk with z | z
     ·rw [z, Zab]; exact QmC m0 m8
     ·exact z
    ·left
     refine QjH λ w hw => ?_
     have k2 : kind ≠ 2 := λ z => hk (.inl z)
     have k3 : kind ≠ 3 := λ z => hk (.inr z)
     rcases Zn.mp hw with z | z
     ·obtain ⟨k, _, rfl⟩ := ZE.mp z
      show (decide (kind = 2) || (decide (kind = 3) && _)) = false
      rw [decide_eq_false k2, decide_eq_false k3]; rfl
     ·obtain ⟨c, rfl⟩ := h3 w z
      show (decide _ && (decide (kind = 2) || (decide (kind = 3) && _))) = false
      rw [decide_eq_false k2, decide_eq_false k3]; simp
  refine run_seq (Qm (QjM (Qf (Qz (r := ⟨[.int m, .int t, .int kind], true, []⟩) rfl (hb m t kind m0 (by omega) t0 (by omega)) rfl) (Qf ecs (Qf (r := ⟨.int m, true, []⟩) rfl (Qf (r := ⟨.int kind, true, []⟩) rfl (QB _))))) e1 rfl rfl) ?_)
  rw [Qnz rfl]
  generalize QcF m t kind ++ W' = W at N
  change Run _ [some (.lst (ns.map .int), false), some (.int m, true), some (.int t, true), some (.int kind, true), some (QA W, fr)] _
  refine Qy (QC (b := decide (t % 2 = 1)) (Qp (QaR (a := t % 2) (b := 1) (QP (a := t) (b := 2) (ra := ⟨.int t, true, []⟩) rfl rfl rfl rfl (by decide)) rfl rfl rfl) rfl) (λ _ => ?_) (λ _ => Qi ?_))
  ·exact Qy (Qa9 (Qoi (m := m) (W := W) (b := fr) rfl) ⟨W.reverse, rfl, N.rev⟩)
  ·exact Qy (Qa9 (Qab rfl) ⟨W, by cases fr <;> rfl, N⟩)
 obtain ⟨o, h1, h2⟩ := key
 cases o with
 | rt d fr =>
  obtain ⟨W, rfl, hW⟩ := h2
  exact ⟨W, fr, by show Option.bind (Qco dc db dm [some (.lst (ns.map .int), false), some (.int m, true), none, none, none]) outD = _; rw [h1]; rfl, hW⟩
 | _ => exact h2.elim
theorem Qew.ok {m : Nat} {W : List (Int × Int × Bool)} (m0 : 0 < m) (m8 : m <= 8) (h : Qew m W) : Qc3 m (Qbp W) (Qat W) where
 num := ⟨by omega, by omega, λ s hs => Qhg (by
  rcases Zn.mp hs with z | z
  ·exact (Qc2 h.good s z).1
  ·exact (Qb0 h.good s z).1), λ s hs => by have := (Qb0 h.good s hs).2; omega⟩
 way := by
  rw [Zx]
  refine ⟨?_, QfX m0 (Qbx (λ s hs => (Qc2 h.good s hs).1) λ s hs => (Qb0 h.good s hs).1) ?_⟩
  ·unfold Qbp Qat
   rw [Zh, Zh]
   have := h.few
   have e : ∀ W : List (Int × Int × Bool), (W.filter λ w => !w.2.2).length + (W.filter λ w => w.2.2).length = W.length := λ W => by
    induction W with
    | nil => rfl
    | cons w W ih =>
     rw [ZaQ, ZaQ]
     cases w.2.2 <;> simp <;> omega
   rw [e W]; exact this
  ·exact QiU h.esc
 sml := by
  rw [Zx]
  rcases h.small with z | z
  ·exact .inl z
  ·exact .inr (by rw [QdM λ i _ => Qi7 i W]; exact z)
noncomputable def QdJ (QG : Den) (x_made_net : List D -> Option Str) (sub : Str -> Str -> Option Bool) : DS := (Qe (QfC (Qe (Qbk (Qn 3 QG [] (Qb (Qa 0) (Qb (Qa 1) (Qb (Qa 2) Qd))))) Qg) (QY (Qbk (Qn 3 QG [] (Qb (Qa 0) (Qb (Qa 1) (Qb (Qa 2) Qd))))) (Qbu 3 x_made_net (Qb (Qa 0) (Qb (Qa 1) (Qb (Qa 2) Qd)))) xNo) sub [("HeapError", some 3, (Qe (Qx 4 (Qb2 (Qfl sub ["NoNet"] (Qa 3)) (Qfl sub ["ValueError"] (Qa 3)))) (Qe (QO (Qb2 (Qa 4) (Qg9 (Qfl sub ["NoRow", "NoHeap", "NoText", "TooMany"] (Qa 3))))) Qg)))]) (Qe (QO (dC (.bl false))) Qg))
noncomputable def QdO (QG : Den) (x_made_net : List D -> Option Str) (sub : Str -> Str -> Option Bool) : DS := (Qe (QfC (Qe (Qbk (Qn 3 QG [] (Qb (Qa 0) (Qb (Qa 1) (Qb (Qa 2) Qd))))) Qg) (QY (Qbk (Qn 3 QG [] (Qb (Qa 0) (Qb (Qa 1) (Qb (Qa 2) Qd))))) (Qbu 3 x_made_net (Qb (Qa 0) (Qb (Qa 1) (Qb (Qa 2) Qd)))) xNo) sub [("NoNet", none, (Qe (QO (dC (.bl true))) Qg))]) (Qe (QO (dC (.bl false))) Qg))
def QdE (d : Den) : Prop := ∀ (m : Int) (R L : List (Int × Int)), R.length + L.length <= 1000 -> ¬ Qc3 m (R.map nrm) L -> d [.int m, Qc R, Qc L] = some (.bl true, true)
theorem QkV {da : Den} {xa : List D -> Option Str} {sub : Str -> Str -> Option Bool} (ap : ApF da xa) (hx : MadeX xa) (h1 : sub "NoNet" "HeapError" = some true) (h2 : sub "NoNet" "NoNet" = some true) (h3 : sub "NoNet" "ValueError" = some true) (h4 : sub "NoNet" "NoRow" = some false)
  (h5 : sub "NoNet" "NoHeap" = some false) (h6 : sub "NoNet" "NoText" = some false) (h7 : sub "NoNet" "TooMany" = some false) : QdE (Qw 5 (QdJ da xa sub)) := λ m R L hl hN => by
 refine Qbf ?_
 refine Qy (Qpv (x := "NoNet") (QaN (Q6 ap) Qbs) (Qnn ap (r := ⟨[.int m, Qc R, Qc L], _, _⟩) rfl rfl (hx m R L hl hN)) h1 ?_)
 refine run_seq (Qm (Qli (QjO (x := "NoNet") rfl (any_cons h2 rfl)) (QjO (x := "NoNet") rfl (any_cons h3 rfl))) ?_)
 rw [Qs]
 refine Qy (Qa9 (Qli (a := true) rfl (QrM (QjO (x := "NoNet") rfl (any_cons h4 (any_cons h5 (any_cons h6 (any_cons h7 (ys := []) rfl))))))) ?_)
 exact ⟨rfl, rfl⟩
theorem Qmt {da : Den} {xa : List D -> Option Str} {sub : Str -> Str -> Option Bool} (ap : ApF da xa) (hx : MadeX xa) (h2 : sub "NoNet" "NoNet" = some true) : QdE (Qw 3 (QdO da xa sub)) := λ m R L hl hN => by
 refine Qbf ?_
 refine Qy (Qpw (x := "NoNet") (QaN (Q6 ap) Qbs) (Qnn ap (r := ⟨[.int m, Qc R, Qc L], _, _⟩) rfl rfl (hx m R L hl hN)) h2 ?_)
 refine Qy (Qa9 (r := ⟨.bl true, true, []⟩) rfl ?_)
 exact ⟨rfl, rfl⟩
noncomputable def Qgj (Qao : Den) : DS := (Qe (sIf (bOr (Qbg (Qj (Qgb "list" (Qa 0)))) (Qj (dOp gNe (dBf QaF (Qb (Qa 0) Qd)) (dBf QaF (Qb (Qa 1) Qd))))) (Qe (QO (dC (.bl false))) Qg) Qg) (Qe (QaM (Ql6 (Qa 0) (Qa 1)) (.tp [2, 3]) (Qe (sIf (bOr (Qbg (Qj (Qgb "tuple" (Qa 2)))) (bOr (Qj (dOp gNe (dBf QaF (Qb (Qa 2) Qd)) (dC (.int 2)))) (bOr (Qbg (Qj (Qn 1 Qao [] (Qb (Ql (Qa 2) (dC (.int 0))) Qd)))) (Qbg (Qj (Qn 1 Qao [] (Qb (Ql (Qa 2) (dC (.int 1))) Qd))))))) (Qe (QO (dC (.bl false))) Qg) Qg) (Qe (sIf (Qj (dOp gNe (Qa 2) (Qa 3))) (Qe (QO (dC (.bl false))) Qg) Qg) Qg))) (Qe (QO (dC (.bl true))) Qg)))
def Qfv (d : Den) : Prop := ∀ A : List (Int × Int), d [Qc A, Qc A] = some (.bl true, true)
theorem Qkp (f : Int × Int -> D) : ∀ A : List (Int × Int), Qfy (A.map f) (A.map f) = A.map λ s => .tup [f s, f s]
 | [] => rfl
 | a :: A => by
  show D.tup [f a, f a] :: Qfy (A.map f) (A.map f) = _
  rw [Qkp f A]; rfl
theorem QmE {dw : Den} (hw : Qgz dw) : Qfv (Qw 4 (Qgj dw)) := λ A => by
 refine Qbf ?_
 refine Qy (QC (b := false) (Qbc (a := false) (b := false) (QaP (b := true) (Qp (b := true) rfl rfl)) (Qpl (xs := A.map pairD) (ra := ⟨Qc A, false, []⟩) (rb := ⟨Qc A, false, []⟩) rfl rfl rfl rfl)) (λ h => by cases h) (λ _ => Qi ?_))
 refine Qy (QaT (toD := λ s => .tup [pairD s, pairD s]) A (λ _ ρ => ∃ j2 j3, ρ = [some (Qc A, false), some (Qc A, false), j2, j3]) (ir := ⟨Qfy (A.map pairD) (A.map pairD), []⟩) rfl (Qkp pairD A) ⟨none, none, rfl⟩ ?_ ?_)
 ·rintro i s ρ hi ⟨j2, j3, rfl⟩
  refine ⟨[some (Qc A, false), some (Qc A, false), some (pairD s, true), some (pairD s, true)], rfl, ?_⟩
  refine Qy (QC (b := false) (Qbc (a := false) (b := false) (QaP (b := true) (Qp (b := true) rfl rfl)) (Qbc (a := false) (b := false) (Qp (b := false) rfl rfl) (Qbc (a := false) (b := false) (QaP (b := true) (Qp (b := true) (Qz (r := ⟨[.int s.1], true, []⟩) rfl (hw s.1) rfl) rfl)) (QaP (b := true) (Qp (b := true) (Qz (r := ⟨[.int s.2], true, []⟩) rfl (hw s.2) rfl) rfl))))) (λ h => by cases h) (λ _ => Qi ?_))
  refine Qy (QC (b := false) (Qp (b := false) (QmF (d := pairD s) (ra := ⟨pairD s, true, []⟩) rfl rfl (rb := ⟨pairD s, true, []⟩) rfl rfl rfl) rfl) (λ h => by cases h) (λ _ => Qi (Qi ⟨_, _, rfl⟩)))
 ·rintro ρ ⟨j2, j3, rfl⟩
  exact QaG (r := ⟨.bl true, true, []⟩) rfl ⟨rfl, rfl⟩
noncomputable def QfI (Qao : Den) (Qam : Den) : DS := (Qe (sIf (bOr (Qbg (Qj (Qgb "tuple" (Qa 0)))) (bOr (Qj (dOp gNe (dBf QaF (Qb (Qa 0) Qd)) (dC (.int 3)))) (bOr (Qbg (Qj (Qn 1 Qao [] (Qb (Ql (Qa 0) (dC (.int 0))) Qd)))) (Qj (dOp gNe (Ql (Qa 0) (dC (.int 0))) (Qa 1)))))) (Qe (QO (dC (.bl false))) Qg) Qg) (Qe (Qx 4 (Qaa (QR (Qa 2)) (.nm 1) [none, none] QbG (QI (Qb (dBf Qbi (Qb (Ql (Qa 1) (dC (.int 0))) (Qb (Ql (Qa 1) (dC (.int 1))) Qd))) (Qb (dBf Qbj (Qb (Ql (Qa 1) (dC (.int 0))) (Qb (Ql (Qa 1) (dC (.int 1))) Qd))) Qd))))) (Qe (QO (Qb2 (Qn 2 Qam [] (Qb (Ql (Qa 0) (dC (.int 1))) (Qb (Qa 4) Qd))) (Qn 2 Qam [] (Qb (Ql (Qa 0) (dC (.int 2))) (Qb (Qa 3) Qd))))) Qg)))
def Qjo (d : Den) : Prop := ∀ (m : Int) (R L : List (Int × Int)), d [Qr m (R.map nrm) L, .int m, Qc R, Qc L] = some (.bl true, true)
theorem QrQ {dw dp : Den} (hw : Qgz dw) (hp : Qfv dp) : Qjo (Qw 5 (QfI dw dp)) := λ m R L => by
 have it := QcU (fa := Qa 0) (ρ := [some (Qr m (R.map nrm) L, false), some (.int m, true), some (Qc R, false), some (Qc L, false), none]) (m := m) (R := R.map nrm) (L := L) (r := ⟨Qr m (R.map nrm) L, false, []⟩) rfl rfl
 refine Qbf ?_
 refine Qy (QC (b := false) (Qbc (a := false) (b := false) (QaP (b := true) (Qp (b := true) rfl rfl)) (Qbc (a := false) (b := false) (Qp (b := false) rfl rfl) (Qbc (a := false) (b := false) (QaP (b := true) (Qp (b := true) (Qz (r := ⟨[.int m], true, []⟩) rfl (hw m) rfl) rfl)) (Qp (b := false) (Qhq (a := m) (b := m) it.1 rfl (rb := ⟨.int m, true, []⟩) rfl rfl) (by simp))))) (λ h => by cases h) (λ _ => Qi ?_))
 have ec : Qaa (QR (Qa 2)) (.nm 1) [none, none] QbG (QI (Qb (dBf Qbi (Qb (Ql (Qa 1) (dC (.int 0))) (Qb (Ql (Qa 1) (dC (.int 1))) Qd))) (Qb (dBf Qbj (Qb (Ql (Qa 1) (dC (.int 0))) (Qb (Ql (Qa 1) (dC (.int 1))) Qd))) Qd))) [some (Qr m (R.map nrm) L, false), some (.int m, true), some (Qc R, false), some (Qc L, false), none] = some ⟨Qc (R.map nrm), true, []⟩ := by
  refine (QcP (toD := pairD) (out := λ s => pairD (nrm s)) R (Qaz (r := ⟨Qc R, false, []⟩) rfl rfl) rfl λ s _ => ⟨[none, some (pairD s, true)], rfl, ⟨pairD (nrm s), true, []⟩, rfl, rfl, rfl⟩).trans ?_
  unfold Qc
  rw [Zar]; rfl
 refine run_seq (Qm ec ?_)
 rw [Qs]
 exact QaG (Qgh (a := true) (b := true) (Qz (r := ⟨[Qc (R.map nrm), Qc (R.map nrm)], false, [4]⟩) rfl (hp _) rfl) (Qz (r := ⟨[Qc L, Qc L], false, []⟩) rfl (hp _) rfl)) ⟨rfl, rfl⟩
theorem Qnj {R L : List (Int × Int)} {s : Int × Int} (h : s ∈ Qv R L) : (s ∈ R ∨ (s.2, s.1) ∈ R) ∨ s ∈ L := by
 unfold Qv at h
 rcases Zn.mp h with h | h
 ·rcases Zn.mp h with h | h
  ·exact .inl (.inl h)
  ·obtain ⟨r, hr, rfl⟩ := ZE.mp h
   exact .inl (.inr hr)
 ·exact .inr h
theorem QlC {fa fb : DE} {ρ : En} {r : R} {n : Nat} {s : Int × Int} (ha : fa ρ = some ⟨.lst [pairD s], true, []⟩) (h : fb ρ = some r) (e : r.d = .int n) (hn : n <= 1000) : Qai fa fb ρ = some ⟨Qc (List.replicate n s), true, []⟩ := by
 unfold Qai
 rw [ha, Za, h, Za, e]
 dsimp only
 rw [if_pos ⟨by simp [Qdw]; omega, by omega, by omega, rfl⟩]
 simp only [Zx, QgA]
 unfold Qc
 rw [List.map_replicate, List.map_const', ZF]
theorem Qof {m : Nat} {R L : List (Int × Int)} {sh : List Nat} {a : Nat} (ha : a ∈ sh) (hs : ∀ x ∈ sh, x < m) (hR : ∀ s ∈ R, sh.contains s.1.toNat = sh.contains s.2.toNat) (hL : ∀ s ∈ L, (!sh.contains s.1.toNat || sh.contains s.2.toNat) = true) : ¬ Qc3 m (R.map nrm) L := λ N => by
 have w := N.way
 rw [Zx] at w
 refine w.lead a (hs a ha) (QfZ (A := λ v => v ∈ sh) (λ z => absurd (hs m z) (by omega)) (λ s hm h1 => ?_) m a ha)
 have h1 : s.1.toNat ∈ sh := h1
 show s.2.toNat ∈ sh
 have two : ∀ t ∈ R.map nrm, (t.1.toNat ∈ sh ↔ t.2.toNat ∈ sh) := λ t ht => by
  obtain ⟨r, hr, rfl⟩ := ZE.mp ht
  have e := hR r hr
  have e' : r.1.toNat ∈ sh ↔ r.2.toNat ∈ sh := by rw [← Zaf, ← Zaf, e]
  show (if r.2 < r.1 then r.2 else r.1).toNat ∈ sh ↔ (if r.2 > r.1 then r.2 else r.1).toNat ∈ sh
  by_cases q : r.2 < r.1
  ·rw [if_pos q, if_neg (by omega)]; exact e'.symm
  ·rw [if_neg q]
   by_cases p : r.2 > r.1
   ·rw [if_pos p]; exact e'
   ·rw [if_neg p]
 rcases Qnj hm with (z | z) | z
 ·exact (two s z).mp h1
 ·exact (two _ z).mpr h1
 ·have e := hL s z
  rw [Zaf.mpr h1] at e
  exact Zaf.mp (by simpa using e)
theorem Qhk {neg : Bool} {fa fb : DE} {ρ : En} {ra rb : R} {x : Int} {l : List Nat} (h0 : 0 <= x) (ha : fa ρ = some ra) (ea : ra.d = .int x) (hb : fb ρ = some rb) (eb : rb.d = QbF l) : dOp (gIn neg) fa fb ρ = some ⟨.bl (if neg then !l.contains x.toNat else l.contains x.toNat), true, []⟩ := Qsc ha (by rw [ea, ZaF h0]) hb eb
theorem QsW {A : List (Int × Int)} {k : Nat} : cutD (A.map pairD) none (some (k : Int)) = (A.take k).map pairD := by
 unfold cutD
 simp only [HT.QfA, HT.Qdn, ZbA, Zbs, Zh, ← ZaG]
 congr 1
 by_cases h : k <= A.length
 ·rw [Zak h]
 ·rw [Nat.min_eq_right (by omega), ZaJ (by omega), ZaJ (by omega)]
theorem Qon {A : List (Int × Int)} {k : Nat} : cutD (A.map pairD) (some (k : Int)) none = (A.drop k).map pairD := by
 unfold cutD
 simp only [HT.QfA, HT.Qdn, Zh, ← ZbE, ← ZaG]
 congr 1
 by_cases h : k <= A.length
 ·rw [Zak h, ZaJ (by simp)]
 ·rw [Nat.min_eq_right (by omega), Zbv (by omega), Zbv (by omega)]; simp
theorem QnN {x : Nat} {ρ : En} {A : List (Int × Int)} {b : Int × Int} {k : Nat} (hx : Qa x ρ = some ⟨Qc A, false, []⟩) (h7 : Qa 7 ρ = some ⟨pairD b, true, []⟩) (h8 : Qa 8 ρ = some ⟨.int k, true, []⟩) (hl : A.length <= 1000) :
  Qu (Qu (QbN (Qa x) QbH (Qad (Qa 8))) (QH (Qb (Qa 7) Qd))) (QbN (Qa x) (Qad (Qa 8)) QbH) ρ = some ⟨Qc (A.take k ++ [b] ++ A.drop k), true, []⟩ := by
 have o8 : Qad (Qa 8) ρ = some (some (k : Int)) := by unfold Qad; rw [h8]; rfl
 have e1 := QkL (xs := A.map pairD) (lo := QbH) (hi := Qad (Qa 8)) (l := none) (h := some (k : Int)) hx rfl rfl o8 (QcJ A)
 have e2 := QkL (xs := A.map pairD) (lo := Qad (Qa 8)) (hi := QbH) (l := some (k : Int)) (h := none) hx rfl o8 rfl (QcJ A)
 rw [QsW] at e1
 rw [Qon] at e2
 have e3 : QH (Qb (Qa 7) Qd) ρ = some ⟨.lst [pairD b], true, []⟩ := (QeX (Qf h7 (QB _)) (by simp)).trans rfl
 have e4 := QhM (xs := (A.take k).map pairD) (ys := [pairD b]) e1 rfl e3 rfl (by rw [show [pairD b] = [b].map pairD from rfl, ← Zv]; exact QcJ _) (by simp; omega)
 refine (QhM (xs := (A.take k).map pairD ++ [pairD b]) (ys := (A.drop k).map pairD) e4 rfl e2 rfl (by rw [show [pairD b] = [b].map pairD from rfl, ← Zv, ← Zv]; exact QcJ _) (by simp; omega)).trans ?_
 unfold Qc
 rw [Zv, Zv]; rfl
theorem Qdq {fs : DA} {ρ : En} {r : RA} (h : fs ρ = some r) (hl : r.ds.length <= 64) : QI fs ρ = some ⟨.tup r.ds, r.fr, r.M⟩ := by
 unfold QI
 rw [h, Za, if_pos hl]
theorem Qdu {fa fb : DE} {ρ : En} {ra rb : R} {a b : Int} (ha : fa ρ = some ra) (ea : ra.d = .int a) (hb : fb ρ = some rb) (eb : rb.d = .int b) : dOp QbA fa fb ρ = some ⟨.int (a - b), true, []⟩ := by
 refine Q0 ha hb ?_
 rw [ea, eb]; rfl
theorem Qrb {fa fb : DE} {ρ : En} {a b : Bool} (ha : fa ρ = some ⟨.bl a, true, []⟩) (hb : fb ρ = some ⟨.bl b, true, []⟩) : dOp gEq fa fb ρ = some ⟨.bl (a == b), true, []⟩ := by
 refine Q0 ha hb ?_
 cases a <;> cases b <;> rfl
noncomputable def QcA : DS := (Qe (Qx 4 (dOp QK (Qa 3) (dC (.int 11)))) (Qe (Qx 5 (dOp QK (dOp Qct (Qa 3) (dC (.int 11))) (dC (.int 1000003)))) (Qe (Qx 6 (dOp QK (dOp QK (Qai (Qa 5) (dC (.int 48271))) (dC (.int 65537))) (Qu (Qa 0) (dC (.int 1))))) (Qe (Qx 7 (QcM (Ql (QH (Qb (QI (Qb (Qa 6) (Qb (dOp QbA (QiE (dC (.int 1))) (Qa 5)) Qd))) (Qb (QI (Qb (Qu (Qu (Qa 0) (dC (.int 1))) (Qa 5)) (Qb (Qa 6) Qd))) (Qb (QI (Qb (Qa 6) (Qb (Qa 6) Qd))) Qd)))) (dOp QK (Qa 4) (dC (.int 3)))))) (Qe (Qx 8 (dOp QK (Qa 5) (Qu (dBf QaF (Qb (Qa 1) Qd)) (dC (.int 1))))) (Qe (sIf (Qj (dOp gLt (Qa 4) (dC (.int 3)))) (Qe (QO (QI (Qb (Qa 0) (Qb (Qu (Qu (QbN (Qa 1) QbH (Qad (Qa 8))) (QH (Qb (Qa 7) Qd))) (QbN (Qa 1) (Qad (Qa 8)) QbH)) (Qb (Qa 2) Qd))))) Qg) Qg) (Qe (Qx 8 (dOp QK (Qa 5) (Qu (dBf QaF (Qb (Qa 2) Qd)) (dC (.int 1))))) (Qe (sIf (Qj (dOp gEq (Qa 4) (dC (.int 6)))) (Qe (Qx 7 (QI (Qb (Qa 0) (Qb (dOp QK (Qa 5) (Qa 0)) Qd)))) Qg) Qg) (Qe (sIf (Qj (dOp gLt (Qa 4) (dC (.int 7)))) (Qe (QO (QI (Qb (Qa 0) (Qb (Qa 1) (Qb (Qu (Qu (QbN (Qa 2) QbH (Qad (Qa 8))) (QH (Qb (Qa 7) Qd))) (QbN (Qa 2) (Qad (Qa 8)) QbH)) Qd))))) Qg) Qg) (Qe (sIf (Qj (dOp gEq (Qa 4) (dC (.int 7)))) (Qe (Qx 9 (dOp QbA (dOp QbA (Qu (dC (.int 41)) (dOp QK (Qa 5) (dC (.int 5)))) (dBf QaF (Qb (Qa 1) Qd))) (dBf QaF (Qb (Qa 2) Qd)))) (Qe (QO (QI (Qb (Qa 0) (Qb (Qu (Qa 1) (Qai (QH (Qb (QI (Qb (Qa 0) (Qb (dC (.int 0)) Qd))) Qd)) (Qa 9))) (Qb (Qa 2) Qd))))) Qg)) Qg) (Qe (sIf (Qj (dOp gEq (Qa 4) (dC (.int 8)))) (Qe (QO (QI (Qb (Ql (QH (Qb (dC (.int 0)) (Qb (dC (.int 9)) (Qb (Qu (dC (.int 9)) (Qa 5)) (Qb (dOp QbA (dC (.int 0)) (Qa 5)) Qd))))) (dOp QK (Qa 5) (dC (.int 4)))) (Qb (Qa 1) (Qb (Qa 2) Qd))))) Qg) Qg) (Qe (Qx 10 (QH (Qb (dOp QK (Qa 5) (Qa 0)) Qd))) (Qe (sIf (Qj (dOp gGt (Qa 0) (dC (.int 1)))) (Qe (QbQ 10 Qap (dOp QK (Qu (Qu (Ql (Qa 10) (dC (.int 0))) (dC (.int 1))) (dOp QK (dOp Qct (Qa 5) (dC (.int 8))) (dOp QbA (Qa 0) (dC (.int 1))))) (Qa 0))) Qg) Qg) (Qe (Qx 11 (Qaa (QR (Qa 1)) (.nm 1) [none, none, some 10] (Qj (dOp gEq (dOp (gIn false) (Ql (Qa 1) (dC (.int 0))) (Qa 2)) (dOp (gIn false) (Ql (Qa 1) (dC (.int 1))) (Qa 2)))) (Qa 1))) (Qe (sIf (Qj (dOp gGt (Qa 0) (dC (.int 1)))) (Qe (QbQ 11 Qap (QI (Qb (Ql (Qa 10) (dC (.int 1))) (Qb (Ql (Qa 10) (dC (.int 0))) Qd)))) Qg) Qg) (Qe (QO (QI (Qb (Qa 0) (Qb (Qa 11) (Qb (Qaa (QR (Qa 2)) (.nm 1) [none, none, some 10] (bOr (Qj (dOp (gIn true) (Ql (Qa 1) (dC (.int 0))) (Qa 2))) (Qj (dOp (gIn false) (Ql (Qa 1) (dC (.int 1))) (Qa 2)))) (Qa 1)) Qd))))) Qg))))))))))))))))
def Qip (d : Den) : Prop := ∀ (m : Nat) (R L : List (Int × Int)) (c : Int), 0 < m -> m <= 8 -> (∀ s ∈ R, Good m s) -> (∀ s ∈ L, Good m s) -> R.length + L.length <= 40 -> c % 11 < 10 →
 ∃ (m' : Int) (R' L' : List (Int × Int)) (fr : Bool), d [.int m, Qc R, Qc L, .int c] = some (Qr m' R' L', fr) /\ R'.length + L'.length <= 1000 /\ ¬ Qc3 m' (R'.map nrm) L'
theorem QlN {m : Int} {R L : List (Int × Int)} {s : Int × Int} (h : s ∈ R ++ L) (hb : QbZ m s = false) : ¬ Qc3 m R L := λ N => by
 have := N.num.ways s h
 rw [hb] at this
 cases this
theorem QlG {m : Int} {s : Int × Int} (h : s.1 < 0 ∨ s.2 < 0 ∨ m < s.1 ∨ m < s.2 ∨ s.1 = s.2) : QbZ m s = false /\ QbZ m (nrm s) = false := by
 have key : ∀ t : Int × Int, (t.1 < 0 ∨ t.2 < 0 ∨ m < t.1 ∨ m < t.2 ∨ t.1 = t.2) -> QbZ m t = false := λ t ht => by
  refine Bool.eq_false_iff.mpr λ hg => ?_
  unfold QbZ at hg
  simp only [Zf, decide_eq_true_eq, ZQ, decide_eq_false_iff_not] at hg
  omega
 refine ⟨key s h, key (nrm s) ?_⟩
 show (if s.2 < s.1 then s.2 else s.1) < 0 ∨ (if s.2 > s.1 then s.2 else s.1) < 0 ∨ m < (if s.2 < s.1 then s.2 else s.1) ∨ m < (if s.2 > s.1 then s.2 else s.1) ∨ (if s.2 < s.1 then s.2 else s.1) = (if s.2 > s.1 then s.2 else s.1)
 split <;> split <;> omega
set_option maxHeartbeats 0 in
theorem Qpj : Qip (Qw 12 QcA) := λ m R L c m0 m8 gR gL hl hc => by
 have k0 := Zw c (by decide : (11 : Int) ≠ 0)
 have n0 := Zw (c / 11) (by decide : (1000003 : Int) ≠ 0)
 have n1 := Zy (c / 11) (by decide : (0 : Int) < 1000003)
 have lR : ∀ A : List (Int × Int), (A.map nrm).length = A.length := λ A => Zh ..
 have key : Run QcA [some (.int m, true), some (Qc R, false), some (Qc L, false), some (.int c, true), none, none, none, none, none, none, none, none] (Rt λ d fr => ∃ (m' : Int) (R' L' : List (Int × Int)), d = Qr m' R' L' /\ R'.length + L'.length <= 1000 /\ ¬ Qc3 m' (R'.map nrm) L') := by
  refine run_seq (Qm (QP (a := c) (b := 11) (ra := ⟨.int c, true, []⟩) rfl rfl rfl rfl (by decide)) ?_)
  rw [Qs]
  generalize c % 11 = kind at k0 hc
  refine run_seq (Qm (QP (a := c / 11) (b := 1000003) (Qcz (a := c) (b := 11) (ra := ⟨.int c, true, []⟩) rfl rfl rfl rfl (by decide) (by decide)) rfl rfl rfl (by decide)) ?_)
  rw [Qs]
  generalize c / 11 % 1000003 = num at n0 n1
  have s0 := Zw (num * 48271 % 65537) (by omega : (m : Int) + 1 ≠ 0)
  have s1 := Zy (num * 48271 % 65537) (by omega : (0 : Int) < m + 1)
  refine run_seq (Qm (QP (a := num * 48271 % 65537) (b := (m : Int) + 1) (QP (a := num * 48271) (b := 65537) (QbJ (a := num) (b := 48271) (ra := ⟨.int num, true, []⟩) rfl rfl rfl rfl (QcV (by decide))) rfl rfl rfl (by decide)) rfl (Q2 (a := m) (b := 1) (ra := ⟨.int m, true, []⟩) rfl rfl rfl rfl) rfl (by omega)) ?_)
  rw [Qs]
  generalize num * 48271 % 65537 % ((m : Int) + 1) = so at s0 s1
  have cond : kind = 0 ∨ kind = 1 ∨ kind = 2 ∨ kind = 3 ∨ kind = 4 ∨ kind = 5 ∨ kind = 6 ∨ kind = 7 ∨ kind = 8 ∨ kind = 9 := by omega
  obtain ⟨bad, hbad, ebad⟩ : ∃ bad : Int × Int, ((kind = 0 ∨ kind = 1 ∨ kind = 2 ∨ kind = 3 ∨ kind = 4 ∨ kind = 5) -> bad.1 < 0 ∨ bad.2 < 0 ∨ (m : Int) < bad.1 ∨ (m : Int) < bad.2 ∨ bad.1 = bad.2) ∧
    QcM (Ql (QH (Qb (QI (Qb (Qa 6) (Qb (dOp QbA (QiE (dC (.int 1))) (Qa 5)) Qd))) (Qb (QI (Qb (Qu (Qu (Qa 0) (dC (.int 1))) (Qa 5)) (Qb (Qa 6) Qd))) (Qb (QI (Qb (Qa 6) (Qb (Qa 6) Qd))) Qd)))) (dOp QK (Qa 4) (dC (.int 3)))) [some (.int m, true), some (Qc R, false), some (Qc L, false), some (.int c, true), some (.int kind, true), some (.int num, true), some (.int so, true), none, none, none, none, none] = some ⟨pairD bad, false, []⟩ := by
   rcases cond with rfl | rfl | rfl | rfl | rfl | rfl | rfl | rfl | rfl | rfl
   ·exact ⟨(so, -1 - num), λ _ => by simp; omega, rfl⟩
   ·exact ⟨((m : Int) + 1 + num, so), λ _ => by simp; omega, rfl⟩
   ·exact ⟨(so, so), λ _ => by simp, rfl⟩
   ·exact ⟨(so, -1 - num), λ _ => by simp; omega, rfl⟩
   ·exact ⟨((m : Int) + 1 + num, so), λ _ => by simp; omega, rfl⟩
   ·exact ⟨(so, so), λ _ => by simp, rfl⟩
   ·exact ⟨(so, -1 - num), λ h => by omega, rfl⟩
   ·exact ⟨((m : Int) + 1 + num, so), λ h => by omega, rfl⟩
   ·exact ⟨(so, so), λ h => by omega, rfl⟩
   ·exact ⟨(so, -1 - num), λ h => by omega, rfl⟩
  refine run_seq (Qm ebad ?_)
  rw [QfF rfl]
  have len : ∀ (x : Nat) (A : List (Int × Int)) (ρ : En), Qa x ρ = some ⟨Qc A, false, []⟩ -> dBf QaF (Qb (Qa x) Qd) ρ = some ⟨.int A.length, true, []⟩ := λ x A ρ h => (Qe9 (xs := A.map pairD) h rfl).trans (by rw [Zh])
  have eat : ∀ (x : Nat) (A : List (Int × Int)) (ρ : En), Qa x ρ = some ⟨Qc A, false, []⟩ -> Qa 5 ρ = some ⟨.int num, true, []⟩ -> ∃ k : Nat, dOp QK (Qa 5) (Qu (dBf QaF (Qb (Qa x) Qd)) (dC (.int 1))) ρ = some ⟨.int k, true, []⟩ := λ x A ρ h h5 => by
   have a0 := Zw num (by omega : (A.length : Int) + 1 ≠ 0)
   refine ⟨(num % ((A.length : Int) + 1)).toNat, (QP (a := num) (b := (A.length : Int) + 1) h5 rfl (Q2 (a := A.length) (b := 1) (len x A ρ h) rfl (Qek _ _) rfl) rfl (by omega)).trans ?_⟩
   rw [ZaF a0]
  obtain ⟨k1, e1⟩ := eat 1 R [some (.int m, true), some (Qc R, false), some (Qc L, false), some (.int c, true), some (.int kind, true), some (.int num, true), some (.int so, true), some (pairD bad, true), none, none, none, none] rfl rfl
  refine run_seq (Qm e1 ?_)
  rw [Qs]
  change Run _ [some (.int m, true), some (Qc R, false), some (Qc L, false), some (.int c, true), some (.int kind, true), some (.int num, true), some (.int so, true), some (pairD bad, true), some (.int k1, true), none, none, none] _
  refine Qy (QC (b := decide (kind < 3)) (Qp (Q0 (d := .bl (decide (kind < 3))) (ra := ⟨.int kind, true, []⟩) (rb := ⟨.int 3, true, []⟩) rfl rfl rfl) rfl) (λ h => ?_) (λ h => Qi ?_))
  ·have hk : kind < 3 := of_decide_eq_true h
   have hb := (QlG (m := m) (hbad (by omega))).2
   refine Qy (Qa9 (Qdq (Qf (r := ⟨.int m, true, []⟩) rfl (Qf (QnN (x := 1) (A := R) (b := bad) (k := k1) rfl rfl rfl (by omega)) (Qf (r := ⟨Qc L, false, []⟩) rfl (QB _)))) (by simp)) ⟨m, R.take k1 ++ [bad] ++ R.drop k1, L, rfl, by simp; omega, QlN (Zc _ (ZE.mpr ⟨bad, by simp, rfl⟩)) hb⟩)
  have hk3 : ¬ kind < 3 := of_decide_eq_false h
  obtain ⟨k2, e2⟩ := eat 2 L [some (.int m, true), some (Qc R, false), some (Qc L, false), some (.int c, true), some (.int kind, true), some (.int num, true), some (.int so, true), some (pairD bad, true), some (.int k1, true), none, none, none] rfl rfl
  refine run_seq (Qm e2 ?_)
  rw [Qs]
  refine QbC (P := λ ρ => ∃ bad : Int × Int, (kind < 7 -> (bad.1 < 0 ∨ bad.2 < 0 ∨ (m : Int) < bad.1 ∨ (m : Int) < bad.2 ∨ bad.1 = bad.2) ∨ bad.1 = m) /\ ρ = [some (.int m, true), some (Qc R, false), some (Qc L, false), some (.int c, true), some (.int kind, true), some (.int num, true), some (.int so, true), some (pairD bad, true), some (.int k2, true), none, none, none]) ?_ ?_
  ·refine QC (b := decide (kind = 6)) (Qp (QaR (a := kind) (b := 6) (ra := ⟨.int kind, true, []⟩) rfl rfl rfl rfl) rfl) (λ h => ?_) (λ h => Qi ⟨bad, λ h7 => .inl (hbad (by have := of_decide_eq_false h; omega)), rfl⟩)
   refine run_seq (Qm (r := ⟨pairD ((m : Int), num % m), true, []⟩) ?_ (Qi ?_))
   ·refine (Qdq (Qf (r := ⟨.int m, true, []⟩) rfl (Qf (QP (a := num) (b := m) (ra := ⟨.int num, true, []⟩) rfl rfl (rb := ⟨.int m, true, []⟩) rfl rfl (by omega)) (QB _))) (by simp)).trans rfl
   ·rw [Qs]
    exact ⟨((m : Int), num % m), λ _ => .inr rfl, rfl⟩
  clear ebad e1 e2 hbad
  rintro ρ ⟨bad, hbad, rfl⟩
  refine Qy (QC (b := decide (kind < 7)) (Qp (Q0 (d := .bl (decide (kind < 7))) (ra := ⟨.int kind, true, []⟩) (rb := ⟨.int 7, true, []⟩) rfl rfl rfl) rfl) (λ h => ?_) (λ h => Qi ?_))
  ·have hk : kind < 7 := of_decide_eq_true h
   have memL : bad ∈ L.take k2 ++ [bad] ++ L.drop k2 := by simp
   refine Qy (Qa9 (Qdq (Qf (r := ⟨.int m, true, []⟩) rfl (Qf (r := ⟨Qc R, false, []⟩) rfl (Qf (QnN (x := 2) (A := L) (b := bad) (k := k2) rfl rfl rfl (by omega)) (QB _)))) (by simp)) ⟨m, R, L.take k2 ++ [bad] ++ L.drop k2, rfl, by simp; omega, ?_⟩)
   rcases hbad hk with z | z
   ·exact QlN (Ze _ memL) (QlG z).1
   ·exact λ N => N.num.pit bad memL z
  have hk7 : ¬ kind < 7 := of_decide_eq_false h
  refine Qy (QC (b := decide (kind = 7)) (Qp (QaR (a := kind) (b := 7) (ra := ⟨.int kind, true, []⟩) rfl rfl rfl rfl) rfl) (λ h => ?_) (λ h => Qi ?_))
  ·have f0 := Zw num (by decide : (5 : Int) ≠ 0)
   have f1 := Zy num (by decide : (0 : Int) < 5)
   obtain ⟨q, hq⟩ : ∃ q : Nat, 41 + num % 5 - (R.length : Int) - (L.length : Int) = (q : Int) := ⟨(41 + num % 5 - (R.length : Int) - (L.length : Int)).toNat, by omega⟩
   refine run_seq (Qm (Qdu (a := 41 + num % 5 - (R.length : Int)) (b := L.length) (Qdu (a := 41 + num % 5) (b := R.length) (Q2 (a := 41) (b := num % 5) rfl rfl (QP (a := num) (b := 5) (ra := ⟨.int num, true, []⟩) rfl rfl rfl rfl (by decide)) rfl) rfl (len 1 R _ rfl) rfl) rfl (len 2 L _ rfl) rfl) ?_)
   rw [Qs, hq]
   have er : Qai (QH (Qb (QI (Qb (Qa 0) (Qb (dC (.int 0)) Qd))) Qd)) (Qa 9) [some (.int m, true), some (Qc R, false), some (Qc L, false), some (.int c, true), some (.int kind, true), some (.int num, true), some (.int so, true), some (pairD bad, true), some (.int k2, true), some (.int q, true), none, none] = some ⟨Qc (List.replicate q ((m : Int), (0 : Int))), true, []⟩ := QlC (n := q) ((QeX (Qf (r := ⟨pairD ((m : Int), (0 : Int)), true, []⟩) rfl (QB _)) (by simp)).trans rfl) (r := ⟨.int q, true, []⟩) rfl rfl (by omega)
   refine Qy (Qa9 (Qdq (Qf (r := ⟨.int m, true, []⟩) rfl (Qf (QhM (xs := R.map pairD) (ys := (List.replicate q ((m : Int), (0 : Int))).map pairD) (ra := ⟨Qc R, false, []⟩) rfl rfl er rfl (by rw [← Zv]; exact QcJ _) (by simp; omega)) (Qf (r := ⟨Qc L, false, []⟩) rfl (QB _)))) (by simp)) ⟨m, R ++ List.replicate q ((m : Int), (0 : Int)), L, ?_, by simp; omega, λ N => ?_⟩)
   ·show D.tup [_, D.lst (R.map pairD ++ _), _] = _
    rw [← Zv]; rfl
   ·have := N.way.few
    rw [lR, Zl, ZaK] at this
    omega
  have hkn7 : kind ≠ 7 := of_decide_eq_false h
  refine Qy (QC (b := decide (kind = 8)) (Qp (QaR (a := kind) (b := 8) (ra := ⟨.int kind, true, []⟩) rfl rfl rfl rfl) rfl) (λ h => ?_) (λ h => Qi ?_))
  ·have f0 := Zw num (by decide : (4 : Int) ≠ 0)
   have f1 := Zy num (by decide : (0 : Int) < 4)
   obtain ⟨m', hm', em⟩ : ∃ m' : Int, (m' < 1 ∨ 8 < m') /\ Ql (QH (Qb (dC (.int 0)) (Qb (dC (.int 9)) (Qb (Qu (dC (.int 9)) (Qa 5)) (Qb (dOp QbA (dC (.int 0)) (Qa 5)) Qd))))) (dOp QK (Qa 5) (dC (.int 4))) [some (.int m, true), some (Qc R, false), some (Qc L, false), some (.int c, true), some (.int kind, true), some (.int num, true), some (.int so, true), some (pairD bad, true), some (.int k2, true), none, none, none] = some ⟨.int m', true, []⟩ := by
    have hi := QP (a := num) (b := 4) (fa := Qa 5) (fb := dC (.int 4)) (ρ := [some (.int m, true), some (Qc R, false), some (Qc L, false), some (.int c, true), some (.int kind, true), some (.int num, true), some (.int so, true), some (pairD bad, true), some (.int k2, true), none, none, none]) (ra := ⟨.int num, true, []⟩) rfl rfl rfl rfl (by decide)
    have cc : num % 4 = 0 ∨ num % 4 = 1 ∨ num % 4 = 2 ∨ num % 4 = 3 := by omega
    unfold Ql
    rw [hi]
    rcases cc with z | z | z | z
    ·rw [z]; exact ⟨0, by decide, rfl⟩
    ·rw [z]; exact ⟨9, by decide, rfl⟩
    ·rw [z]; exact ⟨9 + num, by omega, rfl⟩
    ·rw [z]; exact ⟨0 - num, by omega, rfl⟩
   exact Qy (Qa9 (Qdq (Qf em (Qf (r := ⟨Qc R, false, []⟩) rfl (Qf (r := ⟨Qc L, false, []⟩) rfl (QB _)))) (by simp)) ⟨m', R, L, rfl, by omega, λ N => by have h1 := N.num.lo; have h2 := N.num.hi; omega⟩)
  have hk9 : kind = 9 := by have := of_decide_eq_false h; omega
  have a0 := Zw num (by omega : (m : Int) ≠ 0)
  have a1 := Zy num (by omega : (0 : Int) < m)
  obtain ⟨a, ea⟩ : ∃ a : Nat, num % m = (a : Int) := ⟨(num % m).toNat, by omega⟩
  refine run_seq (Qm (r := ⟨QbF [a], true, []⟩) ((QeX (Qf (QP (a := num) (b := m) (ra := ⟨.int num, true, []⟩) rfl rfl (rb := ⟨.int m, true, []⟩) rfl rfl (by omega)) (QB _)) (by simp)).trans (by rw [ea]; rfl)) ?_)
  rw [Qs]
  have egt : ∀ {ρ : En}, ρ[0]? = some (some (.int m, true)) -> Qj (dOp gGt (Qa 0) (dC (.int 1))) ρ = some (decide (1 < (m : Int))) := λ {ρ} h => Qp (Q0 (d := .bl (decide (1 < (m : Int)))) (ra := ⟨.int m, true, []⟩) (rb := ⟨.int 1, true, []⟩) ((Qab h).trans rfl) rfl rfl) rfl
  refine QbC (P := λ ρ => ∃ sh : List Nat, (sh = [a] /\ ¬ 1 < (m : Int) ∨ ∃ b : Nat, sh = [a, b] /\ b < m /\ 1 < (m : Int)) /\ ρ = [some (.int m, true), some (Qc R, false), some (Qc L, false), some (.int c, true), some (.int kind, true), some (.int num, true), some (.int so, true), some (pairD bad, true), some (.int k2, true), none, some (QbF sh, true), none]) ?_ ?_
  ·refine QC (b := decide (1 < (m : Int))) (egt rfl) (λ h => ?_) (λ h => Qi ⟨[a], .inl ⟨rfl, of_decide_eq_false h⟩, rfl⟩)
   have h1 : 1 < (m : Int) := of_decide_eq_true h
   have b0 := Zw ((a : Int) + 1 + num / 8 % (m - 1)) (by omega : (m : Int) ≠ 0)
   have b1 := Zy ((a : Int) + 1 + num / 8 % (m - 1)) (by omega : (0 : Int) < m)
   obtain ⟨b, eb⟩ : ∃ b : Nat, ((a : Int) + 1 + num / 8 % (m - 1)) % m = (b : Int) := ⟨(((a : Int) + 1 + num / 8 % (m - 1)) % m).toNat, by omega⟩
   refine run_seq (Qe2 (xs := [.int a]) (r := ⟨.int b, true, []⟩) rfl ((QP (a := (a : Int) + 1 + num / 8 % (m - 1)) (b := m) (Q2 (a := (a : Int) + 1) (b := num / 8 % (m - 1)) (Q2 (a := a) (b := 1) (ra := ⟨.int a, true, []⟩) rfl rfl rfl rfl) rfl (QP (a := num / 8) (b := (m : Int) - 1) (Qcz (a := num) (b := 8) (ra := ⟨.int num, true, []⟩) rfl rfl rfl rfl (by decide) (by decide)) rfl (Qdu (a := m) (b := 1) (ra := ⟨.int m, true, []⟩) rfl rfl rfl rfl) rfl (by omega)) rfl) rfl (rb := ⟨.int m, true, []⟩) rfl rfl (by omega)).trans (by rw [eb])) rfl (by simp) (Qi ⟨[a, b], .inr ⟨b, rfl, by omega, h1⟩, rfl⟩))
  rintro ρ ⟨sh, hsh, rfl⟩
  have haS : a ∈ sh := by rcases hsh with ⟨rfl, _⟩ | ⟨b, rfl, _⟩ <;> simp
  have hlS : ∀ x ∈ sh, x < m := λ x hx => by
   rcases hsh with ⟨rfl, _⟩ | ⟨b, rfl, hb, _⟩
   ·simp at hx; omega
   ·simp at hx; rcases hx with rfl | rfl <;> omega
  have ek : Qaa (QR (Qa 1)) (.nm 1) [none, none, some 10] (Qj (dOp gEq (dOp (gIn false) (Ql (Qa 1) (dC (.int 0))) (Qa 2)) (dOp (gIn false) (Ql (Qa 1) (dC (.int 1))) (Qa 2)))) (Qa 1) [some (.int m, true), some (Qc R, false), some (Qc L, false), some (.int c, true), some (.int kind, true), some (.int num, true), some (.int so, true), some (pairD bad, true), some (.int k2, true), none, some (QbF sh, true), none] = some ⟨Qc (R.filter λ s => sh.contains s.1.toNat == sh.contains s.2.toNat), true, []⟩ := by
   refine (Qfg (toD := pairD) (keep := λ s => sh.contains s.1.toNat == sh.contains s.2.toNat) (out := pairD) R (Qaz (r := ⟨Qc R, false, []⟩) rfl rfl) rfl λ s hs => ⟨[none, some (pairD s, true), some (QbF sh, false)], rfl, ?_, λ _ => ⟨⟨pairD s, true, []⟩, rfl, rfl, rfl⟩⟩).trans rfl
   have g := gR s hs
   exact Qp (Qrb (Qhk (neg := false) (x := s.1) (l := sh) g.1 (ra := ⟨.int s.1, true, []⟩) rfl rfl (rb := ⟨QbF sh, false, []⟩) rfl rfl) (Qhk (neg := false) (x := s.2) (l := sh) g.2.1 (ra := ⟨.int s.2, true, []⟩) rfl rfl (rb := ⟨QbF sh, false, []⟩) rfl rfl)) rfl
  refine run_seq (Qm ek ?_)
  rw [Qs]
  have hK : ∀ s ∈ R.filter (λ s => sh.contains s.1.toNat == sh.contains s.2.toNat), sh.contains s.1.toNat = sh.contains s.2.toNat := λ s hs => by simpa using (ZX.mp hs).2
  have lK : (R.filter λ s => sh.contains s.1.toNat == sh.contains s.2.toNat).length <= R.length := Zax _ _
  generalize (R.filter λ s => sh.contains s.1.toNat == sh.contains s.2.toNat) = kept at hK lK
  refine QbC (P := λ ρ => ∃ kept : List (Int × Int), (∀ s ∈ kept, sh.contains s.1.toNat = sh.contains s.2.toNat) /\ kept.length <= 50 /\ ρ = [some (.int m, true), some (Qc R, false), some (Qc L, false), some (.int c, true), some (.int kind, true), some (.int num, true), some (.int so, true), some (pairD bad, true), some (.int k2, true), none, some (QbF sh, true), some (Qc kept, true)]) ?_ ?_
  ·refine QC (b := decide (1 < (m : Int))) (egt rfl) (λ h => ?_) (λ h => Qi ⟨kept, hK, by omega, rfl⟩)
   have h1 : 1 < (m : Int) := of_decide_eq_true h
   obtain ⟨b, rfl, hb, _⟩ : ∃ b : Nat, sh = [a, b] /\ b < m /\ 1 < (m : Int) := by
    rcases hsh with ⟨_, z⟩ | z
    ·exact absurd h1 z
    ·exact z
   refine run_seq (Qe2 (xs := kept.map pairD) (r := ⟨pairD ((b : Int), (a : Int)), true, []⟩) rfl rfl rfl (by simp; omega) (Qi ⟨kept ++ [((b : Int), (a : Int))], λ s hs => ?_, by simp; omega, ?_⟩))
   ·rcases Zn.mp hs with z | z
    ·exact hK s z
    ·have : s = ((b : Int), (a : Int)) := by simpa using z
     subst this
     simp
   ·unfold Qc
    rw [Zv]; rfl
  rintro ρ ⟨kept, hK, lK, rfl⟩
  have el : Qaa (QR (Qa 2)) (.nm 1) [none, none, some 10] (bOr (Qj (dOp (gIn true) (Ql (Qa 1) (dC (.int 0))) (Qa 2))) (Qj (dOp (gIn false) (Ql (Qa 1) (dC (.int 1))) (Qa 2)))) (Qa 1) [some (.int m, true), some (Qc R, false), some (Qc L, false), some (.int c, true), some (.int kind, true), some (.int num, true), some (.int so, true), some (pairD bad, true), some (.int k2, true), none, some (QbF sh, true), some (Qc kept, true)] = some ⟨Qc (L.filter λ s => !sh.contains s.1.toNat || sh.contains s.2.toNat), true, []⟩ := by
   refine (Qfg (toD := pairD) (keep := λ s => !sh.contains s.1.toNat || sh.contains s.2.toNat) (out := pairD) L (Qaz (r := ⟨Qc L, false, []⟩) rfl rfl) rfl λ s hs => ⟨[none, some (pairD s, true), some (QbF sh, false)], rfl, ?_, λ _ => ⟨⟨pairD s, true, []⟩, rfl, rfl, rfl⟩⟩).trans rfl
   have g := gL s hs
   exact Qbc (Qp (Qhk (neg := true) (x := s.1) (l := sh) g.1 (ra := ⟨.int s.1, true, []⟩) rfl rfl (rb := ⟨QbF sh, false, []⟩) rfl rfl) rfl) (Qp (Qhk (neg := false) (x := s.2) (l := sh) g.2.1 (ra := ⟨.int s.2, true, []⟩) rfl rfl (rb := ⟨QbF sh, false, []⟩) rfl rfl) rfl)
  have lL : (L.filter λ s => !sh.contains s.1.toNat || sh.contains s.2.toNat).length <= L.length := Zax _ _
  exact Qy (Qa9 (Qdq (Qf (r := ⟨.int m, true, []⟩) rfl (Qf (r := ⟨Qc kept, true, [11]⟩) rfl (Qf el (QB _)))) (by simp)) ⟨m, kept, L.filter λ s => !sh.contains s.1.toNat || sh.contains s.2.toNat, rfl, by omega, Qof haS hlS hK λ s hs => (ZX.mp hs).2⟩)
 obtain ⟨o, h1, h2⟩ := key
 cases o with
 | rt d fr =>
  obtain ⟨m', R', L', rfl, h3⟩ := h2
  exact ⟨m', R', L', fr, by show Option.bind (QcA [some (.int m, true), some (Qc R, false), some (Qc L, false), some (.int c, true), none, none, none, none, none, none, none, none]) outD = _; rw [h1]; rfl, h3⟩
 | _ => exact h2.elim
noncomputable def Qcn (k : Nat) (A : List (Int × Int)) : Int := (A.map λ s => isI k s.1 + isI k s.2).sum
theorem Qep (k : Nat) (A B : List (Int × Int)) : Qcn k (A ++ B) = Qcn k A + Qcn k B := by
 unfold Qcn
 rw [Zv, Zas]
theorem Qfx (k : Nat) (s : Int × Int) : Qcn k [s] = isI k s.1 + isI k s.2 := by unfold Qcn; simp
theorem QjY (k : Nat) (s : Int × Int) : ∀ n, Qcn k (List.replicate n s) = n * (isI k s.1 + isI k s.2)
 | 0 => by unfold Qcn; simp
 | n + 1 => by
  rw [ZP, show s :: List.replicate n s = [s] ++ List.replicate n s from rfl, Qep, Qfx, QjY k s n]
  rw [show ((n + 1 : Nat) : Int) = (n : Int) + 1 by simp, ZaB, ZbB, Int.add_comm]
theorem Qkj (k : Nat) : ∀ A : List (Int × Int), Qcn k (A.map nrm) = Qcn k A
 | [] => rfl
 | s :: A => by
  rw [show (s :: A).map nrm = [nrm s] ++ A.map nrm from rfl, show s :: A = [s] ++ A from rfl, Qep, Qep, Qkj k A, Qfx, Qfx]
  congr 1
  show isI k (if s.2 < s.1 then s.2 else s.1) + isI k (if s.2 > s.1 then s.2 else s.1) = _
  by_cases h1 : s.2 < s.1
  ·rw [if_pos h1, if_neg (by omega), Int.add_comm]
  ·rw [if_neg h1]
   by_cases h2 : s.2 > s.1
   ·rw [if_pos h2]
   ·have : s.1 = s.2 := by omega
    rw [if_neg h2, this]
theorem Qnt (R L : List (Int × Int)) (k : Nat) : Q9 R L k = Qcn k R + (L.map λ l => isI k l.1).sum := rfl
theorem Qib {m i : Nat} {f : Nat -> Int} {v : Int} (hi : i < m) : QF m (up f i v) = QF m f - f i + v := by
 have key : ∀ n, QF n (up f i v) = if i < n then QF n f - f i + v else QF n f := λ n => by
  induction n with
  | zero => rfl
  | succ n ih =>
   rw [Qal, Qal, ih, QdA]
   by_cases h1 : i < n
   ·rw [if_pos h1, if_neg (show ¬ n = i by omega), if_pos (show i < n + 1 by omega)]; omega
   ·rw [if_neg h1]
    by_cases h2 : n = i
    ·subst h2; rw [if_pos rfl, if_pos (show n < n + 1 by omega)]; omega
    ·rw [if_neg h2, if_neg (show ¬ i < n + 1 by omega)]
 rw [key m, if_pos hi]
structure Bk (m : Nat) (σ p : Nat -> Int) (A : List (Int × Int)) : Prop where
 mem : ∀ s ∈ A, ∃ j : Nat, s = ((j : Int) + 1, (j : Int)) /\ j + 1 < m
 two : ∀ k, k < m -> 2 <= p k
 deg : ∀ k, k < m -> p k + Qcn k A = σ k
 sum : QF m p + 2 * (A.length : Int) = QF m σ
theorem Bk.step {m : Nat} {σ p : Nat -> Int} {A : List (Int × Int)} (h : Bk m σ p A) {j : Nat} (hj : j + 1 < m) (h1 : 2 < p j) (h2 : 2 < p (j + 1)) : Bk m σ (up (up p j (p j - 1)) (j + 1) (p (j + 1) - 1)) (A ++ [((j : Int) + 1, (j : Int))]) where
 mem := λ s hs => by
  rcases Zn.mp hs with z | z
  ·exact h.mem s z
  ·exact ⟨j, by simpa using z, hj⟩
 two := λ k hk => by
  have := h.two k hk
  rw [QdA, QdA]
  split
  ·rename_i e; omega
  ·split
   ·rename_i e; omega
   ·exact this
 deg := λ k hk => by
  have := h.deg k hk
  rw [Qep, Qfx, QdA, QdA]
  show _ + (Qcn k A + (isI k ((j : Int) + 1) + isI k (j : Int))) = _
  unfold isI
  by_cases e1 : k = j + 1
  ·subst e1
   rw [if_pos rfl, if_pos (by omega), if_neg (by omega)]; omega
  ·rw [if_neg e1]
   by_cases e2 : k = j
   ·subst e2
    rw [if_pos rfl, if_neg (by omega), if_pos (by omega)]; omega
   ·rw [if_neg e2, if_neg (by omega), if_neg (by omega)]; omega
 sum := by
  have := h.sum
  rw [Qib (by omega), Qib (by omega), QdA, if_neg (by omega), Zl, Zaw]
  omega
structure Bf (m : Nat) (p : Nat -> Int) (at' : Nat) (A R : List (Int × Int)) (i : Nat) : Prop where
 mem : ∀ s ∈ R, s ∈ A ∨ ∃ k : Nat, k < i /\ s = ((m : Int), (k : Int))
 has : ∀ k, k < i -> ((m : Int), (k : Int)) ∈ R
 deg : ∀ k, k < m -> Qcn k R = Qcn k A + if k < i then p k - (if k = at' then 1 else 0) else 0
 len : (R.length : Int) = A.length + QF i λ k => p k - (if k = at' then 1 else 0)
theorem Bf.step {m : Nat} {p : Nat -> Int} {at' : Nat} {A R : List (Int × Int)} {i n : Nat} (h : Bf m p at' A R i) (hi : i < m) (hn : p i - (if i = at' then 1 else 0) = (n : Int)) (n1 : 1 <= n) : Bf m p at' A (R ++ List.replicate n ((m : Int), (i : Int))) (i + 1) where
 mem := λ s hs => by
  rcases Zn.mp hs with z | z
  ·rcases h.mem s z with y | ⟨k, hk, y⟩
   ·exact .inl y
   ·exact .inr ⟨k, by omega, y⟩
  ·exact .inr ⟨i, by omega, (List.mem_replicate.mp z).2⟩
 has := λ k hk => by
  by_cases e : k = i
  ·subst e; exact Ze _ (List.mem_replicate.mpr ⟨by omega, rfl⟩)
  ·exact Zc _ (h.has k (by omega))
 deg := λ k hk => by
  rw [Qep, QjY, h.deg k hk]
  show _ + (n : Int) * (isI k (m : Int) + isI k (i : Int)) = _
  have e0 : isI k (m : Int) = 0 := by unfold isI; rw [if_neg (by omega)]
  rw [e0, Int.zero_add]
  by_cases e : k = i
  ·subst e
   have e1 : isI k (k : Int) = 1 := by unfold isI; rw [if_pos rfl]
   rw [e1, Int.mul_one, if_neg (show ¬ k < k by omega), if_pos (show k < k + 1 by omega), hn, Zbu]
  ·have e1 : isI k (i : Int) = 0 := by unfold isI; rw [if_neg (by omega)]
   rw [e1, Int.mul_zero, Zbu]
   by_cases q : k < i
   ·rw [if_pos q, if_pos (show k < i + 1 by omega)]
   ·rw [if_neg q, if_neg (show ¬ k < i + 1 by omega)]
 len := by
  rw [Zl, ZaK, Qal, hn]
  have := h.len
  show ((R.length + n : Nat) : Int) = _
  rw [show ((R.length + n : Nat) : Int) = (R.length : Int) + n by simp, this, Int.add_assoc]
theorem Bf.fin {m : Nat} {σ p : Nat -> Int} {at' : Nat} {A R : List (Int × Int)} (h : Bf m p at' A R m) (B : Bk m σ p A) (ha : at' < m) (m0 : 0 < m) (m8 : m <= 8) (hs : QF m σ <= 40) :
  (R.length + 1 <= 40 /\ (Qc3 m (R.map nrm) [((at' : Int), (m : Int))] ↔ spr σ m <= 300)) /\ Qc3 m ((R ++ [((m : Int), (at' : Int))]).map nrm) [] := by
 have good : ∀ s ∈ R, Good m s := λ s hs => by
  rcases h.mem s hs with z | ⟨k, hk, rfl⟩
  ·obtain ⟨j, rfl, hj⟩ := B.mem s z
   exact ⟨by show (0 : Int) <= (j : Int) + 1; omega, by show (0 : Int) <= j; omega, by show (j : Int) + 1 <= m; omega, by show (j : Int) <= m; omega, by show (j : Int) + 1 ≠ j; omega⟩
  ·exact ⟨by show (0 : Int) <= m; omega, by show (0 : Int) <= k; omega, by show (m : Int) <= m; omega, by show (k : Int) <= m; omega, by show (m : Int) ≠ k; omega⟩
 have gn : ∀ {s : Int × Int}, Good m s -> Good m (nrm s) := λ {s} g => by
  obtain ⟨h1, h2, h3, h4, h5⟩ := g
  unfold nrm
  refine ⟨?_, ?_, ?_, ?_, ?_⟩ <;> dsimp only <;> (try split) <;> (try split) <;> omega
 have gR : ∀ s ∈ R.map nrm, Good m s := λ s hs => by
  obtain ⟨r, hr, rfl⟩ := ZE.mp hs
  exact gn (good r hr)
 have len : R.length + 1 <= 40 := by
  have l1 := h.len
  have l2 := B.sum
  have e : QF m (λ k => p k - (if k = at' then 1 else 0)) = QF m p - 1 := by
   have : QF m (λ k => p k - (if k = at' then 1 else 0)) = QF m (up p at' (p at' - 1)) := QaI λ k _ => by
    rw [QdA]
    split
    ·rename_i q; rw [q]
    ·omega
   rw [this, Qib ha]; omega
  rw [e] at l1
  omega
 have esc : ∀ L, QiQ m (Qv (R.map nrm) L) := λ L A ⟨q, hq, hA⟩ => by
  refine ⟨((q : Int), (m : Int)), ?_, by show (q : Int) < m; omega, by show A ((q : Int)).toNat; rw [Zx]; exact hA, .inl rfl⟩
  unfold Qv
  refine Zc _ (Zc _ (ZE.mpr ⟨((m : Int), (q : Int)), h.has q hq, ?_⟩))
  unfold nrm
  rw [if_pos (by show (q : Int) < m; omega), if_neg (by show ¬ (q : Int) > m; omega)]
 have gl : Good m ((at' : Int), (m : Int)) := ⟨by show (0 : Int) <= at'; omega, by show (0 : Int) <= m; omega, by show (at' : Int) <= m; omega, by show (m : Int) <= m; omega, by show (at' : Int) ≠ m; omega⟩
 have gp : Good m ((m : Int), (at' : Int)) := ⟨by show (0 : Int) <= m; omega, by show (0 : Int) <= at'; omega, by show (m : Int) <= m; omega, by show (at' : Int) <= m; omega, by show (m : Int) ≠ at'; omega⟩
 have sp : spr (Q9 (R.map nrm) [((at' : Int), (m : Int))]) m = spr σ m := QdM λ k hk => by
  rw [Qnt, Qkj, h.deg k hk, if_pos hk, ← B.deg k hk]
  show Qcn k A + (p k - (if k = at' then 1 else 0)) + (isI k (at' : Int) + 0) = _
  unfold isI
  by_cases q : k = at'
  ·rw [if_pos q, if_pos (by omega)]; omega
  ·rw [if_neg q, if_neg (by omega)]; omega
 have lR : (R.map nrm).length = R.length := Zh ..
 refine ⟨⟨len, λ N => ?_, λ hle => ⟨⟨by omega, by omega, λ s hs => Qhg ?_, λ s hs => ?_⟩, ?_, ?_⟩⟩, ⟨by omega, by omega, λ s hs => Qhg ?_, λ s hs => by simp at hs⟩, ?_, .inl rfl⟩
 ·have := N.sml
  rw [Zx] at this
  rcases this with z | z
  ·simp at z
  ·rw [sp] at z; exact z
 ·rcases Zn.mp hs with z | z
  ·exact gR s z
  ·have : s = ((at' : Int), (m : Int)) := by simpa using z
   rw [this]; exact gl
 ·have : s = ((at' : Int), (m : Int)) := by simpa using hs
  rw [this]; show (at' : Int) ≠ m; omega
 ·rw [Zx]
  exact ⟨by rw [lR]; exact len, QfX m0 (Qbx gR λ s hs => by
   have : s = ((at' : Int), (m : Int)) := by simpa using hs
   rw [this]; exact gl) (esc _)⟩
 ·rw [Zx]
  exact .inr (by rw [sp]; exact hle)
 ·have hs : s ∈ (R ++ [((m : Int), (at' : Int))]).map nrm := by simpa using hs
  obtain ⟨r, hr, rfl⟩ := ZE.mp hs
  rcases Zn.mp hr with z | z
  ·exact gn (good r z)
  ·have : r = ((m : Int), (at' : Int)) := by simpa using z
   rw [this]; exact gn gp
 ·rw [Zx]
  refine ⟨by rw [Zh, Zl]; exact len, QfX m0 (Qbx (λ s hs => ?_) λ s hs => by simp at hs) λ A hA => ?_⟩
  ·obtain ⟨r, hr, rfl⟩ := ZE.mp hs
   rcases Zn.mp hr with z | z
   ·exact gn (good r z)
   ·have : r = ((m : Int), (at' : Int)) := by simpa using z
    rw [this]; exact gn gp
  ·obtain ⟨s, hs, h'⟩ := esc [] A hA
   refine ⟨s, ?_, h'⟩
   unfold Qv at hs ⊢
   rw [Zv, Zv]
   rcases Zn.mp hs with z | z
   ·rcases Zn.mp z with y | y
    ·exact Zc _ (Zc _ (Zc _ y))
    ·exact Zc _ (Ze _ (Zc _ y))
   ·simp at z
theorem Qrx {m j : Nat} {p : Nat -> Int} (h : j + 1 < m) : cutD ((List.range m).map λ i => D.int (p i)) (some (j : Int)) (some ((j : Int) + 2)) = [.int (p j), .int (p (j + 1))] := by
 unfold cutD
 rw [show ((j : Int) + 2) = ((j + 2 : Nat) : Int) by simp]
 simp only [HT.Qdn, Zh, ZF, ← ZbE, ← ZaG]
 rw [Zak (by omega), Zak (by omega), show j + 2 - j = 2 by omega]
 have e : ((List.range m).drop j).take 2 = [j, j + 1] := by
  refine Zbb λ i => ?_
  rw [List.getElem?_take, List.getElem?_drop]
  match i with
  | 0 => rw [if_pos (by decide), Nat.add_zero, ZV (by omega)]; rfl
  | 1 => rw [if_pos (by decide), ZV h]; rfl
  | i + 2 => rw [if_neg (by omega)]; rfl
 rw [e]; rfl
noncomputable def QdS (QG : Den) (Qak : Den) (Qaf : Den) (Qac : Den) : DS := (Qe (Qx 1 (Qu (dC (.int 2)) (dOp QK (Qa 0) (dC (.int 4))))) (Qe (Qx 2 (QH Qd)) (Qe (Qx 3 (dC (.int 1))) (Qe (QaM (Qcj (Qa 1)) (.nm 4) (Qe (Qx 5 (Qu (Ql (QH (Qb (dC (.int 12)) (Qb (dC (.int 5)) (Qb (dC (.int 3)) (Qb (dC (.int 2)) Qd))))) (dOp QK (Qa 0) (dC (.int 4)))) (dOp QK (dOp Qct (Qai (Qu (dOp Qct (Qa 0) (dC (.int 4))) (Qai (dC (.int 3)) (Qa 4))) (Qu (dC (.int 48271)) (Qai (dC (.int 7919)) (Qa 4)))) (dC (.int 64))) (Ql (QH (Qb (dC (.int 9)) (Qb (dC (.int 5)) (Qb (dC (.int 4)) (Qb (dC (.int 4)) Qd))))) (dOp QK (Qa 0) (dC (.int 4))))))) (Qe (Qx 3 (Qai (Qa 3) (Qa 5))) (Qe (QbQ 2 Qap (Qa 5)) Qg)))) (Qe (Qx 6 (dOp QK (dOp Qct (Qa 0) (dC (.int 16))) (Qa 1))) (Qe (Qx 7 (QH Qd)) (Qe (QaM (Qcj (dOp QK (dOp Qct (Qa 0) (dC (.int 1024))) (dC (.int 5)))) (.nm 4) (Qe (Qx 8 (dOp QK (Qu (dOp Qct (Qa 0) (dC (.int 8192))) (Qa 4)) (dOp QbA (Qa 1) (dC (.int 1))))) (Qe (sIf (Qj (dOp gGt (dBf Qgu (Qb (QbN (Qa 2) (Qad (Qa 8)) (Qad (Qu (Qa 8) (dC (.int 2))))) Qd)) (dC (.int 2)))) (Qe (Qdt 2 Qap (Qa 8) (dOp QbA (Ql (Qa 2) (Qa 8)) (dC (.int 1)))) (Qe (Qdt 2 Qap (Qu (Qa 8) (dC (.int 1))) (dOp QbA (Ql (Qa 2) (Qu (Qa 8) (dC (.int 1)))) (dC (.int 1)))) (Qe (QbQ 7 Qap (QI (Qb (Qu (Qa 8) (dC (.int 1))) (Qb (Qa 8) Qd)))) Qg))) Qg) Qg))) (Qe (QaM (Qcj (Qa 1)) (.nm 4) (Qe (Qx 7 (Qu (Qa 7) (Qai (QH (Qb (QI (Qb (Qa 1) (Qb (Qa 4) Qd))) Qd)) (dOp QbA (Ql (Qa 2) (Qa 4)) (dBf QiA (Qb (dOp gEq (Qa 4) (Qa 6)) Qd)))))) Qg)) (Qe (sIf (Qj (dOp gLe (Qa 3) (dC (.int 300)))) (Qe (QO (Qn 4 Qak [] (Qb (Qn 3 QG [] (Qb (Qa 1) (Qb (Qa 7) (Qb (QH (Qb (QI (Qb (Qa 6) (Qb (Qa 1) Qd))) Qd)) Qd)))) (Qb (Qa 1) (Qb (Qa 7) (Qb (QH (Qb (QI (Qb (Qa 6) (Qb (Qa 1) Qd))) Qd)) Qd)))))) Qg) Qg) (Qe (sIf (bOr (Qbg (Qj (Qn 3 Qaf [] (Qb (Qa 1) (Qb (Qa 7) (Qb (QH (Qb (QI (Qb (Qa 6) (Qb (Qa 1) Qd))) Qd)) Qd)))))) (Qbg (Qj (Qn 3 Qac [] (Qb (Qa 1) (Qb (Qa 7) (Qb (QH (Qb (QI (Qb (Qa 6) (Qb (Qa 1) Qd))) Qd)) Qd))))))) (Qe (QO (dC (.bl false))) Qg) Qg) (Qe (QO (Qn 4 Qak [] (Qb (Qn 3 QG [.non] (Qb (Qa 1) (Qb (Qu (Qa 7) (QH (Qb (QI (Qb (Qa 1) (Qb (Qa 6) Qd))) Qd))) Qd))) (Qb (Qa 1) (Qb (Qu (Qa 7) (QH (Qb (QI (Qb (Qa 1) (Qb (Qa 6) Qd))) Qd))) (Qb (QH Qd) Qd)))))) Qg)))))))))))
def Qid (d : Den) : Prop := ∀ c : Int, 0 <= c -> d [.int c] = some (.bl true, true)
set_option maxHeartbeats 0 in
theorem Qog {dm di dr db : Den} (hm : QhX dm) (hi5 : Qjo di) (hr : QdE dr) (hb : QdE db) : Qid (Qw 9 (QdS dm di dr db)) := λ c c0 => by
 have q0 := Zw c (by decide : (4 : Int) ≠ 0)
 have q1 := Zy c (by decide : (0 : Int) < 4)
 obtain ⟨m, em⟩ : ∃ m : Nat, 2 + c % 4 = (m : Int) := ⟨(2 + c % 4).toNat, by omega⟩
 have ec4 : ∀ {ρ : En}, ρ[0]? = some (some (.int c, true)) -> dOp QK (Qa 0) (dC (.int 4)) ρ = some ⟨.int (c % 4), true, []⟩ := λ {ρ} h => QP (a := c) (b := 4) ((Qab h).trans rfl) rfl (Qek _ _) rfl (by decide)
 obtain ⟨lo, md, hT, e1, e2⟩ : ∃ lo md : Int, ((m = 2 /\ lo = 12 /\ md = 9) ∨ (m = 3 /\ lo = 5 /\ md = 5) ∨ (m = 4 /\ lo = 3 /\ md = 4) ∨ (m = 5 /\ lo = 2 /\ md = 4)) ∧
   (∀ ρ : En, ρ[0]? = some (some (.int c, true)) -> Ql (QH (Qb (dC (.int 12)) (Qb (dC (.int 5)) (Qb (dC (.int 3)) (Qb (dC (.int 2)) Qd))))) (dOp QK (Qa 0) (dC (.int 4))) ρ = some ⟨.int lo, true, []⟩) ∧
   ∀ ρ : En, ρ[0]? = some (some (.int c, true)) -> Ql (QH (Qb (dC (.int 9)) (Qb (dC (.int 5)) (Qb (dC (.int 4)) (Qb (dC (.int 4)) Qd))))) (dOp QK (Qa 0) (dC (.int 4))) ρ = some ⟨.int md, true, []⟩ := by
  have cc : c % 4 = 0 ∨ c % 4 = 1 ∨ c % 4 = 2 ∨ c % 4 = 3 := by omega
  rcases cc with z | z | z | z
  ·exact ⟨12, 9, by omega, λ ρ h => by unfold Ql; rw [ec4 h, z]; rfl, λ ρ h => by unfold Ql; rw [ec4 h, z]; rfl⟩
  ·exact ⟨5, 5, by omega, λ ρ h => by unfold Ql; rw [ec4 h, z]; rfl, λ ρ h => by unfold Ql; rw [ec4 h, z]; rfl⟩
  ·exact ⟨3, 4, by omega, λ ρ h => by unfold Ql; rw [ec4 h, z]; rfl, λ ρ h => by unfold Ql; rw [ec4 h, z]; rfl⟩
  ·exact ⟨2, 4, by omega, λ ρ h => by unfold Ql; rw [ec4 h, z]; rfl, λ ρ h => by unfold Ql; rw [ec4 h, z]; rfl⟩
 have md0 : 0 < md := by omega
 have m0 : 0 < m := by omega
 have m8 : m <= 8 := by omega
 generalize hσ : (λ k : Nat => lo + (c / 4 + 3 * (k : Int)) * (48271 + 7919 * (k : Int)) / 64 % md) = σ
 have hσb : ∀ k, lo <= σ k /\ σ k <= lo + md - 1 := λ k => by
  rw [← hσ]
  have h1 := Zw ((c / 4 + 3 * (k : Int)) * (48271 + 7919 * (k : Int)) / 64) (by omega : md ≠ 0)
  have h2 := Zy ((c / 4 + 3 * (k : Int)) * (48271 + 7919 * (k : Int)) / 64) md0
  show lo <= lo + _ /\ lo + _ <= lo + md - 1
  omega
 have hsum : QF m σ <= 40 := by
  have h1 := QgC (m := m) (f := σ) (g := λ _ => lo + md - 1) λ i _ => (hσb i).2
  have h2 : ∀ n, QF n (λ _ => lo + md - 1) = n * (lo + md - 1) := λ n => by
   induction n with
   | zero => rw [show ((0 : Nat) : Int) = 0 from rfl, ZaX]; rfl
   | succ n ih => rw [Qal, ih, show ((n + 1 : Nat) : Int) = (n : Int) + 1 by simp, ZaB, ZbB]
  rw [h2 m] at h1
  rcases hT with ⟨rfl, rfl, rfl⟩ | ⟨rfl, rfl, rfl⟩ | ⟨rfl, rfl, rfl⟩ | ⟨rfl, rfl, rfl⟩ <;> simp at h1 <;> omega
 refine Qbf ?_
 refine run_seq (Qm (Q2 (a := 2) (b := c % 4) rfl rfl (ec4 rfl) rfl) ?_)
 rw [Qs, em]
 refine run_seq (Qm (r := ⟨QM 0 σ, true, []⟩) rfl ?_)
 rw [Qs]
 refine run_seq (Qm (r := ⟨.int 1, true, []⟩) rfl ?_)
 rw [Qs]
 refine QbC (P := λ ρ => ∃ j4 j5, ρ = [some (.int c, true), some (.int m, true), some (QM m σ, true), some (.int (spr σ m), true), j4, j5, none, none, none]) ?_ ?_
 ·refine QaT (toD := λ (k : Nat) => .int (k : Int)) (List.range m) (λ i ρ => ∃ j4 j5, ρ = [some (.int c, true), some (.int m, true), some (QM i σ, true), some (.int (spr σ i), true), j4, j5, none, none, none]) (Qdg (n := m) (r := ⟨.int m, true, []⟩) rfl rfl (by omega)) rfl ⟨none, none, rfl⟩ ?_ ?_
  ·rintro i i' ρ hi ⟨j4, j5, rfl⟩
   have hi' : i < m /\ i = i' := by
    obtain ⟨h1, h2⟩ := Zg.mp hi
    simp at h1 h2; exact ⟨h1, h2⟩
   obtain ⟨him, rfl⟩ := hi'
   refine ⟨_, rfl, ?_⟩
   refine run_seq (Qm (Q2 (a := lo) (b := (c / 4 + 3 * (i : Int)) * (48271 + 7919 * (i : Int)) / 64 % md) (e1 _ rfl) rfl (QP (a := (c / 4 + 3 * (i : Int)) * (48271 + 7919 * (i : Int)) / 64) (b := md) (Qcz (a := (c / 4 + 3 * (i : Int)) * (48271 + 7919 * (i : Int))) (b := 64) (QbJ (a := c / 4 + 3 * (i : Int)) (b := 48271 + 7919 * (i : Int)) (Q2 (a := c / 4) (b := 3 * (i : Int)) (Qcz (a := c) (b := 4) (ra := ⟨.int c, true, []⟩) rfl rfl rfl rfl (by decide) (by decide)) rfl (QbJ (a := 3) (b := i) rfl rfl rfl rfl (QeT (by decide))) rfl) rfl (Q2 (a := 48271) (b := 7919 * (i : Int)) rfl rfl (QbJ (a := 7919) (b := i) rfl rfl rfl rfl (QeT (by decide))) rfl) rfl (QcV (by omega))) rfl rfl rfl (by decide) (by decide)) rfl (e2 _ rfl) rfl md0) rfl) ?_)
   have es : lo + (c / 4 + 3 * (i : Int)) * (48271 + 7919 * (i : Int)) / 64 % md = σ i := by rw [← hσ]
   rw [Qs, es]
   have b := hσb i
   refine run_seq (Qm (QbJ (a := spr σ i) (b := σ i) (ra := ⟨.int (spr σ i), true, []⟩) rfl rfl (rb := ⟨.int (σ i), true, []⟩) rfl rfl (QcV (by omega))) ?_)
   rw [Qs]
   refine run_seq (Qe2 (xs := (List.range i).map λ k => .int (σ k)) (r := ⟨.int (σ i), true, []⟩) rfl rfl rfl (by simp; omega) (Qi ⟨some (.int i, true), some (.int (σ i), true), ?_⟩))
   have er : QM (i + 1) σ = .lst (((List.range i).map λ k => D.int (σ k)) ++ [.int (σ i)]) := by unfold QM; rw [ZaT, Zv]; rfl
   rw [er]; rfl
  ·rintro ρ ⟨j4, j5, rfl⟩
   rw [ZF]
   exact ⟨_, _, rfl⟩
 rintro ρ ⟨j4, j5, rfl⟩
 have a0 := Zw (c / 16) (by omega : (m : Int) ≠ 0)
 have a1 := Zy (c / 16) (by omega : (0 : Int) < m)
 obtain ⟨a, ea⟩ : ∃ a : Nat, c / 16 % m = (a : Int) := ⟨(c / 16 % m).toNat, by omega⟩
 have ha : a < m := by omega
 refine run_seq (Qm (QP (a := c / 16) (b := m) (Qcz (a := c) (b := 16) (ra := ⟨.int c, true, []⟩) rfl rfl rfl rfl (by decide) (by decide)) rfl (rb := ⟨.int m, true, []⟩) rfl rfl (by omega)) ?_)
 rw [Qs, ea]
 refine run_seq (Qm (r := ⟨Qc [], true, []⟩) rfl ?_)
 rw [Qs]
 have r0 := Zw (c / 1024) (by decide : (5 : Int) ≠ 0)
 have r1 := Zy (c / 1024) (by decide : (0 : Int) < 5)
 obtain ⟨n2, en2⟩ : ∃ n2 : Nat, c / 1024 % 5 = (n2 : Int) := ⟨(c / 1024 % 5).toNat, by omega⟩
 refine QbC (P := λ ρ => ∃ p A j4 j8, Bk m σ p A /\ ρ = [some (.int c, true), some (.int m, true), some (QM m p, true), some (.int (spr σ m), true), j4, j5, some (.int a, true), some (Qc A, true), j8]) ?_ ?_
 ·refine QaT (toD := λ (k : Nat) => .int (k : Int)) (List.range n2) (λ i ρ => ∃ p A j4 j8, (Bk m σ p A /\ A.length <= i) /\ ρ = [some (.int c, true), some (.int m, true), some (QM m p, true), some (.int (spr σ m), true), j4, j5, some (.int a, true), some (Qc A, true), j8]) (Qdg (n := n2) ((QP (a := c / 1024) (b := 5) (Qcz (a := c) (b := 1024) (ra := ⟨.int c, true, []⟩) rfl rfl rfl rfl (by decide) (by decide)) rfl rfl rfl (by decide)).trans (by rw [en2])) rfl (by omega)) rfl ⟨σ, [], j4, none, ⟨⟨λ s hs => by simp at hs, λ k _ => by have := (hσb k).1; omega, λ k _ => by show σ k + 0 = σ k; omega, by simp⟩, Zj _⟩, rfl⟩ ?_ ?_
  ·rintro i i' ρ hi ⟨p, A, j4, j8, ⟨B, lA⟩, rfl⟩
   have hi' : i < n2 /\ i = i' := by
    obtain ⟨h1, h2⟩ := Zg.mp hi
    simp at h1 h2; exact ⟨h1, h2⟩
   obtain ⟨him, rfl⟩ := hi'
   refine ⟨_, rfl, ?_⟩
   have n0 := Zw (c / 8192 + (i : Int)) (by omega : (m : Int) - 1 ≠ 0)
   have n1 := Zy (c / 8192 + (i : Int)) (by omega : (0 : Int) < (m : Int) - 1)
   obtain ⟨j, ej⟩ : ∃ j : Nat, (c / 8192 + (i : Int)) % ((m : Int) - 1) = (j : Int) := ⟨((c / 8192 + (i : Int)) % ((m : Int) - 1)).toNat, by omega⟩
   have hj : j + 1 < m := by omega
   refine run_seq (Qm (QP (a := c / 8192 + (i : Int)) (b := (m : Int) - 1) (Q2 (a := c / 8192) (b := i) (Qcz (a := c) (b := 8192) (ra := ⟨.int c, true, []⟩) rfl rfl rfl rfl (by decide) (by decide)) rfl (rb := ⟨.int i, true, []⟩) rfl rfl) rfl (Qdu (a := m) (b := 1) (ra := ⟨.int m, true, []⟩) rfl rfl rfl rfl) rfl (by omega)) ?_)
   rw [Qs, ej]
   change Run _ [some (.int c, true), some (.int m, true), some (QM m p, true), some (.int (spr σ m), true), some (.int i, true), j5, some (.int a, true), some (Qc A, true), some (.int j, true)] _
   have ecut := QkL (fa := Qa 2) (lo := Qad (Qa 8)) (hi := Qad (Qu (Qa 8) (dC (.int 2)))) (ρ := [some (.int c, true), some (.int m, true), some (QM m p, true), some (.int (spr σ m), true), some (.int i, true), j5, some (.int a, true), some (Qc A, true), some (.int j, true)]) (xs := (List.range m).map λ i => D.int (p i)) (l := some (j : Int)) (h := some ((j : Int) + 2)) (ra := ⟨QM m p, true, [2]⟩) rfl rfl rfl rfl (Qi4 m p)
   rw [Qrx hj] at ecut
   have emin := Qqe (ns := [p j, p (j + 1)]) (m := if p (j + 1) < p j then p (j + 1) else p j) ecut rfl rfl
   refine run_seq (QC (b := decide (2 < (if p (j + 1) < p j then p (j + 1) else p j))) (Qp (Q0 (d := .bl (decide (2 < (if p (j + 1) < p j then p (j + 1) else p j)))) (rb := ⟨.int 2, true, []⟩) emin rfl rfl) rfl) (λ h => ?_) (λ h => Qi (Qi ⟨p, A, _, _, ⟨B, by omega⟩, rfl⟩)))
   have h2 : 2 < p j /\ 2 < p (j + 1) := by
    have := of_decide_eq_true h
    split at this <;> omega
   refine run_seq (Qha (m := m) (f := p) (i := j) (v := p j - 1) rfl rfl rfl (Qdu (a := p j) (b := 1) (Qg4 (m := m) (f := p) (i := j) (ra := ⟨QM m p, true, [2]⟩) rfl rfl (rb := ⟨.int j, true, []⟩) rfl rfl (by omega)) rfl rfl rfl) rfl (by omega) (by omega) ?_)
   rw [Zx]
   have ej1 : ∀ {ρ : En}, ρ[8]? = some (some (.int j, true)) -> Qu (Qa 8) (dC (.int 1)) ρ = some ⟨.int ((j + 1 : Nat) : Int), true, []⟩ := λ {ρ} h => (Q2 (a := j) (b := 1) (ra := ⟨.int j, true, []⟩) ((Qab h).trans rfl) rfl (Qek _ _) rfl).trans (by rw [show ((j + 1 : Nat) : Int) = (j : Int) + 1 by simp])
   refine run_seq (Qha (m := m) (f := up p j (p j - 1)) (i := ((j + 1 : Nat) : Int)) (v := p (j + 1) - 1) rfl (ej1 rfl) rfl (Qdu (a := p (j + 1)) (b := 1) ((Qg4 (m := m) (f := up p j (p j - 1)) (i := j + 1) (ra := ⟨QM m (up p j (p j - 1)), true, [2]⟩) rfl rfl (ej1 rfl) rfl hj).trans (by rw [QdA, if_neg (by omega)])) rfl rfl rfl) rfl (by omega) (by omega) ?_)
   rw [Zx]
   refine run_seq (Qe2 (xs := A.map pairD) (r := ⟨pairD ((j : Int) + 1, (j : Int)), true, []⟩) rfl rfl rfl (by simp; omega) (Qi (Qi ⟨up (up p j (p j - 1)) (j + 1) (p (j + 1) - 1), A ++ [((j : Int) + 1, (j : Int))], some (.int i, true), some (.int j, true), ⟨B.step hj h2.1 h2.2, by simp; omega⟩, ?_⟩)))
   unfold Qc
   rw [Zv]; rfl
  ·rintro ρ ⟨p, A, j4, j8, ⟨B, _⟩, rfl⟩
   exact ⟨p, A, j4, j8, B, rfl⟩
 rintro ρ ⟨p, A, j4, j8, B, rfl⟩
 refine QbC (P := λ ρ => ∃ R j4, Bf m p a A R m /\ ρ = [some (.int c, true), some (.int m, true), some (QM m p, true), some (.int (spr σ m), true), j4, j5, some (.int a, true), some (Qc R, true), j8]) ?_ ?_
 ·have lA : (A.length : Int) <= 40 := by
   have h1 := B.sum
   have h2 : 0 <= QF m p := by
    have := QgC (m := m) (f := λ _ => 0) (g := p) λ k hk => by have := B.two k hk; omega
    rw [Qcq] at this; exact this
   omega
  have pk : ∀ k, k < m -> p k <= 40 := λ k hk => by
   have h1 := B.deg k hk
   have h2 := (hσb k).2
   have h3 : 0 <= Qcn k A := by
    unfold Qcn
    generalize A = A'
    induction A' with
    | nil => simp
    | cons s A' ih =>
     have b1 := QhD k s.1
     have b2 := QhD k s.2
     rw [Zu, ZT]; omega
   omega
  refine QaT (toD := λ (k : Nat) => .int (k : Int)) (List.range m) (λ i ρ => ∃ R j4, (Bf m p a A R i /\ R.length <= 40 + 40 * i) /\ ρ = [some (.int c, true), some (.int m, true), some (QM m p, true), some (.int (spr σ m), true), j4, j5, some (.int a, true), some (Qc R, true), j8]) (Qdg (n := m) (r := ⟨.int m, true, []⟩) rfl rfl (by omega)) rfl ⟨A, j4, ⟨⟨λ s hs => .inl hs, λ k hk => by omega, λ k _ => by rw [if_neg (by omega)]; omega, by show (A.length : Int) = A.length + 0; omega⟩, by omega⟩, rfl⟩ ?_ ?_
  ·rintro i i' ρ hi ⟨R, j4, ⟨F, lR⟩, rfl⟩
   have hi' : i < m /\ i = i' := by
    obtain ⟨h1, h2⟩ := Zg.mp hi
    simp at h1 h2; exact ⟨h1, h2⟩
   obtain ⟨him, rfl⟩ := hi'
   refine ⟨_, rfl, ?_⟩
   have t2 := B.two i him
   have t4 := pk i him
   obtain ⟨n, en⟩ : ∃ n : Nat, p i - (if i = a then 1 else 0) = (n : Int) := ⟨(p i - (if i = a then 1 else 0)).toNat, by split <;> omega⟩
   have n1 : 1 <= n := by split at en <;> omega
   have n40 : n <= 40 := by split at en <;> omega
   have eint : dBf QiA (Qb (dOp gEq (Qa 4) (Qa 6)) Qd) [some (.int c, true), some (.int m, true), some (QM m p, true), some (.int (spr σ m), true), some (.int i, true), j5, some (.int a, true), some (Qc R, true), j8] = some ⟨.int (if i = a then 1 else 0), true, []⟩ := by
    unfold dBf
    rw [Qf (QaR (a := i) (b := a) (ra := ⟨.int i, true, []⟩) rfl rfl (rb := ⟨.int a, true, []⟩) rfl rfl) (QB _), Za]
    by_cases q : i = a
    ·rw [if_pos q, decide_eq_true (by omega)]; rfl
    ·rw [if_neg q, decide_eq_false (by omega)]; rfl
   have esub : dOp QbA (Ql (Qa 2) (Qa 4)) (dBf QiA (Qb (dOp gEq (Qa 4) (Qa 6)) Qd)) [some (.int c, true), some (.int m, true), some (QM m p, true), some (.int (spr σ m), true), some (.int i, true), j5, some (.int a, true), some (Qc R, true), j8] = some ⟨.int n, true, []⟩ := (Qdu (a := p i) (b := if i = a then 1 else 0) (Qg4 (m := m) (f := p) (i := i) (ra := ⟨QM m p, true, [2]⟩) rfl rfl (rb := ⟨.int i, true, []⟩) rfl rfl him) rfl eint rfl).trans (by rw [en])
   have erep := QlC (n := n) (s := ((m : Int), (i : Int))) (fa := QH (Qb (QI (Qb (Qa 1) (Qb (Qa 4) Qd))) Qd)) (ρ := [some (.int c, true), some (.int m, true), some (QM m p, true), some (.int (spr σ m), true), some (.int i, true), j5, some (.int a, true), some (Qc R, true), j8]) rfl esub rfl (by omega)
   refine run_seq (Qm (QgB (A := R) (B := List.replicate n ((m : Int), (i : Int))) (ra := ⟨Qc R, true, [7]⟩) rfl rfl erep rfl (by simp; omega)) (Qi ?_))
   rw [Qs]
   exact ⟨_, _, ⟨F.step him en n1, by simp; omega⟩, rfl⟩
  ·rintro ρ ⟨R, j4, ⟨F, _⟩, rfl⟩
   rw [ZF] at *
   exact ⟨R, j4, F, rfl⟩
 rintro ρ ⟨R, j4, F, rfl⟩
 obtain ⟨⟨len, hok⟩, hok2⟩ := F.fin B ha m0 m8 hsum
 have elane : ∀ {ρ : En}, ρ[1]? = some (some (.int m, true)) -> ρ[6]? = some (some (.int a, true)) -> QH (Qb (QI (Qb (Qa 6) (Qb (Qa 1) Qd))) Qd) ρ = some ⟨Qc [((a : Int), (m : Int))], true, []⟩ := λ {ρ} h1 h6 => (QeX (Qf (Qdq (Qf (r := ⟨.int a, true, []⟩) ((Qab h6).trans rfl) (Qf (r := ⟨.int m, true, []⟩) ((Qab h1).trans rfl) (QB _))) (by simp)) (QB _)) (by simp)).trans rfl
 refine Qy (QC (b := decide (spr σ m <= 300)) (Qp (Q0 (d := .bl (decide (spr σ m <= 300))) (ra := ⟨.int (spr σ m), true, []⟩) (rb := ⟨.int 300, true, []⟩) rfl rfl rfl) rfl) (λ h => ?_) (λ h => Qi ?_))
 ·have N := hok.mpr (of_decide_eq_true h)
  refine Qy (Qa9 (Qz (Qf (Qz (Qf (r := ⟨.int m, true, []⟩) rfl (Qf (r := ⟨Qc R, true, [7]⟩) rfl (Qf (elane rfl rfl) (QB _)))) (hm m R [((a : Int), (m : Int))] _ (.inl rfl) (by simp; omega) N) rfl) (Qf (r := ⟨.int m, true, []⟩) rfl (Qf (r := ⟨Qc R, true, [7]⟩) rfl (Qf (elane rfl rfl) (QB _))))) (hi5 m R [((a : Int), (m : Int))]) rfl) ⟨rfl, rfl⟩)
 have hN : ¬ Qc3 m (R.map nrm) [((a : Int), (m : Int))] := λ N => of_decide_eq_false h (hok.mp N)
 refine Qy (QC (b := false) (Qbc (a := false) (b := false) (QaP (b := true) (Qp (b := true) (Qz (Qf (r := ⟨.int m, true, []⟩) rfl (Qf (r := ⟨Qc R, true, [7]⟩) rfl (Qf (elane rfl rfl) (QB _)))) (hr m R [((a : Int), (m : Int))] (by simp; omega) hN) rfl) rfl)) (QaP (b := true) (Qp (b := true) (Qz (Qf (r := ⟨.int m, true, []⟩) rfl (Qf (r := ⟨Qc R, true, [7]⟩) rfl (Qf (elane rfl rfl) (QB _)))) (hb m R [((a : Int), (m : Int))] (by simp; omega) hN) rfl) rfl))) (λ h => by cases h) (λ _ => Qi ?_))
 have eR : Qu (Qa 7) (QH (Qb (QI (Qb (Qa 1) (Qb (Qa 6) Qd))) Qd)) [some (.int c, true), some (.int m, true), some (QM m p, true), some (.int (spr σ m), true), j4, j5, some (.int a, true), some (Qc R, true), j8] = some ⟨Qc (R ++ [((m : Int), (a : Int))]), true, []⟩ := QgB (A := R) (B := [((m : Int), (a : Int))]) (ra := ⟨Qc R, true, [7]⟩) (rb := ⟨Qc [((m : Int), (a : Int))], true, []⟩) rfl rfl rfl rfl (by simp; omega)
 exact Qy (Qa9 (Qz (Qf (Qz (dfl := [.non]) (Qf (r := ⟨.int m, true, []⟩) rfl (Qf eR (QB _))) (hm m (R ++ [((m : Int), (a : Int))]) [] .non (.inr ⟨rfl, rfl⟩) (by simp; omega) hok2) rfl) (Qf (r := ⟨.int m, true, []⟩) rfl (Qf eR (Qf (r := ⟨Qc [], true, []⟩) rfl (QB _))))) (hi5 m (R ++ [((m : Int), (a : Int))]) []) rfl) ⟨rfl, rfl⟩)
theorem Qe0 {ρ : En} {i : Nat} {d : D} {b : Bool} (h : ρ[i]? = some (some (d, b))) (hf : d.flat = false) : ∃ M, Qa i ρ = some ⟨d, b, M⟩ := by
 unfold Qa
 rw [h]
 cases b with
 | true => exact ⟨[i], by simp [hf]⟩
 | false => exact ⟨[], by simp [hf]⟩
theorem QnJ {x : Nat} {A B : List (Int × Int)} {s : Int × Int} {fa : DE} {ρ : En} {Q : Out -> Prop} (hx : ρ[x]? = some (some (.lst [Qc A, Qc B], true))) (ha : fa ρ = some ⟨pairD s, true, []⟩) (hl : A.length < 1000) (q : Q (.nx (ρ.set x (some (.lst [Qc (A ++ [s]), Qc B], true))))) : Run (QbQ x (QbY Qap (dC (.int 0))) fa) ρ Q := by
 refine ⟨_, ?_, q⟩
 unfold QbQ
 rw [hx]
 have hp : QbY Qap (dC (.int 0)) ρ = some [0] := rfl
 have hd : Qbv (.lst [.lst (A.map pairD), Qc B]) [0] = some (.lst (A.map pairD)) := rfl
 have hu : ∀ d, QaS [0] (.lst [.lst (A.map pairD), Qc B]) d = .lst [d, Qc B] := λ d => rfl
 have hn : (HS.R.mk (pairD s) true []).norm = ⟨pairD s, true, []⟩ := rfl
 have e : Qc (A ++ [s]) = .lst (A.map pairD ++ [pairD s]) := by unfold Qc; rw [Zv]; rfl
 have e0 : Qc A = .lst (A.map pairD) := rfl
 rw [e]
 simp only [hp, Za, ha, e0, hd, Qfp, hn, Qdw, Zh, hu]
 rw [if_pos (by simp; omega)]
 rfl
theorem Qnf {x : Nat} {A B : List (Int × Int)} {s : Int × Int} {fa : DE} {ρ : En} {Q : Out -> Prop} (hx : ρ[x]? = some (some (.lst [Qc A, Qc B], true))) (ha : fa ρ = some ⟨pairD s, true, []⟩) (hl : B.length < 1000) (q : Q (.nx (ρ.set x (some (.lst [Qc A, Qc (B ++ [s])], true))))) : Run (QbQ x (QbY Qap (dC (.int 1))) fa) ρ Q := by
 refine ⟨_, ?_, q⟩
 unfold QbQ
 rw [hx]
 have hp : QbY Qap (dC (.int 1)) ρ = some [1] := rfl
 have hd : Qbv (.lst [Qc A, .lst (B.map pairD)]) [1] = some (.lst (B.map pairD)) := rfl
 have hu : ∀ d, QaS [1] (.lst [Qc A, .lst (B.map pairD)]) d = .lst [Qc A, d] := λ d => rfl
 have hn : (HS.R.mk (pairD s) true []).norm = ⟨pairD s, true, []⟩ := rfl
 have e : Qc (B ++ [s]) = .lst (B.map pairD ++ [pairD s]) := by unfold Qc; rw [Zv]; rfl
 have e0 : Qc B = .lst (B.map pairD) := rfl
 rw [e]
 simp only [hp, Za, ha, e0, hd, Qfp, hn, Qdw, Zh, hu]
 rw [if_pos (by simp; omega)]
 rfl
theorem QmY {x : Nat} {m : Int} {A B : List (Int × Int)} {s : Int × Int} {fa : DE} {ρ : En} {Q : Out -> Prop} (hx : ρ[x]? = some (some (Qr m A B, true))) (ha : fa ρ = some ⟨pairD s, true, []⟩) (hl : A.length < 1000) (q : Q (.nx (ρ.set x (some (Qr m (A ++ [s]) B, true))))) : Run (QbQ x (QbY Qap (dC (.int 1))) fa) ρ Q := by
 refine ⟨_, ?_, q⟩
 unfold QbQ
 rw [hx]
 have hp : QbY Qap (dC (.int 1)) ρ = some [1] := rfl
 have hd : Qbv (.tup [.int m, .lst (A.map pairD), Qc B]) [1] = some (.lst (A.map pairD)) := rfl
 have hu : ∀ d, QaS [1] (.tup [.int m, .lst (A.map pairD), Qc B]) d = .tup [.int m, d, Qc B] := λ d => rfl
 have hn : (HS.R.mk (pairD s) true []).norm = ⟨pairD s, true, []⟩ := rfl
 have e : Qr m (A ++ [s]) B = .tup [.int m, .lst (A.map pairD ++ [pairD s]), Qc B] := by unfold Qr Qc; rw [Zv]; rfl
 have e0 : Qr m A B = .tup [.int m, .lst (A.map pairD), Qc B] := rfl
 rw [e]
 simp only [hp, Za, ha, e0, hd, Qfp, hn, Qdw, Zh, hu]
 rw [if_pos (by simp; omega)]
 rfl
theorem Qm3 {g1 g2 : DT} {ρ : En} (h : g1 ρ = some false) : Qc6 g1 g2 ρ = some false := by unfold Qc6; rw [h]; rfl
noncomputable def Qje (QU : Den) (Qcc : Den) (Qa5 : Den) (Qaf : Den) (Qac : Den) (Qay : Den) (QG : Den) (Qak : Den) (Qam : Den) : DS := (Qe (Qx 1 (Qu (dC (.int 1)) (dOp QK (Qn 2 QU [] (Qb (Qa 0) (Qb (dC (.int 0)) Qd))) (dC (.int 8))))) (Qe (Qx 2 (Qn 2 Qcc [] (Qb (Qa 0) (Qb (Qa 1) Qd)))) (Qe (Qx 3 (Qaa (QR (Qa 2)) (.tp [1, 2, 3]) [none, none, none, none] (Qbg (Qj (Qa 3))) (QI (Qb (Qa 1) (Qb (Qa 2) Qd))))) (Qe (Qx 4 (Qaa (QR (Qa 2)) (.tp [1, 2, 3]) [none, none, none, none] (Qj (Qa 3)) (QI (Qb (Qa 1) (Qb (Qa 2) Qd))))) (Qe (Qx 5 (Qn 2 QU [] (Qb (Qa 0) (Qb (dC (.int 34)) Qd)))) (Qe (sIf (Qj (dOp gLt (dOp QK (Qa 5) (dC (.int 11))) (dC (.int 10)))) (Qe (Qx 6 (Qn 4 Qa5 [] (Qb (Qa 1) (Qb (Qa 3) (Qb (Qa 4) (Qb (Qa 5) Qd)))))) (Qe (sIf (bOr (Qbg (Qj (Qn 3 Qaf [] (Qb (Ql (Qa 6) (dC (.int 0))) (Qb (Ql (Qa 6) (dC (.int 1))) (Qb (Ql (Qa 6) (dC (.int 2))) Qd)))))) (Qbg (Qj (Qn 3 Qac [] (Qb (Ql (Qa 6) (dC (.int 0))) (Qb (Ql (Qa 6) (dC (.int 1))) (Qb (Ql (Qa 6) (dC (.int 2))) Qd))))))) (Qe (QO (dC (.bl false))) Qg) Qg) Qg)) Qg) (Qe (sIf (Qbg (Qj (Qn 1 Qay [] (Qb (dOp QK (Qai (Qn 2 QU [] (Qb (Qa 0) (Qb (dC (.int 35)) Qd))) (dC (.int 69621))) (dC (.int 2147483629))) Qd)))) (Qe (QO (dC (.bl false))) Qg) Qg) (Qe (Qx 7 (QH (Qb (dList (Qb (Qa 3) Qd)) (Qb (dList (Qb (Qa 4) Qd)) Qd)))) (Qe (Qx 8 (Qn 3 QG [] (Qb (Qa 1) (Qb (Ql (Qa 7) (dC (.int 0))) (Qb (Ql (Qa 7) (dC (.int 1))) Qd))))) (Qe (sIf (bOr (Qbg (Qj (Qn 4 Qak [] (Qb (Qa 8) (Qb (Qa 1) (Qb (Qa 3) (Qb (Qa 4) Qd))))))) (Qj (dOp gNe (Qa 7) (QH (Qb (Qa 3) (Qb (Qa 4) Qd)))))) (Qe (QO (dC (.bl false))) Qg) Qg) (Qe (QbQ 7 (QbY Qap (dC (.int 0))) (QI (Qb (dC (.int 0)) (Qb (Qa 1) Qd)))) (Qe (QbQ 7 (QbY Qap (dC (.int 1))) (QI (Qb (dC (.int 0)) (Qb (Qa 1) Qd)))) (Qe (sIf (Qbg (Qj (Qn 4 Qak [] (Qb (Qa 8) (Qb (Qa 1) (Qb (Qa 3) (Qb (Qa 4) Qd))))))) (Qe (QO (dC (.bl false))) Qg) Qg) (Qe (sIf (Qc6 (Qj (dOp gEq (Qa 4) (QH Qd))) (Qbg (Qj (Qn 4 Qak [] (Qb (Qn 3 QG [.non] (Qb (Qa 1) (Qb (Qa 3) Qd))) (Qb (Qa 1) (Qb (Qa 3) (Qb (QH Qd) Qd)))))))) (Qe (QO (dC (.bl false))) Qg) Qg) (Qe (sIf (Qc6 (Qj (dOp gEq (Qa 4) (QH Qd))) (Qbg (Qj (Qn 4 Qak [] (Qb (Qn 3 QG [] (Qb (Qa 1) (Qb (Qa 3) (Qb (dC .non) Qd)))) (Qb (Qa 1) (Qb (Qa 3) (Qb (QH Qd) Qd)))))))) (Qe (QO (dC (.bl false))) Qg) Qg) (Qe (QbQ 8 (QbY Qap (dC (.int 1))) (QI (Qb (dC (.int 0)) (Qb (Qa 1) Qd)))) (Qe (QO (Qb2 (Qn 4 Qak [] (Qb (Qn 3 QG [] (Qb (Qa 1) (Qb (Qa 3) (Qb (Qa 4) Qd)))) (Qb (Qa 1) (Qb (Qa 3) (Qb (Qa 4) Qd))))) (Qn 2 Qam [] (Qb (Ql (Qa 8) (dC (.int 2))) (Qb (Qa 4) Qd))))) Qg)))))))))))))))))
set_option maxHeartbeats 0 in
theorem Qsy {dc dw dsp dr db dbk dm di dp : Den} (hc : QhB dc) (hw : Qkx dw) (hsp : Qip dsp) (hr : QdE dr) (hb : QdE db) (hbk : Qid dbk) (hm : QhX dm) (hi : Qjo di) (hp : Qfv dp) (ns : List Int) (hl : ns.length <= 63) : Qw 9 (Qje dc dw dsp dr db dbk dm di dp) [.lst (ns.map .int)] = some (.bl true, true) := by
 have cell : ∀ (ρ : En) (k : Nat), ρ[0]? = some (some (.lst (ns.map .int), false)) -> Qn 2 dc [] (Qb (Qa 0) (Qb (dC (.int k)) Qd)) ρ = some ⟨.int (ns.getD k 0), true, []⟩ := λ ρ k h0 => Qz (Qf (Qab h0) (Qf (Qek _ _) (QB _))) (hc ns k) rfl
 have z1 := Zw (ns.getD 0 0) (by decide : (8 : Int) ≠ 0)
 have z2 := Zy (ns.getD 0 0) (by decide : (0 : Int) < 8)
 obtain ⟨m, em⟩ : ∃ m : Nat, 1 + ns.getD 0 0 % 8 = (m : Int) := ⟨(1 + ns.getD 0 0 % 8).toNat, by omega⟩
 have m0 : 0 < m := by omega
 have m8 : m <= 8 := by omega
 obtain ⟨W, fr, eW, hW⟩ := hw ns m hl m0 m8
 have hok := hW.ok m0 m8
 obtain ⟨R0, hR0⟩ : ∃ R0, R0 = (W.filter λ w => !w.2.2).map QdN := ⟨_, rfl⟩
 have eR : R0.map nrm = Qbp W := by rw [hR0, Zar]; rfl
 obtain ⟨L0, hL0⟩ : ∃ L0, L0 = Qat W := ⟨_, rfl⟩
 rw [← eR, ← hL0] at hok
 have lRL : R0.length + L0.length <= 40 := by
  have := hok.way.few
  rw [Zh] at this
  exact this
 have gR : ∀ s ∈ R0, Good m s := λ s hs => by
  rw [hR0] at hs
  obtain ⟨w, hw', rfl⟩ := ZE.mp hs
  exact (hW.good w (ZX.mp hw').1).1
 have gL : ∀ s ∈ L0, Good m s := λ s hs => by
  rw [hL0] at hs
  exact (Qb0 hW.good s hs).1
 refine Qbf ?_
 refine run_seq (Qm (Q2 (a := 1) (b := ns.getD 0 0 % 8) rfl rfl (QP (a := ns.getD 0 0) (b := 8) (cell _ 0 rfl) rfl rfl rfl (by decide)) rfl) ?_)
 rw [Qs, em]
 refine run_seq (Qm (QjM (r := ⟨[.lst (ns.map .int), .int m], false, []⟩) rfl eW rfl rfl) ?_)
 rw [Qnz rfl]
 change Run _ [some (.lst (ns.map .int), false), some (.int m, true), some (QA W, fr), none, none, none, none, none, none] _
 obtain ⟨M2, v2⟩ := Qe0 (ρ := [some (.lst (ns.map .int), false), some (.int m, true), some (QA W, fr), none, none, none, none, none, none]) (i := 2) (d := QA W) (b := fr) rfl rfl
 have er : Qaa (QR (Qa 2)) (.tp [1, 2, 3]) [none, none, none, none] (Qbg (Qj (Qa 3))) (QI (Qb (Qa 1) (Qb (Qa 2) Qd))) [some (.lst (ns.map .int), false), some (.int m, true), some (QA W, fr), none, none, none, none, none, none] = some ⟨Qc R0, true, []⟩ := by
  rw [Qfg (toD := QbU) (keep := λ w => !w.2.2) (out := λ w => pairD (QdN w)) W (Qaz v2 rfl) rfl λ w _ => ⟨[none, some (.int w.1, true), some (.int w.2.1, true), some (.bl w.2.2, true)], rfl, QaP (Qp (b := w.2.2) rfl rfl), λ _ => ⟨⟨pairD (QdN w), true, []⟩, rfl, rfl, rfl⟩⟩, hR0]
  unfold Qc
  rw [Zar]; rfl
 refine run_seq (Qm er ?_)
 rw [Qs]
 change Run _ [some (.lst (ns.map .int), false), some (.int m, true), some (QA W, fr), some (Qc R0, true), none, none, none, none, none] _
 obtain ⟨M3, v3⟩ := Qe0 (ρ := [some (.lst (ns.map .int), false), some (.int m, true), some (QA W, fr), some (Qc R0, true), none, none, none, none, none]) (i := 2) (d := QA W) (b := fr) rfl rfl
 refine run_seq (Qm ((Qn9 (W := W) v3 rfl).trans (by rw [← hL0])) ?_)
 rw [Qs]
 refine run_seq (Qm (cell _ 34 rfl) ?_)
 rw [Qs]
 generalize ns.getD 34 0 = c
 change Run _ [some (.lst (ns.map .int), false), some (.int m, true), some (QA W, fr), some (Qc R0, true), some (Qc L0, true), some (.int c, true), none, none, none] _
 refine QbC (P := λ ρ => ∃ b j6, ρ = [some (.lst (ns.map .int), false), some (.int m, true), some (QA W, fr), some (Qc R0, b), some (Qc L0, b), some (.int c, true), j6, none, none]) ?_ ?_
 ·refine QC (b := decide (c % 11 < 10)) (Qp (Q0 (d := .bl (decide (c % 11 < 10))) (rb := ⟨.int 10, true, []⟩) (QP (a := c) (b := 11) (ra := ⟨.int c, true, []⟩) rfl rfl rfl rfl (by decide)) rfl rfl) rfl) (λ h => ?_) (λ _ => Qi ⟨true, none, rfl⟩)
  obtain ⟨m', R', L', fr', es, ls, hN⟩ := hsp m R0 L0 c m0 m8 gR gL lRL (of_decide_eq_true h)
  have e6 : ∃ b, Run (Qx 6 (Qn 4 dsp [] (Qb (Qa 1) (Qb (Qa 3) (Qb (Qa 4) (Qb (Qa 5) Qd)))))) [some (.lst (ns.map .int), false), some (.int m, true), some (QA W, fr), some (Qc R0, true), some (Qc L0, true), some (.int c, true), none, none, none] (Nx λ ρ => ρ = [some (.lst (ns.map .int), false), some (.int m, true), some (QA W, fr), some (Qc R0, b), some (Qc L0, b), some (.int c, true), some (Qr m' R' L', fr'), none, none]) := by
   have ec : Qn 4 dsp [] (Qb (Qa 1) (Qb (Qa 3) (Qb (Qa 4) (Qb (Qa 5) Qd)))) [some (.lst (ns.map .int), false), some (.int m, true), some (QA W, fr), some (Qc R0, true), some (Qc L0, true), some (.int c, true), none, none, none] = some (if fr' = true then ⟨Qr m' R' L', true, []⟩ else R.norm ⟨Qr m' R' L', false, [3, 4]⟩) := by
    unfold Qn
    rw [show Qb (Qa 1) (Qb (Qa 3) (Qb (Qa 4) (Qb (Qa 5) Qd))) [some (.lst (ns.map .int), false), some (.int m, true), some (QA W, fr), some (Qc R0, true), some (Qc L0, true), some (.int c, true), none, none, none] = some ⟨[.int m, Qc R0, Qc L0, .int c], true, [3, 4]⟩ from rfl, Za, if_pos (show [D.int m, Qc R0, Qc L0, D.int c].length + ([] : List D).length = 4 from rfl)]
    show Option.map _ (dsp [.int m, Qc R0, Qc L0, .int c]) = _
    rw [es]; rfl
   cases fr' with
   | true => exact ⟨true, Qm ec rfl⟩
   | false => exact ⟨false, Qm ec rfl⟩
  obtain ⟨b, e6⟩ := e6
  refine run_seq (e6.nx λ ρ hρ => ?_)
  subst hρ
  obtain ⟨M6, v6⟩ := Qe0 (ρ := [some (.lst (ns.map .int), false), some (.int m, true), some (QA W, fr), some (Qc R0, b), some (Qc L0, b), some (.int c, true), some (Qr m' R' L', fr'), none, none]) (i := 6) (d := Qr m' R' L') (b := fr') rfl rfl
  obtain ⟨i0, i1, i2⟩ := QcU (m := m') (R := R') (L := L') v6 rfl
  refine run_seq (QC (b := false) (Qbc (a := false) (b := false) (QaP (b := true) (Qp (b := true) (Qz (Qf i0 (Qf i1 (Qf i2 (QB _)))) (hr m' R' L' ls hN) rfl) rfl)) (QaP (b := true) (Qp (b := true) (Qz (Qf i0 (Qf i1 (Qf i2 (QB _)))) (hb m' R' L' ls hN) rfl) rfl))) (λ h => by cases h) (λ _ => Qi (Qi ⟨b, _, rfl⟩)))
 rintro ρ ⟨b, j6, rfl⟩
 have c0 := Zw (ns.getD 35 0 * 69621) (by decide : (2147483629 : Int) ≠ 0)
 refine Qy (QC (b := false) (QaP (b := true) (Qp (b := true) (Qz (Qf (QP (a := ns.getD 35 0 * 69621) (b := 2147483629) (QbJ (a := ns.getD 35 0) (b := 69621) (cell _ 35 rfl) rfl rfl rfl (QcV (by decide))) rfl rfl rfl (by decide)) (QB _)) (hbk _ c0) rfl) rfl)) (λ h => by cases h) (λ _ => Qi ?_))
 have rows : ∀ (ρ : En), ρ[3]? = some (some (Qc R0, b)) -> ρ[4]? = some (some (Qc L0, b)) -> ∃ M3 M4, Qa 3 ρ = some ⟨Qc R0, b, M3⟩ /\ Qa 4 ρ = some ⟨Qc L0, b, M4⟩ := λ ρ h3 h4 => by
  obtain ⟨M3, e3⟩ := Qe0 h3 rfl
  obtain ⟨M4, e4⟩ := Qe0 h4 rfl
  exact ⟨M3, M4, e3, e4⟩
 have made : dm [.int m, Qc R0, Qc L0] = some (Qr m (R0.map nrm) L0, true) := hm m R0 L0 _ (.inl rfl) (by omega) hok
 have isd := hi m R0 L0
 generalize hN1 : R0.map nrm = R1 at made isd
 have lR1 : R1.length = R0.length := by rw [← hN1, Zh]
 obtain ⟨P3, P4, x3, x4⟩ := rows [some (.lst (ns.map .int), false), some (.int m, true), some (QA W, fr), some (Qc R0, b), some (Qc L0, b), some (.int c, true), j6, none, none] rfl rfl
 refine run_seq (Qm (r := ⟨.lst [Qc R0, Qc L0], true, []⟩) ((QeX (Qf (Qg2 (A := R0) (Qf x3 (QB _)) rfl rfl) (Qf (Qg2 (A := L0) (Qf x4 (QB _)) rfl rfl) (QB _))) (by simp)).trans rfl) ?_)
 rw [Qs]
 refine run_seq (Qm (Qz (r := ⟨[.int m, Qc R0, Qc L0], true, [7, 7]⟩) rfl made rfl) ?_)
 rw [Qs]
 change Run _ [some (.lst (ns.map .int), false), some (.int m, true), some (QA W, fr), some (Qc R0, b), some (Qc L0, b), some (.int c, true), j6, some (.lst [Qc R0, Qc L0], true), some (Qr m R1 L0, true)] _
 obtain ⟨P3, P4, x3, x4⟩ := rows [some (.lst (ns.map .int), false), some (.int m, true), some (QA W, fr), some (Qc R0, b), some (Qc L0, b), some (.int c, true), j6, some (.lst [Qc R0, Qc L0], true), some (Qr m R1 L0, true)] rfl rfl
 have sH : (D.lst [Qc R0, Qc L0]).sim 8 = true := by
  simp only [D.sim, List.all_cons, List.all_nil, Bool.and_true, Zf]
  exact ⟨Qge 5 R0, Qge 5 L0⟩
 refine Qy (QC (b := false) (Qbc (a := false) (b := false) (QaP (b := true) (Qp (b := true) (Qz (Qf (r := ⟨Qr m R1 L0, true, [8]⟩) rfl (Qf (r := ⟨.int m, true, []⟩) rfl (Qf x3 (Qf x4 (QB _))))) isd rfl) rfl)) (Qp (b := false) (QmF (d := .lst [Qc R0, Qc L0]) (ra := ⟨.lst [Qc R0, Qc L0], true, [7]⟩) rfl rfl (QeX (Qf x3 (Qf x4 (QB _))) (by simp)) rfl sH) rfl)) (λ h => by cases h) (λ _ => Qi ?_))
 refine run_seq (QnJ (A := R0) (B := L0) (s := ((0 : Int), (m : Int))) rfl rfl (by omega) ?_)
 refine run_seq (Qnf (A := R0 ++ [((0 : Int), (m : Int))]) (B := L0) (s := ((0 : Int), (m : Int))) rfl rfl (by omega) ?_)
 change Run _ [some (.lst (ns.map .int), false), some (.int m, true), some (QA W, fr), some (Qc R0, b), some (Qc L0, b), some (.int c, true), j6, some (D.lst [Qc (R0 ++ [((0 : Int), (m : Int))]), Qc (L0 ++ [((0 : Int), (m : Int))])], true), some (Qr m R1 L0, true)] _
 generalize hH : D.lst [Qc (R0 ++ [((0 : Int), (m : Int))]), Qc (L0 ++ [((0 : Int), (m : Int))])] = H7
 obtain ⟨P3, P4, x3, x4⟩ := rows [some (.lst (ns.map .int), false), some (.int m, true), some (QA W, fr), some (Qc R0, b), some (Qc L0, b), some (.int c, true), j6, some (H7, true), some (Qr m R1 L0, true)] rfl rfl
 refine Qy (QC (b := false) (QaP (b := true) (Qp (b := true) (Qz (Qf (r := ⟨Qr m R1 L0, true, [8]⟩) rfl (Qf (r := ⟨.int m, true, []⟩) rfl (Qf x3 (Qf x4 (QB _))))) isd rfl) rfl)) (λ h => by cases h) (λ _ => Qi ?_))
 have enil : Qj (dOp gEq (Qa 4) (QH Qd)) [some (.lst (ns.map .int), false), some (.int m, true), some (QA W, fr), some (Qc R0, b), some (Qc L0, b), some (.int c, true), j6, some (H7, true), some (Qr m R1 L0, true)] = some L0.isEmpty := by
  refine Qp (Q0 (d := .bl L0.isEmpty) (rb := ⟨.lst [], true, []⟩) x4 rfl ?_) rfl
  show (if (Qc L0).sim 8 && (D.lst []).sim 8 then some (D.bl (deq (Qc L0) (.lst []))) else none) = _
  rw [Qge 6 L0, show (D.lst []).sim 8 = true from rfl, show deq (Qc L0) (.lst []) = (L0.map pairD).isEmpty from QrD _]
  cases L0 <;> rfl
 have plain : L0 = [] -> ∀ l, Qor [] l -> dm [.int m, Qc R0, l] = some (Qr m R1 [], true) /\ di [Qr m R1 [], .int m, Qc R0, Qc []] = some (.bl true, true) := λ e l hl' => by
  have h1 := hm m R0 [] l hl' (by simp; omega) (by rw [← e]; exact hok)
  have h2 := hi m R0 []
  rw [hN1] at h1 h2
  exact ⟨h1, h2⟩
 refine Qy (QC (b := false) ?_ (λ h => by cases h) (λ _ => Qi ?_))
 ·by_cases e : L0 = []
  ·obtain ⟨h1, h2⟩ := plain e .non (.inr ⟨rfl, rfl⟩)
   exact (Qgv (a := L0.isEmpty) (b := false) enil (QaP (b := true) (Qp (b := true) (Qz (Qf (Qz (dfl := [.non]) (Qf (r := ⟨.int m, true, []⟩) rfl (Qf x3 (QB _))) h1 rfl) (Qf (r := ⟨.int m, true, []⟩) rfl (Qf x3 (Qf (r := ⟨Qc [], true, []⟩) rfl (QB _))))) h2 rfl) rfl))).trans (by rw [ZbD])
  ·exact Qm3 (enil.trans (by cases L0 with | nil => exact absurd rfl e | cons a l => rfl))
 refine Qy (QC (b := false) ?_ (λ h => by cases h) (λ _ => Qi ?_))
 ·by_cases e : L0 = []
  ·obtain ⟨h1, h2⟩ := plain e .non (.inr ⟨rfl, rfl⟩)
   exact (Qgv (a := L0.isEmpty) (b := false) enil (QaP (b := true) (Qp (b := true) (Qz (Qf (Qz (Qf (r := ⟨.int m, true, []⟩) rfl (Qf x3 (Qf (r := ⟨.non, true, []⟩) rfl (QB _)))) h1 rfl) (Qf (r := ⟨.int m, true, []⟩) rfl (Qf x3 (Qf (r := ⟨Qc [], true, []⟩) rfl (QB _))))) h2 rfl) rfl))).trans (by rw [ZbD])
  ·exact Qm3 (enil.trans (by cases L0 with | nil => exact absurd rfl e | cons a l => rfl))
 refine run_seq (QmY (m := m) (A := R1) (B := L0) (s := ((0 : Int), (m : Int))) rfl rfl (by omega) ?_)
 change Run _ [some (.lst (ns.map .int), false), some (.int m, true), some (QA W, fr), some (Qc R0, b), some (Qc L0, b), some (.int c, true), j6, some (H7, true), some (Qr m (R1 ++ [((0 : Int), (m : Int))]) L0, true)] _
 obtain ⟨P3, P4, x3, x4⟩ := rows [some (.lst (ns.map .int), false), some (.int m, true), some (QA W, fr), some (Qc R0, b), some (Qc L0, b), some (.int c, true), j6, some (H7, true), some (Qr m (R1 ++ [((0 : Int), (m : Int))]) L0, true)] rfl rfl
 have i2 := (QcU (fa := Qa 8) (ρ := [some (.lst (ns.map .int), false), some (.int m, true), some (QA W, fr), some (Qc R0, b), some (Qc L0, b), some (.int c, true), j6, some (H7, true), some (Qr m (R1 ++ [((0 : Int), (m : Int))]) L0, true)]) (m := m) (R := R1 ++ [((0 : Int), (m : Int))]) (L := L0) (r := ⟨Qr m (R1 ++ [((0 : Int), (m : Int))]) L0, true, [8]⟩) rfl rfl).2.2
 exact QaG (Qgh (a := true) (b := true) (Qz (Qf (Qz (Qf (r := ⟨.int m, true, []⟩) rfl (Qf x3 (Qf x4 (QB _)))) made rfl) (Qf (r := ⟨.int m, true, []⟩) rfl (Qf x3 (Qf x4 (QB _))))) isd rfl) (Qz (Qf i2 (Qf x4 (QB _))) (hp L0) rfl)) ⟨rfl, rfl⟩
end HS
theorem HS.some_of {α : Type} {x : Option α} {d : α} (h : x.isSome = true) : x = some (x.getD d) := by cases x with | none => cases h | some a => rfl
namespace Law
open PySem L2 HS
noncomputable section
def top (i : Nat) : Stmt := PySem.Challenge.pw_heapstill_k05_a_net_made.main.body.getD i (.Pass ⟨0, 0, 0, 0⟩)
abbrev cst : List (Str × Int) := [("MOST_PLACES", 8), ("MOST_WAYS", 40), ("MOST_SPANS", 300)]
abbrev Sc (s : Stmt) (P : List Str) : Prop := Qa6 (namesOf (Qh s)) P (Qh s)
theorem scM {s : Stmt} {P : List Str} (h1 : (Qh s).kind = .function) (h2 : (Qh s).isCoroutine = false) (h3 : (Qh s).isGenerator = false) (h4 : (namesOf (Qh s)).Nodup /\ (namesOf (Qh s)).take P.length = P /\ (∀ x ∈ P, (Qh s).names.lookup x = some .local ∨ (Qh s).names.lookup x = some .cell) /\ ∀ y ∈ (Qh s).names, y.2 ≠ .free) : Sc s P := ⟨h1, h2, h3, h4.1, h4.2.1, h4.2.2.1, h4.2.2.2⟩
noncomputable abbrev Cp (s : Stmt) (Γ : List (Str × FnR)) : Option DS := QaD 60 (Qc1 s Γ cst) (QZ s)
noncomputable abbrev Dn (s : Stmt) (g : DS) : Den := Qw (namesOf (Qh s)).length g
noncomputable abbrev Gc (x : Str) (n : Nat) (d : Den) (Γ : List (Str × FnR)) : List (Str × FnR) := (x, ⟨n, [], d⟩) :: Γ
noncomputable abbrev cls : List Str := ["NoNet"]
noncomputable abbrev QuU : List (Str × List (Str × Bool)) := [("NoNet", [("HeapError", true), ("NoNet", true), ("ValueError", true), ("NoRow", false), ("NoHeap", false), ("NoText", false), ("TooMany", false)])]
noncomputable abbrev sub := QpY QuU
noncomputable abbrev CpT (s : Stmt) (Γ : List (Str × FnR)) (Γx : List (Str × (Nat × (List D -> Option Str)))) (hΓ : List (Str × FnR)) : Option DS := QaD 60 (thT 60 s Γ cst ⟨Γx, cls⟩ sub hΓ) (QZ s)
noncomputable abbrev CpX (s : Stmt) (Γ : List (Str × FnR)) (Γx : List (Str × (Nat × (List D -> Option Str)))) : Option DX := Qcy 60 (Qc1 s Γ cst) ⟨Γx, cls⟩ (QZ s)
abbrev Qd5 := top 8
theorem QoC : Sc Qd5 ["roads", "lanes"] := scM rfl rfl rfl (by decide +kernel)
theorem QrF : QL "steps" Qd5 ["roads", "lanes"] := λ | _, _, _, _, _, _, [_, _], _ => rfl
def Qln := (Cp Qd5 []).getD Qt
theorem QqY : Cp Qd5 [] = some Qln := some_of (by decide +kernel)
abbrev QbM := Dn Qd5 Qln
abbrev Qh8 := Gc "steps" 2 QbM []
abbrev QbT := top 9
theorem Qjl : Sc QbT ["net"] := scM rfl rfl rfl (by decide +kernel)
theorem Qkt : QL "toll_table" QbT ["net"] := λ | _, _, _, _, _, _, [_], _ => rfl
def Qga := (Cp QbT Qh8).getD Qt
theorem Qj0 : Cp QbT Qh8 = some Qga := some_of (by decide +kernel)
abbrev QbO := Dn QbT Qga
abbrev Qeb := Gc "toll_table" 1 QbO Qh8
abbrev Qb8 := top 10
theorem QjV : Sc Qb8 ["net"] := scM rfl rfl rfl (by decide +kernel)
theorem QkW : QL "span_list" Qb8 ["net"] := λ | _, _, _, _, _, _, [_], _ => rfl
def QgK := (Cp Qb8 Qeb).getD Qt
theorem Qk5 : Cp Qb8 Qeb = some QgK := some_of (by decide +kernel)
abbrev Qav := Dn Qb8 QgK
abbrev QcK := Gc "span_list" 1 Qav Qeb
abbrev Qag := top 16
theorem QeB : Sc Qag ["net"] := scM rfl rfl rfl (by decide +kernel)
theorem Qe8 : QL "need_numbers" Qag ["net"] := λ | _, _, _, _, _, _, [_], _ => rfl
noncomputable def Qev := (CpX Qag QcK []).getD xNo
theorem QhW : CpX Qag QcK [] = some Qev := some_of (by decide +kernel)
noncomputable abbrev Qbw := Qbo (namesOf (Qh Qag)).length Qev
noncomputable abbrev Qc7 : List (Str × (Nat × (List D -> Option Str))) := ("need_numbers", (1, Qbw)) :: []
def QeZ := (Cp Qag QcK).getD Qt
theorem Qiu : Cp Qag QcK = some QeZ := some_of (by decide +kernel)
abbrev Q7 := Dn Qag QeZ
abbrev Qdd := Gc "need_numbers" 1 Q7 QcK
abbrev Qd4 := top 19
theorem Qpd : Sc Qd4 ["many", "roads", "lanes"] := scM rfl rfl rfl (by decide +kernel)
theorem QrG : QL "leads" Qd4 ["many", "roads", "lanes"] := λ | _, _, _, _, _, _, [_, _, _], _ => rfl
def QlD := (Cp Qd4 Qdd).getD Qt
theorem Qro : Cp Qd4 Qdd = some QlD := some_of (by decide +kernel)
abbrev Qca := Dn Qd4 QlD
abbrev QeU := Gc "leads" 3 Qca Qdd
abbrev QaL := top 17
theorem QfY : Sc QaL ["net"] := scM rfl rfl rfl (by decide +kernel)
theorem QgQ : QL "need_ways" QaL ["net"] := λ | _, _, _, _, _, _, [_], _ => rfl
noncomputable def QfU := (CpX QaL QeU Qc7).getD xNo
theorem QkF : CpX QaL QeU Qc7 = some QfU := some_of (by decide +kernel)
noncomputable abbrev Qcv := Qbo (namesOf (Qh QaL)).length QfU
noncomputable abbrev Qen : List (Str × (Nat × (List D -> Option Str))) := ("need_ways", (1, Qcv)) :: Qc7
def QgH := (Cp QaL QeU).getD Qt
theorem Qk7 : Cp QaL QeU = some QgH := some_of (by decide +kernel)
abbrev Qaw := Dn QaL QgH
abbrev QeL := Gc "need_ways" 1 Qaw QeU
abbrev QcB := top 20
theorem Qk8 : Sc QcB ["net"] := scM rfl rfl rfl (by decide +kernel)
theorem Qmy : QL "is_plain" QcB ["net"] := λ | _, _, _, _, _, _, [_], _ => rfl
def QhZ := (Cp QcB QeL).getD Qt
theorem Ql3 : Cp QcB QeL = some QhZ := some_of (by decide +kernel)
abbrev QaK := Dn QcB QhZ
abbrev Qc0 := Gc "is_plain" 1 QaK QeL
abbrev QW := top 18
theorem Qda : Sc QW ["net"] := scM rfl rfl rfl (by decide +kernel)
theorem QdG : QL "need_small_spans" QW ["net"] := λ | _, _, _, _, _, _, [_], _ => rfl
noncomputable def Qdc := (CpX QW Qc0 Qen).getD xNo
theorem QfJ : CpX QW Qc0 Qen = some Qdc := some_of (by decide +kernel)
noncomputable abbrev QaC := Qbo (namesOf (Qh QW)).length Qdc
noncomputable abbrev Qcm : List (Str × (Nat × (List D -> Option Str))) := ("need_small_spans", (1, QaC)) :: Qen
def QdC := (Cp QW Qc0).getD Qt
theorem Qf7 : Cp QW Qc0 = some QdC := some_of (by decide +kernel)
abbrev QQ := Dn QW QdC
abbrev QaO := Gc "need_small_spans" 1 QQ Qc0
abbrev QaH := top 15
theorem QgY : Sc QaH ["many", "roads", "lanes"] := scM rfl rfl rfl (by decide +kernel)
theorem QgN : QeW "made_net" QaH ["many", "roads", "lanes"] 3 [] := λ K t od n sl h kV doc pm an cdv ct S us hl => match us, hl with | [_, _, _], _ => Qi6 h rfl
theorem Qlb : QeW "made_net" QaH ["many", "roads", "lanes"] 2 [.none] := λ K t od n sl h kV doc pm an cdv ct S us hl => match us, hl with | [_, _], _ => Qi6 h rfl
noncomputable def QgT := (CpX QaH QaO Qcm).getD xNo
theorem QkX : CpX QaH QaO Qcm = some QgT := some_of (by decide +kernel)
noncomputable abbrev Qch := Qbo (namesOf (Qh QaH)).length QgT
noncomputable abbrev Qdx : List (Str × (Nat × (List D -> Option Str))) := ("made_net", (3, Qch)) :: Qcm
def QhU := (Cp QaH QaO).getD Qt
theorem QlW : Cp QaH QaO = some QhU := some_of (by decide +kernel)
abbrev QG := Dn QaH QhU
abbrev Qfq : List (Str × FnR) := ("made_net", ⟨3, [.non], QG⟩) :: QaO
abbrev Qbb := top 22
theorem QhJ : Sc Qbb ["_law_script", "_law_k"] := scM rfl rfl rfl (by decide +kernel)
theorem QiF : QL "_law_cell_at" Qbb ["_law_script", "_law_k"] := λ | _, _, _, _, _, _, [_, _], _ => rfl
def Qe3 := (Cp Qbb Qfq).getD Qt
theorem QiD : Cp Qbb Qfq = some Qe3 := some_of (by decide +kernel)
abbrev QU := Dn Qbb Qe3
abbrev Qdv := Gc "_law_cell_at" 2 QU Qfq
abbrev QbL := top 23
theorem Qjk : Sc QbL ["_law_found"] := scM rfl rfl rfl (by decide +kernel)
theorem Qkd : QL "_law_whole" QbL ["_law_found"] := λ | _, _, _, _, _, _, [_], _ => rfl
def QfM := (Cp QbL Qdv).getD Qt
theorem Qkw : Cp QbL Qdv = some QfM := some_of (by decide +kernel)
abbrev Qao := Dn QbL QfM
abbrev Qet := Gc "_law_whole" 1 Qao Qdv
abbrev Qcb := top 24
theorem QjP : Sc Qcb ["_law_many", "_law_turn", "_law_kind"] := scM rfl rfl rfl (by decide +kernel)
theorem QkP : QL "_law_base" Qcb ["_law_many", "_law_turn", "_law_kind"] := λ | _, _, _, _, _, _, [_, _, _], _ => rfl
def QgU := (Cp Qcb Qet).getD Qt
theorem Qlc : Cp Qcb Qet = some QgU := some_of (by decide +kernel)
abbrev Qcg := Dn Qcb QgU
abbrev QeN := Gc "_law_base" 3 Qcg Qet
abbrev Qci := top 25
theorem Qkv : Sc Qci ["_law_many", "_law_ways_here"] := scM rfl rfl rfl (by decide +kernel)
theorem QkQ : QL "_law_fits" Qci ["_law_many", "_law_ways_here"] := λ | _, _, _, _, _, _, [_, _], _ => rfl
def QgS := (Cp Qci QeN).getD Qt
theorem Qk1 : Cp Qci QeN = some QgS := some_of (by decide +kernel)
abbrev Qax := Dn Qci QgS
abbrev QeI := Gc "_law_fits" 2 Qax QeN
abbrev Qb9 := top 26
theorem Qkh : Sc Qb9 ["_law_ways_here", "_law_cells", "_law_many", "_law_kind"] := scM rfl rfl rfl (by decide +kernel)
theorem Qk0 : QL "_law_more" Qb9 ["_law_ways_here", "_law_cells", "_law_many", "_law_kind"] := λ | _, _, _, _, _, _, [_, _, _, _], _ => rfl
def QgX := (Cp Qb9 QeI).getD Qt
theorem QkU : Cp Qb9 QeI = some QgX := some_of (by decide +kernel)
abbrev Qck := Dn Qb9 QgX
abbrev QeM := Gc "_law_more" 4 Qck QeI
abbrev Qce := top 27
theorem QjT : Sc Qce ["_law_script", "_law_many"] := scM rfl rfl rfl (by decide +kernel)
theorem Qk2 : QL "_law_ways" Qce ["_law_script", "_law_many"] := λ | _, _, _, _, _, _, [_, _], _ => rfl
def QgV := (Cp Qce QeM).getD Qt
theorem QkS : Cp Qce QeM = some QgV := some_of (by decide +kernel)
abbrev Qcc := Dn Qce QgV
abbrev QeK := Gc "_law_ways" 2 Qcc QeM
abbrev Qa2 := top 28
theorem QhY : Sc Qa2 ["_law_many", "_law_roads", "_law_lanes", "_law_cell"] := scM rfl rfl rfl (by decide +kernel)
theorem Qif : QL "_law_spoiled" Qa2 ["_law_many", "_law_roads", "_law_lanes", "_law_cell"] := λ | _, _, _, _, _, _, [_, _, _, _], _ => rfl
def Qe1 := (Cp Qa2 QeK).getD Qt
theorem Qh6 : Cp Qa2 QeK = some Qe1 := some_of (by decide +kernel)
abbrev Qa5 := Dn Qa2 Qe1
abbrev Qdl := Gc "_law_spoiled" 4 Qa5 QeK
abbrev Qa8 := top 29
theorem Qhm : Sc Qa8 ["_law_many", "_law_roads", "_law_lanes"] := scM rfl rfl rfl (by decide +kernel)
theorem Qik : QL "_law_refused" Qa8 ["_law_many", "_law_roads", "_law_lanes"] := λ | _, _, _, _, _, _, [_, _, _], _ => rfl
def Qfd := (CpT Qa8 Qdl Qdx []).getD Qt
theorem Qio : CpT Qa8 Qdl Qdx [] = some Qfd := some_of (by decide +kernel)
abbrev Qaf := Dn Qa8 Qfd
abbrev Qdr := Gc "_law_refused" 3 Qaf Qdl
abbrev Qa3 := top 30
theorem Qht : Sc Qa3 ["_law_many", "_law_roads", "_law_lanes"] := scM rfl rfl rfl (by decide +kernel)
theorem Qiw : QL "_law_by_name" Qa3 ["_law_many", "_law_roads", "_law_lanes"] := λ | _, _, _, _, _, _, [_, _, _], _ => rfl
def Qfh := (CpT Qa3 Qdr Qdx []).getD Qt
theorem Qic : CpT Qa3 Qdr Qdx [] = some Qfh := some_of (by decide +kernel)
abbrev Qac := Dn Qa3 Qfh
abbrev Qds := Gc "_law_by_name" 3 Qac Qdr
abbrev QbK := top 31
theorem Qjm : Sc QbK ["_law_found", "_law_due"] := scM rfl rfl rfl (by decide +kernel)
theorem Qku : QL "_law_pairs" QbK ["_law_found", "_law_due"] := λ | _, _, _, _, _, _, [_, _], _ => rfl
def QfV := (Cp QbK Qds).getD Qt
theorem Qko : Cp QbK Qds = some QfV := some_of (by decide +kernel)
abbrev Qam := Dn QbK QfV
abbrev Qeg := Gc "_law_pairs" 2 Qam Qds
abbrev QcT := top 32
theorem QlT : Sc QcT ["_law_found", "_law_many", "_law_roads", "_law_lanes"] := scM rfl rfl rfl (by decide +kernel)
theorem Qm0 : QL "_law_is" QcT ["_law_found", "_law_many", "_law_roads", "_law_lanes"] := λ | _, _, _, _, _, _, [_, _, _, _], _ => rfl
def Qjb := (Cp QcT Qeg).getD Qt
theorem QmA : Cp QcT Qeg = some Qjb := some_of (by decide +kernel)
abbrev Qak := Dn QcT Qjb
abbrev Qgg := Gc "_law_is" 4 Qak Qeg
abbrev QaA := top 33
theorem Qf1 : Sc QaA ["_law_cell"] := scM rfl rfl rfl (by decide +kernel)
theorem QgE : QL "_law_bound_kept" QaA ["_law_cell"] := λ | _, _, _, _, _, _, [_], _ => rfl
def QdQ := (Cp QaA Qgg).getD Qt
theorem QgG : Cp QaA Qgg = some QdQ := some_of (by decide +kernel)
abbrev Qay := Dn QaA QdQ
abbrev QdR := Gc "_law_bound_kept" 1 Qay Qgg
abbrev Qgw := top 34
theorem Qtm : Sc Qgw ["_law_script"] := scM rfl rfl rfl (by decide +kernel)
theorem Qty : QL "law" Qgw ["_law_script"] := λ | _, _, _, _, _, _, [_], _ => rfl
def Qp1 := (Cp Qgw QdR).getD Qt
theorem Qt0 : Cp Qgw QdR = some Qp1 := some_of (by decide +kernel)
abbrev Qmn := Dn Qgw Qp1
theorem Qlv : QbM = Qw 4 (HS.Qia) := by kernel_rfl
theorem Qka : QbO = Qw 5 (HS.Qei QbM) := by kernel_rfl
theorem QkR : Qav = Qw 1 (HS.QeR QbO) := by kernel_rfl
theorem Qfb : Q7 = Qw 4 (HS.Qa4) := by kernel_rfl
theorem Qqp : Qca = Qw 8 (HS.Qlu QbM) := by kernel_rfl
theorem QgR : Qaw = Qw 1 (HS.Qcd Qca) := by kernel_rfl
theorem Ql7 : QaK = Qw 1 (HS.QhT) := by kernel_rfl
theorem QdF : QQ = Qw 3 (HS.Qas QaK Qav) := by kernel_rfl
theorem Qh0 : QG = Qw 6 (HS.QdX Q7 Qaw QQ) := by kernel_rfl
theorem Qin : QU = Qw 2 (HS.Qe6) := by kernel_rfl
theorem Qky : Qao = Qw 1 (HS.QfW) := by kernel_rfl
theorem Qk6 : Qcg = Qw 7 (HS.QgW) := by kernel_rfl
theorem QkY : Qax = Qw 8 (HS.QgP) := by kernel_rfl
theorem Qk3 : Qck = Qw 9 (HS.QeO Qax) := by kernel_rfl
theorem QkT : Qcc = Qw 5 (HS.Qco QU Qcg Qck) := by kernel_rfl
theorem Qiv : Qa5 = Qw 12 (HS.QcA) := by kernel_rfl
theorem QiJ : Qaf = Qw 5 (HS.QdJ QG Qch sub) := by kernel_rfl
theorem Qim : Qac = Qw 3 (HS.QdO QG Qch sub) := by kernel_rfl
theorem Qkq : Qam = Qw 4 (HS.Qgj Qao) := by kernel_rfl
theorem Qnu : Qak = Qw 5 (HS.QfI Qao Qam) := by kernel_rfl
theorem QgF : Qay = Qw 9 (HS.QdS QG Qak Qaf Qac) := by kernel_rfl
theorem QtO : Qmn = Qw 9 (HS.Qje QU Qcc Qa5 Qaf Qac Qay QG Qak Qam) := by kernel_rfl
theorem QeE : Qbw = Qbo 4 (HS.QcE) := by kernel_rfl
theorem Qf4 : Qcv = Qbo 1 (HS.Qdy Qca) := by kernel_rfl
theorem Qdb : QaC = Qbo 3 (HS.Qbt Qav QaK) := by kernel_rfl
theorem QgL : Qch = Qbo 6 (HS.QdU QQ Qaw Q7 QaC Qcv Qbw) := by kernel_rfl
end
end Law
namespace HS
open PySem PySem.Spec L2
noncomputable def QoU (mg : Str -> Option Value) : List Str -> Prop
 | [] => True
 | x :: r => mg x = none /\ QoU mg r
theorem Qkz {mg : Str -> Option Value} : ∀ {l : List Str}, QoU mg l -> ∀ x ∈ l, mg x = none
 | [], _, x, h => by simp at h
 | y :: r, h, x, hx => by
  rcases Zm.mp hx with rfl | hx
  ·exact h.1
  ·exact Qkz h.2 x hx
noncomputable def QoY (mg : Str -> Option Value) : List (Str × Int) -> Prop
 | [] => True
 | (x, i) :: r => (∃ t, mg x = some (.int i t)) /\ QoY mg r
theorem Qki {mg : Str -> Option Value} : ∀ {l : List (Str × Int)}, QoY mg l -> ∀ x i, look x l = some i -> ∃ t, mg x = some (.int i t)
 | [], _, x, i, h => by cases h
 | (y, j) :: r, h, x, i, hx => by
  unfold look at hx
  split at hx
  ·rename_i e; cases hx; subst e; exact h.1
  ·exact Qki h.2 x i hx
theorem Qta {mg : Str -> Option Value} {cs : List (Str × Int)} (b : QoU mg Qj9) (c : QoY mg cs) : QcW mg cs := ⟨Qkz b, Qki c⟩
end HS
theorem HS.Qmm {K : PySem.W.Frag} {mg : PySem.Str -> Option PySem.Value} {h : PySem.Heap} {x : PySem.Str} {i : Int} {t : PySem.Tok} (X : K.In h) (G : h.Ns PySem.mainGlobals mg) (a : PySem.W.nsIn K PySem.mainGlobals x = some (some (.int i t))) : ∃ t, mg x = some (.int i t) := ⟨t, Zam X G a⟩
namespace Law
open HS
theorem QpR : QhB QU := by rw [Qin]; exact Qqo
theorem QtC : QkM Qcg := by rw [Qk6]; exact Qqb
theorem QtS : Qiz Qax := by rw [QkY]; exact Qov
theorem QtX : QiN Qck := by rw [Qk3]; exact Qoh QtS
theorem Qtq : Qkx Qcc := by rw [QkT]; exact Qo9 QpR QtC QtX
theorem Qns : Qgz Qao := by rw [Qky]; exact Qoa
theorem Qn4 : Qfv Qam := by rw [Qkq]; exact QmE Qns
theorem hIs : Qjo Qak := by rw [Qnu]; exact QrQ Qns Qn4
theorem Qts : Qho QbO := by rw [Qka, Qlv]; exact Qrl
theorem QpZ : Qgi Qav := by rw [QkR]; exact QqS Qts
theorem QnZ : QgD QaK := by rw [Ql7]; exact QoX
theorem QnB : Qe7 Qca := by rw [Qqp]; exact Qoz λ R L h => by rw [Qlv]; exact QiX (by omega)
theorem Qs7 : QeC Q7 := by rw [Qfb]; exact Qk9
theorem QuJ : Qhd Qbw := by rw [QeE]; exact QjQ
theorem QpC : ApF Q7 Qbw := by rw [Qfb, QeE]; exact QtV
theorem hNW : Qgx Qaw := by rw [QgR]; exact Qox QnB
theorem xNW : QkD Qcv := by rw [Qf4]; exact QmT QnB
theorem Qtg : ApF Qaw Qcv := by rw [QgR, Qf4]; exact QtI
theorem hNS : Qg5 QQ := by rw [QdF]; exact QmU QnZ QpZ
theorem xNS : Qij QaC := by rw [Qdb]; exact Ql8 QnZ QpZ
theorem Qsk : ApF QQ QaC := by rw [QdF, Qdb]; exact QtF
theorem QpE : QhX QG := by rw [Qh0]; exact Qrw Qs7 hNW hNS
theorem QpN : MadeX Qch := by rw [QgL]; exact Qpr QpC Qtg Qsk Qs7 hNW QuJ xNW xNS
theorem Qm9 : ApF QG Qch := by rw [Qh0, QgL]; exact QrL QpC Qtg Qsk
theorem Qtk : QdE Qaf := by rw [QiJ]; exact QkV Qm9 QpN (by decide +kernel) (by decide +kernel) (by decide +kernel) (by decide +kernel) (by decide +kernel) (by decide +kernel) (by decide +kernel)
theorem hBy : QdE Qac := by rw [Qim]; exact Qmt Qm9 QpN (by decide +kernel)
theorem Qsf : Qip Qa5 := by rw [Qiv]; exact Qpj
theorem Qs4 : Qid Qay := by rw [QgF]; exact Qog QpE hIs Qtk hBy
theorem Qsr (ns : List Int) (h : ns.length <= 63) : ∃ fr, Qmn [.lst (ns.map .int)] = some (.bl true, fr) := by
 rw [QtO]
 exact ⟨true, Qsy QpR Qtq Qsf Qtk hBy Qs4 QpE hIs Qn4 ns h⟩
end Law
namespace PySem.W.Fast
def tw11870571791389690826 := 0
def tw16974128055080166563 := 0
def tw6242425478928199285 := 0
def tw15867595255882404623 := 0
def tw215500172823663419 := 0
def tw2404885642534164193 := 0
def tw12720251925611072796 := 0
def tw3195428178261617231 := 0
def tw15466611174388174674 := 0
def tw2047094180470727072 := 0
def tw5702699693363477721 := 0
def tw15140324156719496090 := 0
def tw15708420463776116317 := 0
def tw9778838265243199478 := 0
def tw9916839057961929173 := 0
def tw7460210098069505014 := 0
def tw8225747231053488765 := 0
def tw1629649490125415158 := 0
def tw12308604592646399345 := 0
def tw10444721158518776386 := 0
def tw18161295341212162986 := 0
def tw6307228172631040375 := 0
def tw3870663891393614799 := 0
def tw7343765352672910550 := 0
def tw6611376024422309708 := 0
def tw5611611395974366868 := 0
def tw7471707413953944151 := 0
def tw17345467035893912091 := 0
def tw16282451058844984667 := 0
def tw1432711799840404273 := 0
def tw3561012593795302490 := 0
def tw7283566603678072415 := 0
def tw18272874239894805945 := 0
def tw4759981199898705372 := 0
def tw6851205922013113368 := 0
def tw9534186521575951894 := 0
def tw8627742619713509680 := 0
def tw14047391063504737385 := 0
def tw11424282103283091922 := 0
def tw9418063099593813310 := 0
def tw14621982150023738335 := 0
def tw10730278503582008307 := 0
def tw10293642700871757989 := 0
def tw3014439258902637095 := 0
def tw7001730380575780084 := 0
def tw8959650985303688664 := 0
def tw17688434599905214969 := 0
def tw8443324100561232517 := 0
def tw16538519272701607725 := 0
def tw11943049161244338931 := 0
def tw10956654612723991992 := 0
def tw16630657987655086721 := 0
def tw1105637073299613063 := 0
def tw12813786662028784921 := 0
def tw5261092302781214919 := 0
def tw3287450030460145305 := 0
def tw9575446458756429583 := 0
def tw1807841097591124840 := 0
def tw12931667986715305710 := 0
def tw15237327834198349991 := 0
def tw16511737716294091795 := 0
def tw2681556628687519189 := 0
def tw12346756035309801973 := 0
def tw286791061396274513 := 0
def tw590051486016577093 := 0
def tw1448520495821559533 := 0
def tw10276651633253330775 := 0
def tw12907608599082970733 := 0
def tw12240853571574095849 := 0
def tw17205999314884509895 := 0
def tw6205268845149215646 := 0
def tw2980728570337559246 := 0
def tw17223030763978782388 := 0
def tw13742006203859080498 := 0
def tw10831396179897836730 := 0
def tw5816458658048252716 := 0
def tw3081017119466060605 := 0
def tw10218211520457159542 := 0
def tw9175043415523112826 := 0
def tw2563151366503082841 := 0
def tw12871223219508915014 := 0
def tw12183677275559213702 := 0
def tw1066209287767152665 := 0
end PySem.W.Fast
open PySem PySem.W PyProof.Rows HS
set_option maxRecDepth 100000 in
set_option maxHeartbeats 0 in
theorem PySem.Challenge.cw_heapstill_k05_a_net_made_holds : PySem.Challenge.rw_heapstill_k05_a_net_made.Holds := by
 w_on; o_law; k_head; (case hw => w_witness2)
 k_fill
 refine HS.Qpk (l := PySem.Challenge.rw_heapstill_k05_a_net_made) (k := 22) (x := "_law_script") (den := Law.Qmn) rfl rfl ⟨rfl, by decide, by decide⟩ (λ w h Y => PySem.W.kIn_of Y) Law.Qsr ?F
 case F =>
  intro w mg fa h KX G hmg
  obtain ⟨f_steps, f_toll_table, f_span_list, f_need_numbers, f_leads, f_need_ways, f_is_plain, f_need_small_spans, f__law_cell_at, f__law_whole, f__law_base, f__law_fits, f__law_more, f__law_ways, f__law_spoiled, f__law_refused, f__law_by_name, f__law_pairs, f__law_is, f__law_bound_kept, f_law⟩ : HS.Fact (L2.KOf KX) "steps" Law.Qd5 /\ HS.Fact (L2.KOf KX) "toll_table" Law.QbT /\ HS.Fact (L2.KOf KX) "span_list" Law.Qb8 /\ HS.Fact (L2.KOf KX) "need_numbers" Law.Qag /\ HS.Fact (L2.KOf KX) "leads" Law.Qd4 /\ HS.Fact (L2.KOf KX) "need_ways" Law.QaL /\ HS.Fact (L2.KOf KX) "is_plain" Law.QcB /\ HS.Fact (L2.KOf KX) "need_small_spans" Law.QW /\ HS.Fact (L2.KOf KX) "_law_cell_at" Law.Qbb /\ HS.Fact (L2.KOf KX) "_law_whole" Law.QbL /\ HS.Fact (L2.KOf KX) "_law_base" Law.Qcb /\ HS.Fact (L2.KOf KX) "_law_fits" Law.Qci /\ HS.Fact (L2.KOf KX) "_law_more" Law.Qb9 /\ HS.Fact (L2.KOf KX) "_law_ways" Law.Qce /\ HS.Fact (L2.KOf KX) "_law_spoiled" Law.Qa2 /\ HS.Fact (L2.KOf KX) "_law_refused" Law.Qa8 /\ HS.Fact (L2.KOf KX) "_law_by_name" Law.Qa3 /\ HS.Fact (L2.KOf KX) "_law_pairs" Law.QbK /\ HS.Fact (L2.KOf KX) "_law_is" Law.QcT /\ HS.Fact (L2.KOf KX) "_law_bound_kept" Law.QaA /\ HS.Fact (L2.KOf KX) "law" Law.Qgw := by
   refine ⟨?_, ?_, ?_, ?_, ?_, ?_, ?_, ?_, ?_, ?_, ?_, ?_, ?_, ?_, ?_, ?_, ?_, ?_, ?_, ?_, ?_⟩ <;> (dsimp only [L2.KOf]; refine' HS.fact_mk ?a ?l ?c ?k; (case a => k_is); (case l => k_is); (case c => k_is); (case k => k_is))
  have f_made_net : HS.Qjt (L2.KOf KX) "made_net" Law.QaH ["many", "roads", "lanes"] := by dsimp only [L2.KOf]; refine' HS.Qop ?a ?l ?c ?k ?h; (case a => k_is); (case l => k_is); (case c => k_is); (case k => k_is); (case h => k_is)
  have M : HS.QcW mg Law.cst := by
   obtain ⟨n_range, n_enumerate, n_zip, n_len, n_list, n_min, n_max, n_sum, n_abs, n_isinstance, n_int, n_bool, n_tuple, n_str, n_divmod, n_sorted, n_any, n_all⟩ : PySem.W.nsIn (L2.KOf KX) mainGlobals "range" = some none /\ PySem.W.nsIn (L2.KOf KX) mainGlobals "enumerate" = some none /\ PySem.W.nsIn (L2.KOf KX) mainGlobals "zip" = some none /\ PySem.W.nsIn (L2.KOf KX) mainGlobals "len" = some none /\ PySem.W.nsIn (L2.KOf KX) mainGlobals "list" = some none /\ PySem.W.nsIn (L2.KOf KX) mainGlobals "min" = some none /\ PySem.W.nsIn (L2.KOf KX) mainGlobals "max" = some none /\ PySem.W.nsIn (L2.KOf KX) mainGlobals "sum" = some none /\ PySem.W.nsIn (L2.KOf KX) mainGlobals "abs" = some none /\ PySem.W.nsIn (L2.KOf KX) mainGlobals "isinstance" = some none /\ PySem.W.nsIn (L2.KOf KX) mainGlobals "int" = some none /\ PySem.W.nsIn (L2.KOf KX) mainGlobals "bool" = some none /\ PySem.W.nsIn (L2.KOf KX) mainGlobals "tuple" = some none /\ PySem.W.nsIn (L2.KOf KX) mainGlobals "str" = some none /\ PySem.W.nsIn (L2.KOf KX) mainGlobals "divmod" = some none /\ PySem.W.nsIn (L2.KOf KX) mainGlobals "sorted" = some none /\ PySem.W.nsIn (L2.KOf KX) mainGlobals "any" = some none /\ PySem.W.nsIn (L2.KOf KX) mainGlobals "all" = some none := by refine ⟨?_, ?_, ?_, ?_, ?_, ?_, ?_, ?_, ?_, ?_, ?_, ?_, ?_, ?_, ?_, ?_, ?_, ?_⟩ <;> (dsimp only [L2.KOf]; k_is)
   have n_MOST_PLACES : ∃ t, mg "MOST_PLACES" = some (.int 8 t) := by refine' HS.Qmm KX G ?a; (case a => first | k_is | exact rfl | (dsimp only [L2.KOf]; k_is))
   have n_MOST_WAYS : ∃ t, mg "MOST_WAYS" = some (.int 40 t) := by refine' HS.Qmm KX G ?a; (case a => first | k_is | exact rfl | (dsimp only [L2.KOf]; k_is))
   have n_MOST_SPANS : ∃ t, mg "MOST_SPANS" = some (.int 300 t) := by refine' HS.Qmm KX G ?a; (case a => first | k_is | exact rfl | (dsimp only [L2.KOf]; k_is))
   exact HS.Qta ⟨PySem.W.mg_none_of KX G n_range, PySem.W.mg_none_of KX G n_enumerate, PySem.W.mg_none_of KX G n_zip, PySem.W.mg_none_of KX G n_len, PySem.W.mg_none_of KX G n_list, PySem.W.mg_none_of KX G n_min, PySem.W.mg_none_of KX G n_max, PySem.W.mg_none_of KX G n_sum, PySem.W.mg_none_of KX G n_abs, PySem.W.mg_none_of KX G n_isinstance, PySem.W.mg_none_of KX G n_int, PySem.W.mg_none_of KX G n_bool, PySem.W.mg_none_of KX G n_tuple, PySem.W.mg_none_of KX G n_str, PySem.W.mg_none_of KX G n_divmod, PySem.W.mg_none_of KX G n_sorted, PySem.W.mg_none_of KX G n_any, PySem.W.mg_none_of KX G n_all, True.intro⟩ ⟨n_MOST_PLACES, n_MOST_WAYS, n_MOST_SPANS, True.intro⟩
  have t0 : ∀ base : Heap, HS.Qa1 (PySem.Challenge.rw_heapstill_k05_a_net_made).prog w (L2.KOf KX) mg base 0 [] := λ _ => HS.Qa1.nil
  have hcl : ∀ x ∈ Law.cls, HS.Qfm (L2.KOf KX) x := HS.Qlg (by refine ⟨?_, trivial⟩ <;> (dsimp only [L2.KOf]; refine' HS.QrA ?a ?b; (case a => k_is); (case b => k_exc)))
  have hsub : HS.QbR (L2.KOf KX) Law.sub := by
   refine HS.Qqh ⟨⟨?x0, ?y0_0, ?y0_1, ?y0_2, ?y0_3, ?y0_4, ?y0_5, ?y0_6, trivial⟩, trivial⟩
   case x0 => (dsimp only [L2.KOf]; refine' HS.QtG ?a ?b ?c ?d ?e ?f ?g; (case a => k_is); (case b => k_is); (case c => k_is); (case d => k_is); (case e => k_is); (case f => k_is); (case g => k_is))
   case y0_0 => (dsimp only [L2.KOf]; refine' HS.Qdk ?a ?b ?c ?d; (case a => k_is); (case b => k_is); (case c => kts_exm); (case d => kit_is))
   case y0_1 => (dsimp only [L2.KOf]; refine' HS.Qdk ?a ?b ?c ?d; (case a => k_is); (case b => k_is); (case c => kts_exm); (case d => kit_is))
   case y0_2 => (dsimp only [L2.KOf]; refine' HS.Qrj ?a ?b ?c ?d; (case a => k_is); (case b => k_is); (case c => kts_exm); (case d => kit_is))
   case y0_3 => (dsimp only [L2.KOf]; refine' HS.Qdk ?a ?b ?c ?d; (case a => k_is); (case b => k_is); (case c => kts_exm); (case d => kit_is))
   case y0_4 => (dsimp only [L2.KOf]; refine' HS.Qdk ?a ?b ?c ?d; (case a => k_is); (case b => k_is); (case c => kts_exm); (case d => kit_is))
   case y0_5 => (dsimp only [L2.KOf]; refine' HS.Qdk ?a ?b ?c ?d; (case a => k_is); (case b => k_is); (case c => kts_exm); (case d => kit_is))
   case y0_6 => (dsimp only [L2.KOf]; refine' HS.Qdk ?a ?b ?c ?d; (case a => k_is); (case b => k_is); (case c => kts_exm); (case d => kit_is))
  have x0 : ∀ base : Heap, HS.Qde (PySem.Challenge.rw_heapstill_k05_a_net_made).prog w (L2.KOf KX) mg base 0 [] := λ _ => HS.Qde.nil
  have x_steps := λ b => (x0 b).mono (ZI _)
  have t_steps := λ b => (t0 b).cons (HS.Q8 KX G f_steps Law.QoC Law.QrF M (t0 b) Law.QqY)
  have x_toll_table := λ b => (x_steps b).mono (ZI _)
  have t_toll_table := λ b => (t_steps b).cons (HS.Q8 KX G f_toll_table Law.Qjl Law.Qkt M (t_steps b) Law.Qj0)
  have x_span_list := λ b => (x_toll_table b).mono (ZI _)
  have t_span_list := λ b => (t_toll_table b).cons (HS.Q8 KX G f_span_list Law.QjV Law.QkW M (t_toll_table b) Law.Qk5)
  have x_need_numbers := λ b => (x_span_list b).cons (HS.QiB KX G f_need_numbers Law.QeB Law.Qe8 M (t_span_list b) (x_span_list b) hcl Law.QhW)
  have t_need_numbers := λ b => (t_span_list b).cons (HS.Q8 KX G f_need_numbers Law.QeB Law.Qe8 M (t_span_list b) Law.Qiu)
  have x_leads := λ b => (x_need_numbers b).mono (ZI _)
  have t_leads := λ b => (t_need_numbers b).cons (HS.Q8 KX G f_leads Law.Qpd Law.QrG M (t_need_numbers b) Law.Qro)
  have x_need_ways := λ b => (x_leads b).cons (HS.QiB KX G f_need_ways Law.QfY Law.QgQ M (t_leads b) (x_leads b) hcl Law.QkF)
  have t_need_ways := λ b => (t_leads b).cons (HS.Q8 KX G f_need_ways Law.QfY Law.QgQ M (t_leads b) Law.Qk7)
  have x_is_plain := λ b => (x_need_ways b).mono (ZI _)
  have t_is_plain := λ b => (t_need_ways b).cons (HS.Q8 KX G f_is_plain Law.Qk8 Law.Qmy M (t_need_ways b) Law.Ql3)
  have x_need_small_spans := λ b => (x_is_plain b).cons (HS.QiB KX G f_need_small_spans Law.Qda Law.QdG M (t_is_plain b) (x_is_plain b) hcl Law.QfJ)
  have t_need_small_spans := λ b => (t_is_plain b).cons (HS.Q8 KX G f_need_small_spans Law.Qda Law.QdG M (t_is_plain b) Law.Qf7)
  have x_made_net := λ b => (x_need_small_spans b).cons (HS.Qpx KX G f_made_net Law.QgY Law.QgN rfl M (t_need_small_spans b) (x_need_small_spans b) hcl Law.QkX)
  have t_made_net := λ b => (t_need_small_spans b).cons (HS.QqD KX G f_made_net Law.QgY Law.QgN Law.Qlb rfl M (t_need_small_spans b) Law.QlW)
  have x__law_cell_at := λ b => (x_made_net b).mono (ZI _)
  have t__law_cell_at := λ b => (t_made_net b).cons (HS.Q8 KX G f__law_cell_at Law.QhJ Law.QiF M (t_made_net b) Law.QiD)
  have x__law_whole := λ b => (x__law_cell_at b).mono (ZI _)
  have t__law_whole := λ b => (t__law_cell_at b).cons (HS.Q8 KX G f__law_whole Law.Qjk Law.Qkd M (t__law_cell_at b) Law.Qkw)
  have x__law_base := λ b => (x__law_whole b).mono (ZI _)
  have t__law_base := λ b => (t__law_whole b).cons (HS.Q8 KX G f__law_base Law.QjP Law.QkP M (t__law_whole b) Law.Qlc)
  have x__law_fits := λ b => (x__law_base b).mono (ZI _)
  have t__law_fits := λ b => (t__law_base b).cons (HS.Q8 KX G f__law_fits Law.Qkv Law.QkQ M (t__law_base b) Law.Qk1)
  have x__law_more := λ b => (x__law_fits b).mono (ZI _)
  have t__law_more := λ b => (t__law_fits b).cons (HS.Q8 KX G f__law_more Law.Qkh Law.Qk0 M (t__law_fits b) Law.QkU)
  have x__law_ways := λ b => (x__law_more b).mono (ZI _)
  have t__law_ways := λ b => (t__law_more b).cons (HS.Q8 KX G f__law_ways Law.QjT Law.Qk2 M (t__law_more b) Law.QkS)
  have x__law_spoiled := λ b => (x__law_ways b).mono (ZI _)
  have t__law_spoiled := λ b => (t__law_ways b).cons (HS.Q8 KX G f__law_spoiled Law.QhY Law.Qif M (t__law_ways b) Law.Qh6)
  have x__law_refused := λ b => (x__law_spoiled b).mono (ZI _)
  have t__law_refused := λ b => (t__law_spoiled b).cons (HS.QlL KX G f__law_refused Law.Qhm Law.Qik M (t__law_spoiled b) (x__law_spoiled b) hcl hsub HS.Qeh.nil Law.Qio)
  have x__law_by_name := λ b => (x__law_refused b).mono (ZI _)
  have t__law_by_name := λ b => (t__law_refused b).cons (HS.QlL KX G f__law_by_name Law.Qht Law.Qiw M (t__law_refused b) (x__law_refused b) hcl hsub HS.Qeh.nil Law.Qic)
  have x__law_pairs := λ b => (x__law_by_name b).mono (ZI _)
  have t__law_pairs := λ b => (t__law_by_name b).cons (HS.Q8 KX G f__law_pairs Law.Qjm Law.Qku M (t__law_by_name b) Law.Qko)
  have x__law_is := λ b => (x__law_pairs b).mono (ZI _)
  have t__law_is := λ b => (t__law_pairs b).cons (HS.Q8 KX G f__law_is Law.QlT Law.Qm0 M (t__law_pairs b) Law.QmA)
  have x__law_bound_kept := λ b => (x__law_is b).mono (ZI _)
  have t__law_bound_kept := λ b => (t__law_is b).cons (HS.Q8 KX G f__law_bound_kept Law.Qf1 Law.QgE M (t__law_is b) Law.QgG)
  exact HS.Qt6 KX G hmg f_law Law.Qtm Law.Qty M (λ base => t__law_bound_kept base) Law.Qt0
